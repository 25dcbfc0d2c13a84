import PyProof.Rows.All
import Wide.All
import OpenK.AllK
import Wide.FinOn
import Lean
import PyProof.EqAt
import PyProof.EqKinds
import PyProof.TupleCall
import PyProof.Rows.SumAny
import PyProof.Draws
import PyProof.ZipIter
import PyProof.EnumMake
import PyProof.Rows.ZipGen
import PyProof.FitsInt
import PyProof.ReprLen
import KE.IntBitsLaws
import PyProof.NeData
import PyProof.ConsumeWalk
import PyProof.WalkInts
import PyProof.Rows.SeqMore
import PyProof.ListMulRoad
import PyProof.DictUpdate
import KE.KRevSl
import PyProof.MeetsStr
import PyProof.StrBlockG
import PyProof.CallStr
import KE.KIntText
import PyProof.StrLawsTight
import PyProof.StrLawsChain
import PyProof.StrLawsJoin
import PyProof.StrWalks
import KE.KSortTup
import PyProof.TupleOfStr
import PyProof.ListRange
import PyProof.SliceStr
import PyProof.StrBlockI
import PyProof.SeqRoads
import PyProof.NsDelKeeps
import PyProof.RulesAs
import KE.KIsAll
import PyProof.Rows.SetFrom
import PyProof.WalksMore
import PyProof.FactsAll.subtypes_4
import PyProof.MeetsStr2
import PyProof.Rows.Range3
import PyProof.StrLawsRepr
import PyProof.StrOps2
import PyProof.ListStr
import PyProof.StrLawsIn
import PyProof.StrLawsIdx
import PyProof.StrCalls6
import PyProof.MeetsStr3
import PyProof.StrOps
import KE.KDictList
import PyProof.Rows.TupDisplay
import PySem.Challenge.RW_dropsums_k17_whole_stays_and_falls_on_th
local macro_rules | `(term| nofun) => `(term| by decide +kernel)
section
open PySem PySem.Spec PyProof.Rows
abbrev γ:=@wpAny_bind
abbrev δ:=@List.getElem?_eq_getElem
abbrev ε:=@List.length_map
abbrev ζ:=@List.getD_eq_getElem?_getD
abbrev η:=@Heap.get?_push_of_some
abbrev θ:=@Nat.le_refl
abbrev ι:=@wpAny_pure
abbrev μ:=@List.getElem?_map
abbrev ν:=@Heap.lt_size
abbrev ξ:=@List.getElem?_eq_some_iff
abbrev ο:=@List.mem_of_getElem?
abbrev π:=@Heap.get?_push_size
abbrev υ:=@List.mem_cons_self
abbrev χ:=@List.mem_cons_of_mem
abbrev ψ:=@List.size_toArray
abbrev ω:=@List.mem_append_right
abbrev Α:=@List.getElem?_append_right
abbrev Β:=@List.length_append
abbrev Γ:=@Option.some.inj
abbrev Δ:=@List.getElem?_append_left
abbrev Ε:=@Nat.lt_of_lt_of_le
abbrev Ζ:=@Bool.false_ne_true
abbrev Η:=@PyProof.Rows.boot_tuple
abbrev Θ:=@Int.toNat_natCast
abbrev Ι:=@Nat.zero_le
abbrev Κ:=@List.mem_map
abbrev Λ:=@List.mem_range
abbrev Μ:=@List.map_append
abbrev Ν:=@Nat.ne_of_lt
abbrev Ξ:=@List.length_range
abbrev Ο:=@List.getElem_mem
abbrev Ρ:=@PySem.boot_len
abbrev Τ:=@Nat.le_trans
abbrev Υ:=@List.mem_singleton
abbrev Φ:=@List.mem_cons
abbrev Χ:=@List.length_replicate
abbrev Ψ:=@PassesOwn.never
abbrev Ω:=@Nat.ne_of_gt
end
set_option autoImplicit true
set_option relaxedAutoImplicit true
theorem sz1:1<=PySem.sizeLine:=by decide
theorem sz2:2<=PySem.sizeLine:=by decide
theorem sz3:3<=PySem.sizeLine:=by decide
theorem sz5:5<=PySem.sizeLine:=by decide
set_option Elab.async false
set_option linter.all false
set_option maxRecDepth 100000
set_option maxHeartbeats 4000000
theorem sz0:0<=PySem.sizeLine:=by decide
theorem sz4:4<=PySem.sizeLine:=by decide
theorem sz6:6<=PySem.sizeLine:=by decide
theorem sz7:7<=PySem.sizeLine:=by decide
namespace L2
open PySem PySem.Spec PyProof.Rows
abbrev Key:=Sum Int Str
def WY:Key->Value->Bool
 | .inl k,v=>Value.isInt k v
 | .inr x,v=>Value.isStrOf x v
def keyH (w:World):Key->Int
 | .inl k=>hashInt k
 | .inr x=>hashStr w x
theorem zW: ∀{k:Key} {v:Value},WY k v=true->(∃i t,k=Sum.inl i/\v=Value.int i t)\/(∃x t,k=Sum.inr x/\v=Value.str x t)
 | .inl i,v,h=>by
  obtain⟨t,e⟩:=Value.isInt_shape (k:=i) (v:=v) h;exact .inl ⟨i,t,rfl,e⟩
 | .inr x,v,h=>by
  obtain⟨t,e⟩:=Value.isStrOf_shape (x:=x) (v:=v) h;exact .inr ⟨x,t,rfl,e⟩
theorem key_ll(a b:Int):decide ((Sum.inl a:Key)=Sum.inl b)=(a==b):=by
 by_cases e:a=b
 ·subst e; simp
 ·have h: ¬(Sum.inl a:Key)=Sum.inl b:=λq=>e (Sum.inl.inj q);rw[decide_eq_false h];exact(beq_eq_false_iff_ne.mpr e).symm
theorem key_rr(a b:Str):decide ((Sum.inr a:Key)=Sum.inr b)=decide (a=b):=by
 by_cases e:a=b
 ·subst e; simp
 ·have h: ¬(Sum.inr a:Key)=Sum.inr b:=λq=>e (Sum.inr.inj q);rw[decide_eq_false h,decide_eq_false e]
theorem key_lr(a:Int)(b:Str):decide ((Sum.inl a:Key)=Sum.inr b)=false:=decide_eq_false (λq=>nomatch q)
theorem key_rl(a:Str)(b:Int):decide ((Sum.inr a:Key)=Sum.inl b)=false:=decide_eq_false (λq=>nomatch q)
def Xl (prog:Program) (w:World):PySem.KeyKind prog w Key where
 is:=WY
 hash:=keyH w
 inj:=λv a b ha hb=>by
  rcases zW ha with ⟨i,t,rfl,rfl⟩ | ⟨x,t,rfl,rfl⟩
  ·rcases zW hb with ⟨j,u,rfl,e⟩ | ⟨y,u,rfl,e⟩
   ·injection e with e1 _; rw[e1]
   ·exact nomatch e
  ·rcases zW hb with ⟨j,u,rfl,e⟩ | ⟨y,u,rfl,e⟩
   ·exact nomatch e
   ·injection e with e1 _; rw[e1]
 byValue:=λk v h=>by
  rcases zW h with ⟨i,t,rfl,rfl⟩ | ⟨x,t,rfl,rfl⟩<;>rfl
 pyHash:=λhv h=>by
  rcases zW hv with ⟨i,t,rfl,rfl⟩ | ⟨x,t,rfl,rfl⟩
  ·exact wpAny_pyHash_int h
  ·exact wpAny_pyHash_str h
 eqBool:=λhu hv h=>by
  rcases zW hu with ⟨i,t,rfl,rfl⟩ | ⟨x,t,rfl,rfl⟩
  ·rcases zW hv with ⟨j,u,rfl,rfl⟩ | ⟨y,u,rfl,rfl⟩
   ·rw[key_ll] at h; exact wpAny_eqBool_int h
   ·rw[key_lr] at h; exact SeqAt.EqAt.int_str i t y u _ _ _ _ h
  ·rcases zW hv with ⟨j,u,rfl,rfl⟩ | ⟨y,u,rfl,rfl⟩
   ·rw[key_rl] at h; exact SeqAt.EqAt.str_int x t j u _ _ _ _ h
   ·rw[key_rr] at h; exact wpAny_eqBool_str h
 «strs»:=λk x t v h=>by
  rcases zW h with ⟨i,u,rfl,e⟩ | ⟨y,u,rfl,e⟩
  ·exact nomatch e
  ·injection e with e1 _
   subst e1;cases v<;>rfl
inductive V where
 | non | bl (b:Bool) | int (i:Int) | str (x:Str) | byt (b:Array UInt8) | flt (b:UInt64) | ref (a:Addr) | ty (n:String)
 deriving DecidableEq
def RelV:V->Value->Prop
 | .non,u=>u=Value.none
 | .bl b,u=>u=Value.bool b
 | .int i,u=> ∃t,u=Value.int i t
 | .str x,u=> ∃t,u=Value.str x t
 | .byt b,u=> ∃t,u=Value.bytes b t
 | .flt b,u=> ∃t,u=Value.float b t
 | .ref a,u=>u=Value.ref a
 | .ty n,u=>u=Value.type n
abbrev Vals:List V->List Value->Prop:=Paired RelV
theorem Vals.length(r:Vals xs us):xs.length=us.length:=Paired.length r
theorem Vals.get: ∀{xs:List V} {us:List Value} {i:Nat} {x:V},Vals xs us->xs[i]? =some x-> ∃u,us[i]? =some u/\RelV x u
 | _,_,_,_,.nil,e=>by simp at e
 | _,_,0,_,.cons r _,e=>by simp at e; subst e; exact⟨_,rfl,r⟩
 | _,_,i+1,x,.cons _ t,e=>by
  obtain⟨u,h1,h2⟩:=Vals.get (i:=i) (x:=x) t (by simpa using e);exact⟨u,by simpa using h1,h2⟩
theorem Vals.set(r:RelV x u): ∀{xs:List V} {us:List Value} (i:Nat),Vals xs us->Vals (xs.set i x) (us.set i u)
 | _,_,_,.nil=> .nil
 | _,_,0,.cons _ t=> .cons r t
 | _,_,i+1,.cons q t=> .cons q (Vals.set r i t)
theorem Vals.append: ∀{xs ys:List V} {us ws:List Value},Vals xs us->Vals ys ws->Vals (xs++ys) (us++ws)
 | _,_,_,_,.nil,s=>s
 | _,_,_,_,.cons r t,s=> .cons r (Vals.append t s)
theorem Vals.take: ∀{xs:List V} {us:List Value} (n:Nat),Vals xs us->Vals (xs.take n) (us.take n)
 | _,_,0,_=> .nil
 | _,_,_+1,.nil=> .nil
 | _,_,n+1,.cons r t=> .cons r (Vals.take n t)
theorem Vals.drop: ∀{xs:List V} {us:List Value} (n:Nat),Vals xs us->Vals (xs.drop n) (us.drop n)
 | _,_,0,r=>r
 | _,_,_+1,.nil=> .nil
 | _,_,n+1,.cons _ t=>Vals.drop n t
def RelO:Option V->Option Value->Prop
 | some v,some u=>RelV v u
 | none,none=>True
 | _,_=>False
def KV {κ:Type}:List (κ×V)->List (κ×Value)->Prop:=Paired fun(p:κ×V) (q:κ×Value)=>p.1=q.1/\RelV p.2 q.2
def kV:Key->V
 | .inl i=> .int i
 | .inr x=> .str x
inductive HO where
 | lst (xs:List V)
 | tup (xs:List V)
 | dK (kvs:List (Key×V)) | dT (kvs:List (List Key×V))
 | set (S:Int->Bool) (n:Nat)
 | ins (C dx:Addr) (fs:List (Str×V))
 | own (x:Addr)
 | xd (fs:List (Str×V))
 | met (f x:Addr)
 | rng (lo hi:Int)
 | frz (o:Obj) (u:HO)
 | tbl (ps:Array Value)
 | ext (φ:Heap->Prop)
abbrev Hp:=Addr->Option HO
def upd (H:Hp) (a:Addr) (o:HO):Hp:=λb=>if b=a then some o else H b
theorem zf:upd H a o a=some o:=by unfold upd; rw[if_pos rfl]
theorem zk(h:b≠a):upd H a o b=H b:=by unfold upd; rw[if_neg h]
theorem ZA:upd (upd H a o) a u=upd H a u:=by
 funext b; unfold upd; split<;>rfl
theorem WW{H:Hp}{a b:Addr}{o u:HO}(h:H a=some o)(h':H b=some u)(d:o≠u):a≠b:=by
 intro e; subst e; rw[h] at h'; exact d (Γ h')
theorem zh{H:Hp}{a b:Addr}{o:HO}(h:H a=some o)(h':H b=none):a≠b:=by
 intro e; subst e; rw[h] at h'; cases h'
section
variable (P:Program) (w:World)
def ObjOk (H:Hp) (h:Heap) (a:Addr):HO->Prop
 | .lst xs=>xs.length<=sizeLine/\ ∃(its:List Value) (n:Nat),Vals xs its/\h.get? a=some {cls:= .type "list",data:= .seq its.toArray n}
 | .tup xs=>xs.length<=sizeLine/\ ∃its:List Value,Vals xs its/\IsTup h a its.toArray
 | .dK kvs=>kvs.length<=sizeLine/\(a==sysModules)=false/\ ∃vs,KV kvs vs/\h.DictOf (Xl P w) a vs
 | .dT kvs=>kvs.length<=sizeLine/\(a==sysModules)=false/\ ∃xs:List (List Key×Addr×Value),
   Paired (fun(p:List Key×V) (q:List Key×Addr×Value)=>p.1=q.1/\H q.2.1=some (.tup (p.1.map kV))/\RelV p.2 q.2.2) kvs xs/\
   ∃o es ep,h.get? a=some o/\o.ExactDict/\o.data= .dict es ep/\es.toList=xs.map (entryOfKey (tupleKind (Xl P w)))/\(xs.map (·.1)).Nodup
 | .set S n=>h.SetOf (intKind P w) a S n
 | .ins C dx fs=>H dx=some (.own a)/\fs.length<=1000/\dx≠a/\h.get? a=some (PySem.W.instObj C dx)/\
   ∃mA,h.Ns1 dx mA/\(∀f,RelO (fs.lookup f) (mA f))/\PySem.Within mA (fs.map (·.1))
 | .own _=> ∃o,h.get? a=some o
 | .xd fs=> ∃mA,h.Ns1 a mA/\ ∀f,RelO (fs.lookup f) (mA f)
 | .rng lo hi=> ∃t u v,h.get? a=some {cls:= .type "range",data:= .fields #[.int lo t,.int hi u,.int 1 v]}
 | .frz o u=>h.get? a=some o/\ObjOk H h a u
 | .tbl ps=>h.get? a=some {cls:= .none,data:= .fields ps}
 | .met f x=>h.get? a=some (PySem.W.methodObj (.ref f) (.ref x))
 | .ext φ=>φ h/\(∃o,h.get? a=some o)/\ ∀h1 h2:Heap,φ h1->(∀o,h1.get? a=some o->h2.get? a=some o)->φ h2
def HOk (H:Hp) (h:Heap):Prop:= ∀a o,H a=some o->ObjOk P w H h a o
end
section
variable {P:Program} {w:World} {H H':Hp} {h h':Heap} {a:Addr} {o:HO}
theorem ObjOk.lt(x:ObjOk P w H h a o):a<h.objs.size:=by
 cases o with
 | lst xs=>obtain⟨_,_,_,_,e⟩:=x; exact ν e
 | tup xs=>obtain⟨_,_,_,p⟩:=x; exact p.lt
 | dK kvs=>obtain⟨_,_,_,_,o,_,_,e,_⟩:=x; exact ν e
 | dT kvs=>obtain⟨_,_,_,_,o,_,_,e,_⟩:=x; exact ν e
 | set S n=>obtain⟨o,_,_,_,e,_⟩:=x; exact ν e
 | ins C dx fs=>obtain⟨_,_,_,e,_⟩:=x; exact ν e
 | own y=>obtain⟨_,e⟩:=x; exact ν e
 | xd fs=>obtain⟨_,⟨_,_,_,e,_⟩,_⟩:=x; exact ν e
 | rng lo hi=>obtain⟨_,_,_,e⟩:=x; exact ν e
 | frz ob u=>obtain⟨e,_⟩:=x; exact ν e
 | tbl ps=>exact ν (show h.get? a=some _ from x)
 | met f y=>exact ν (show h.get? a=some _ from x)
 | ext φ=>obtain⟨_,⟨_,e⟩,_⟩:=x; exact ν e
theorem Paired.mapP{F G:α->β->Prop}: ∀{l₁:List α} {l₂:List β},Paired F l₁ l₂->(∀a b,F a b->G a b)->Paired G l₁ l₂
 | _,_,.nil,_=> .nil
 | _,_,.cons r t,f=> .cons (f _ _ r) (Paired.mapP t f)
theorem ObjOk.stay(x:ObjOk P w H h a o)(k: ∀b u,(b=a\/H b=some (.own a))->h.get? b=some u->h'.get? b=some u)
  (ho: ∀b,H b=some (.own a)->H' b=some (.own a)) (ht: ∀b xs,H b=some (.tup xs)->H' b=some (.tup xs)):ObjOk P w H' h' a o:=by
 induction o with
 | lst xs=>obtain⟨z,its,n,r,e⟩:=x; exact⟨z,its,n,r,k _ _ (.inl rfl) e⟩
 | tup xs=>obtain⟨z,its,r,ob,e,c⟩:=x; exact⟨z,its,r,ob,k _ _ (.inl rfl) e,c⟩
 | dK kvs=>obtain⟨z,y,vs,r,ob,es,ep,e,c⟩:=x; exact⟨z,y,vs,r,ob,es,ep,k _ _ (.inl rfl) e,c⟩
 | dT kvs=>
  obtain⟨z,y,xs,r,ob,es,ep,e,c⟩:=x;exact⟨z,y,xs,Paired.mapP r λp q z=>⟨z.1,ht _ _ z.2.1,z.2.2⟩,ob,es,ep,k _ _ (.inl rfl) e,c⟩
 | set S n=>obtain⟨ob,es,ep,t,e,c⟩:=x; exact⟨ob,es,ep,t,k _ _ (.inl rfl) e,c⟩
 | ins C dx fs=>
  obtain⟨d,z,ne,e,mA,⟨od,es,ep,e2,c⟩,r⟩:=x;exact⟨ho _ d,z,ne,k _ _ (.inl rfl) e,mA,⟨od,es,ep,k _ _ (.inr d) e2,c⟩,r⟩
 | own y=>obtain⟨ob,e⟩:=x; exact⟨ob,k _ _ (.inl rfl) e⟩
 | xd fs=>obtain⟨mA,⟨od,es,ep,e,c⟩,r⟩:=x; exact⟨mA,⟨od,es,ep,k _ _ (.inl rfl) e,c⟩,r⟩
 | rng lo hi=>obtain⟨t,u,v,e⟩:=x; exact⟨t,u,v,k _ _ (.inl rfl) e⟩
 | frz ob u ih=>obtain⟨e,q⟩:=x; exact⟨k _ _ (.inl rfl) e,ih q⟩
 | tbl ps=>
  have e:h.get? a=some {cls:= .none,data:= .fields ps}:=x;show h'.get? a=some {cls:= .none,data:= .fields ps};exact k a _ (.inl rfl) e
 | met f y=>
  have e:h.get? a=some (PySem.W.methodObj (.ref f) (.ref y)):=x;show h'.get? a=some (PySem.W.methodObj (.ref f) (.ref y));exact k a _ (.inl rfl) e
 | ext φ=>obtain⟨p,⟨o,e⟩,st⟩:=x; exact⟨st _ _ p λo q=>k _ _ (.inl rfl) q,⟨o,k _ _ (.inl rfl) e⟩,st⟩
theorem HOk.lt(x:HOk P w H h)(e:H a=some o):a<h.objs.size:=(x a o e).lt
theorem HOk.fresh(x:HOk P w H h)(e:h.objs.size<=a):H a=none:=by
 cases q:H a with
 | none=>rfl
 | some u=>exact absurd (Ε (x.lt q) e) (Nat.lt_irrefl _)
theorem HOk.kept(x:HOk P w H h)(k: ∀b u,h.get? b=some u->h'.get? b=some u):HOk P w H h':=λa o e=>
 (x a o e).stay (λb u _ q=>k b u q) (λ_ q=>q) λ_ _ q=>q
theorem HOk.laid(x:HOk P w H h)(k: ∀b u,h.get? b=some u->h'.get? b=some u)(hp:h.objs.size<=a)(new:ObjOk P w (upd H a o) h' a o):HOk P w (upd H a o) h':=λb u e=>by
 have hn:=x.fresh hp;by_cases hb:b=a
 ·subst hb; rw[zf] at e; cases e; exact new
 ·rw[zk hb] at e;exact(x b u e).stay (λc v _ q=>k c v q) (λc q=>by rw[zk (zh q hn)]; exact q) λc xs q=>by rw[zk (zh q hn)]; exact q
end
def Rd (H:Hp) (a:Addr) (u:HO):Prop:=H a=some u\/ ∃o,H a=some (.frz o u)
theorem Rd.ok(r:Rd H a u)(x:HOk P w H h):ObjOk P w H h a u:=by
 rcases r with r | ⟨o,r⟩
 ·exact x a u r
 ·obtain⟨_,q⟩:=x a _ r;exact q
def Mut:Option HO->Prop
 | some (.lst _)=>True
 | some (.dK _)=>True
 | some (.dT _)=>True
 | some (.set _ _)=>True
 | some (.ins _ _ _)=>True
 | some (.ext _)=>True
 | _=>False
section
variable {P:Program} {w:World} {H:Hp} {h h':Heap} {x e:Addr} {o':HO}
theorem HOk.write(ok:HOk P w H h)(mu:Mut (H x))(he:e=x\/H e=some (.own x))(k: ∀b u,b≠e->h.get? b=some u->h'.get? b=some u)(heo: ∃u,h'.get? e=some u)
  (new:ObjOk P w (upd H x o') h' x o'):HOk P w (upd H x o') h':=λb u q=>by
 have nown: ∀c y,H c=some (.own y)->c≠x:=λc y r z=>by subst z; rw[r] at mu; exact mu
 have ntup: ∀c xs,H c=some (.tup xs)->c≠x:=λc xs r z=>by subst z; rw[r] at mu; exact mu
 by_cases hb:b=x
 ·subst hb; rw[zf] at q; cases q; exact new
 ·rw[zk hb] at q;by_cases hbe:b=e
  ·have q':H b=some (.own x):=by
    rcases he with z | z
    ·exact absurd (hbe.trans z) hb
    ·rw[hbe]; exact z
   rw[q] at q'; cases q';obtain⟨v,hv⟩:=heo;exact⟨v,by rw[hbe]; exact hv⟩
  ·refine(ok b u q).stay (λc v hc r=>k c v ?_ r) (λc r=>by rw[zk (nown c b r)]; exact r) λc xs r=>by rw[zk (ntup c xs r)]; exact r
   rcases hc with rfl | hc
   ·exact hbe
   ·rintro rfl;rcases he with z | z
    ·exact nown c b hc z
    ·rw[hc] at z; cases z; exact hb rfl
end
structure Un (fs ex:List Addr) (H H':Hp) (h h':Heap):Prop where
 keep: ∀b o,h.get? b=some o->H b=none->b∉fs->b∉ex->h'.get? b=some o
 slot: ∀b o,h.get? b=some o->H b=none->b∈fs->b∉ex-> ∃sl,h'.get? b=some {o with slots:=sl}
 free: ∀b o,h.get? b=some o->H b=none->b∉ex->H' b=none
 there: ∀b o,h.get? b=some o->b∉ex-> ∃o',h'.get? b=some o'
 tups: ∀b xs,H b=some (.tup xs)->H' b=some (.tup xs)
 frzs: ∀b o u,H b=some (.frz o u)->H' b=some (.frz o u)
 tbls: ∀b ps,H b=some (.tbl ps)-> ∃more,H' b=some (.tbl (ps++more))
section
variable {fs fs' ex ex':List Addr} {H H1 H2:Hp} {h h1 h2 h':Heap} {a x e:Addr} {o:HO}
theorem Un.any(u:Un fs ex H H1 h h1)(q:h.get? b=some ob)(n:H b=none)(hx:b∉ex): ∃sl,h1.get? b=some {ob with slots:=sl}:=by
 by_cases hb:b∈fs
 ·exact u.slot b ob q n hb hx
 ·exact⟨ob.slots,u.keep b ob q n hb hx⟩
theorem Un.kept(k: ∀b u,h.get? b=some u->h'.get? b=some u):Un fs ex H H h h':=
 ⟨λb ob q _ _ _=>k b ob q,λb ob q _ _ _=>⟨ob.slots,k b ob q⟩,λ_ _ _ n _=>n,λb ob q _=>⟨ob,k b ob q⟩,λ_ _ q=>q,λ_ _ _ q=>q,λ_ ps q=>⟨#[],by rw[q]; simp⟩⟩
theorem Un.refl:Un fs ex H H h h:=Un.kept λ_ _ q=>q
theorem Un.laid(k: ∀b u,h.get? b=some u->h'.get? b=some u)(hp:h.objs.size<=a)(hn:H a=none):Un fs ex H (upd H a o) h h' where
 keep:=λb u q _ _ _=>k b u q
 slot:=λb u q _ _ _=>⟨u.slots,k b u q⟩
 free:=λb u q n _=>by rw[zk (Ν (Ε (ν q) hp))]; exact n
 there:=λb u q _=>⟨u,k b u q⟩
 tups:=λb xs q=>by rw[zk (zh q hn)]; exact q
 frzs:=λb u xs q=>by rw[zk (zh q hn)]; exact q
 tbls:=λb ps q=>⟨#[],by rw[zk (zh q hn),q]; simp⟩
theorem Un.write(mu:Mut (H x))(he:e=x\/H e=some (.own x))(k: ∀b u,b≠e->h.get? b=some u->h'.get? b=some u)(heo: ∃u,h'.get? e=some u):Un fs ex H (upd H x o) h h':=by
 have hx: ∀b,H b=none->b≠x:=λb n z=>by subst z; rw[n] at mu; exact mu
 have hb: ∀b,H b=none->b≠e:=λb n z=>by
  subst z;rcases he with r | r
  ·exact hx b n r
  ·rw[n] at r; cases r
 have hm: ∀b u,H b=some u-> ¬Mut (some u)->b≠x:=λb u q nm z=>by subst z; rw[q] at mu; exact nm mu
 refine⟨λb u q n _ _=>k b u (hb b n) q,λb u q n _ _=>⟨u.slots,k b u (hb b n) q⟩,λb u q n _=>by rw[zk (hx b n)]; exact n,λb u q _=>?_,
  λb xs q=>by rw[zk (hm b _ q λz=>z)]; exact q,λb u xs q=>by rw[zk (hm b _ q λz=>z)]; exact q,λb ps q=>⟨#[],by rw[zk (hm b _ q λz=>z),q]; simp⟩⟩
 by_cases hbe:b=e
 ·subst hbe; exact heo
 ·exact⟨u,k b u hbe q⟩
end
def trk (h:Heap) (H:Hp):List Addr:=(List.range h.objs.size).filter λa=>(H a).isSome
def hidT (h:Heap) (H:Hp):Heap:=PySem.W.hideAll h (trk h H)
theorem Zk(h:Heap)(H:Hp):(hidT h H).objs.size=h.objs.size:=PySem.W.hideAll_size _ _
theorem Yp{h:Heap}(e:h.get? b=some o)(n:H b=none):(hidT h H).get? b=some o:=
 PySem.W.hideAll_get _ e λhm=>by
  have q:(H b).isSome=true:=(List.mem_filter.mp hm).2;rw[n] at q; simp at q
theorem Xi(e:(hidT h H).get? b=some o):h.get? b=some o/\H b=none:=by
 have e':h.get? b=some o:=PySem.W.of_hideAll (trk h H) e;refine⟨e',?_⟩;cases q:H b with
 | none=>rfl
 | some x=>
  have hm:b∈trk h H:=List.mem_filter.mpr ⟨Λ.mpr (ν e'),by simp[q]⟩;have z:(hidT h H).get? b=none:=PySem.W.hideAll_none (trk h H) hm;rw[z] at e; cases e
def allNews (g h:Heap) (L:Addr):List (Addr×Obj):=(List.range h.objs.size).filterMap λa=>if a=L\/(g.get? a).isSome=true then none else (h.get? a).map λo=>(a,o)
def rest (g h:Heap) (L d:Addr):List (Addr×Obj):=(allNews g h L).filter λp=>decide (p.1≠d)
structure Mod (K:W.Frag) (mg:Str->Option Value) (base:Heap):Prop where
 kin:K.In base
 glob:base.Ns mainGlobals mg
 blt: ∃mb,base.Ns builtinsNs mb/\ ∀x:Str,x≠"__name__"->mb x=bootBuiltins x
 nolimit:base.NoLimit
structure Cx where
 prog:Program
 w:World
 K:W.Frag
 mg:Str->Option Value
 base:Heap
 A:Around
 N:List Str
 s₀:Shared
 H₀:Hp
 env:Env
 outer:List Env
 stack:List Env
 ex:List Addr
 fn:Str->Bool
 calm:Bool
 pn:List (Addr×Obj)
 xe:Value->Shared->Prop
def frs (l:List Env):List Addr:=l.filterMap (·.frame)
abbrev Cx.fs (X:Cx):List Addr:=frs X.outer
def Vis (sc:Scope) (x:Str):Prop:=sc.names.lookup x=some .local\/sc.names.lookup x=some .cell\/sc.names.lookup x=some .free
def Loc (sc:Scope) (x:Str):Prop:=sc.names.lookup x=some .local\/sc.names.lookup x=some .cell
def Look (env:Env) (h:Heap) (m:Str->Option Value) (x:Str) (u:Value):Prop:=
 (env.kindOf x=some .local/\m x=some u)\/((env.kindOf x=some .cell\/env.kindOf x=some .free)/\ ∃c,env.cells.lookup x=some c/\h.IsCell c (some u))
structure Cx.Ok (X:Cx):Prop where
 mod:Mod X.K X.mg X.base
 kind:X.env.scope.kind= .function
 glob:X.env.globals=mainGlobals
 blt:X.env.builtins=builtinsNs
 above:X.s₀.heap.objs.size<=X.env.locals
 inj: ∀x y c,X.env.cells.lookup x=some c->X.env.cells.lookup y=some c->x=y
 has: ∀x,(X.env.kindOf x=some .cell\/X.env.kindOf x=some .free)-> ∃c,X.env.cells.lookup x=some c
 cab: ∀x c,X.fn x=true->X.env.cells.lookup x=some c->X.s₀.heap.objs.size<=c
 hd:X.calm=true->X.A.handled=none
 frames:X.A.frames=some X.stack
 stk:X.stack=X.outer\/(X.stack=X.env::X.outer/\X.env.frame=some X.env.locals)
 exf: ∀b∈X.ex,b≠X.env.locals/\ ∀x c,X.env.cells.lookup x=some c->c≠b
 bs: ∀b o,X.base.get? b=some o->X.s₀.heap.get? b=some o/\X.H₀ b=none
 bsz:X.base.objs.size<=X.s₀.heap.objs.size
 noex: ∀b o,X.base.get? b=some o->b∉X.ex
 exfs: ∀b∈X.ex,b∉X.fs
 funs:X.s₀.heap.FunFrames X.base X.outer
 frf: ∀b∈X.fs,X.H₀ b=none
structure Inv (X:Cx) (pins:List (Addr×Obj)) (σ:List (Option V)) (H:Hp) (s:Shared):Prop where
 ok:X.Ok
 os:s.os=X.s₀.os
 bare:AllBare s.gens
 base:Un X.fs X.ex X.H₀ H X.s₀.heap s.heap
 loc: ∃m,s.heap.Ns X.env.locals m/\ ∀(i:Nat) (x:Str) (v:V),X.N[i]? =some x->σ[i]? =some (some v)->Vis X.env.scope x-> ∃u,RelV v u/\Look X.env s.heap m x u
 cell: ∀x c,X.env.cells.lookup x=some c-> ∃v,s.heap.IsCell c v
 free:H X.env.locals=none
 freeC: ∀x c,X.env.cells.lookup x=some c->H c=none
 pin: ∀p∈X.pn++pins,s.heap.get? p.1=some p.2/\H p.1=none/\p.1≠X.env.locals/\p.1∉X.fs/\ ∀v,p.2.data≠.cell v
 hok:HOk X.prog X.w H s.heap
 len:σ.length=X.N.length
section
variable {X:Cx} {pins:List (Addr×Obj)} {σ:List (Option V)} {H H':Hp} {s:Shared} {h':Heap}
theorem Cx.Ok.nofr(ok:X.Ok)(e:X.base.get? b=some o):b∉X.fs:=λhb=>by
 have:=(ok.funs.mem hb).1;rw[e] at this; cases this
theorem Inv.bs(I:Inv X pins σ H s): ∀b o,X.base.get? b=some o->s.heap.get? b=some o/\H b=none:=λb o e=>
 ⟨I.base.keep b o (I.ok.bs b o e).1 (I.ok.bs b o e).2 (I.ok.nofr e) (I.ok.noex b o e),I.base.free b o (I.ok.bs b o e).1 (I.ok.bs b o e).2 (I.ok.noex b o e)⟩
theorem Inv.bk(I:Inv X pins σ H s): ∀b o,X.base.get? b=some o->s.heap.get? b=some o:=λb o e=>(I.bs b o e).1
theorem Inv.mod(I:Inv X pins σ H s):Mod X.K X.mg X.base:=I.ok.mod
theorem Inv.kIn(I:Inv X pins σ H s):X.K.In s.heap:=I.ok.mod.kin.keeps I.bk
theorem Inv.nolimit(I:Inv X pins σ H s):s.heap.NoLimit:=I.ok.mod.nolimit.keeps I.bk
theorem Inv.lt(I:Inv X pins σ H s):X.env.locals<s.heap.objs.size:=let ⟨_,hn,_⟩:=I.loc; hn.lt
theorem Inv.sz(I:Inv X pins σ H s):X.s₀.heap.objs.size<=s.heap.objs.size:=Τ I.ok.above (Nat.le_of_lt I.lt)
theorem Inv.nofs(I:Inv X pins σ H s)(h:s.heap.objs.size<=a):a∉X.fs:=λhb=>by
 obtain⟨_,o,ho,_⟩:=I.ok.funs.mem hb;exact absurd (Ε (ν ho) (Τ I.sz h)) (Nat.lt_irrefl _)
theorem Inv.cne(I:Inv X pins σ H s): ∀x c,X.env.cells.lookup x=some c->c≠X.env.locals:=λx c e z=>by
 obtain⟨v,o,ho,hd⟩:=I.cell x c e;obtain⟨m,⟨o',es,ep,ho',hd',_⟩,_⟩:=I.loc;rw[z,ho'] at ho; cases ho; rw[hd'] at hd; cases hd
theorem Inv.funs(I:Inv X pins σ H s):s.heap.FunFrames X.base X.outer:=by
 have all: ∀(l:List Env),(∀b∈frs l,b∈X.fs)->X.s₀.heap.FunFrames X.base l->s.heap.FunFrames X.base l:=by
  intro l
  induction l with
  | nil=>intro _ _; trivial
  | cons env r ih=>
   intro hs hl;obtain⟨hk,⟨L,o,hf,hn,ho,hd⟩,hr⟩:=hl;have hL:L∈X.fs:=hs L (by unfold frs; rw[List.filterMap_cons,hf]; exact υ);obtain⟨sl,e⟩:=I.base.slot L o ho (I.ok.frf L hL) hL λz=>I.ok.exfs L z hL;exact⟨hk,⟨L,_,hf,hn,e,hd⟩,ih (λb hb=>hs b (by unfold frs; rw[List.filterMap_cons,hf]; exact χ _ hb)) hr⟩
 exact all X.outer (λ_ hb=>hb) I.ok.funs
theorem Inv.stack(I:Inv X pins σ H s):s.heap.FunFrames X.base X.stack:=by
 rcases I.ok.stk with e | ⟨e,hf⟩
 ·rw[e]; exact I.funs
 ·rw[e];obtain⟨m,hn,_⟩:=I.loc;refine .cons (by rw[I.ok.kind]; decide) hf hn ?_ I.funs;exact Heap.get?_none_of_le (Τ I.ok.bsz I.ok.above)
theorem Inv.stkSub(I:Inv X pins σ H s): ∀b∈frs X.stack,b∈X.env.locals::X.fs:=λb hb=>by
 rcases I.ok.stk with e | ⟨e,hf⟩
 ·rw[e] at hb; exact χ _ hb
 ·rw[e] at hb;unfold frs at hb;rw[List.filterMap_cons,hf] at hb;exact hb
theorem Inv.stkFree(I:Inv X pins σ H s): ∀b∈frs X.stack,H b=none:=λb hb=>by
 rcases Φ.mp (I.stkSub b hb) with e | hb
 ·rw[e]; exact I.free
 ·obtain⟨_,o,ho,_⟩:=I.ok.funs.mem hb;exact I.base.free b o ho (I.ok.frf b hb) λz=>I.ok.exfs b z hb
theorem Inv.step{g':Array GenState}{t':Nat}{d':Drawn}{ch:List Addr}(I:Inv X pins σ H s)
  (hch: ∀b∈ch,(b∈X.ex\/X.s₀.heap.objs.size<=b)/\b≠X.env.locals/\(∀x c,X.env.cells.lookup x=some c->c≠b)/\ ∀p∈X.pn++pins,p.1≠b)
  (keep: ∀b o,b≠X.env.locals->b∉X.fs->b∉ch->s.heap.get? b=some o->H b=none->h'.get? b=some o)
  (slot: ∀b o,b≠X.env.locals->b∈X.fs->b∉ch->s.heap.get? b=some o->H b=none-> ∃sl,h'.get? b=some {o with slots:=sl}) (free: ∀b o,b∉ch->s.heap.get? b=some o->H b=none->H' b=none)
  (there: ∀b o,b∉ch->s.heap.get? b=some o-> ∃o',h'.get? b=some o')
  (tups: ∀b xs,H b=some (.tup xs)->H' b=some (.tup xs)) (frzs: ∀b o u,H b=some (.frz o u)->H' b=some (.frz o u)) (tbls: ∀b ps,H b=some (.tbl ps)-> ∃more,H' b=some (.tbl (ps++more)))
  (ns: ∀m,s.heap.Ns X.env.locals m->h'.Ns X.env.locals m) (hok:HOk X.prog X.w H' h') (hg:AllBare g'):
  Inv X pins σ H' {s with heap:=h',gens:=g',drawn:=d',toks:=t'}:=by
 have neL: ∀b o,X.s₀.heap.get? b=some o->b≠X.env.locals:=λb o e=>Ν (Ε (ν e) I.ok.above);have neC: ∀b o,X.s₀.heap.get? b=some o->b∉X.ex->b∉ch:=λb o e hx hb=>by
  rcases(hch b hb).1 with z | z
  ·exact hx z
  ·exact absurd (Ε (ν e) z) (Nat.lt_irrefl _)
 have cellK: ∀x c,X.env.cells.lookup x=some c-> ∀v,s.heap.IsCell c v->h'.IsCell c v:=λx c e v ⟨o,ho,hd⟩=>by
  have nch:c∉ch:=λz=>(hch c z).2.2.1 x c e rfl;by_cases hc:c∈X.fs
  ·obtain⟨sl,q⟩:=slot c o (I.cne x c e) hc nch ho (I.freeC x c e);exact⟨_,q,hd⟩
  ·exact⟨o,keep c o (I.cne x c e) hc nch ho (I.freeC x c e),hd⟩
 refine⟨I.ok,I.os,hg,⟨λb o e n hb hx=>?_,λb o e n hb hx=>?_,λb o e n hx=>?_,λb o e hx=>?_,λb xs e=>tups b xs (I.base.tups b xs e),λb o xs e=>frzs b o xs (I.base.frzs b o xs e),λb ps e=>?_⟩,?_,λx c e=>?_,?_,λx c e=>?_,λp hp=>?_,hok,I.len⟩
 ·exact keep b o (neL b o e) hb (neC b o e hx) (I.base.keep b o e n hb hx) (I.base.free b o e n hx)
 ·obtain⟨sl,e1⟩:=I.base.slot b o e n hb hx;obtain⟨sl',e2⟩:=slot b _ (neL b o e) hb (neC b o e hx) e1 (I.base.free b o e n hx);exact⟨sl',e2⟩
 ·obtain⟨o',e1⟩:=I.base.there b o e hx;exact free b o' (neC b o e hx) e1 (I.base.free b o e n hx)
 ·obtain⟨o',e1⟩:=I.base.there b o e hx;exact there b o' (neC b o e hx) e1
 ·obtain⟨m1,e1⟩:=I.base.tbls b ps e;obtain⟨m2,e2⟩:=tbls b _ e1;exact⟨m1++m2,by rw[e2,Array.append_assoc]⟩
 ·obtain⟨m,hn,hl⟩:=I.loc;refine⟨m,ns m hn,λi x v e1 e2 e3=>?_⟩;obtain⟨u,r,l⟩:=hl i x v e1 e2 e3;refine⟨u,r,?_⟩;rcases l with l | ⟨k,c,e,z⟩
  ·exact .inl l
  ·exact .inr ⟨k,c,e,cellK x c e _ z⟩
 ·obtain⟨v,z⟩:=I.cell x c e;exact⟨v,cellK x c e v z⟩
 ·obtain⟨m,⟨o,_,_,ho,_⟩,_⟩:=I.loc;exact free _ o (λz=>(hch _ z).2.1 rfl) ho I.free
 ·obtain⟨v,o,ho,hd⟩:=I.cell x c e;exact free c o (λz=>(hch c z).2.2.1 x c e rfl) ho (I.freeC x c e)
 ·obtain⟨e,n,ne,nf,d⟩:=I.pin p hp;have nch:p.1∉ch:=λz=>(hch p.1 z).2.2.2 p hp rfl;exact⟨keep p.1 p.2 ne nf nch e n,free p.1 p.2 nch e n,ne,nf,d⟩
theorem Inv.un{t':Nat}(I:Inv X pins σ H s)(u:Un X.fs [] H H' s.heap h')(hok:HOk X.prog X.w H' h'):Inv X pins σ H' {s with heap:=h',toks:=t'}:=by
 obtain⟨m,⟨o,es,ep,ho,r⟩,_⟩:=id I.loc;obtain⟨sl,hL⟩:=u.any ho I.free (by simp);exact I.step (g':=s.gens) (d':=s.drawn) (ch:=[]) (λ_ z=>nomatch z) (λb o _ hb _ e n=>u.keep b o e n hb (by simp)) (λb o _ hb _ e n=>u.slot b o e n hb (by simp)) (λb o _ e n=>u.free b o e n (by simp)) (λb o _ e=>u.there b o e (by simp)) u.tups u.frzs u.tbls (λm' hm=>by
  obtain⟨o',es',ep',ho',r'⟩:=hm;rw[ho] at ho'; cases ho';exact⟨_,es',ep',hL,r'⟩) hok I.bare
theorem Inv.call{g':Array GenState}{t':Nat}{d':Drawn}{ch:List Addr}(I:Inv X pins σ H s)(u:Un (frs X.stack) ch H H' s.heap h')(hok:HOk X.prog X.w H' h')(hg:AllBare g')
  (hch: ∀b∈ch,(b∈X.ex\/X.s₀.heap.objs.size<=b)/\b≠X.env.locals/\(∀x c,X.env.cells.lookup x=some c->c≠b)/\ ∀p∈X.pn++pins,p.1≠b):
  Inv X pins σ H' {s with heap:=h',gens:=g',drawn:=d',toks:=t'}:=by
 obtain⟨m,⟨o,es,ep,ho,r⟩,_⟩:=id I.loc;obtain⟨sl,hL⟩:=u.any ho I.free λz=>(hch _ z).2.1 rfl;exact I.step (ch:=ch) hch (λb o hL hb hc e n=>u.keep b o e n (λz=>(Φ.mp (I.stkSub b z)).elim hL hb) hc) (λb o _ _ hc e n=>u.any e n hc) (λb o hc e n=>u.free b o e n hc) (λb o hc e=>u.there b o e hc) u.tups u.frzs u.tbls (λm' hm=>by
  obtain⟨o',es',ep',ho',r'⟩:=hm;rw[ho] at ho'; cases ho';exact⟨_,es',ep',hL,r'⟩) hok hg
theorem Inv.turned{t':Nat}{it:Addr}(I:Inv X pins σ H s)(k: ∀b o,b≠it->s.heap.get? b=some o->h'.get? b=some o)(hn:H it=none)(hL:it≠X.env.locals)
  (h1:it∈X.ex\/X.s₀.heap.objs.size<=it) (h2: ∀x c,X.env.cells.lookup x=some c->c≠it) (h3: ∀p∈X.pn++pins,p.1≠it):Inv X pins σ H {s with heap:=h',toks:=t'}:=by
 have nit: ∀b u,H b=some u->b≠it:=λb u e z=>by rw[z,hn] at e; cases e
 refine I.step (g':=s.gens) (d':=s.drawn) (ch:=[it]) (λb hb=>?_) (λb o _ _ hc e _=>k b o (λz=>hc (by simp[z])) e) (λb o _ _ hc e _=>⟨o.slots,k b o (λz=>hc (by simp[z])) e⟩) (λ_ _ _ _ n=>n)
  (λb o hc e=>⟨o,k b o (λz=>hc (by simp[z])) e⟩) (λ_ _ e=>e) (λ_ _ _ e=>e) (λb ps e=>⟨#[],by rw[e]; simp⟩) (λm hm=>?_) (λb u e=>?_) I.bare
 ·have e:b=it:=by simpa using hb
  subst e;exact⟨h1,hL,h2,h3⟩
 ·obtain⟨o,es,ep,ho,r⟩:=hm;exact⟨o,es,ep,k _ o (Ne.symm hL) ho,r⟩
 ·refine(I.hok b u e).stay (λc v hc q=>k c v ?_ q) (λ_ q=>q) λ_ _ q=>q;rcases hc with z | z
  ·rw[z]; exact nit b u e
  ·exact nit c _ z
theorem Inv.tok(I:Inv X pins σ H s)(t:Nat):Inv X pins σ H {s with toks:=t}:=I.un (h':=s.heap) (t':=t) Un.refl I.hok
theorem Inv.kept(I:Inv X pins σ H s)(k: ∀b u,s.heap.get? b=some u->h'.get? b=some u):Inv X pins σ H {s with heap:=h',toks:=t'}:=I.un (Un.kept k) (I.hok.kept k)
theorem Inv.laid(I:Inv X pins σ H s)(k: ∀b u,s.heap.get? b=some u->h'.get? b=some u)(hp:s.heap.objs.size<=a)(new:ObjOk X.prog X.w (upd H a o) h' a o):
  Inv X pins σ (upd H a o) {s with heap:=h',toks:=t'}:=I.un (Un.laid k hp (I.hok.fresh hp)) (I.hok.laid k hp new)
theorem Inv.write(I:Inv X pins σ H s)(mu:Mut (H x))(he:e=x\/H e=some (.own x))(k: ∀b u,b≠e->s.heap.get? b=some u->h'.get? b=some u)(heo: ∃u,h'.get? e=some u)
  (new:ObjOk X.prog X.w (upd H x o) h' x o):Inv X pins σ (upd H x o) {s with heap:=h',toks:=t'}:=I.un (Un.write mu he k heo) (I.hok.write mu he k heo new)
theorem Inv.pins_of(I:Inv X pins σ H s)(h: ∀p∈pins',s.heap.get? p.1=some p.2/\H p.1=none/\p.1≠X.env.locals/\p.1∉X.fs/\ ∀v,p.2.data≠.cell v):Inv X pins' σ H s:=
 ⟨I.ok,I.os,I.bare,I.base,I.loc,I.cell,I.free,I.freeC,λp hp=>(List.mem_append.mp hp).elim (λz=>I.pin p (List.mem_append_left _ z)) (h p),I.hok,I.len⟩
theorem Yh{N:List Str}(hN:N.Nodup){i j:Nat}{x:Str}(a:N[i]? =some x)(b:N[j]? =some x):i=j:=by
 obtain⟨h1,e1⟩:=ξ.mp a;obtain⟨h2,e2⟩:=ξ.mp b;exact(List.getElem_inj hN).mp (e1.trans e2.symm)
theorem Zc{E:Value->Shared->Prop}{Q:Unit->Shared->Prop}(I:Inv X pins σ H s)(hN:X.N.Nodup)(hi:X.N[i]? =some x)(hx:Loc X.env.scope x)(r:RelV v u)
  (h: ∀s',Inv X pins (σ.set i (some v)) H s'->(∃a,Heap.SameBut a s.heap s'.heap/\(a=X.env.locals\/X.env.cells.lookup x=some a))->Q () s') (hf:X.fn x=true\/X.env.scope.names.lookup x=some .local:=by first | exact .inl rfl | exact .inr rfl | assumption):wpAny M A (storeName X.env x u) Q E s:=by
 obtain⟨m,hn,hl⟩:=id I.loc;have hcls:(X.env.scope.kind== .class || (X.env.scope.kind== .module&&X.env.locals !=X.env.globals))=false:=by rw[I.ok.kind]; rfl
 have hiσ:i<σ.length:=by rw[I.len]; exact(ξ.mp hi).1
 have cne:=I.cne;have tracked: ∀{a:Addr} {h':Heap},(∃o,s.heap.get? a=some o/\H a=none)->Heap.SameBut a s.heap h'->HOk X.prog X.w H h':=λ{a h'} ha hs b ob e=>by
  obtain⟨_,_,hfree⟩:=ha;refine(I.hok b ob e).stay (λc w' hc q=>(hs.2 c ?_).trans q) (λ_ q=>q) λ_ _ q=>q;rintro rfl;rcases hc with rfl | hc
  ·rw[hfree] at e; cases e
  ·rw[hfree] at hc; cases hc
 rcases hx with hk | hk
 ·refine wpAny_storeName_local hk hn (λh' hn' hs=>?_) hcls;obtain⟨oL,_,_,hoL,_⟩:=id hn;refine h _ ⟨I.ok,I.os,I.bare,⟨λb o e n hb hx=>?_,λb o e n hb hx=>?_,I.base.free,λb o e hx=>?_,I.base.tups,I.base.frzs,I.base.tbls⟩,⟨_,hn',λj y v' e1 e2 e3=>?_⟩,λy c e=>?_,I.free,I.freeC,λp hp=>?_,tracked ⟨oL,hoL,I.free⟩ hs,by simpa using I.len⟩ ⟨_,hs,.inl rfl⟩
  ·exact(hs.2 b (Ν (Ε (ν e) I.ok.above))).trans (I.base.keep b o e n hb hx)
  ·obtain⟨sl,e1⟩:=I.base.slot b o e n hb hx;exact⟨sl,(hs.2 b (Ν (Ε (ν e) I.ok.above))).trans e1⟩
  ·obtain⟨o',e1⟩:=I.base.there b o e hx;exact⟨o',(hs.2 b (Ν (Ε (ν e) I.ok.above))).trans e1⟩
  ·by_cases hj:j=i
   ·subst hj;rw[hi] at e1; cases e1;rw[List.getElem?_set_self hiσ] at e2;cases e2
    exact⟨u,r,.inl ⟨hk,by simp⟩⟩
   ·rw[List.getElem?_set_ne (Ne.symm hj)] at e2;obtain⟨u',r',q⟩:=hl j y v' e1 e2 e3;refine⟨u',r',?_⟩;rcases q with ⟨k,e⟩ | ⟨k,c,e,z⟩
    ·refine .inl ⟨k,?_⟩;have:y≠x:=λe=>hj (Yh hN e1 (e▸hi));simp[this,e]
    ·exact .inr ⟨k,c,e,z.sameBut hs (cne y c e)⟩
  ·obtain⟨w',z⟩:=I.cell y c e;exact⟨w',z.sameBut hs (cne y c e)⟩
  ·obtain⟨e,n,ne,nf,d⟩:=I.pin p hp;exact⟨(hs.2 p.1 ne).trans e,n,ne,nf,d⟩
 ·have hfn:X.fn x=true:=by
   rcases hf with z | z
   ·exact z
   ·rw[z] at hk; cases hk
  obtain⟨c,hc⟩:=I.ok.has x (.inl hk);obtain⟨w',z⟩:=I.cell x c hc;refine wpAny_storeName_cell I.ok.kind hk hc z (λh' hc' hs=>?_);obtain⟨oc,hoc,hocd⟩:=id z;refine h {s with heap:=h'} ⟨I.ok,I.os,I.bare,⟨λb o e n hb hx=>?_,λb o e n hb hx=>?_,I.base.free,λb o e hx=>?_,I.base.tups,I.base.frzs,I.base.tbls⟩,⟨m,hn.sameBut hs (Ne.symm (cne x c hc)),λj y v' e1 e2 e3=>?_⟩,λy c' e=>?_,I.free,I.freeC,λp hp=>?_,tracked ⟨oc,hoc,I.freeC x c hc⟩ hs,by simpa using I.len⟩ ⟨c,hs,.inr hc⟩
  ·exact(hs.2 b (Ν (Ε (ν e) (I.ok.cab x c hfn hc)))).trans (I.base.keep b o e n hb hx)
  ·obtain⟨sl,e1⟩:=I.base.slot b o e n hb hx;exact⟨sl,(hs.2 b (Ν (Ε (ν e) (I.ok.cab x c hfn hc)))).trans e1⟩
  ·obtain⟨o',e1⟩:=I.base.there b o e hx;exact⟨o',(hs.2 b (Ν (Ε (ν e) (I.ok.cab x c hfn hc)))).trans e1⟩
  ·by_cases hj:j=i
   ·subst hj;rw[hi] at e1; cases e1;rw[List.getElem?_set_self hiσ] at e2;cases e2
    exact⟨u,r,.inr ⟨.inl hk,c,hc,hc'⟩⟩
   ·rw[List.getElem?_set_ne (Ne.symm hj)] at e2;obtain⟨u',r',q⟩:=hl j y v' e1 e2 e3;refine⟨u',r',?_⟩;rcases q with q | ⟨k,c',e,z'⟩
    ·exact .inl q
    ·refine .inr ⟨k,c',e,z'.sameBut hs ?_⟩;rintro rfl;exact hj (Yh hN e1 (I.ok.inj _ _ _ e hc▸hi))
  ·by_cases hcc:c'=c
   ·subst hcc; exact⟨_,hc'⟩
   ·obtain⟨w2,z2⟩:=I.cell y c' e;exact⟨w2,z2.sameBut hs hcc⟩
  ·obtain⟨e,n,ne,nf,d⟩:=I.pin p hp;refine⟨(hs.2 p.1 ?_).trans e,n,ne,nf,d⟩;intro q;rw[q,hoc] at e;have q':oc=p.2:=Γ e;exact d w' (by rw[<-q']; exact hocd)
theorem Z9{E:Value->Shared->Prop}{Q:Unit->Shared->Prop}(I:Inv X pins σ H s)(hN:X.N.Nodup)(hi:X.N[i]? =some x)(hx:Loc X.env.scope x)(r:RelV v u)
  (h: ∀s',Inv X pins (σ.set i (some v)) H s'->Q () s') (hf:X.fn x=true\/X.env.scope.names.lookup x=some .local:=by first | exact .inl rfl | exact .inr rfl | assumption):wpAny M A (storeName X.env x u) Q E s:=
 Zc I hN hi hx r (λs' I' _=>h s' I') hf
theorem Inv.call'{s':Shared}(I:Inv X pins σ H s)(ho:s'.os=s.os)(u:Un (frs X.stack) ch H H' s.heap s'.heap)(hok:HOk X.prog X.w H' s'.heap)(hg:AllBare s'.gens)
  (hch: ∀b∈ch,(b∈X.ex\/X.s₀.heap.objs.size<=b)/\b≠X.env.locals/\(∀x c,X.env.cells.lookup x=some c->c≠b)/\ ∀p∈X.pn++pins,p.1≠b):Inv X pins σ H' s':=by
 obtain⟨h',g',d',t',o'⟩:=s';have e:o'=s.os:=ho;subst e;exact I.call (g':=g') (t':=t') (d':=d') u hok hg hch
end
abbrev XK:=Value->Option Addr->Hp->Prop
abbrev St:=List (Option V)
abbrev VK:=V->Hp->Prop
abbrev TE:=St->Hp->VK->Prop
abbrev TT:=St->Hp->(Bool->Hp->Prop)->Prop
abbrev TA:=St->Hp->(List V->Hp->Prop)->Prop
structure Ends where
 nx:St->Hp->Prop
 rt:VK
 bk:St->Hp->Prop:=λ_ _=>False
 ct:St->Hp->Prop:=λ_ _=>False
abbrev TS:=Ends->St->Hp->Prop
def EP (X:Cx) (pins:List (Addr×Obj)) (σ:St) (Q:VK) (u:Value) (s':Shared):Prop:= ∃v H',Inv X pins σ H' s'/\RelV v u/\Q v H'
def TP (X:Cx) (pins:List (Addr×Obj)) (σ:St) (Q:Bool->Hp->Prop) (b:Bool) (s':Shared):Prop:= ∃H',Inv X pins σ H' s'/\Q b H'
def AP (X:Cx) (pins:List (Addr×Obj)) (σ:St) (Q:List V->Hp->Prop) (us:List Value) (s':Shared):Prop:= ∃vs H',Inv X pins σ H' s'/\Vals vs us/\Q vs H'
def SP (X:Cx) (pins:List (Addr×Obj)) (D:Ends) (f:Flow) (s':Shared):Prop:=
 match f with
 | .next=> ∃σ' H',Inv X pins σ' H' s'/\D.nx σ' H'
 | .brk=> ∃σ' H',Inv X pins σ' H' s'/\D.bk σ' H'
 | .cont=> ∃σ' H',Inv X pins σ' H' s'/\D.ct σ' H'
 | .ret u=> ∃v σ' H',Inv X pins σ' H' s'/\RelV v u/\D.rt v H'
def PE (X:Cx) (e:Expr) (t:TE):Prop:=
 ∀(pins:List (Addr×Obj)) (s:Shared) (σ:St) (H:Hp) (Q:VK),Inv X pins σ H s->t σ H Q->wpAny (model X.prog X.w) X.A (eval e X.env) (EP X pins σ Q) X.xe s
def PT (X:Cx) (e:Expr) (t:TT):Prop:=
 ∀(pins:List (Addr×Obj)) (s:Shared) (σ:St) (H:Hp) (Q:Bool->Hp->Prop),Inv X pins σ H s->t σ H Q->wpAny (model X.prog X.w) X.A (isTrue e X.env (eval e X.env)) (TP X pins σ Q) X.xe s
def PW (X:Cx) (e:Expr) (t:TT):Prop:=
 ∀(whole:Sem Value) (pins:List (Addr×Obj)) (s:Shared) (σ:St) (H:Hp) (Q:Bool->Hp->Prop),Inv X pins σ H s->t σ H Q->wpAny (model X.prog X.w) X.A (isTrue e X.env whole) (TP X pins σ Q) X.xe s
theorem PW.pt(h:PW X e t):PT X e t:=h _
def PA (X:Cx) (es:List Expr) (t:TA):Prop:=
 ∀(pos:Pos) (pins:List (Addr×Obj)) (s:Shared) (σ:St) (H:Hp) (Q:List V->Hp->Prop),Inv X pins σ H s->t σ H Q->wpAny (model X.prog X.w) X.A (spliced (backTo pos (starEach es X.env))) (AP X pins σ Q) X.xe s
def PS (X:Cx) (st:Stmt) (t:TS):Prop:=
 ∀(pins:List (Addr×Obj)) (s:Shared) (σ:St) (H:Hp) (D:Ends),Inv X pins σ H s->t D σ H->wpAny (model X.prog X.w) X.A (exec st X.env) (SP X pins D) X.xe s
def PSs (X:Cx) (st:List Stmt) (t:TS):Prop:=
 ∀(pins:List (Addr×Obj)) (s:Shared) (σ:St) (H:Hp) (D:Ends),Inv X pins σ H s->t D σ H->wpAny (model X.prog X.w) X.A (execs st X.env) (SP X pins D) X.xe s
theorem thn{t:Sem α}{Q Q':α->Shared->Prop}{E:Value->Shared->Prop}(h:wpAny M A t Q E s)(hQ: ∀a s,Q a s->Q' a s):wpAny M A t Q' E s:=wpAny_mono h hQ λ_ _ x=>x
section
variable {X:Cx}
def tVar (i:Nat):TE:=fun σ H Q=> ∃v,σ[i]? =some (some v)/\Q v H
def tC (v:V):TE:=λ_ H Q=>Q v H
theorem vC(hN:X.N[i]? =some x)(hv:Vis X.env.scope x)(hd:(x==("__debug__":Str))=false:=by decide)(hcd:(x==("__classdict__":Str))=false:=by decide):PE X (.Name x pos) (tVar i):=by
 intro pins s σ H Q I h;obtain⟨v,e,h⟩:=h;obtain⟨m,hn,hl⟩:=I.loc;obtain⟨u,r,l⟩:=hl i x v hN e hv;have fin:EP X pins σ Q u s:=⟨v,H,I,r,h⟩;rcases l with ⟨hk,hm⟩ | ⟨hk,c,hc,hcell⟩
 ·exact wpAny_Name (wpAny_loadName_local I.ok.kind hk hn hm fin) hd
 ·rcases hk with hk | hk
  ·exact wpAny_Name (wpAny_loadName_cell I.ok.kind hk hc hcell fin) hd
  ·exact wpAny_Name (wpAny_loadName_free I.ok.kind hk hc hcell fin hcd) hd
theorem zg{i j pos}:PE X (.Constant (.int i) j pos) (tC (.int i)):=λ_ _ _ H _ I h=>wpAny_Constant_int ⟨.int i,H,I.tok _,⟨_,rfl⟩,h⟩
theorem vE{b j pos}:PE X (.Constant (.bool b) j pos) (tC (.bl b)):=λ_ _ _ H _ I h=>Constant_bool ⟨.bl b,H,I,rfl,h⟩
theorem vD{j pos}:PE X (.Constant .none j pos) (tC .non):=λ_ _ _ H _ I h=>Constant_none ⟨.non,H,I,rfl,h⟩
theorem wg{x j pos}:PE X (.Constant (.str x) j pos) (tC (.str x)):=λ_ _ _ H _ I h=>Calls.Constant_str ⟨.str x,H,I.tok _,⟨_,rfl⟩,h⟩
def Gl (X:Cx) (x:Str):Prop:=X.env.kindOf x=some .globalImplicit
theorem ZM{E:Value->Shared->Prop}{Q:Value->Shared->Prop}(I:Inv X pins σ H s)(hg:Gl X x)(hm:X.mg x=some u)(h:Q u s)
  (hd:(x==("__debug__":Str))=false:=by decide):wpAny (model X.prog X.w) X.A (eval (.Name x pos) X.env) Q E s:=
 Calls.Name_function_global I.ok.kind hg (Calls.loadGlobal_global (by rw[I.ok.glob]; exact I.mod.glob.keeps I.bk) hm h) hd
theorem xl{E:Value->Shared->Prop}{Q:Value->Shared->Prop}(I:Inv X pins σ H s)(hg:Gl X x)(hm:X.mg x=none)(hv:bootBuiltins x=some u)(h:Q u s)
  (hn:x≠"__name__":=by decide) (hd:(x==("__debug__":Str))=false:=by decide):wpAny (model X.prog X.w) X.A (eval (.Name x pos) X.env) Q E s:=by
 obtain⟨mb,h1,h2⟩:=I.mod.blt;exact Calls.Name_function_global I.ok.kind hg (Calls.loadGlobal_builtin (by rw[I.ok.glob]; exact I.mod.glob.keeps I.bk) hm (by rw[I.ok.blt]; exact h1.keeps I.bk) ((h2 x hn).trans hv) h) hd
theorem pe_glob(hg:Gl X x)(hm:X.mg x=some u)(r:RelV v u)(hd:(x==("__debug__":Str))=false:=by decide):PE X (.Name x pos) (tC v):=
 λ_ _ _ H _ I h=>ZM I hg hm ⟨v,H,I,r,h⟩ hd
variable {a b:Expr} {ta tb:TE} {pos:Pos}
def PC (X:Cx) (op:CmpOp) (a b:Expr) (t:TE):Prop:=
 ∀(pins:List (Addr×Obj)) (s:Shared) (σ:St) (H:Hp) (Q:VK),Inv X pins σ H s->t σ H Q->
  wpAny (model X.prog X.w) X.A (eval a X.env) (λv s₁=>wpAny (model X.prog X.w) X.A (eval b X.env) (λu s₂=>wpAny (model X.prog X.w) X.A (compareOp op v u) (EP X pins σ Q) X.xe s₂) X.xe s₁) X.xe s
theorem nobehind(b:Expr)(h:op≠.In)(h2:op≠.NotIn):behindInMarks op b=false:=by
 have e1:(op==CmpOp.In)=false:=by cases op<;>first | rfl | exact absurd rfl h
 have e2:(op==CmpOp.NotIn)=false:=by cases op<;>first | rfl | exact absurd rfl h2
 cases b<;>simp[behindInMarks,e1,e2]
def tIsN (ta:TE):TE:=fun σ H Q=>ta σ H λx H1=>Q (.bl (decide (x= .non))) H1
def WJ (ta:TE):TE:=fun σ H Q=>ta σ H λx H1=>Q (.bl (!decide (x= .non))) H1
theorem RelV.none_iff(r:RelV x v):(v==Value.none)=decide (x= .non):=by
 cases x with
 | non=>cases r; rfl
 | bl _=>cases r; rfl
 | int _=>obtain⟨t,rfl⟩:=r; rfl
 | str _=>obtain⟨t,rfl⟩:=r; rfl
 | byt _=>obtain⟨t,rfl⟩:=r; rfl
 | flt _=>obtain⟨t,rfl⟩:=r; rfl
 | ref _=>cases r; rfl
 | ty _=>cases r; rfl
theorem X9{j pos'}(ha:PE X a ta):PC X .Is a (.Constant .none j pos') (tIsN ta):=by
 intro pins s σ H Q I h;refine thn (ha pins s σ H _ I h) λv s1 ⟨x,H1,I1,r1,q1⟩=>?_;exact Constant_none (is_none_gen ⟨.bl _,H1,I1,by rw[r1.none_iff]; rfl,q1⟩)
theorem Xf{j pos'}(ha:PE X a ta):PC X .IsNot a (.Constant .none j pos') (WJ ta):=by
 intro pins s σ H Q I h;refine thn (ha pins s σ H _ I h) λv s1 ⟨x,H1,I1,r1,q1⟩=>?_;exact Constant_none (isnot_none_gen ⟨.bl _,H1,I1,by rw[r1.none_iff]; rfl,q1⟩)
def tB (t:TE):TT:=fun σ H Q=>t σ H λx H1=> ∃c,x= .bl c/\Q c H1
theorem ZD(h:PC X op a b t)(h1:behindInMarks op b=false:=by first | exact nobehind _ (by decide) (by decide) | rfl):PT X (.Compare a [op] [b] pos) (tB t):=by
 intro pins s σ H Q I hw;refine wpAny_isTrue_Compare1 (thn (h pins s σ H _ I hw) λv s1 h1=>thn h1 λu s2 h2=>thn h2 λc s3 ⟨x,H1,I1,r1,q1⟩=>?_) h1;obtain⟨d,rfl,q⟩:=q1;cases r1
 exact wpAny_truthy_bool ⟨H1,I1,q⟩
theorem wR(h:PE X e t)(he: ∀whole,isTrue e X.env whole=(do let v<-whole; standAt e.pos; holding [v] (truthy v)):=by intro _; rfl):PT X e (tB t):=by
 intro pins s σ H Q I hw;refine isTrue_plain (thn (h pins s σ H _ I hw) λv s1 ⟨x,H1,I1,r1,q1⟩=>?_) (he _);obtain⟨d,rfl,q⟩:=q1;cases r1
 exact wpAny_truthy_bool ⟨H1,I1,q⟩
variable {tA tB':TT} {rest:List Expr}
def tAnd (t u:TT):TT:=fun σ H Q=>t σ H λc H1=>if c=true then u σ H1 Q else Q false H1
def tNot (t:TT):TT:=fun σ H Q=>t σ H λc H1=>Q (!c) H1
theorem Xc(ha:PT X a tA):PW X (.BoolOp .And [a] pos) tA:=by
 intro wh pins s σ H Q I h;refine isTrue_and (thn (ha pins s σ H Q I h) λc s1 e=>?_);cases c with
 | true=>exact isTrue_and_nil e
 | false=>exact e
theorem X2(ha:PT X a tA)(hb:PW X (.BoolOp .And (b::rest) pos) tB'):PW X (.BoolOp .And (a::b::rest) pos) (tAnd tA tB'):=by
 intro wh pins s σ H Q I h;refine isTrue_and (thn (ha pins s σ H _ I h) λc s1 ⟨H1,I1,q1⟩=>?_);cases c with
 | true=>exact hb wh pins s1 σ H1 Q I1 q1
 | false=>exact⟨H1,I1,q1⟩
theorem vA(ha:PT X a tA):PT X (.UnaryOp .Not a pos) (tNot tA):=by
 intro pins s σ H Q I h;exact isTrue_not (ha pins s σ H (λc H1=>Q (!c) H1) I h)
def WP (ta tb:TE):TE:=fun σ H Q=>ta σ H λx H1=> ∃c,x= .bl c/\if c=true then tb σ H1 Q else Q (.bl false) H1
theorem X5{op}(h:PE X a t):PE X (.BoolOp op [a] pos) t:=λpins s σ H Q I hw=>BoolOp_one (h pins s σ H Q I hw)
theorem X8(ha:PE X a ta)(hb:PE X (.BoolOp .And (b::rest) pos) tb):PE X (.BoolOp .And (a::b::rest) pos) (WP ta tb):=by
 intro pins s σ H Q I h;refine BoolOp_and (thn (ha pins s σ H _ I h) λv s1 ⟨x,H1,I1,r1,q1⟩=>?_);obtain⟨c,rfl,q1⟩:=q1;cases r1
 refine wpAny_truthy_bool ?_;cases c with
 | true=>exact hb pins s1 σ H1 Q I1 q1
 | false=>exact⟨.bl false,H1,I1,rfl,q1⟩
def tIf (t:TT) (ta tb:TE):TE:=fun σ H Q=>t σ H λc H1=>if c=true then ta σ H1 Q else tb σ H1 Q
theorem xX(hc:PT X c tA)(ha:PE X a ta)(hb:PE X b tb):PE X (.IfExp c a b pos) (tIf tA ta tb):=by
 intro pins s σ H Q I h;refine wpAny_IfExp (thn (hc pins s σ H _ I h) λd s1 ⟨H1,I1,q1⟩=>?_);cases d with
 | true=>exact ha pins s1 σ H1 Q I1 q1
 | false=>exact hb pins s1 σ H1 Q I1 q1
end
def SqL (K:W.Frag) (H:Hp) (a:Addr) (xs:List V):Prop:=
 Rd H a (.lst xs)\/
  ∃(o:Obj) (its:Array Value) (n:Nat),K.lookup a=some o/\o.cls= .type "list"/\o.dict=none/\o.data= .seq its n/\its.size<=sizeLine/\Vals xs its.toList
def SqT (K:W.Frag) (H:Hp) (a:Addr) (xs:List V):Prop:=
 Rd H a (.tup xs)\/
  ∃(o:Obj) (its:Array Value) (n:Nat),K.lookup a=some o/\o.cls= .type "tuple"/\o.data= .seq its n/\its.size<=sizeLine/\Vals xs its.toList
def absV:Value->Option V
 | .none=>some .non
 | .bool b=>some (.bl b)
 | .int i _=>some (.int i)
 | .str x _=>some (.str x)
 | .bytes b _=>some (.byt b)
 | .float b _=>some (.flt b)
 | .ref a=>some (.ref a)
 | .type n=>some (.ty n)
 | _=>none
theorem RelV.abs(r:RelV x u):absV u=some x:=by
 cases x with
 | non=>cases r; rfl
 | bl _=>cases r; rfl
 | int _=>obtain⟨t,rfl⟩:=r; rfl
 | str _=>obtain⟨t,rfl⟩:=r; rfl
 | byt _=>obtain⟨t,rfl⟩:=r; rfl
 | flt _=>obtain⟨t,rfl⟩:=r; rfl
 | ref _=>cases r; rfl
 | ty _=>cases r; rfl
theorem RelV.inj(r:RelV x u)(q:RelV y u):x=y:=Γ (r.abs.symm.trans q.abs)
theorem Vals.inj: ∀{xs ys:List V} {us:List Value},Vals xs us->Vals ys us->xs=ys
 | _,_,_,.nil,.nil=>rfl
 | _,_,_,.cons r t,.cons r' t'=>by rw[r.inj r',Vals.inj t t']
section
variable {X:Cx} {pins:List (Addr×Obj)} {σ:St} {H:Hp} {s:Shared} {a:Addr} {xs ys:List V}
theorem SqL.of{K:W.Frag}(h:H a=some (.lst xs)):SqL K H a xs:= .inl (.inl h)
theorem SqT.of{K:W.Frag}(h:H a=some (.tup xs)):SqT K H a xs:= .inl (.inl h)
theorem Inv.list(I:Inv X pins σ H s)(h:SqL X.K H a xs): ∃its:List Value,Vals xs its/\PlainL s.heap a its.toArray/\xs.length<=sizeLine:=by
 rcases h with h | ⟨o,its,n,hk,hc,hd,hs,hz,r⟩
 ·obtain⟨z,its,n,r,e⟩:=h.ok I.hok;exact⟨its,r,⟨_,n,e,rfl,rfl,rfl⟩,z⟩
 ·refine⟨its.toList,r,⟨o,n,I.kIn a o hk,hc,hd,by simpa using hs⟩,?_⟩;have e:=r.length;simp only[Array.length_toList] at e;omega
theorem Inv.tuple(I:Inv X pins σ H s)(h:SqT X.K H a xs): ∃its:List Value,Vals xs its/\IsTup s.heap a its.toArray/\xs.length<=sizeLine:=by
 rcases h with h | ⟨o,its,n,hk,hc,hs,hz,r⟩
 ·obtain⟨z,its,r,p⟩:=h.ok I.hok;exact⟨its,r,p,z⟩
 ·refine⟨its.toList,r,⟨o,I.kIn a o hk,hc,n,by simpa using hs⟩,?_⟩;have e:=r.length;simp only[Array.length_toList] at e;omega
theorem Inv.list_inj(I:Inv X pins σ H s)(h:SqL X.K H a xs)(h':SqL X.K H a ys):xs=ys:=by
 obtain⟨its,r,⟨o,n,e,_,_,d⟩,_⟩:=I.list h;obtain⟨its',r',⟨o',n',e',_,_,d'⟩,_⟩:=I.list h';rw[e] at e'; cases e';rw[d] at d';injection d' with d1 _
 have:its=its':=by simpa using congrArg Array.toList d1
 subst this;exact r.inj r'
theorem Inv.tuple_inj(I:Inv X pins σ H s)(h:SqT X.K H a xs)(h':SqT X.K H a ys):xs=ys:=by
 obtain⟨its,r,⟨o,e,_,n,d⟩,_⟩:=I.tuple h;obtain⟨its',r',⟨o',e',_,n',d'⟩,_⟩:=I.tuple h';rw[e] at e'; cases e';rw[d] at d';injection d' with d1 _
 have:its=its':=by simpa using congrArg Array.toList d1
 subst this;exact r.inj r'
end
abbrev Cx.wish (X:Cx) (E:Value->Shared->Prop):Cx:={X with xe:=E}
abbrev Cx.nox (X:Cx):Cx:=X.wish λ_ _=>False
theorem Cx.Ok.wish{X:Cx}(ok:X.Ok)(E:Value->Shared->Prop):(X.wish E).Ok:=
 ⟨ok.mod,ok.kind,ok.glob,ok.blt,ok.above,ok.inj,ok.has,ok.cab,ok.hd,ok.frames,ok.stk,ok.exf,ok.bs,ok.bsz,ok.noex,ok.exfs,ok.funs,ok.frf⟩
theorem Cx.Ok.unwish{X:Cx}{E:Value->Shared->Prop}(ok:(X.wish E).Ok):X.Ok:=
 ⟨ok.mod,ok.kind,ok.glob,ok.blt,ok.above,ok.inj,ok.has,ok.cab,ok.hd,ok.frames,ok.stk,ok.exf,ok.bs,ok.bsz,ok.noex,ok.exfs,ok.funs,ok.frf⟩
section
variable {X:Cx} {pins:List (Addr×Obj)} {σ:St} {H:Hp} {s:Shared} {E:Value->Shared->Prop}
theorem Inv.wish(I:Inv X pins σ H s)(E:Value->Shared->Prop):Inv (X.wish E) pins σ H s:=⟨I.ok.wish E,I.os,I.bare,I.base,I.loc,I.cell,I.free,I.freeC,I.pin,I.hok,I.len⟩
theorem Inv.unwish(I:Inv (X.wish E) pins σ H s):Inv X pins σ H s:=⟨I.ok.unwish,I.os,I.bare,I.base,I.loc,I.cell,I.free,I.freeC,I.pin,I.hok,I.len⟩
theorem SP.unwish(h:SP (X.wish E) pins D f s'):SP X pins D f s':=by
 cases f with
 | next=>obtain⟨σ',H',I,q⟩:=h; exact⟨σ',H',I.unwish,q⟩
 | brk=>obtain⟨σ',H',I,q⟩:=h; exact⟨σ',H',I.unwish,q⟩
 | cont=>obtain⟨σ',H',I,q⟩:=h; exact⟨σ',H',I.unwish,q⟩
 | ret u=>obtain⟨v,σ',H',I,r,q⟩:=h; exact⟨v,σ',H',I.unwish,r,q⟩
theorem PSs.nox{st:List Stmt}{t:TS}(h:PSs X.nox st t):PSs X st t:=λpins s σ H D I hw=>
 wpAny_mono (h pins s σ H D (I.wish _) hw) (λ_ _ q=>q.unwish) λ_ _ z=>False.elim z
end
section
variable {X:Cx} {st:Stmt} {rest:List Stmt} {t u:TS} {e:Expr} {te:TE} {pos:Pos}
def WK:TS:=λD σ H=>D.nx σ H
def tSeq (t u:TS):TS:=λD σ H=>t {D with nx:=u D} σ H
theorem zB:PSs X [] WK:=λ_ _ σ H _ I h=>wpAny_execs_nil ⟨σ,H,I,h⟩
theorem ze(h1:PS X st t)(h2:PSs X rest u):PSs X (st::rest) (tSeq t u):=by
 intro pins s σ H D I h;refine wpAny_execs_cons (thn (h1 pins s σ H {D with nx:=u D} I h) λf s1 q=>?_);cases f with
 | next=>
  obtain⟨σ',H',I',q⟩:=q;exact h2 pins s1 σ' H' D I' q
 | ret v=>exact q
 | brk=>exact q
 | cont=>exact q
theorem zi(h1:PS X st t):PSs X [st] t:=by
 intro pins s σ H D I h;refine wpAny_execs_cons (thn (h1 pins s σ H D I h) λf s1 q=>?_);cases f with
 | next=>exact wpAny_execs_nil q
 | ret v=>exact q
 | brk=>exact q
 | cont=>exact q
def WO:TS:=λD σ H=>D.ct σ H
theorem ps_continue:PS X (.Continue pos) WO:=λ_ _ σ H _ I h=>wpAny_Continue ⟨σ,H,I,h⟩
theorem Inv.quiet(I:Inv X pins σ H s):interactive X.env=false:=by simp[interactive,I.ok.kind]
def WN (te:TE):TS:=λD σ H=>te σ H λ_ H1=>D.nx σ H1
theorem xq(he:PE X e te)(hs:swapsWith e none pos.line X.env=pure false:=by rfl):PS X (.Expr e pos) (WN te):=by
 intro pins s σ H D I h;exact wpAny_Expr_any (thn (he pins s σ H _ I h) λv s1 ⟨x,H1,I1,r1,q1⟩=>⟨σ,H1,I1,q1⟩) I.quiet hs
def tRet (te:TE):TS:=λD σ H=>te σ H D.rt
theorem zr(he:PE X e te):PS X (.Return (some e) pos) (tRet te):=by
 intro pins s σ H D I h;exact wpAny_Return_some (thn (he pins s σ H _ I h) λv s1 ⟨x,H1,I1,r1,q1⟩=>⟨x,σ,H1,I1,r1,q1⟩)
def tIfS (c:TT) (t u:TS):TS:=λD σ H=>c σ H λb H1=>if b=true then t D σ H1 else u D σ H1
theorem zZ(hc:PT X c tc)(ha:PSs X a t)(hb:PSs X b u):PS X (.If c a b pos) (tIfS tc t u):=by
 intro pins s σ H D I h;refine wpAny_If (thn (hc pins s σ H _ I h) λd s1 ⟨H1,I1,q1⟩=>?_);cases d with
 | true=>exact ha pins s1 σ H1 D I1 q1
 | false=>exact hb pins s1 σ H1 D I1 q1
def tNever:TS:=λ_ _ _=>False
theorem Zd:PSs X sts tNever:=λ_ _ _ _ _ _ h=>h.elim
end
abbrev TG:=V->St->Hp->(St->Hp->Prop)->Prop
abbrev TGs:=List V->St->Hp->(St->Hp->Prop)->Prop
def PG (X:Cx) (target:Expr) (t:TG):Prop:=
 ∀(pins:List (Addr×Obj)) (s:Shared) (σ:St) (H:Hp) (v:V) (u:Value) (Q:St->Hp->Prop),Inv X pins σ H s->RelV v u->t v σ H Q->
  wpAny (model X.prog X.w) X.A (assign target X.env u) (λ_ s'=> ∃σ' H',Inv X pins σ' H' s'/\Q σ' H') X.xe s
def PGs (X:Cx) (ts:List Expr) (t:TGs):Prop:=
 ∀(pins:List (Addr×Obj)) (s:Shared) (σ:St) (H:Hp) (vs:List V) (us:List Value) (Q:St->Hp->Prop),Inv X pins σ H s->Vals vs us->t vs σ H Q->
  wpAny (model X.prog X.w) X.A (assignInOrder ((assignEach ts X.env).map (·.2)) us) (λ_ s'=> ∃σ' H',Inv X pins σ' H' s'/\Q σ' H') X.xe s
abbrev TSet:=V->V->V->Hp->(Hp->Prop)->Prop
def PSet (X:Cx) (t:TSet):Prop:=
 ∀(pins:List (Addr×Obj)) (s:Shared) (σ:St) (H:Hp) (o i v:V) (ov iv u:Value) (Q:Hp->Prop),Inv X pins σ H s->RelV o ov->RelV i iv->RelV v u->t o i v H Q->
  wpAny (model X.prog X.w) X.A (setItem ov iv u) (λ_ s'=> ∃H',Inv X pins σ H' s'/\Q H') X.xe s
section
variable {X:Cx} {pos:Pos}
def zF (i:Nat):TG:=λv σ H Q=>Q (σ.set i (some v)) H
theorem vm(hN:X.N.Nodup)(hi:X.N[i]? =some x)(hx:Loc X.env.scope x)(hf:X.fn x=true\/X.env.scope.names.lookup x=some .local:=by first | exact .inl rfl | exact .inr rfl | assumption):PG X (.Name x pos) (zF i):=by
 intro pins s σ H v u Q I r h;exact wpAny_assign_Name (Z9 I hN hi hx r (λs' I'=>⟨_,H,I',h⟩) hf)
def gNil:TGs:=λvs σ H Q=>vs=[]/\Q σ H
def yj (t:TG) (u:TGs):TGs:=λvs σ H Q=> ∃v r,vs=v::r/\t v σ H fun σ' H'=>u r σ' H' Q
theorem zS:PGs X [] gNil:=by
 intro pins s σ H vs us Q I r h;obtain⟨e,h⟩:=h;subst e;cases r
 exact assignInOrder_nil ⟨σ,H,I,h⟩
theorem zt(h1:PG X e t)(h2:PGs X es u)
  (hs:(assignEach (e::es) X.env).map (·.2)=assign e X.env::(assignEach es X.env).map (·.2):=by rfl):PGs X (e::es) (yj t u):=by
 intro pins s σ H vs us Q I r h;obtain⟨v,vr,e1,h⟩:=h;subst e1;cases r with
 | cons r rr=>
  rw[hs];refine assignInOrder_cons (thn (h1 pins s σ H _ _ _ I r h) λ_ s1 ⟨σ1,H1,I1,q1⟩=>?_);exact h2 pins s1 σ1 H1 _ _ Q I1 rr q1
def gTup (K:W.Frag) (n:Nat) (t:TGs):TG:=λv σ H Q=> ∃a xs,v= .ref a/\SqT K H a xs/\xs.length=n/\t xs σ H Q
theorem xM{n:Nat}(hc:X.calm=true)(h:PGs X es t)
  (hn:(assignEach es X.env).length=n:=by rfl) (hst:(assignEach es X.env).findIdx? (·.1)=none:=by rfl):PG X (.Tuple es k pos) (gTup X.K n t):=by
 intro pins s σ H v u Q I r hw;obtain⟨a,xs,e1,hq,hl,hw⟩:=hw;subst e1;cases r
 obtain⟨its,rv,ht,hz⟩:=I.tuple hq;refine assign_Tuple_tuple (I.ok.hd hc) ht (by simp[hn,<-hl,rv.length]) hst λh' hx=>?_;have I1:Inv X pins σ H {s with heap:=h'}:=I.kept (t':=s.toks) λb o e=>hx b o (Ν (ν e)) e;exact h pins _ σ H xs _ Q I1 (by simpa using rv) hw
def gSub (to ti:TE) (t:TSet):TG:=λv σ H Q=>to σ H λo H1=>ti σ H1 λi H2=>t o i v H2 λH3=>Q σ H3
theorem ya(ho:PE X o to)(hi:PE X i ti)(hs:PSet X t)
  (ha: ∀v,assign (.Subscript o i pos) X.env v=(do
   let ov<-holding [v] (eval o X.env)
   let iv<-holding [v,ov] (eval i X.env)
   standAt pos
   holding [v,ov,iv] (setItem ov iv v)
   release [v,ov,iv] []):=by intro _; rfl):PG X (.Subscript o i pos) (gSub to ti t):=by
 intro pins s σ H v u Q I r h;rw[ha];refine γ (wpAny_holding (thn (ho pins s σ H _ I h) λov s1 ⟨x,H1,I1,r1,q1⟩=>?_));refine γ (wpAny_holding (thn (hi pins s1 σ H1 _ I1 q1) λiv s2 ⟨y,H2,I2,r2,q2⟩=>?_));refine γ (wpAny_standAt (γ (wpAny_holding (thn (hs pins s2 σ H2 x y v ov iv u _ I2 r1 r2 r q2) λ_ s3 ⟨H3,I3,q3⟩=>?_))));exact wpAny_release ⟨σ,H3,I3,q3⟩
def tAsg (te:TE) (g:TG):TS:=λD σ H=>te σ H λx H1=>g x σ H1 D.nx
theorem zX(he:PE X e te)(hg:PG X tg g)(hs:swapsWithSole [tg] e pos.line X.env=pure false:=by rfl)(hw:swappedStores [tg] e X.env=pure none:=by rfl)
  (h1:(assignEach [tg] X.env).map (·.2)=[assign tg X.env]:=by rfl):PS X (.Assign [tg] e pos) (tAsg te g):=by
 intro pins s σ H D I h;refine wpAny_Assign_stores (thn (he pins s σ H _ I h) λv s1 ⟨x,H1,I1,r1,q1⟩=>?_) hs hw;rw[h1];exact thn (hg pins s1 σ H1 x v _ I1 r1 q1) λ_ s2 q=>q
theorem wf(hN:X.N.Nodup)(hi:X.N[i]? =some x)(hx:Loc X.env.scope x)(he:PE X e te)(hs:swapsWith e (some (.Name x pos')) pos.line X.env=pure false:=by rfl)(hf:X.fn x=true\/X.env.scope.names.lookup x=some .local:=by first | exact .inl rfl | exact .inr rfl | assumption):
  PS X (.Assign [.Name x pos'] e pos) (tAsg te (zF i)):=by
 intro pins s σ H D I h;refine wpAny_Assign_Name (thn (he pins s σ H _ I h) λv s1 ⟨y,H1,I1,r1,q1⟩=>?_) hs;exact Z9 I1 hN hi hx r1 (λs2 I2=>⟨_,H1,I2,q1⟩) hf
def XU (c:TT) (tb:TS):TS:=λD σ H=> ∃W:Nat->St->Hp->Prop,(∃m,W m σ H)/\ ∀m σ H,W m σ H->
 c σ H λb H1=>if b=true then∃N:St->Hp->Prop,(∀σ' H',N σ' H'-> ∃m',m'<m/\W m' σ' H')/\tb {D with nx:=N,ct:=N,bk:=D.nx} σ H1 else D.nx σ H1
theorem vB(hp:PassesOwn (model X.prog X.w) X.A X.env X.xe)(hc:PT X c tc)(hb:PSs X body tb):PS X (.While c body [] pos) (XU tc tb):=by
 intro pins s σ H D I h;obtain⟨W,⟨m0,w0⟩,turn⟩:=h;refine wpAny_While (codeAny_whileLoop (λn s'=> ∃σ' H',Inv X pins σ' H' s'/\W n σ' H') ?_ m0 ⟨σ,H,I,w0⟩);rintro n s1 ⟨σ1,H1,I1,w1⟩;refine wpAny_passesOwn hp (thn (hc pins s1 σ1 H1 _ I1 (turn n σ1 H1 w1)) λb s2 ⟨H2,I2,q2⟩=>?_);cases b with
 | true=>
  obtain⟨N,hN,q2⟩:=q2;rw[if_pos rfl];refine wpAny_passesOwn hp (thn (hb pins s2 σ1 H2 _ I2 q2) λf s3 q3=>?_);cases f with
  | next=>
   obtain⟨σ3,H3,I3,n3⟩:=q3;obtain⟨m',hm,w3⟩:=hN σ3 H3 n3;exact⟨m',hm,σ3,H3,I3,w3⟩
  | cont=>
   obtain⟨σ3,H3,I3,n3⟩:=q3;obtain⟨m',hm,w3⟩:=hN σ3 H3 n3;exact⟨m',hm,σ3,H3,I3,w3⟩
  | brk=>exact q3
  | ret v=>exact q3
 | false=>
  rw[if_neg Ζ];exact wpAny_execs_nil ⟨σ1,H2,I2,q2⟩
end
structure It where
 go:Nat->Hp->Prop
 yld:Nat->Hp->V->Hp->Prop
 stop:Nat->Hp->Prop
def FpOk (X:Cx) (pins:List (Addr×Obj)) (H:Hp) (b:Addr):Prop:=
 H b=none/\b≠X.env.locals/\b∉X.fs/\(b∈X.ex\/X.s₀.heap.objs.size<=b)/\(∀x c,X.env.cells.lookup x=some c->c≠b)/\ ∀p∈X.pn++pins,p.1≠b
theorem Inv.fpOk(I:Inv X pins σ H s)(hb:s.heap.objs.size<=b)(hn:H' b=none):FpOk X pins H' b:=by
 refine⟨hn,Ω (Ε I.lt hb),I.nofs hb,.inr (Τ I.sz hb),λx c e z=>?_,λp hp z=>?_⟩
 ·obtain⟨v,q⟩:=I.cell x c e;exact absurd (Ε q.lt (by rw[z]; exact hb)) (Nat.lt_irrefl _)
 ·exact absurd (Ε (ν (I.pin p hp).1) (by rw[z]; exact hb)) (Nat.lt_irrefl _)
structure Turn (P:Program) (w:World) (K:W.Frag) (tg:Expr) (J:It) (fp:List Addr) (it:Addr) (tn:Nat->Heap->Prop):Prop where
 mem:it∈fp
 obj: ∀i h,tn i h-> ∀b∈fp,∃o,h.get? b=some o/\ ∀v,o.data≠.cell v
 keep: ∀i h h',tn i h->(∀b∈fp,∀o,h.get? b=some o->h'.get? b=some o)->tn i h'
 item: ∀(X:Cx),X.prog=P->X.w=w->X.K=K->X.calm=true-> ∀(i:Nat) (pins:List (Addr×Obj)) (s:Shared) (σ:St) (H:Hp) (E:Value->Shared->Prop),Inv X pins σ H s->(∀b∈fp,FpOk X pins H b)->tn i s.heap->J.go i H->
  wpAny (model P w) X.A (pyNext (.ref it)) (λr s1=> ∃u,r=some u/\
   wpAny (model P w) X.A (letOwnedTupleGo tg (.ref it) u) (λ_ s2=> ∃x H',Inv X pins σ H' s2/\RelV x u/\J.yld i H x H'/\tn (i+1) s2.heap/\ ∀b∈fp,H' b=none) E s1) E s
 done: ∀(X:Cx),X.prog=P->X.w=w->X.K=K->X.calm=true-> ∀(i:Nat) (pins:List (Addr×Obj)) (s:Shared) (σ:St) (H:Hp) (E:Value->Shared->Prop),Inv X pins σ H s->(∀b∈fp,FpOk X pins H b)->tn i s.heap->J.stop i H->
  wpAny (model P w) X.A (pyNext (.ref it)) (λr s1=>r=none/\Inv X pins σ H s1) E s
 self: ∀(A:Around) (i:Nat) (s:Shared) (Q:Value->Shared->Prop) (E:Value->Shared->Prop),tn i s.heap->Q (.ref it) s->wpAny (model P w) A (pyIter (.ref it)) Q E s
abbrev TI:=St->Hp->(It->Hp->Prop)->Prop
def PIE (X:Cx) (pins:List (Addr×Obj)) (σ:St) (tg:Expr) (R:It->Hp->Prop) (itv:Value) (s2:Shared):Prop:=
 ∃(it:Addr) (fp:List Addr) (tn:Nat->Heap->Prop) (J:It) (H':Hp),itv= .ref it/\Inv X pins σ H' s2/\Turn X.prog X.w X.K tg J fp it tn/\tn 0 s2.heap/\(∀b∈fp,FpOk X pins H' b)/\R J H'
def PI (X:Cx) (tg iter:Expr) (wi:TI):Prop:=
 ∀(pins:List (Addr×Obj)) (s:Shared) (σ:St) (H:Hp) (R:It->Hp->Prop),Inv X pins σ H s->wi σ H R->
  wpAny (model X.prog X.w) X.A (eval iter X.env) (λv s1=>wpAny (model X.prog X.w) X.A (pyIter v) (PIE X pins σ tg R) X.xe s1) X.xe s
theorem Wo{E:Value->Shared->Prop}{s:Shared}{Q:Unit->Shared->Prop}(ho:s.heap.get? it=some o)(hc:o.cls= .type n)(hd:o.data= .fields vs)
    (hn:["enumerate","zip","dict_itemiterator","dict_reverseitemiterator","odict_iterator","itertools.zip_longest","itertools.pairwise"].contains n=false) (hQ:Q () s):wpAny M A (letOwnedTupleGo tg (.ref it) u) Q E s:=by
  unfold letOwnedTupleGo;cases tg<;>first
    | exact ι hQ
    | (cases u<;>first
        | exact ι hQ
        | (refine γ (wpAny_load ho ?_)
           rw[hc,hd];show wpAny M A (if (["enumerate","zip","dict_itemiterator","dict_reverseitemiterator","odict_iterator","itertools.zip_longest","itertools.pairwise"].contains n&&vs[0]? ==some (rawInt _))=true then _ else _) Q E s;rw[if_neg (by intro h; rw[hn,Bool.false_and] at h; cases h)];exact ι hQ))
def Itl (K:W.Frag) (a:Addr):It:=
 ⟨λi H=> ∃xs x,SqL K H a xs/\xs[i]? =some x,λi H x H'=>H'=H/\ ∀xs,SqL K H a xs->xs[i]? =some x,λi H=> ∃xs,SqL K H a xs/\xs.length<=i⟩
def Itt (K:W.Frag) (a:Addr):It:=
 ⟨λi H=> ∃xs x,SqT K H a xs/\xs[i]? =some x,λi H x H'=>H'=H/\ ∀xs,SqT K H a xs->xs[i]? =some x,λi H=> ∃xs,SqT K H a xs/\xs.length<=i⟩
def Itr (lo:Int) (n:Nat):It:=⟨λi _=>i<n,λi H x H'=>H'=H/\x= .int (lo+i),λi _=>n<=i⟩
theorem turn_list{P:Program}{w:World}{K:W.Frag}{tg:Expr}(a it:Addr):Turn P w K tg (Itl K a) [it] it (λi h=>h.IsListIter it a i) where
 mem:=by simp
 obj:=λi h st b hb=>by
  have e:b=it:=by simpa using hb
  subst e;obtain⟨o,e,c,d⟩:=st;exact⟨o,e,λv z=>by rw[d] at z; cases z⟩
 keep:=λi h h' st k=>st.at λo e=>k it (by simp) o e
 item:=by
  intro X hP hw hK hc i pins s σ H E I hf st hg;subst hP hw hK;obtain⟨xs,x,hq,hx⟩:=hg;obtain⟨its,rv,p,hz⟩:=I.list hq;obtain⟨u,hu,ru⟩:=rv.get hx;obtain⟨f0,f1,f2,f3,f4,f5⟩:=hf it (by simp);refine wpAny_pyNext_list_item st p.isList (x:=u) (by simpa using hu) λh' st' sb=>?_;have I1:Inv X pins σ H {s with heap:=h'}:=I.turned (t':=s.toks) (λb o hb e=>(sb.2 b hb).trans e) f0 f1 f3 f4 f5;obtain⟨o,e,c,d⟩:=id st';exact⟨u,rfl,Wo (s:={s with heap:=h'}) e c d (by decide) ⟨x,H,I1,ru,⟨rfl,λys hy=>by rw[I.list_inj hy hq]; exact hx⟩,st',λb hb=>(hf b hb).1⟩⟩
 done:=by
  intro X hP hw hK hc i pins s σ H E I hf st hg;subst hP hw hK;obtain⟨xs,hq,hx⟩:=hg;obtain⟨its,rv,p,hz⟩:=I.list hq;obtain⟨f0,f1,f2,f3,f4,f5⟩:=hf it (by simp);have hl:=rv.length;exact wpAny_pyNext_list_end (I.ok.hd hc) st p.isList (by simp; omega) λh' eb=>⟨rfl,I.turned (t':=s.toks) (λb o hb e=>eb b o hb e) f0 f1 f3 f4 f5⟩
 self:=λ_ _ _ _ _ st h=>wpAny_pyIter_listiter st h
theorem turn_tuple{P:Program}{w:World}{K:W.Frag}{tg:Expr}(a it:Addr):Turn P w K tg (Itt K a) [it] it (λi h=>h.IsTupleIter it a i) where
 mem:=by simp
 obj:=λi h st b hb=>by
  have e:b=it:=by simpa using hb
  subst e;obtain⟨o,e,c,d⟩:=st;exact⟨o,e,λv z=>by rw[d] at z; cases z⟩
 keep:=λi h h' st k=>st.at λo e=>k it (by simp) o e
 item:=by
  intro X hP hw hK hc i pins s σ H E I hf st hg;subst hP hw hK;obtain⟨xs,x,hq,hx⟩:=hg;obtain⟨its,rv,p,hz⟩:=I.tuple hq;obtain⟨u,hu,ru⟩:=rv.get hx;obtain⟨f0,f1,f2,f3,f4,f5⟩:=hf it (by simp);refine wpAny_pyNext_tuple_item st (show s.heap.IsTuple a its.toArray from p) (x:=u) (by simpa using hu) λh' st' sb=>?_;have I1:Inv X pins σ H {s with heap:=h'}:=I.turned (t':=s.toks) (λb o hb e=>(sb.2 b hb).trans e) f0 f1 f3 f4 f5;obtain⟨o,e,c,d⟩:=id st';exact⟨u,rfl,Wo (s:={s with heap:=h'}) e c d (by decide) ⟨x,H,I1,ru,⟨rfl,λys hy=>by rw[I.tuple_inj hy hq]; exact hx⟩,st',λb hb=>(hf b hb).1⟩⟩
 done:=by
  intro X hP hw hK hc i pins s σ H E I hf st hg;subst hP hw hK;obtain⟨xs,hq,hx⟩:=hg;obtain⟨its,rv,p,hz⟩:=I.tuple hq;obtain⟨f0,f1,f2,f3,f4,f5⟩:=hf it (by simp);have hl:=rv.length;exact wpAny_pyNext_tuple_end (I.ok.hd hc) st (show s.heap.IsTuple a its.toArray from p) (by simp; omega) λh' eb=>⟨rfl,I.turned (t':=s.toks) (λb o hb e=>eb b o hb e) f0 f1 f3 f4 f5⟩
 self:=λ_ _ _ _ _ st h=>wpAny_pyIter_tupleiter st h
theorem turn_range{P:Program}{w:World}{K:W.Frag}{tg:Expr}(it:Addr)(lo:Int)(n:Nat):Turn P w K tg (Itr lo n) [it] it (λi h=>IsRangeIter h it (lo+(i:Nat)*1) ((n:Int)-(i:Nat)) 1) where
 mem:=by simp
 obj:=λi h st b hb=>by
  have e:b=it:=by simpa using hb
  subst e;exact⟨_,st,λv z=>by
   have z':Data.fields _=Data.cell v:=z;cases z'⟩
 keep:=λi h h' st k=>k it (by simp) _ st
 item:=by
  intro X hP hw hK hc i pins s σ H E I hf st hg;subst hP hw hK;obtain⟨f0,f1,f2,f3,f4,f5⟩:=hf it (by simp);have W:=Walks.range (prog:=X.prog) (w:=X.w) (I.ok.hd hc) it lo 1 n;refine W.item i s _ _ hg st λv h' tk hv st' kk=>?_;obtain⟨t,rfl⟩:=hv;have I1:Inv X pins σ H {s with heap:=h',toks:=tk}:=I.turned (λb o hb e=>kk b o (by simpa using hb) e) f0 f1 f3 f4 f5;refine⟨_,rfl,Wo (s:={s with heap:=h',toks:=tk}) (n:="range_iterator") st' rfl rfl (by decide) ⟨.int (lo+i),H,I1,⟨t,?_⟩,⟨rfl,rfl⟩,st',λb hb=>(hf b hb).1⟩⟩;rw[Int.mul_one]
 done:=by
  intro X hP hw hK hc i pins s σ H E I hf st hg;subst hP hw hK;obtain⟨f0,f1,f2,f3,f4,f5⟩:=hf it (by simp);exact wpAny_pyNext_range_end (I.ok.hd hc) st (by have:n<=i:=hg; omega) λh' eb=>⟨rfl,I.turned (t':=s.toks) (λb o hb e=>eb b o hb e) f0 f1 f3 f4 f5⟩
 self:=λ_ _ _ _ _ st h=>wpAny_pyIter_rangeiter st h
section
variable {X:Cx} {tg:Expr}
def Wn (K:W.Frag) (tl:TE):TI:=fun σ H R=>tl σ H λx H1=> ∃a,x= .ref a/\(∃xs,SqL K H1 a xs)/\R (Itl K a) H1
def iTup (K:W.Frag) (tl:TE):TI:=fun σ H R=>tl σ H λx H1=> ∃a,x= .ref a/\(∃xs,SqT K H1 a xs)/\R (Itt K a) H1
theorem yf{l:Expr}{tl:TE}(hl:PE X l tl):PI X tg l (Wn X.K tl):=by
 intro pins s σ H R I h;refine thn (hl pins s σ H _ I h) λv s1 ⟨x,H1,I1,r1,q1⟩=>?_;obtain⟨a,e,⟨xs,hq⟩,q⟩:=q1;subst e;cases r1
 obtain⟨its,rv,p,hz⟩:=I1.list hq;refine wpAny_pyIter_list p.isList ?_;refine⟨s1.heap.objs.size,[s1.heap.objs.size],_,_,H1,rfl,I1.kept (t':=s1.toks) λb o e=>η _ e,turn_list a _,⟨_,π _ rfl,rfl,rfl⟩,λb hb=>?_,q⟩;have e:b=s1.heap.objs.size:=by simpa using hb
 subst e;exact I1.fpOk (θ _) (I1.hok.fresh (θ _))
theorem xL{l:Expr}{tl:TE}(hl:PE X l tl):PI X tg l (iTup X.K tl):=by
 intro pins s σ H R I h;refine thn (hl pins s σ H _ I h) λv s1 ⟨x,H1,I1,r1,q1⟩=>?_;obtain⟨a,e,⟨xs,hq⟩,q⟩:=q1;subst e;cases r1
 obtain⟨its,rv,p,hz⟩:=I1.tuple hq;refine wpAny_pyIter_tuple (show s1.heap.IsTuple a its.toArray from p) ?_;refine⟨s1.heap.objs.size,[s1.heap.objs.size],_,_,H1,rfl,I1.kept (t':=s1.toks) λb o e=>η _ e,turn_tuple a _,⟨_,π _ rfl,rfl,rfl⟩,λb hb=>?_,q⟩;have e:b=s1.heap.objs.size:=by simpa using hb
 subst e;exact I1.fpOk (θ _) (I1.hok.fresh (θ _))
theorem Yb{pins:List (Addr×Obj)}{σ:St}{H:Hp}{s:Shared}{R:It->Hp->Prop}{E:Value->Shared->Prop}{lo hi:Int}{t u v:Tok}{tk:Nat}(I:Inv X pins σ H s)(h1: -(2^62)<=lo)(h2:lo<2^62)(h3: -(2^62)<=hi)(h4:hi<2^62)
  (q:R (Itr lo (hi - lo).toNat) H):wpAny (model X.prog X.w) X.A (pyIter (.ref s.heap.objs.size)) (PIE X pins σ tg R) E {s with heap:=s.heap.push {cls:= .type "range",data:= .fields #[.int lo t,.int hi u,.int 1 v]},toks:=tk}:=by
 refine wpAny_pyIter_range (IsRange.new ..) (small_one h1 h2 h3 h4) ?_;have I1:Inv X pins σ H {s with heap:=s.heap.push {cls:= .type "range",data:= .fields #[.int lo t,.int hi u,.int 1 v]},toks:=tk}:=I.kept λb o e=>η _ e;refine⟨(s.heap.push {cls:= .type "range",data:= .fields #[.int lo t,.int hi u,.int 1 v]}).objs.size,[(s.heap.push {cls:= .type "range",data:= .fields #[.int lo t,.int hi u,.int 1 v]}).objs.size],_,_,H,rfl,
  I1.kept (t':=tk) λb o e=>η _ e,turn_range _ lo (hi-lo).toNat,?_,λb hb=>?_,q⟩
 ·have e1:lo+((0:Nat):Int)*1=lo:=by simp
  have e2:(((hi-lo).toNat:Nat):Int)-((0:Nat):Int)=Builtin.Range.rangeSize lo hi 1:=by rw[rangeSize_one]; split<;>omega
  show IsRangeIter _ _ (lo+((0:Nat):Int)*1) ((((hi-lo).toNat:Nat):Int)-((0:Nat):Int)) 1;rw[e1,e2];exact π _ rfl
 ·have e:b=(s.heap.push {cls:= .type "range",data:= .fields #[.int lo t,.int hi u,.int 1 v]}).objs.size:=by simpa using hb
  subst e;exact I1.fpOk (θ _) (I1.hok.fresh (θ _))
def Xu (ta:TA):TI:=fun σ H R=>ta σ H λvs H1=> ∃j:Int,vs=[.int j]/\ -(2^62)<=j/\j<2^62/\R (Itr 0 j.toNat) H1
def Xs (ta:TA):TI:=fun σ H R=>ta σ H λvs H1=> ∃i j:Int,vs=[.int i,.int j]/\(-(2^62)<=i/\i<2^62/\ -(2^62)<=j/\j<2^62)/\R (Itr i (j-i).toNat) H1
theorem pi_range1{a:Expr}{ta:TA}{p pos:Pos}(hg:Gl X "range")(hm:X.mg "range"=none)(ha:PA X [a] ta)(hs:starEach [a] X.env=[(false,eval a X.env)]:=by rfl):PI X tg (.Call (.Name "range" p) [a] [] pos) (Xu ta):=by
 intro pins s σ H R I h;refine Call_ (xl I hg hm boot_range (PyProof.Rows.callWith_type1 (thn (ha pos pins s σ H _ I h) λus s1 ⟨vs,H1,I1,r1,q1⟩=>?_) hs rfl));obtain⟨j,e,q1,q2,q⟩:=q1;subst e;cases r1 with
 | cons r rr=>
  cases rr
  obtain⟨t,rfl⟩:=r;exact call_range_1 (Yb I1 (by omega) (by omega) q1 q2 (by simpa using q))
theorem pi_range2(hg:Gl X "range")(hm:X.mg "range"=none)(ha:PA X [a,b] ta)(hs:starEach [a,b] X.env=[(false,eval a X.env),(false,eval b X.env)]:=by rfl)(hs2:starEach [b] X.env=[(false,eval b X.env)]:=by rfl):
  PI X tg (.Call (.Name "range" p) [a,b] [] pos) (Xs ta):=by
 intro pins s σ H R I h;refine Call_ (xl I hg hm boot_range (PyProof.Rows.callWith_type1 (thn (ha pos pins s σ H _ I h) λus s1 ⟨vs,H1,I1,r1,q1⟩=>?_) (by rw[hs,hs2]) (by rw[hs2]; rfl)));obtain⟨i,j,e,⟨q1,q2,q3,q4⟩,q⟩:=q1;subst e;cases r1 with
 | cons r rr=>
  cases rr with
  | cons r' rr=>
   cases rr
   obtain⟨t,rfl⟩:=r;obtain⟨t',rfl⟩:=r';exact call_range_2 (Yb I1 q1 q2 q3 q4 q)
def tFor (wi:TI) (g:TG) (tb:TS):TS:=λD σ H=>wi σ H λJ H1=> ∃W:Nat->Nat->St->Hp->Prop,(∃m,W 0 m σ H1)/\ ∀i m σ H,W i m σ H->
 (J.stop i H/\D.nx σ H)\/(J.go i H/\ ∃N:St->Hp->Prop,(∀σ' H',N σ' H'-> ∃m',m'<m/\W (i+1) m' σ' H')/\ ∀x H',J.yld i H x H'->g x σ H' fun σ2 H2=>tb {D with nx:=N,ct:=N,bk:=D.nx} σ2 H2)
def wT (fp:List Addr) (h:Heap):List (Addr×Obj):=fp.filterMap λb=>(h.get? b).map λo=>(b,o)
theorem yR{h:Heap}(hb:b∈fp)(e:h.get? b=some o):(b,o)∈wT fp h:=List.mem_filterMap.mpr ⟨b,hb,by rw[e]; rfl⟩
theorem of_pinsAt(hp:p∈wT fp h):p.1∈fp/\h.get? p.1=some p.2:=by
 obtain⟨b,hb,e⟩:=List.mem_filterMap.mp hp;cases q:h.get? b with
 | none=>rw[q] at e; cases e
 | some o=>
  rw[q] at e;have e':(b,o)=p:=Γ e;subst e';exact⟨hb,q⟩
theorem Inv.pinned(I:Inv X pins σ H s)(hf: ∀b∈fp,FpOk X pins H b)(ho: ∀b∈fp,∃o,s.heap.get? b=some o/\ ∀v,o.data≠.cell v):Inv X (pins++wT fp s.heap) σ H s:=
 I.pins_of λp hp=>(List.mem_append.mp hp).elim (λz=>I.pin p (ω _ z)) λz=>by
  obtain⟨hb,e⟩:=of_pinsAt z;obtain⟨f0,f1,f2,_⟩:=hf p.1 hb;obtain⟨o,e',d⟩:=ho p.1 hb;rw[e] at e'; cases e';exact⟨e,f0,f1,f2,d⟩
theorem Inv.unpinned(I:Inv X (pins++pl) σ H s):Inv X pins σ H s:=I.pins_of λp hp=>I.pin p (ω _ (List.mem_append_left _ hp))
theorem ye(hp:PassesOwn (model X.prog X.w) X.A X.env X.xe)(hc:X.calm=true)(hi:PI X tg iter wi)(hg:PG X tg g)(hb:PSs X body tb)
  (hs: ∀x,foldedSetIterable iter X.env x=pure x:=by intro _; rfl):PS X (.For tg iter body [] pos) (tFor wi g tb):=by
 intro pins s σ H D I h;refine wpAny_For (thn (hi pins s σ H _ I h) λv s1 h1=>thn h1 λitv s2 h2=>?_) hs;obtain⟨it,fp,tn,J,H2,e,I2,T,st2,f2,W,⟨m0,w0⟩,turn⟩:=h2;subst e
 -- what stays true of the iterator's objects through the loop
 have stat: ∀{H':Hp},(∀b∈fp,H' b=none)-> ∀b∈fp,FpOk X pins H' b:=λhn b hb=>⟨hn b hb,(f2 b hb).2⟩;refine codeAny_forLoop_any (λn s'=> ∃i σ' H',Inv X pins σ' H' s'/\tn i s'.heap/\(∀b∈fp,H' b=none)/\W i n σ' H') ?_ m0 ⟨0,σ,H2,I2,st2,λb hb=>(f2 b hb).1,w0⟩;rintro n s3 ⟨i,σ3,H3,I3,st3,fr3,w3⟩;rcases turn i n σ3 H3 w3 with ⟨stop,qn⟩ | ⟨go,N,hN,step⟩
 ·refine wpAny_passesOwn hp (thn (T.done X rfl rfl rfl hc i pins s3 σ3 H3 X.xe I3 (stat fr3) st3 stop) λr s4 ⟨hr,I4⟩=>?_);subst hr;exact wpAny_execs_nil ⟨σ3,H3,I4,qn⟩
 ·refine wpAny_passesOwn hp (thn (T.item X rfl rfl rfl hc i pins s3 σ3 H3 X.xe I3 (stat fr3) st3 go) λr s4 ⟨u,hr,h4⟩=>?_);subst hr;refine wpAny_passesOwn hp (thn h4 λ_ s5 ⟨x,H5,I5,r5,y5,st5,fr5⟩=>?_);have I5':=I5.pinned (stat fr5) (T.obj _ _ st5);refine wpAny_passesOwn hp (thn (hg _ s5 σ3 H5 x u _ I5' r5 (step x H5 y5)) λ_ s6 ⟨σ6,H6,I6,q6⟩=>?_);refine wpAny_passesOwn hp (thn (hb _ s6 σ6 H6 _ I6 q6) λf s7 q7=>?_);have again: ∀{σ7:St} {H7:Hp},Inv X (pins++wT fp s5.heap) σ7 H7 s7->N σ7 H7-> ∃m,m<n/\ ∃i σ' H',Inv X pins σ' H' s7/\tn i s7.heap/\(∀b∈fp,H' b=none)/\W i m σ' H':=λ{σ7 H7} I7 n7=>by
   obtain⟨m',hm,w7⟩:=hN σ7 H7 n7;refine⟨m',hm,i+1,σ7,H7,I7.unpinned,T.keep _ _ _ st5 λb hb o e=>(I7.pin (b,o) (ω _ (ω _ (yR hb e)))).1,λb hb=>?_,w7⟩;obtain⟨o,e,d⟩:=T.obj _ _ st5 b hb;exact(I7.pin (b,o) (ω _ (ω _ (yR hb e)))).2.1
  cases f with
  | next=>obtain⟨σ7,H7,I7,n7⟩:=q7; exact again I7 n7
  | cont=>obtain⟨σ7,H7,I7,n7⟩:=q7; exact again I7 n7
  | brk=>obtain⟨σ7,H7,I7,q7⟩:=q7; exact⟨σ7,H7,I7.unpinned,q7⟩
  | ret v=>obtain⟨x7,σ7,H7,I7,r7,q7⟩:=q7; exact⟨x7,σ7,H7,I7.unpinned,r7,q7⟩
end
theorem wF{K:W.Frag}{a:Addr}{xs:List V}{g:TG}{tb:TS}{D:Ends}{σ:St}{H:Hp}(Pv:Nat->St->Hp->Prop)(h0:Pv 0 σ H)(hl: ∀i σ H,i<=xs.length->Pv i σ H->SqL K H a xs)
  (hs: ∀i x σ H,xs[i]? =some x->Pv i σ H->g x σ H fun σ2 H2=>tb {D with nx:=Pv (i+1),ct:=Pv (i+1),bk:=D.nx} σ2 H2) (hd: ∀σ H,Pv xs.length σ H->D.nx σ H):
  ∃W:Nat->Nat->St->Hp->Prop,(∃m,W 0 m σ H)/\ ∀i m σ H,W i m σ H->
   ((Itl K a).stop i H/\D.nx σ H)\/((Itl K a).go i H/\ ∃N:St->Hp->Prop,(∀σ' H',N σ' H'-> ∃m',m'<m/\W (i+1) m' σ' H')/\ ∀x H',(Itl K a).yld i H x H'->g x σ H' fun σ2 H2=>tb {D with nx:=N,ct:=N,bk:=D.nx} σ2 H2):=by
 refine⟨λi m σ H=>m=xs.length-i/\i<=xs.length/\Pv i σ H,⟨xs.length,by simp,Ι _,h0⟩,?_⟩;rintro i m σ H ⟨rfl,hi,p⟩;have q:=hl i σ H hi p;by_cases hlt:i<xs.length
 ·refine .inr ⟨⟨xs,xs[i],q,by simp[hlt]⟩,Pv (i+1),fun σ' H' p'=>⟨xs.length-(i+1),by omega,rfl,hlt,p'⟩,λx H' y=>?_⟩;obtain⟨e,y⟩:=y;subst e;exact hs i x σ _ (y xs q) p
 ·have e:i=xs.length:=by omega
  subst e;exact .inl ⟨⟨xs,q,θ _⟩,hd σ H p⟩
theorem Xx{K:W.Frag}{a:Addr}{xs:List V}{g:TG}{tb:TS}{D:Ends}{σ:St}{H:Hp}(Pv:Nat->St->Hp->Prop)(h0:Pv 0 σ H)(hl: ∀i σ H,i<=xs.length->Pv i σ H->SqT K H a xs)
  (hs: ∀i x σ H,xs[i]? =some x->Pv i σ H->g x σ H fun σ2 H2=>tb {D with nx:=Pv (i+1),ct:=Pv (i+1),bk:=D.nx} σ2 H2) (hd: ∀σ H,Pv xs.length σ H->D.nx σ H):
  ∃W:Nat->Nat->St->Hp->Prop,(∃m,W 0 m σ H)/\ ∀i m σ H,W i m σ H->
   ((Itt K a).stop i H/\D.nx σ H)\/((Itt K a).go i H/\ ∃N:St->Hp->Prop,(∀σ' H',N σ' H'-> ∃m',m'<m/\W (i+1) m' σ' H')/\ ∀x H',(Itt K a).yld i H x H'->g x σ H' fun σ2 H2=>tb {D with nx:=N,ct:=N,bk:=D.nx} σ2 H2):=by
 refine⟨λi m σ H=>m=xs.length-i/\i<=xs.length/\Pv i σ H,⟨xs.length,by simp,Ι _,h0⟩,?_⟩;rintro i m σ H ⟨rfl,hi,p⟩;have q:=hl i σ H hi p;by_cases hlt:i<xs.length
 ·refine .inr ⟨⟨xs,xs[i],q,by simp[hlt]⟩,Pv (i+1),fun σ' H' p'=>⟨xs.length-(i+1),by omega,rfl,hlt,p'⟩,λx H' y=>?_⟩;obtain⟨e,y⟩:=y;subst e;exact hs i x σ _ (y xs q) p
 ·have e:i=xs.length:=by omega
  subst e;exact .inl ⟨⟨xs,q,θ _⟩,hd σ H p⟩
theorem yw{lo:Int}{n:Nat}{g:TG}{tb:TS}{D:Ends}{σ:St}{H:Hp}(Pv:Nat->St->Hp->Prop)(h0:Pv 0 σ H)
  (hs: ∀i σ H,i<n->Pv i σ H->g (.int (lo+i)) σ H fun σ2 H2=>tb {D with nx:=Pv (i+1),ct:=Pv (i+1),bk:=D.nx} σ2 H2) (hd: ∀σ H,Pv n σ H->D.nx σ H):
  ∃W:Nat->Nat->St->Hp->Prop,(∃m,W 0 m σ H)/\ ∀i m σ H,W i m σ H->
   ((Itr lo n).stop i H/\D.nx σ H)\/((Itr lo n).go i H/\ ∃N:St->Hp->Prop,(∀σ' H',N σ' H'-> ∃m',m'<m/\W (i+1) m' σ' H')/\ ∀x H',(Itr lo n).yld i H x H'->g x σ H' fun σ2 H2=>tb {D with nx:=N,ct:=N,bk:=D.nx} σ2 H2):=by
 refine⟨λi m σ H=>m=n-i/\i<=n/\Pv i σ H,⟨n,by simp,Ι _,h0⟩,?_⟩;rintro i m σ H ⟨rfl,hi,p⟩;by_cases hlt:i<n
 ·refine .inr ⟨hlt,Pv (i+1),fun σ' H' p'=>⟨n-(i+1),by omega,rfl,hlt,p'⟩,λx H' y=>?_⟩;obtain⟨e,y⟩:=y;subst e y;exact hs i σ _ hlt p
 ·have e:i=n:=by omega
  subst e;exact .inl ⟨θ _,hd σ H p⟩
abbrev R2:=V->V->Hp->VK->Prop
def OpR (X:Cx) (f:Value->Value->Sem Value) (r:R2):Prop:=
 ∀(pins:List (Addr×Obj)) (s:Shared) (σ:St) (H:Hp) (x y:V) (v u:Value) (Q:VK),Inv X pins σ H s->RelV x v->RelV y u->r x y H Q->
  wpAny (model X.prog X.w) X.A (f v u) (EP X pins σ Q) X.xe s
def UnR (X:Cx) (f:Value->Sem Value) (r:V->Hp->VK->Prop):Prop:=
 ∀(pins:List (Addr×Obj)) (s:Shared) (σ:St) (H:Hp) (x:V) (v:Value) (Q:VK),Inv X pins σ H s->RelV x v->r x H Q->
  wpAny (model X.prog X.w) X.A (f v) (EP X pins σ Q) X.xe s
def yk (X:Cx) (f:Value) (r:List V->Hp->VK->Prop):Prop:=
 ∀(pins:List (Addr×Obj)) (s:Shared) (σ:St) (H:Hp) (xs:List V) (us:List Value) (Q:VK),Inv X pins σ H s->Vals xs us->r xs H Q->
  wpAny (model X.prog X.w) X.A (call f us) (EP X pins σ Q) X.xe s
def tOp (r:R2) (ta tb:TE):TE:=fun σ H Q=>ta σ H λx H1=>tb σ H1 λy H2=>r x y H2 Q
def tUn (r:V->Hp->VK->Prop) (ta:TE):TE:=fun σ H Q=>ta σ H λx H1=>r x H1 Q
def rI (C:Int->Int->Prop) (g:Int->Int->V):R2:=λx y H Q=> ∃i j,x= .int i/\y= .int j/\C i j/\Q (g i j) H
def rI0 (g:Int->Int->V):R2:=λx y H Q=> ∃i j,x= .int i/\y= .int j/\Q (g i j) H
def rU (g:Int->V):V->Hp->VK->Prop:=λx H Q=> ∃i,x= .int i/\Q (g i) H
section
variable {X:Cx} {a b c:Expr} {ta tb tc:TE} {pos:Pos}
theorem binT(ha:PE X a ta)(hb:PE X b tb){R:V->V->Hp->Prop}(I:Inv X pins σ H s)
  (h:ta σ H λx H1=>tb σ H1 λy H2=>R x y H2) {Q:Value->Shared->Prop} {f:Value->Value->Sem Value}
  (hf: ∀v u s2 x y H2,Inv X pins σ H2 s2->RelV x v->RelV y u->R x y H2->wpAny (model X.prog X.w) X.A (f v u) Q X.xe s2):
  wpAny (model X.prog X.w) X.A (eval a X.env) (λv s₁=>wpAny (model X.prog X.w) X.A (eval b X.env) (λu s₂=>wpAny (model X.prog X.w) X.A (f v u) Q X.xe s₂) X.xe s₁) X.xe s:=by
 refine thn (ha pins s σ H _ I h) λv s1 ⟨x,H1,I1,r1,q1⟩=>?_;refine thn (hb pins s1 σ H1 _ I1 q1) λu s2 ⟨y,H2,I2,r2,q2⟩=>?_;exact hf v u s2 x y H2 I2 r1 r2 q2
theorem zo(ho:OpR X (binaryOp op) r)(ha:PE X a ta)(hb:PE X b tb):PE X (.BinOp a op b pos) (tOp r ta tb):=by
 intro pins s σ H Q I h;exact wpAny_BinOp (binT ha hb I h λv u s2 x y H2 I2 rx ry q=>ho pins s2 σ H2 x y v u Q I2 rx ry q)
theorem xQ{r:V->Hp->VK->Prop}(ho:UnR X (unaryOp op) r)(ha:PE X a ta):PE X (.UnaryOp op a pos) (tUn r ta):=by
 intro pins s σ H Q I h;exact UnaryOp_ (thn (ha pins s σ H _ I h) λv s1 ⟨x,H1,I1,r1,q1⟩=>ho pins s1 σ H1 x v Q I1 r1 q1)
theorem opI{f:Value->Value->Sem Value}{C:Int->Int->Prop}{g:Int->Int->Int}
  (rule: ∀(i j:Int) (t u:Tok) (s:Shared) (Q:Value->Shared->Prop) (E:Value->Shared->Prop),C i j->Q (.int (g i j) s.toks) {s with toks:=s.toks+1}->wpAny (model X.prog X.w) X.A (f (.int i t) (.int j u)) Q E s):
  OpR X f (rI C λi j=> .int (g i j)):=by
 intro pins s σ H x y v u Q I rx ry h;obtain⟨i,j,rfl,rfl,hc,q⟩:=h;obtain⟨t,rfl⟩:=rx;obtain⟨t',rfl⟩:=ry;exact rule i j t t' s _ _ hc ⟨.int (g i j),H,I.tok _,⟨_,rfl⟩,q⟩
theorem opI0{f:Value->Value->Sem Value}{g:Int->Int->Int}
  (rule: ∀(i j:Int) (t u:Tok) (s:Shared) (Q:Value->Shared->Prop) (E:Value->Shared->Prop),Q (.int (g i j) s.toks) {s with toks:=s.toks+1}->wpAny (model X.prog X.w) X.A (f (.int i t) (.int j u)) Q E s):
  OpR X f (rI0 λi j=> .int (g i j)):=by
 intro pins s σ H x y v u Q I rx ry h;obtain⟨i,j,rfl,rfl,q⟩:=h;obtain⟨t,rfl⟩:=rx;obtain⟨t',rfl⟩:=ry;exact rule i j t t' s _ _ ⟨.int (g i j),H,I.tok _,⟨_,rfl⟩,q⟩
theorem opB0{f:Value->Value->Sem Value}{g:Int->Int->Bool}
  (rule: ∀(i j:Int) (t u:Tok) (s:Shared) (Q:Value->Shared->Prop) (E:Value->Shared->Prop),Q (.bool (g i j)) s->wpAny (model X.prog X.w) X.A (f (.int i t) (.int j u)) Q E s):
  OpR X f (rI0 λi j=> .bl (g i j)):=by
 intro pins s σ H x y v u Q I rx ry h;obtain⟨i,j,rfl,rfl,q⟩:=h;obtain⟨t,rfl⟩:=rx;obtain⟨t',rfl⟩:=ry;exact rule i j t t' s _ _ ⟨.bl (g i j),H,I,rfl,q⟩
def CDiv (i j:Int):Prop:=0<j/\j<1073741824
def CPow (i j:Int):Prop:=0<=j/\j<=1000000/\i.natAbs<2^64
def CMul (i j:Int):Prop:=(-(2^64)<i/\i<2^64)\/(-(2^64)<j/\j<2^64)
theorem CMul.ok(h:CMul i j):IntMulOk i j:=by
 rcases h with ⟨h1,h2⟩ | ⟨h1,h2⟩
 ·exact .of_left (intBits_le_64 h1 h2)
 ·exact .of_right (intBits_le_64 h1 h2)
theorem zY:OpR X (binaryOp .Add) (rI0 λi j=> .int (i+j)):=opI0 λ_ _ _ _ _ _ _ q=>add_int q
theorem yZ:OpR X (binaryOp .Sub) (rI0 λi j=> .int (i-j)):=opI0 λ_ _ _ _ _ _ _ q=>sub_int q
theorem y3:OpR X (binaryOp .Mult) (rI CMul λi j=> .int (i*j)):=opI λ_ _ _ _ _ _ _ hc q=>mul_int q hc.ok
theorem ZI:OpR X (binaryOp .FloorDiv) (rI CDiv λi j=> .int (i / j)):=opI λi j _ _ _ _ _ hc q=>by
 have h1:(0:Int)<j:=hc.1;have h2:j<1073741824:=hc.2;exact floordiv_int (by omega) (by rw[Int.fdiv_eq_ediv_of_nonneg i (by omega)]; exact q) (.inl (PyProof.noPylong_small (by omega)))
theorem xk:OpR X (binaryOp .Mod) (rI (λ_ j=>0<j) λi j=> .int (i%j)):=opI λi j _ _ _ _ _ hc q=>by
 have h1:(0:Int)<j:=hc;exact mod_int' (by omega) (by rw[Int.fmod_eq_emod_of_nonneg i (by omega)]; exact q)
theorem op_pow:OpR X (binaryOp .Pow) (rI CPow λi j=> .int (i^j.toNat)):=opI λ_ _ _ _ _ _ _ hc q=>pow_int_small hc.1 hc.2.1 hc.2.2 q
theorem unI{f:Value->Sem Value}{g:Int->Int}
  (rule: ∀(i:Int) (t:Tok) (s:Shared) (Q:Value->Shared->Prop) (E:Value->Shared->Prop),Q (.int (g i) s.toks) {s with toks:=s.toks+1}->wpAny (model X.prog X.w) X.A (f (.int i t)) Q E s):
  UnR X f (rU λi=> .int (g i)):=by
 intro pins s σ H x v Q I rx h;obtain⟨i,rfl,q⟩:=h;obtain⟨t,rfl⟩:=rx;exact rule i t s _ _ ⟨.int (g i),H,I.tok _,⟨_,rfl⟩,q⟩
theorem yX:UnR X (unaryOp .USub) (rU λi=> .int (-i)):=unI λ_ _ _ _ _ q=>neg_int q
def scal:V->V->Bool
 | .non,.non=>true | .non,.int _=>true | .int _,.non=>true | .non,.bl _=>true | .bl _,.non=>true | .non,.str _=>true | .str _,.non=>true
 | .int _,.int _=>true | .bl _,.bl _=>true | .str _,.str _=>true | .byt _,.byt _=>true
 | .int _,.str _=>true | .str _,.int _=>true | .bl _,.str _=>true | .str _,.bl _=>true
 | _,_=>false
def rEq:R2:=λx y H Q=>scal x y=true/\Q (.bl (decide (x=y))) H
def rNe:R2:=λx y H Q=>scal x y=true/\Q (.bl (!decide (x=y))) H
theorem XB:decide (V.int i=V.int j)=(i==j):=by
 rw[Bool.eq_iff_iff];simp
theorem Wr:decide (V.bl i=V.bl j)=(i==j):=by
 rw[Bool.eq_iff_iff];simp
theorem Xz:decide (V.str i=V.str j)=(i==j):=by
 rw[Bool.eq_iff_iff];simp
theorem XD:decide (V.byt i=V.byt j)=(i.toList==j.toList):=by
 rw[Bool.eq_iff_iff];cases i
 cases j
 simp
theorem zH(I:Inv X pins σ H s)(q:Q (.bl k) H)(e:k=k'):EP X pins σ Q (.bool k') s:=by
 subst e;exact⟨.bl k,H,I,rfl,q⟩
theorem vG:OpR X (compareOp .Eq) rEq:=by
 intro pins s σ H x y v u Q I rx ry h;obtain⟨hs,q⟩:=h;cases x with
 | non=>
  cases rx
  cases y with
  | non=>cases ry; exact PySem.EqNone.eq_none_none (zH I q (by simp))
  | bl j=>cases ry; exact PySem.EqNone.eq_none_bool (zH I q (by simp))
  | int j=>obtain⟨t',rfl⟩:=ry; exact PySem.EqNone.eq_none_int (zH I q (by simp))
  | str j=>obtain⟨t',rfl⟩:=ry; exact PySem.EqNone.eq_none_str (zH I q (by simp))
  | _=>exact absurd (show false=true from hs) Ζ
 | bl i=>
  cases rx
  cases y with
  | non=>cases ry; exact PySem.EqNone.eq_bool_none (zH I q (by simp))
  | bl j=>cases ry; exact eq_bool (zH I q Wr)
  | str j=>obtain⟨t',rfl⟩:=ry; exact PySem.EqMixed.eq_bool_str (zH I q (by simp))
  | _=>exact absurd (show false=true from hs) Ζ
 | int i=>
  obtain⟨t,rfl⟩:=rx;cases y with
  | non=>cases ry; exact PySem.EqNone.eq_int_none (zH I q (by simp))
  | int j=>obtain⟨t',rfl⟩:=ry; exact eq_int (zH I q XB)
  | str j=>obtain⟨t',rfl⟩:=ry; exact PySem.EqMixed.eq_int_str (zH I q (by simp))
  | _=>exact absurd (show false=true from hs) Ζ
 | str i=>
  obtain⟨t,rfl⟩:=rx;cases y with
  | non=>cases ry; exact PySem.EqNone.eq_str_none (zH I q (by simp))
  | bl j=>cases ry; exact PySem.EqMixed.eq_str_bool (zH I q (by simp))
  | int j=>obtain⟨t',rfl⟩:=ry; exact PySem.EqMixed.eq_str_int (zH I q (by simp))
  | str j=>obtain⟨t',rfl⟩:=ry; exact eq_str (zH I q Xz)
  | _=>exact absurd (show false=true from hs) Ζ
 | byt i=>
  obtain⟨t,rfl⟩:=rx;cases y with
  | byt j=>obtain⟨t',rfl⟩:=ry; exact PySem.W.eq_bytes (zH I q XD)
  | _=>exact absurd (show false=true from hs) Ζ
 | _=>cases y<;>exact absurd (show false=true from hs) Ζ
theorem wC:OpR X (compareOp .NotEq) rNe:=by
 intro pins s σ H x y v u Q I rx ry h;obtain⟨hs,q⟩:=h;cases x with
 | non=>
  cases rx
  cases y with
  | non=>cases ry; exact PySem.EqNone.ne_none_none (zH I q (by simp))
  | bl j=>cases ry; exact PySem.EqNone.ne_none_bool (zH I q (by simp))
  | int j=>obtain⟨t',rfl⟩:=ry; exact PySem.EqNone.ne_none_int (zH I q (by simp))
  | str j=>obtain⟨t',rfl⟩:=ry; exact PySem.EqNone.ne_none_str (zH I q (by simp))
  | _=>exact absurd (show false=true from hs) Ζ
 | bl i=>
  cases rx
  cases y with
  | non=>cases ry; exact PySem.EqNone.ne_bool_none (zH I q (by simp))
  | bl j=>cases ry; exact ne_bool (zH I q (congrArg not Wr))
  | str j=>obtain⟨t',rfl⟩:=ry; exact PySem.EqMixed.ne_bool_str (zH I q (by simp))
  | _=>exact absurd (show false=true from hs) Ζ
 | int i=>
  obtain⟨t,rfl⟩:=rx;cases y with
  | non=>cases ry; exact PySem.EqNone.ne_int_none (zH I q (by simp))
  | int j=>obtain⟨t',rfl⟩:=ry; exact ne_int (zH I q (congrArg not XB))
  | str j=>obtain⟨t',rfl⟩:=ry; exact PySem.EqMixed.ne_int_str (zH I q (by simp))
  | _=>exact absurd (show false=true from hs) Ζ
 | str i=>
  obtain⟨t,rfl⟩:=rx;cases y with
  | non=>cases ry; exact PySem.EqNone.ne_str_none (zH I q (by simp))
  | bl j=>cases ry; exact PySem.EqMixed.ne_str_bool (zH I q (by simp))
  | int j=>obtain⟨t',rfl⟩:=ry; exact PySem.EqMixed.ne_str_int (zH I q (by simp))
  | str j=>obtain⟨t',rfl⟩:=ry; exact ne_str (zH I q (congrArg not Xz))
  | _=>exact absurd (show false=true from hs) Ζ
 | byt i=>
  obtain⟨t,rfl⟩:=rx;cases y with
  | byt j=>obtain⟨t',rfl⟩:=ry; exact PySem.W.ne_bytes (zH I q (congrArg not XD))
  | _=>exact absurd (show false=true from hs) Ζ
 | _=>cases y<;>exact absurd (show false=true from hs) Ζ
theorem wD:OpR X (compareOp .Lt) (rI0 λi j=> .bl (decide (i<j))):=opB0 λ_ _ _ _ _ _ _ q=>lt_int q
theorem WV:OpR X (compareOp .LtE) (rI0 λi j=> .bl (decide (i<=j))):=opB0 λ_ _ _ _ _ _ _ q=>le_int q
theorem vF:OpR X (compareOp .Gt) (rI0 λi j=> .bl (decide (j<i))):=opB0 λ_ _ _ _ _ _ _ q=>gt_int q
theorem Yg:OpR X (compareOp .GtE) (rI0 λi j=> .bl (decide (j<=i))):=opB0 λ_ _ _ _ _ _ _ q=>ge_int q
theorem zw(b:Expr)(h:op≠.In:=by decide)(h2:op≠.NotIn:=by decide):behindInMarks op b=false:=by
 have e1:(op==CmpOp.In)=false:=by cases op<;>first | rfl | exact absurd rfl h
 have e2:(op==CmpOp.NotIn)=false:=by cases op<;>first | rfl | exact absurd rfl h2
 cases b<;>simp[behindInMarks,e1,e2]
theorem y8(ho:OpR X (compareOp op) r)(ha:PE X a ta)(hb:PE X b tb)(hm:behindInMarks op b=false):PE X (.Compare a [op] [b] pos) (tOp r ta tb):=by
 intro pins s σ H Q I h;exact wpAny_Compare1 (binT ha hb I h λv u s2 x y H2 I2 rx ry q=>ho pins s2 σ H2 x y v u Q I2 rx ry q) hm
def XV (t:TE):TT:=fun σ H Q=>t σ H λx H'=> ∃k,x= .bl k/\Q k H'
theorem zv(ho:OpR X (compareOp op) r)(ha:PE X a ta)(hb:PE X b tb)(hm:behindInMarks op b=false):PT X (.Compare a [op] [b] pos) (XV (tOp r ta tb)):=by
 intro pins s σ H Q I h;refine wpAny_isTrue_Compare1 (thn (ha pins s σ H _ I h) λv s1 ⟨x,H1,I1,r1,q1⟩=>thn (hb pins s1 σ H1 _ I1 q1) λu s2 ⟨y,H2,I2,r2,q2⟩=>
  thn (ho pins s2 σ H2 x y v u _ I2 r1 r2 q2) λc s3 ⟨z,H3,I3,r3,k,e,q3⟩=>?_) hm
 subst e;cases r3
 exact wpAny_truthy_bool ⟨H3,I3,q3⟩
def XX (r r':R2) (ta tb tc:TE):TE:=fun σ H Q=>ta σ H λx H1=>tb σ H1 λy H2=>r x y H2 λz H3=> ∃k,z= .bl k/\
 (if k=true then tc σ H3 λw' H4=>r' y w' H4 Q else Q (.bl false) H3)
theorem pt_chain(ho:OpR X (compareOp op) r)(ho':OpR X (compareOp op') r')(ha:PE X a ta)(hb:PE X b tb)(hc:PE X c tc)
  (hm:lastMarks [op,op'] [b,c]=false:=by with_unfolding_all rfl):PT X (.Compare a [op,op'] [b,c] pos) (XV (XX r r' ta tb tc)):=by
 intro pins s σ H Q I h;refine isTrue_chain (thn (ha pins s σ H _ I h) λv s1 ⟨x,H1,I1,r1,q1⟩=>test_link (thn (hb pins s1 σ H1 _ I1 q1) λu s2 ⟨y,H2,I2,r2,q2⟩=>
  thn (ho pins s2 σ H2 x y v u _ I2 r1 r2 q2) λd s3 ⟨z,H3,I3,r3,k,e,q3⟩=>?_)) hm
 subst e;cases r3
 refine wpAny_truthy_bool ?_;cases k with
 | false=>
  obtain⟨k',e',q'⟩:=q3;cases e'
  exact ite_ff ⟨H3,I3,q'⟩
 | true=>
  refine ite_tt (test_last (thn (hc pins s3 σ H3 _ I3 q3) λw' s4 ⟨z',H4,I4,r4,q4⟩=>thn (ho' pins s4 σ H4 y z' u w' _ I4 r2 r4 q4) λd' s5 ⟨z2,H5,I5,r5,k2,e2,q5⟩=>?_));subst e2;cases r5
  exact wpAny_truthy_bool ⟨H5,I5,q5⟩
theorem vM:(sizeLine:Nat)<2^63:=by rw[sizeLine_eq]; decide
theorem v4(r:Vals [x] us): ∃u,us=[u]/\RelV x u:=by
 cases r with
 | cons r1 r2=>cases r2; exact⟨_,rfl,r1⟩
theorem vals2(r:Vals [x,y] us): ∃u w',us=[u,w']/\RelV x u/\RelV y w':=by
 cases r with
 | cons r1 r2=>
  cases r2 with
  | cons r3 r4=>cases r4; exact⟨_,_,rfl,r1,r3⟩
theorem wL:yk X (.builtin "abs") (λxs H Q=> ∃i,xs=[.int i]/\Q (.int (if i<0 then -i else i)) H):=by
 intro pins s σ H xs us Q I r h;obtain⟨i,rfl,q⟩:=h;obtain⟨u,rfl,t,rfl⟩:=v4 r;exact call_abs_int λu tk=>⟨.int (if i<0 then -i else i),H,I.tok _,⟨_,rfl⟩,q⟩
theorem Zp(hc:X.calm=true):yk X (.builtin "min") (λxs H Q=> ∃i j,xs=[.int i,.int j]/\Q (.int (if j<i then j else i)) H):=by
 intro pins s σ H xs us Q I r h;obtain⟨i,j,rfl,q⟩:=h;obtain⟨u,w',rfl,⟨t,rfl⟩,⟨t',rfl⟩⟩:=vals2 r;refine min_two_ints (I.ok.hd hc) λh' tk k=>⟨_,H,I.kept k,?_,q⟩;by_cases hj:j<i
 ·rw[if_pos hj,if_pos hj]; exact⟨_,rfl⟩
 ·rw[if_neg hj,if_neg hj]; exact⟨_,rfl⟩
theorem Zq:yk X (.type "int") (λxs H Q=>(∃i,xs=[.int i]/\Q (.int i) H)\/ ∃k,xs=[.bl k]/\Q (.int (if k then 1 else 0)) H):=by
 intro pins s σ H xs us Q I r h;rcases h with ⟨i,rfl,q⟩ | ⟨k,rfl,q⟩
 ·obtain⟨u,rfl,t,rfl⟩:=v4 r;exact call_int_int ⟨.int i,H,I,⟨_,rfl⟩,q⟩
 ·obtain⟨u,rfl,r1⟩:=v4 r;cases r1
  exact call_int_bool ⟨.int (if k then 1 else 0),H,I.tok _,⟨_,rfl⟩,q⟩
end
structure ObjM (h:Heap) (x dx C:Addr) (mA:Str->Option Value):Prop where
 obj:h.get? x=some (PySem.W.instObj C dx)
 ns:h.Ns1 dx mA
 ne:dx≠x
theorem lookIn_ns{h:Heap}{mA:Str->Option Value}(n:h.Ns1 dx mA): ∃od,h.get? dx=some od/\ ∀name,PySem.W.lookIn name od=some (mA name):=by
 obtain⟨o,es,ep,ho,hd,hk,_,hm⟩:=n;refine⟨o,ho,λname=>?_⟩;have e:=hm name;unfold nsFind findBy at e;rw[<-Array.find?_toList] at e;unfold PySem.W.lookIn;rw[hd];dsimp only;split
 ·rename_i y q
  rw[q] at e;exact congrArg some e
 ·rename_i q
  rw[q] at e;have a:es.toList.any (·.refKey)=false:=by
   rw[List.any_eq_false];intro y hy;obtain⟨z,t,hkey⟩:=hk y (Array.mem_toList_iff.mp hy);simp[DictEntry.refKey,hkey]
  have a': ¬es.toList.any (·.refKey)=true:=by rw[a]; exact Ζ
  rw[if_neg a'];exact congrArg some e
theorem ObjM.look{mA:Str->Option Value}(I:ObjM h x dx C mA): ∃od,PySem.W.InstAt h x (PySem.W.instObj C dx) C (some od)/\ ∀name,PySem.W.lookIn name od=some (mA name):=
 let ⟨od,ho,hl⟩:=lookIn_ns I.ns
 ⟨od,⟨I.obj,rfl,rfl,ho⟩,hl⟩
section
variable {prog:Program} {w:World} {A:Around} {E:Value->Shared->Prop} {s:Shared} {K:W.Frag} {x dx C f:Addr} {mA:Str->Option Value} {name:Str} {v:Value}
theorem get_map{Q:Value->Shared->Prop}(X:K.In s.heap)(I:ObjM s.heap x dx C mA)(hg:PySem.W.plainGet K C name=true)(hh:PySem.W.hasDictIn K C=true)
  (ha:PySem.W.findIn K (.ref C) name=some none) (hv:mA name=some v) (hv':PySem.W.handedIn v=true) (h:Q v {s with toks:=s.toks+1}):
  wpAny (model prog w) A (getAttr (.ref x) name expr) Q E s:=by
 obtain⟨od,J,hl⟩:=I.look;exact PySem.W.get_value X J (PySem.W.plainGet_of hg).1 (PySem.W.findObj_own hh ha rfl (by rw[hl,hv])) hv' h
theorem get_meth{Q:Value×List Value->Shared->Prop}(X:K.In s.heap)(I:ObjM s.heap x dx C mA)(hg:PySem.W.plainGet K C name=true)
  (hf:PySem.W.findIn K (.ref C) name=some (some (.ref f))) (ht:PySem.W.isFn K (.ref f)=true) (hv:mA name=none) (h:Q (.ref f,[.ref x]) s):
  wpAny (model prog w) A (getMethod (.ref x) name pl) Q E s:=by
 obtain⟨od,J,hl⟩:=I.look;exact PySem.W.method_fn X J (PySem.W.plainGet_of hg).1 (PySem.W.plainGet_of hg).2 hf (beq_iff_eq.mp ht) (by show(PySem.W.lookIn name od).map (·.isSome)=some false; rw[hl,hv]; rfl) h
theorem set_map{Q:Unit->Shared->Prop}(X:K.In s.heap)(I:ObjM s.heap x dx C mA)
  (hs:PySem.W.findIn K (.ref C) "__setattr__"=some (some (.builtin "object.__setattr__"))) (hp:PySem.W.plainOver K C=true) (ht:PySem.W.takerIn K C name=some none) (hh:PySem.W.hasDictIn K C=true)
  (hw:PySem.Within mA ns) (hsz:ns.length<=sizeLine)
  (h: ∀h',ObjM h' x dx C (λy=>if y=name then some v else mA y)->Heap.SameBut dx s.heap h'->Q () {s with heap:=h',toks:=s.toks+2}):
  wpAny (model prog w) A (setAttr (.ref x) name v) Q E s:=by
 obtain⟨od,J,hl⟩:=I.look;refine PySem.W.set_plain X J hs (PySem.W.osa_open (s:={s with toks:=s.toks+1}) (r:=none) X J hp ht λb=>?_);obtain⟨cd,hc,hd'⟩:=PySem.W.any_some hh;have hx:s.heap.get? x=some ⟨.ref C,some dx,.plain,#[]⟩:=I.obj;refine γ (ι (γ (γ (wpAny_loadPart hx (γ (PySem.W.Looks.here (s:={s with toks:=s.toks+1}) (PySem.W.looks_clsIn X hc) ?_))))));rw[hd'];refine ι (a:=some dx) (γ (ι (γ ?_)));refine wpAny_nsSet1 (s:={s with toks:=s.toks+1}) I.ns λh' hn2 hs2=>?_;obtain⟨oD,esD,epD,hoD,hdD,hcD⟩:=hn2.count (PySem.Within.cons name v hw);refine γ (wpAny_lookBehind hoD (by rw[hdD]; exact pastItsLine_dict (Τ hcD (by rw[List.length_cons]; omega))) ?_);exact ι (h _ ⟨(hs2.2 _ (Ne.symm I.ne)).trans I.obj,hn2,I.ne⟩ hs2)
theorem make_map{R:Result->Shared->Prop}(X:K.In s.heap)(hm:PySem.W.makesIn K C=true)
  (hi:PySem.W.findIn K (.ref C) "__init__"=some (some (.ref f))) (hf:PySem.W.typeIn K (.ref f)=some (.type "function"))
  (h:codeAny (model prog w) (A.under (.builtin "type.__call__" ⟨.ref C::vs,kw⟩)) (.call (.ref f) ⟨.ref (s.heap.objs.size+1)::vs,kw⟩) (PySem.W.InitBack (s.heap.objs.size+1) R)
   {s with heap:=(s.heap.push PySem.W.emptyDict).push (PySem.W.instObj C s.heap.objs.size)}):
  codeAny (model prog w) A (.call (.ref C) ⟨vs,kw⟩) R s:=by
 obtain⟨hh,g,d,t,os⟩:=s;exact PySem.W.make_core (PySem.W.makes_of X hm) (PySem.W.looks_findIn X hi) (λself=>PySem.W.bind_fn X self hf) (.inl rfl) h
end
def putF (f:Str) (v:V):List (Str×V)->List (Str×V)
 | []=>[(f,v)]
 | (g,x)::r=>if g=f then (g,v)::r else (g,x)::putF f v r
theorem va(f g:Str)(v:V): ∀fs:List (Str×V),(putF f v fs).lookup g=if g=f then some v else fs.lookup g
 | []=>by
  show List.lookup g [(f,v)]=_;by_cases h:g=f
  ·have hb:(g==f)=true:=beq_iff_eq.mpr h;simp only[List.lookup,hb,if_pos h]
  ·have hb:(g==f)=false:=beq_eq_false_iff_ne.mpr h;simp only[List.lookup,hb,if_neg h]
 | (k,x)::r=>by
  have ih:=va f g v r;rw[show putF f v ((k,x)::r)=(if k=f then (k,v)::r else (k,x)::putF f v r) from rfl];by_cases hk:k=f
  ·rw[if_pos hk];by_cases h:g=k
   ·have hb:(g==k)=true:=beq_iff_eq.mpr h;simp only[List.lookup,hb,if_pos (h.trans hk)]
   ·have hb:(g==k)=false:=beq_eq_false_iff_ne.mpr h;simp only[List.lookup,hb,if_neg (λe:g=f=>h (e.trans hk.symm))]
  ·rw[if_neg hk];by_cases h:g=k
   ·have hb:(g==k)=true:=beq_iff_eq.mpr h;simp only[List.lookup,hb,if_neg (λe:g=f=>hk (h.symm.trans e))]
   ·have hb:(g==k)=false:=beq_eq_false_iff_ne.mpr h;simp only[List.lookup,hb];exact ih
theorem wX(f:Str)(v:V): ∀fs:List (Str×V),f∈(putF f v fs).map (·.1)/\ ∀g,g∈fs.map (·.1)->g∈(putF f v fs).map (·.1)
 | []=>⟨by simp[putF],λg h=>by simp at h⟩
 | (k,x)::r=>by
  obtain⟨i1,i2⟩:=wX f v r;rw[show putF f v ((k,x)::r)=(if k=f then (k,v)::r else (k,x)::putF f v r) from rfl];by_cases hk:k=f
  ·rw[if_pos hk];subst hk;exact⟨by simp,λg h=>by simpa using h⟩
  ·rw[if_neg hk];refine⟨?_,λg h=>?_⟩
   ·rw[List.map_cons];exact χ _ i1
   ·rw[List.map_cons] at h ⊢;rcases Φ.mp h with e | e
    ·exact Φ.mpr (.inl e)
    ·exact χ _ (i2 g e)
theorem vb(f:Str)(v:V): ∀fs:List (Str×V),(putF f v fs).length<=fs.length+1
 | []=>by simp[putF]
 | (k,x)::r=>by
  have ih:=vb f v r;rw[show putF f v ((k,x)::r)=(if k=f then (k,v)::r else (k,x)::putF f v r) from rfl];by_cases hk:k=f
  ·rw[if_pos hk,List.length_cons,List.length_cons]; omega
  ·rw[if_neg hk,List.length_cons,List.length_cons]; omega
theorem RelO.some_of(r:RelO (some v) o): ∃u,o=some u/\RelV v u:=by
 cases o with
 | none=>exact(show False from r).elim
 | some u=>exact⟨u,rfl,r⟩
theorem RelO.none_of(r:RelO none o):o=none:=by
 cases o with
 | none=>rfl
 | some u=>exact(show False from r).elim
theorem handed_of(r:RelV v u):PySem.W.handedIn u=true:=by
 cases v with
 | non=>cases (show u=Value.none from r); rfl
 | bl b=>cases (show u=Value.bool b from r); rfl
 | int i=>obtain⟨t,e⟩:=(show∃t,u=Value.int i t from r); cases e; rfl
 | str x=>obtain⟨t,e⟩:=(show∃t,u=Value.str x t from r); cases e; rfl
 | byt b=>obtain⟨t,e⟩:=(show∃t,u=Value.bytes b t from r); cases e; rfl
 | flt b=>obtain⟨t,e⟩:=(show∃t,u=Value.float b t from r); cases e; rfl
 | ref a=>cases (show u=Value.ref a from r); rfl
 | ty n=>cases (show u=Value.type n from r); rfl
section
variable {P:Program} {w:World} {H H':Hp} {h h':Heap} {a C dx:Addr} {fs fs':List (Str×V)}
theorem ZP(hok:HOk P w H h)(e:H a=some (.ins C dx fs)): ∃mA,ObjM h a dx C mA/\(∀f,RelO (fs.lookup f) (mA f))/\PySem.Within mA (fs.map (·.1))/\fs.length<=1000/\H dx=some (.own a):=by
 obtain⟨d,z,ne,ob,mA,n,r,q⟩:=(show ObjOk P w H h a (.ins C dx fs) from hok a _ e);exact⟨mA,⟨ob,n,ne⟩,r,q,z,d⟩
end
structure Cls (K:W.Frag) (C:Addr):Prop where
 pg:PySem.W.plainGet K C Str.empty=true
 hd:PySem.W.hasDictIn K C=true
 po:PySem.W.plainOver K C=true
 sa:PySem.W.findIn K (.ref C) "__setattr__"=some (some (.builtin "object.__setattr__"))
theorem Cls.get{K:W.Frag}{C:Addr}(c:Cls K C)(f:Str):PySem.W.plainGet K C f=true:=c.pg
def NoAttr (K:W.Frag) (C:Addr) (f:Str):Prop:=PySem.W.findIn K (.ref C) f=some none
theorem NoAttr.taker{K:W.Frag}{C:Addr}{f:Str}(n:NoAttr K C f):PySem.W.takerIn K C f=some none:=by
 unfold PySem.W.takerIn;rw[show PySem.W.findIn K (.ref C) f=some none from n];rfl
structure Con (K:W.Frag) (C:Addr) (f:Str) (v:V) (u:Value):Prop where
 at_:PySem.W.findIn K (.ref C) f=some (some u)
 rel:RelV v u
 get:PySem.W.specialIn K u "__get__"=some none
 cp:PySem.W.copiedNames.contains f=false
structure Meth (K:W.Frag) (C:Addr) (m:Str) (f:Addr):Prop where
 at_:PySem.W.findIn K (.ref C) m=some (some (.ref f))
 fn:PySem.W.isFn K (.ref f)=true
 kp:PySem.W.keepIn K (.ref f)=true
section
variable {X:Cx} {pins:List (Addr×Obj)} {σ:St} {H:Hp} {s:Shared} {a C dx:Addr} {fs:List (Str×V)} {f:Str} {v:V} {A:Around} {E:Value->Shared->Prop}
theorem vQ{Q:Value->Shared->Prop}(I:Inv X pins σ H s)(e:H a=some (.ins C dx fs))(c:Cls X.K C)(n:NoAttr X.K C f)(l:fs.lookup f=some v)
  (h: ∀u s',Inv X pins σ H s'->RelV v u->Q u s'):wpAny (model X.prog X.w) A (getAttr (.ref a) f b) Q E s:=by
 obtain⟨mA,O,r,_,_,_⟩:=ZP I.hok e;obtain⟨u,hu,ru⟩:=RelO.some_of (v:=v) (o:=mA f) (by rw[<-l]; exact r f);exact get_map I.kIn O (c.get f) c.hd n hu (handed_of ru) (h u _ (I.tok _) ru)
theorem vP{Q:Value×List Value->Shared->Prop}(I:Inv X pins σ H s)(e:H a=some (.ins C dx fs))(c:Cls X.K C)(k:Meth X.K C m g)(l:fs.lookup m=none)
  (h:Q (.ref g,[.ref a]) s):wpAny (model X.prog X.w) A (getMethod (.ref a) m pl) Q E s:=by
 obtain⟨mA,O,r,_,_,_⟩:=ZP I.hok e;have hn:mA m=none:=RelO.none_of (by rw[<-l]; exact r m);exact get_meth I.kIn O (c.get m) k.at_ k.fn hn h
theorem vy{Q:Unit->Shared->Prop}(I:Inv X pins σ H s)(e:H a=some (.ins C dx fs))(c:Cls X.K C)(n:NoAttr X.K C f)(hl:fs.length<1000)(ry:RelV y u)
  (h: ∀s',Inv X pins σ (upd H a (.ins C dx (putF f y fs))) s'->Q () s'):wpAny (model X.prog X.w) A (setAttr (.ref a) f u) Q E s:=by
 obtain⟨mA,O,r,wi,_,ho⟩:=ZP I.hok e;have hz:(fs.map (·.1)).length<=sizeLine:=by rw[ε,sizeLine_eq]; omega
 refine set_map I.kIn O c.sa c.po n.taker c.hd wi hz λh' O' sb=>h _ ?_;have hd: ∃o,h'.get? dx=some o:=let ⟨o,_,_,e',_⟩:=O'.ns; ⟨o,e'⟩
 refine I.write (x:=a) (e:=dx) (by rw[e]; exact True.intro) (.inr ho) (λb q hb z=>(sb.2 b hb).trans z) hd ?_;refine⟨by rw[zk O.ne]; exact ho,?_,O.ne,O'.obj,_,O'.ns,λg=>?_,λg hg=>?_⟩
 ·have:=vb f y fs; omega
 ·show RelO ((putF f y fs).lookup g) (if g=f then some u else mA g);rw[va];by_cases q:g=f
  ·rw[if_pos q,if_pos q]; exact ry
  ·rw[if_neg q,if_neg q]; exact r g
 ·by_cases q:g=f
  ·rw[q]; exact(wX f y fs).1
  ·refine(wX f y fs).2 g (wi g λz=>hg ?_);show(if g=f then some u else mA g)=none;rw[if_neg q]; exact z
theorem Inv.made(I:Inv X pins σ H s):Inv X pins σ (upd (upd H s.heap.objs.size (.own (s.heap.objs.size+1))) (s.heap.objs.size+1) (.ins C s.heap.objs.size []))
  {s with heap:=(s.heap.push PySem.W.emptyDict).push (PySem.W.instObj C s.heap.objs.size)}:=by
 have e1:(s.heap.push PySem.W.emptyDict).get? s.heap.objs.size=some PySem.W.emptyDict:=π s.heap rfl;have e2:((s.heap.push PySem.W.emptyDict).push (PySem.W.instObj C s.heap.objs.size)).get? (s.heap.objs.size+1)=some (PySem.W.instObj C s.heap.objs.size):=by
  have:=π (s.heap.push PySem.W.emptyDict) (o:=PySem.W.instObj C s.heap.objs.size) rfl
  rwa [Heap.size_push] at this
 have e3:(s.heap.push PySem.W.emptyDict).Ns s.heap.objs.size (λ_=>none):=⟨PySem.W.emptyDict,#[],_,e1,rfl,(λe he=>absurd he (by simp)),λ_=>rfl⟩;have I1:=I.laid (a:=s.heap.objs.size) (o:= .own (s.heap.objs.size+1)) (h':=s.heap.push PySem.W.emptyDict) (t':=s.toks) (λb u q=>η _ q) (θ _) ⟨_,e1⟩;refine I1.laid (a:=s.heap.objs.size+1) (o:= .ins C s.heap.objs.size []) (t':=s.toks) (λb u q=>η _ q) (Nat.le_of_eq (Heap.size_push _ _)) ?_;have ne:s.heap.objs.size≠s.heap.objs.size+1:=Ν (Nat.lt_succ_self _);refine⟨by rw[zk ne,zf],Ι _,ne,e2,λ_=>none,(Heap.Ns1.of_empty e3).at λo q=>η _ q,λ_=>True.intro,λy hy=>absurd rfl hy⟩
theorem attr_of{Q:Value->Shared->Prop}(hb:attributeBase e f env (eval e env)=eval e env)
  (h:wpAny (model prog w) A (eval e env) (λo s₁=>wpAny (model prog w) A (getAttr o f true) Q E s₁) E s):wpAny (model prog w) A (eval (.Attribute e f pos) env) Q E s:=
 Attribute_any_ h (by rw[arm_eval_Attribute,hb])
end
def tFld (K:W.Frag) (ta:TE) (f:Str):TE:=fun σ H Q=>ta σ H λx H1=> ∃a C dx fs v,x= .ref a/\H1 a=some (.ins C dx fs)/\Cls K C/\NoAttr K C f/\fs.lookup f=some v/\Q v H1
def sFld (K:W.Frag) (ta tv:TE) (f:Str):TS:=λD σ H=>tv σ H λy H1=>ta σ H1 λx H2=> ∃a C dx fs,x= .ref a/\H2 a=some (.ins C dx fs)/\Cls K C/\NoAttr K C f/\fs.length<1000/\
 D.nx σ (upd H2 a (.ins C dx (putF f y fs)))
def InOp (X:Cx) (op:Operator) (rd:V->V->Hp->VK->Prop):Prop:=
 ∀(pins:List (Addr×Obj)) (s:Shared) (σ:St) (H:Hp) (x y:V) (u v:Value) (Q:VK),Inv X pins σ H s->RelV x u->RelV y v->rd x y H Q->wpAny (model X.prog X.w) X.A (inplaceOp op u v) (EP X pins σ Q) X.xe s
def Y6 (K:W.Frag) (ta tv:TE) (rd:V->V->Hp->VK->Prop) (f:Str):TS:=λD σ H=>ta σ H λx H1=> ∃a C dx fs v,x= .ref a/\H1 a=some (.ins C dx fs)/\Cls K C/\NoAttr K C f/\fs.lookup f=some v/\
 tv σ H1 λy H2=>rd v y H2 λz H3=> ∃dx' fs',H3 a=some (.ins C dx' fs')/\fs'.length<1000/\D.nx σ (upd H3 a (.ins C dx' (putF f z fs')))
section
variable {X:Cx} {o e value:Expr} {f:Str} {pos pos' tpos:Pos} {ta tv:TE}
theorem zG(he:PE X e ta)(hb:attributeBase e f X.env (eval e X.env)=eval e X.env):PE X (.Attribute e f pos) (tFld X.K ta f):=by
 intro pins s σ H Q I h;refine attr_of hb (thn (he pins s σ H _ I h) λu s1 ⟨x,H1,I1,rx,a,C,dx,fs,v,ex,ea,c,n,l,q⟩=>?_);subst ex;obtain rfl:u=Value.ref a:=rx;exact vQ I1 ea c n l λu' s2 I2 ru=>⟨v,H1,I2,ru,q⟩
theorem xV(ha:PE X o ta)(hv:PE X value tv)(hs:swapsWith value (some (.Attribute o f pos')) pos.line X.env=pure false):PS X (.Assign [.Attribute o f pos'] value pos) (sFld X.K ta tv f):=by
 intro pins s σ H D I h;refine plainObj_wpAny_Assign_Attribute (thn (hv pins s σ H _ I h) λu s1 ⟨y,H1,I1,ry,q⟩=>thn (ha pins s1 σ H1 _ I1 q) λov s2 ⟨x,H2,I2,rx,a,C,dx,fs,ex,ea,c,n,l,q2⟩=>?_) hs;subst ex;obtain rfl:ov=Value.ref a:=rx;exact vy I2 ea c n l ry λs3 I3=>⟨σ,_,I3,q2⟩
theorem ps_fldaug{rd:V->V->Hp->VK->Prop}(ha:PE X o ta)(hv:PE X value tv)(hop:InOp X op rd):PS X (.AugAssign (.Attribute o f tpos) op value pos) (Y6 X.K ta tv rd f):=by
 intro pins s σ H D I h;refine wpAny_AugAssign_AttributeAny (thn (ha pins s σ H _ I h) λov s1 ⟨x,H1,I1,rx,a,C,dx,fs,v,ex,ea,c,n,l,q⟩=>?_);subst ex;obtain rfl:ov=Value.ref a:=rx;refine vQ I1 ea c n l λu s2 I2 ru=>thn (hv pins s2 σ H1 _ I2 q) λw3 s3 ⟨y,H2,I3,ry,q3⟩=>thn (hop pins s3 σ H2 v y u w3 _ I3 ru ry q3) λw4 s4 ⟨z,H3,I4,rz,dx',fs',ea',l',q4⟩=>?_;exact vy I4 ea' c n l' rz λs5 I5=>⟨σ,_,I5,q4⟩
def rAdd:V->V->Hp->VK->Prop:=λx y H Q=> ∃i j,x= .int i/\y= .int j/\Q (.int (i+j)) H
theorem in_add:InOp X .Add rAdd:=by
 rintro pins s σ H x y u v Q I rx ry ⟨i,j,rfl,rfl,q⟩;obtain⟨t,rfl⟩:=(show∃t,u=Value.int i t from rx);obtain⟨t',rfl⟩:=(show∃t',v=Value.int j t' from ry);exact PyProof.Rows.iadd_int ⟨.int (i+j),H,I.tok _,⟨_,rfl⟩,q⟩
end
section
variable {X:Cx} {pins:List (Addr×Obj)} {σ:St} {H:Hp} {s:Shared} {A:Around} {E:Value->Shared->Prop} {Q:Value->Shared->Prop} {c:Value} {b:Bool}
inductive TyOf (K:W.Frag) (H:Hp):V->Value->Prop where
 | non:TyOf K H .non (.type "NoneType")
 | bl (x:Bool):TyOf K H (.bl x) (.type "bool")
 | int (i:Int):TyOf K H (.int i) (.type "int")
 | str (x:Str):TyOf K H (.str x) (.type "str")
 | flt (x:UInt64):TyOf K H (.flt x) (.type "float")
 | lst {a:Addr} {xs:List V} (e:H a=some (.lst xs)):TyOf K H (.ref a) (.type "list")
 | frz {a:Addr} {o:Obj} {xs:List V} (e:H a=some (.frz o (.lst xs))):TyOf K H (.ref a) (.type "list")
 | tup {a:Addr} {xs:List V} (e:H a=some (.tup xs)):TyOf K H (.ref a) (.type "tuple")
 | dK {a:Addr} {kvs:List (Key×V)} (e:H a=some (.dK kvs)):TyOf K H (.ref a) (.type "dict")
 | dT {a:Addr} {kvs:List (List Key×V)} (e:H a=some (.dT kvs)):TyOf K H (.ref a) (.type "dict")
 | ins {a C dx:Addr} {fs:List (Str×V)} (e:H a=some (.ins C dx fs)) (cl:Cls K C) (ha:PySem.W.findIn K (.ref C) "__class__"=some (some (.builtin "object.__class__")))
   (hn:PySem.W.specialIn K (.builtin "object.__class__") "__get__"=some (some (.builtin "getset_descriptor.__get__"))) (htk:PySem.W.takesIn K (.builtin "object.__class__")=some true)
   (hm:PySem.W.mroIn K C (.type "object")=some true):TyOf K H (.ref a) (.ref C)
end
structure Room (k:Nat) (A:Around):Prop where
 hd:A.handled=none
 dp:A.depth+3*k+5<recursionLimit
 un:A.units+16*k+200<cLine
 gd:A.guards=some []
theorem Room.mono(r:Room k A)(h:j<=k):Room j A:=⟨r.hd,by have:=r.dp; omega,by have:=r.un; omega,r.gd⟩
theorem Room.deeper(r:Room (k+1) A)(env:Env):Room k (A.deeper env):=
 ⟨r.hd,by have:=r.dp; show A.depth+1+3*k+5<_; omega,by have:=r.un; show A.units+3+16*k+200<_; omega,r.gd⟩
theorem make_depth{A:Around}:(A.under (.builtin "type.__call__" ⟨.ref C::us,kw⟩)).depth=A.depth+1:=by
 first | rfl | simp[Around.under,Code.weight,Code.isCreation,Code.isGuard,Code.isCaller,Code.frames,Code.isFrame,guardIds]
theorem make_units{A:Around}:(A.under (.builtin "type.__call__" ⟨.ref C::us,kw⟩)).units=A.units+1:=by
 first | rfl | simp[Around.under,Code.cUnits,Code.frames,Code.isFrame]
theorem Room.make(r:Room (k+1) A)(C:Addr)(us:List Value)(kw:List (Str×Value)):Room k (A.under (.builtin "type.__call__" ⟨.ref C::us,kw⟩)):=
 ⟨r.hd,by have:=r.dp; rw[make_depth]; omega,by have:=r.un; rw[make_units]; omega,by first | exact r.gd | simpa[Around.under,Code.isGuard,Code.isFrame,guardIds] using r.gd⟩
theorem Room.depth(r:Room k A):A.depth<recursionLimit:=by have:=r.dp; omega
theorem Room.units(r:Room k A):A.units+64<cLine:=by have:=r.un; omega
def tNil:TA:=λ_ H Q=>Q [] H
def yn (ta:TE) (tr:TA):TA:=fun σ H Q=>ta σ H λx H1=>tr σ H1 λxs H2=>Q (x::xs) H2
section
variable {X:Cx} {e:Expr} {es:List Expr} {te:TE} {t:TA} {pos:Pos}
theorem yH:PA X [] tNil:=λ_ _ _ _ H Q I h=>Calls.spliced_nil ⟨[],H,I,.nil,h⟩
theorem xr(ha:PE X e te)(hr:PA X es t)(hs:starEach (e::es) X.env=(false,eval e X.env)::starEach es X.env:=by rfl):PA X (e::es) (yn te t):=by
 intro pos pins s σ H Q I h;rw[hs];show wpAny _ _ (spliced ((false,eval e X.env)::backTo pos (starEach es X.env))) _ _ s;refine Calls.spliced_cons (thn (ha pins s σ H _ I h) λu s1 ⟨x,H1,I1,r1,q1⟩=>?_);exact thn (hr pos pins s1 σ H1 _ I1 q1) λus s2 ⟨xs,H2,I2,r2,q2⟩=>⟨x::xs,H2,I2,.cons r1 r2,q2⟩
def tTup (t:TA):TE:=fun σ H Q=>t σ H λxs H1=>xs.length<=sizeLine/\ ∀p,H1 p=none->Q (.ref p) (upd H1 p (.tup xs))
def tLst (t:TA):TE:=fun σ H Q=>t σ H λxs H1=>xs.length<=sizeLine/\ ∀p,H1 p=none->Q (.ref p) (upd H1 p (.lst xs))
theorem yr{x1}(h:PA X es t):PE X (.Tuple es x1 pos) (tTup t):=by
 intro pins s σ H Q I hq;refine wpAny_Tuple_spliced (thn (h pos pins s σ H _ I hq) λus s1 ⟨xs,H1,I1,r,z,q⟩=>⟨by rw[<-r.length]; exact z,?_⟩);have hf:H1 s1.heap.objs.size=none:=I1.hok.fresh (θ _);refine⟨.ref s1.heap.objs.size,upd H1 s1.heap.objs.size (.tup xs),I1.laid (t':=s1.toks) (λb u e=>η _ e) (θ _) ?_,rfl,q _ hf⟩;exact⟨z,us,r,⟨_,π _ rfl,rfl,_,rfl⟩⟩
theorem zR(h:PA X es t):PE X (.List es pos) (tLst t):=by
 intro pins s σ H Q I hq;refine wpAny_List_spliced (thn (h pos pins s σ H _ I hq) λus s1 ⟨xs,H1,I1,r,z,q⟩=>⟨by rw[<-r.length]; exact z,?_⟩);have hf:H1 s1.heap.objs.size=none:=I1.hok.fresh (θ _);refine⟨.ref s1.heap.objs.size,upd H1 s1.heap.objs.size (.lst xs),I1.laid (t':=s1.toks) (λb u e=>η _ e) (θ _) ?_,rfl,q _ hf⟩;exact⟨z,us,0,r,π _ rfl⟩
end
abbrev Sp:=List V->Hp->VK->XK->Prop
abbrev CXT:=List Env->Hp->Shared->XK->Value->Shared->Prop
structure Env0 (P:Program) (w:World) (K:W.Frag) (mg:Str->Option Value) (base:Heap) (A:Around) (outer:List Env) (s:Shared) (H:Hp):Prop where
 frames:A.frames=some outer
 mod:Mod K mg base
 bs: ∀b o,base.get? b=some o->s.heap.get? b=some o/\H b=none
 bsz:base.objs.size<=s.heap.objs.size
 funs:s.heap.FunFrames base outer
 frf: ∀b∈frs outer,H b=none
 hok:HOk P w H s.heap
 bare:AllBare s.gens
def CE (outer:List Env) (P:Program) (w:World) (H:Hp) (s:Shared) (Q:VK) (u:Value) (s':Shared):Prop:=
 ∃v H',s'.os=s.os/\AllBare s'.gens/\Un (frs outer) [] H H' s.heap s'.heap/\HOk P w H' s'.heap/\RelV v u/\Q v H'
def CR (CX:CXT) (outer:List Env) (P:Program) (w:World) (H:Hp) (s:Shared) (Q:VK) (E:XK) (r:Result) (s':Shared):Prop:=
 match r with
 | .ok (.ret u)=>CE outer P w H s Q u s'
 | .ok _=>False
 | .error e=>CX outer H s E e s'
structure FnOk (P:Program) (w:World) (K:W.Frag) (mg:Str->Option Value) (base:Heap) (CX:CXT) (k:Nat) (f:Addr) (fd:FuncData) (ps:List Str) (sp:Sp):Prop where
 len: ∀vs H Q E,sp vs H Q E->vs.length=ps.length
 run: ∀(A:Around) (outer:List Env) (s:Shared) (H:Hp) (args:Args) (us:List Value) (vs:List V) (Q:VK) (E:XK),Room k A->Env0 P w K mg base A outer s H->BindsTo s fd args (ps.zip us)->Vals vs us->sp vs H Q E->
  codeAny (model P w) A (.call (.ref f) args) (CR CX outer P w H s Q E) s
theorem Env0.make{P:Program}{w:World}{K:W.Frag}{mg:Str->Option Value}{base:Heap}{A:Around}{outer:List Env}{s:Shared}{H:Hp}(e:Env0 P w K mg base A outer s H)(C:Addr)(us:List Value)(kw:List (Str×Value)):
  Env0 P w K mg base (A.under (.builtin "type.__call__" ⟨.ref C::us,kw⟩)) outer s H:=⟨by first | exact e.frames | (simpa[Around.under,Code.envs,Code.isFrame,pushEnvs] using e.frames),e.mod,e.bs,e.bsz,e.funs,e.frf,e.hok,e.bare⟩
section
variable {X:Cx} {pins:List (Addr×Obj)} {σ:St} {H:Hp} {s s':Shared}
theorem Inv.env0(I:Inv X pins σ H s):Env0 X.prog X.w X.K X.mg X.base X.A X.stack s H:=
 ⟨I.ok.frames,I.ok.mod,I.bs,Τ I.ok.bsz I.sz,I.stack,I.stkFree,I.hok,I.bare⟩
theorem Inv.after(I:Inv X pins σ H s)(h:CE X.stack X.prog X.w H s Q u s'):EP X pins σ Q u s':=by
 obtain⟨v,H',os,bare,un,hok,r,q⟩:=h;obtain⟨hh,g,d,t,os'⟩:=s';obtain rfl:os'=s.os:=os;exact⟨v,H',I.call (h':=hh) (g':=g) (d':=d) (t':=t) (ch:=[]) un hok bare (λb z=>absurd z (by simp)),r,q⟩
end
def Zb (sp:Sp) (dvs:List V) (E:XK) (t:TA):TE:=fun σ H Q=>t σ H λvs H1=>sp (vs++dvs) H1 Q E
def Z8 (C:Addr) (m:Str) (sp:Sp) (dvs:List V) (E:XK) (ta:TE) (t:TA):TE:=fun σ H Q=>ta σ H λx H1=> ∃a dx fs,x= .ref a/\H1 a=some (.ins C dx fs)/\fs.lookup m=none/\
 t σ H1 λvs H2=>sp (x::(vs++dvs)) H2 Q E
def XW (C:Addr) (sp:Sp) (dvs:List V) (E:XK) (t:TA):TE:=fun σ H Q=>t σ H λvs H1=> ∀x dx,H1 x=none->H1 dx=none->dx≠x->
 sp (.ref x::(vs++dvs)) (upd (upd H1 dx (.own x)) x (.ins C dx [])) (λv H2=>v= .non/\Q (.ref x) H2) E
def Binds (K:W.Frag) (fd:FuncData) (ps:List Str) (ds:List Value):Prop:=
 ∀(s:Shared) (us:List Value),K.In s.heap->(us++ds).length=ps.length->BindsTo s fd ⟨us,[]⟩ (ps.zip (us++ds))
theorem Binds.all{K:W.Frag}{fd:FuncData}{ps:List Str}(h: ∀us:List Value,us.length=ps.length->bindArgs fd ⟨us,[]⟩=pure (ps.zip us)):Binds K fd ps []:=λs us _ hl=>by
 rw[List.append_nil] at hl ⊢;exact .of_eq (h us hl)
def wn (CX:CXT) (X:Cx) (E:XK):Prop:= ∀(pins:List (Addr×Obj)) (σ:St) (H:Hp) (s:Shared) (e:Value) (s':Shared),Inv X pins σ H s->CX X.stack H s E e s'->X.xe e s'
section
variable {X:Cx} {CX:CXT} {k:Nat} {f C:Addr} {fd:FuncData} {ps:List Str} {sp:Sp} {dvs:List V} {ds:List Value} {E:XK} {x m:Str} {p pos apos:Pos} {e o:Expr} {es:List Expr} {ta:TE} {t:TA}
theorem YM(F:FnOk X.prog X.w X.K X.mg X.base CX k f fd ps sp)(hr:Room k X.A)(hb:Binds X.K fd ps ds)(hd:Vals dvs ds)(hx:wn CX X E)
  (I:Inv X pins σ H s) (r:Vals vs us) (h:sp (vs++dvs) H Q E):wpAny (model X.prog X.w) X.A (call (.ref f) us) (EP X pins σ Q) X.xe s:=by
 have r2:Vals (vs++dvs) (us++ds):=r.append hd;have hl:(us++ds).length=ps.length:=by rw[<-r2.length]; exact F.len _ _ _ _ h
 refine wpAny_call (codeAny_mono (F.run X.A X.stack s H ⟨us,[]⟩ (us++ds) (vs++dvs) Q E hr I.env0 (hb s us I.kIn hl) r2 h) λr s' hq=>?_);cases r with
 | error e=>exact hx pins σ H s e s' I hq
 | ok fl=>
  cases fl with
  | ret u=>exact I.after hq
  | next=>exact False.elim hq
  | brk=>exact False.elim hq
  | cont=>exact False.elim hq
theorem pe_call(F:FnOk X.prog X.w X.K X.mg X.base CX k f fd ps sp)(hr:Room k X.A)(hg:Gl X x)(hm:X.mg x=some (.ref f))(hk:PySem.W.keepIn X.K (.ref f)=true)(hb:Binds X.K fd ps ds)(hd:Vals dvs ds)(hx:wn CX X E)
  (ha:PA X (e::es) t) (hdb:(x==("__debug__":Str))=false:=by decide) (he:starEach (e::es) X.env=(false,eval e X.env)::starEach es X.env:=by rfl) (hpl:(backTo pos (starEach es X.env)).any (·.1)=false:=by rfl):
  PE X (.Call (.Name x p) (e::es) [] pos) (Zb sp dvs E t):=by
 intro pins s σ H Q I h;refine wpAny_Call_Name_kw (ZM I hg hm ?_ hdb);refine PySem.W.callWith_K (h₀:=X.base) I.ok.mod.kin hk (thn (ha pos pins s σ H _ I h) λus s1 ⟨vs,H1,I1,r,q⟩=>⟨I1.kIn,?_⟩) he hpl;exact YM F hr hb hd hx I1 r q
theorem pe_meth(he:PE X o ta)(c:Cls X.K C)(hm:Meth X.K C m f)(F:FnOk X.prog X.w X.K X.mg X.base CX k f fd ps sp)(hr:Room k X.A)(hb:Binds X.K fd ps ds)(hd:Vals dvs ds)(hx:wn CX X E)(ha:PA X (e::es) t)
  (hst:starEach (e::es) X.env=(false,eval e X.env)::starEach es X.env:=by rfl) (hpl:(backTo pos (starEach es X.env)).any (·.1)=false:=by rfl)
  (ht:eval (.Call (.Attribute o m apos) (e::es) [] pos) X.env=(do
   let ov<-eval o X.env
   standAt apos.atName
   let (f,first)<-holding [ov] (getMethod ov m pl)
   callWith pos f first (backTo pos (starEach (e::es) X.env)) (backToKw pos (keywordEach [] X.env))):=by rfl):
  PE X (.Call (.Attribute o m apos) (e::es) [] pos) (Z8 C m sp dvs E ta t):=by
 intro pins s σ H Q I h;refine PySem.W.methodCall_KW (pl:=pl) (thn (he pins s σ H _ I h) λu s1 ⟨x,H1,I1,rx,a,dx,fs,ex,ea,l,q⟩=>?_) ht;subst ex;obtain rfl:u=Value.ref a:=rx;refine vP I1 ea c hm l ?_;refine PySem.W.callWith_K (first:=[.ref a]) (h₀:=X.base) I.ok.mod.kin hm.kp (thn (ha pos pins s1 σ H1 _ I1 q) λus s2 ⟨vs,H2,I2,r,q2⟩=>⟨I2.kIn,?_⟩) hst hpl;exact YM (us:= .ref a::us) (vs:= .ref a::vs) F hr hb hd hx I2 (.cons rfl r) q2
theorem pe_meth0(he:PE X o ta)(c:Cls X.K C)(hm:Meth X.K C m f)(F:FnOk X.prog X.w X.K X.mg X.base CX k f fd ps sp)(hr:Room k X.A)(hb:Binds X.K fd ps ds)(hd:Vals dvs ds)(hx:wn CX X E)
  (ht:eval (.Call (.Attribute o m apos) [] [] pos) X.env=(do
   let ov<-eval o X.env
   standAt apos.atName
   let (f,first)<-holding [ov] (getMethod ov m pl)
   callWith pos f first (backTo pos (starEach [] X.env)) (backToKw pos (keywordEach [] X.env))):=by rfl):
  PE X (.Call (.Attribute o m apos) [] [] pos) (Z8 C m sp dvs E ta tNil):=by
 intro pins s σ H Q I h;refine PySem.W.methodCall_KW (pl:=pl) (thn (he pins s σ H _ I h) λu s1 ⟨x,H1,I1,rx,a,dx,fs,ex,ea,l,q⟩=>?_) ht;subst ex;obtain rfl:u=Value.ref a:=rx;refine vP I1 ea c hm l ?_;exact PySem.W.callWith_K0 (first:=[.ref a]) I1.kIn hm.kp (YM (us:=[.ref a]) (vs:=[.ref a]) F hr hb hd hx I1 (.cons rfl .nil) q)
structure Mk (K:W.Frag) (C f:Addr):Prop where
 makes:PySem.W.makesIn K C=true
 init:PySem.W.findIn K (.ref C) "__init__"=some (some (.ref f))
 fn:PySem.W.isFn K (.ref f)=true
 kp:PySem.W.keepIn K (.ref C)=true
theorem run_make(M:Mk X.K C f)(F:FnOk X.prog X.w X.K X.mg X.base CX k f fd ps sp)(hr:Room (k+1) X.A)(hb:Binds X.K fd ps ds)(hd:Vals dvs ds)
  (hx:wn CX X E) (I:Inv X pins σ H s) (r:Vals vs us)
  (h: ∀x dx,H x=none->H dx=none->dx≠x->sp (.ref x::(vs++dvs)) (upd (upd H dx (.own x)) x (.ins C dx [])) (λv H2=>v= .non/\Q (.ref x) H2) E):
  wpAny (model X.prog X.w) X.A (call (.ref C) us) (EP X pins σ Q) X.xe s:=by
 have hq:=h (s.heap.objs.size+1) s.heap.objs.size (I.hok.fresh (Nat.le_succ _)) (I.hok.fresh (θ _)) (Ν (Nat.lt_succ_self _));have I2:=Inv.made (C:=C) I;have r2:Vals (V.ref (s.heap.objs.size+1)::(vs++dvs)) (Value.ref (s.heap.objs.size+1)::(us++ds)):= .cons rfl (r.append hd);have hl:(Value.ref (s.heap.objs.size+1)::us++ds).length=ps.length:=by
  have e:=r2.length;rw[F.len _ _ _ _ hq] at e;exact e.symm
 refine wpAny_call (make_map (f:=f) I.kIn M.makes M.init (beq_iff_eq.mp M.fn) (codeAny_mono (F.run _ X.stack _ _ ⟨Value.ref (s.heap.objs.size+1)::us,[]⟩ (Value.ref (s.heap.objs.size+1)::(us++ds)) _ _ E (hr.make C us [])
  (I2.env0.make C us []) (hb _ (Value.ref (s.heap.objs.size+1)::us) I2.kIn hl) r2 hq) λr s' hq'=>?_))
 cases r with
 | error e=>exact hx pins σ _ _ e s' I2 hq'
 | ok fl=>
  cases fl with
  | ret u=>
   obtain⟨v,H',I3,rv,ev,q3⟩:=I2.after hq';subst ev;exact⟨rv,⟨V.ref (s.heap.objs.size+1),H',I3,rfl,q3⟩⟩
  | next=>exact False.elim hq'
  | brk=>exact False.elim hq'
  | cont=>exact False.elim hq'
theorem pe_make(M:Mk X.K C f)(F:FnOk X.prog X.w X.K X.mg X.base CX k f fd ps sp)(hr:Room (k+1) X.A)(hg:Gl X x)(hm:X.mg x=some (.ref C))(hb:Binds X.K fd ps ds)(hd:Vals dvs ds)(hx:wn CX X E)
  (ha:PA X (e::es) t) (hdb:(x==("__debug__":Str))=false:=by decide) (he:starEach (e::es) X.env=(false,eval e X.env)::starEach es X.env:=by rfl) (hpl:(backTo pos (starEach es X.env)).any (·.1)=false:=by rfl):
  PE X (.Call (.Name x p) (e::es) [] pos) (XW C sp dvs E t):=by
 intro pins s σ H Q I h;refine wpAny_Call_Name_kw (ZM I hg hm ?_ hdb);refine PySem.W.callWith_K (h₀:=X.base) I.ok.mod.kin M.kp (thn (ha pos pins s σ H _ I h) λus s1 ⟨vs,H1,I1,r,q⟩=>⟨I1.kIn,?_⟩) he hpl;exact run_make M F hr hb hd hx I1 r q
end
def PK (X:Cx) (kws:List Keyword) (t:TA):Prop:=
 ∀(pos:Pos) (pins:List (Addr×Obj)) (s:Shared) (σ:St) (H:Hp) (Q:List V->Hp->Prop),Inv X pins σ H s->t σ H Q->wpAny (model X.prog X.w) X.A (evalAll ((backToKw pos (keywordEach kws X.env)).map (·.2))) (AP X pins σ Q) X.xe s
section
variable {X:Cx} {CX:CXT} {k:Nat} {f C:Addr} {fd:FuncData} {ps ks:List Str} {sp:Sp} {E:XK} {x m:Str} {p pos apos kpos:Pos} {e o:Expr} {es:List Expr} {kws:List Keyword} {te ta:TE} {t tk:TA} {nm:Option Str}
theorem X3:PK X [] tNil:=λ_ _ _ _ H Q I h=>wpAny_evalAll_nil ⟨[],H,I,.nil,h⟩
theorem vk(ha:PE X e te)(hr:PK X kws t):PK X (⟨nm,e,kpos⟩::kws) (yn te t):=by
 intro pos pins s σ H Q I h;show wpAny _ _ (evalAll ((do let v<-eval e X.env; standAt pos; pure v)::(backToKw pos (keywordEach kws X.env)).map (·.2))) _ _ s;refine wpAny_evalAll_cons (γ (thn (ha pins s σ H _ I h) λu s1 ⟨x,H1,I1,r1,q1⟩=>γ (wpAny_standAt (ι ?_))));exact thn (hr pos pins s1 σ H1 _ I1 q1) λus s2 ⟨xs,H2,I2,r2,q2⟩=>⟨x::xs,H2,I2,.cons r1 r2,q2⟩
structure KBinds (K:W.Frag) (fd:FuncData) (ps ks:List Str) (g:List Value->List Value->List Value) (gV:List V->List V->List V):Prop where
 to: ∀(s:Shared) (us ws:List Value),K.In s.heap->(g us ws).length=ps.length->BindsTo s fd ⟨us,ks.zip ws⟩ (ps.zip (g us ws))
 rel: ∀{vs:List V} {us:List Value} {zs:List V} {ws:List Value},Vals vs us->Vals zs ws->Vals (gV vs zs) (g us ws)
variable {g:List Value->List Value->List Value} {gV:List V->List V->List V}
end
structure FnScope (N P:List Str) (sc:Scope):Prop where
 kind:sc.kind= .function
 co:sc.isCoroutine=false
 gen:sc.isGenerator=false
 nd:N.Nodup
 pre:N.take P.length=P
 par: ∀x∈P,sc.names.lookup x=some .local\/sc.names.lookup x=some .cell
 nofree: ∀y∈sc.names,y.2≠.free
theorem Zr{kindOf:Str->Option NameKind}: ∀{binds:List (Str×Value)} {m:Str->Option Value},(∀v,(x,v)∉binds)->bindL kindOf binds m x=m x
 | [],_,_=>rfl
 | (n,v)::r,m,h=>by
  unfold bindL;rw[Zr λw hw=>h w (χ _ hw)];split
  ·have:x≠n:=by rintro rfl; exact h v υ
   simp[this]
  ·rfl
theorem Zt{kindOf:Str->Option NameKind}: ∀{binds:List (Str×Value)} {m:Str->Option Value},(∀v,(x,v)∉binds)->bindC kindOf binds m x=m x
 | [],_,_=>rfl
 | (n,v)::r,m,h=>by
  unfold bindC;rw[Zt λw hw=>h w (χ _ hw)];split
  ·rfl
  ·have:x≠n:=by rintro rfl; exact h v υ
   simp[this]
theorem Zs{kindOf:Str->Option NameKind}: ∀{P:List Str} {vs:List Value} {i:Nat} {m:Str->Option Value},P.Nodup->P[i]? =some x->vs[i]? =some v->kindOf x=some .local->
  bindL kindOf (P.zip vs) m x=some v
 | [],_,_,_,_,h,_,_=>by simp at h
 | _::_,[],_,_,_,_,h,_=>by simp at h
 | p::P,w::vs,0,m,nd,h1,h2,hk=>by
  simp at h1 h2; subst h1; subst h2;show bindL kindOf ((p,w)::P.zip vs) m p=_;unfold bindL;rw[Zr λv hv=>(List.nodup_cons.mp nd).1 (List.of_mem_zip hv).1,if_pos hk];simp
 | p::P,w::vs,i+1,m,nd,h1,h2,hk=>by
  show bindL kindOf ((p,w)::P.zip vs) m x=_;unfold bindL;exact Zs (i:=i) (List.nodup_cons.mp nd).2 (by simpa using h1) (by simpa using h2) hk
theorem Zu{kindOf:Str->Option NameKind}: ∀{P:List Str} {vs:List Value} {i:Nat} {m:Str->Option Value},P.Nodup->P[i]? =some x->vs[i]? =some v->kindOf x≠some .local->
  bindC kindOf (P.zip vs) m x=some v
 | [],_,_,_,_,h,_,_=>by simp at h
 | _::_,[],_,_,_,_,h,_=>by simp at h
 | p::P,w::vs,0,m,nd,h1,h2,hk=>by
  simp at h1 h2; subst h1; subst h2;show bindC kindOf ((p,w)::P.zip vs) m p=_;unfold bindC;rw[Zt λv hv=>(List.nodup_cons.mp nd).1 (List.of_mem_zip hv).1,if_neg hk];simp
 | p::P,w::vs,i+1,m,nd,h1,h2,hk=>by
  show bindC kindOf ((p,w)::P.zip vs) m x=_;unfold bindC;exact Zu (i:=i) (List.nodup_cons.mp nd).2 (by simpa using h1) (by simpa using h2) hk
def start (N:List Str) (vs:List V):St:=vs.map some++List.replicate (N.length-vs.length) none
def cxOf (CX:CXT) (P:Program) (w:World) (K:W.Frag) (mg:Str->Option Value) (base:Heap) (N:List Str) (qual:Str) (scope:Scope) (f:Addr) (cd:Value) (A:Around) (outer:List Env) (s:Shared) (H:Hp) (E:XK):Cx where
 prog:=P
 w:=w
 K:=K
 mg:=mg
 base:=base
 A:=A.deeper (envOfC qual scope s.heap.objs.size f cd)
 N:=N
 s₀:=s
 H₀:=H
 env:=envOfC qual scope s.heap.objs.size f cd
 outer:=outer
 stack:=envOfC qual scope s.heap.objs.size f cd::outer
 ex:=[]
 calm:=true
 fn:=λ_=>true
 pn:=[]
 xe:=λe s'=>wpAny (model P w) (A.deeper (envOfC qual scope s.heap.objs.size f cd)) (leaving (envOfC qual scope s.heap.objs.size f cd) e) (λ_ s''=>CX outer H s E e s'') (λe' s''=>CX outer H s E e' s'') s'
theorem wH{sc:Scope}(h:sc.names.lookup x=some .cell): ∃c,(cellsFrom n sc.names []).lookup x=some c:=by
 have q:=PySem.W.cellsFrom_some sc.names n [] (.inl h);exact Option.isSome_iff_exists.mp q
theorem inv_start{CX:CXT}{P:Program}{w:World}{K:W.Frag}{mg:Str->Option Value}{base:Heap}{N ps:List Str}{qual:Str}{scope:Scope}{f:Addr}{cd:Value}{A:Around}{outer:List Env}{s s1:Shared}{H:Hp}{E:XK}{us:List Value}{vs:List V}
  (S:FnScope N ps scope) (hd:A.handled=none) (e0:Env0 P w K mg base A outer s H) (hl:vs.length=ps.length) (r:Vals vs us)
  (x:InCallC s s.heap.objs.size (bindL (envOfC qual scope s.heap.objs.size f cd).kindOf (ps.zip us) λ_=>none) (cellsFrom (s.heap.objs.size+1) scope.names []) (bindC (envOfC qual scope s.heap.objs.size f cd).kindOf (ps.zip us) λ_=>none) s1):
  Inv (cxOf CX P w K mg base N qual scope f cd A outer s H E) [] (start N vs) H s1:=by
 have hpl:ps.length<=N.length:=by have:=congrArg List.length S.pre; rw[List.length_take] at this; omega
 obtain⟨h1,tk,rfl,hk⟩:=x.done;have noA: ∀b:Addr,b∉(cxOf CX P w K mg base N qual scope f cd A outer s H E).ex:=λb z=>absurd (show b∈([]:List Addr) from z) (by simp);refine⟨⟨e0.mod,S.kind,rfl,rfl,θ _,λy z c h1 h2=>?_,λy hy=>?_,λy c _ h=>?_,λ_=>hd,Around.frames_deeper e0.frames,.inr ⟨rfl,rfl⟩,λb z=>absurd z (noA b),e0.bs,e0.bsz,λb _ _=>noA b,λb z=>absurd z (noA b),e0.funs,e0.frf⟩,
  rfl,e0.bare,Un.kept hk,⟨_,x.toInCall.ns,λi y v h1 h2 h3=>?_⟩,λy c h=>⟨_,x.cell y c h⟩,e0.hok.fresh (θ _),λy c h=>?_,λp hp=>absurd (show p∈([]:List (Addr×Obj)) from hp) (by simp),e0.hok.kept hk,?_⟩
 ·exact name_of_addr x.apart (PySem.mem_of_lookup h1) (PySem.mem_of_lookup h2)
 ·have hy:scope.names.lookup y=some .cell\/scope.names.lookup y=some .free:=hy;rcases hy with hy | hy
  ·exact wH hy
  ·exact absurd rfl (S.nofree _ (PySem.mem_of_lookup hy))
 ·exact Nat.le_of_lt (x.above y c (PySem.mem_of_lookup h))
 ·have hi:i<vs.length:=by
   unfold start at h2;by_cases hi:i<vs.length
   ·exact hi
   ·rw[Α (by simpa using hi)] at h2;rw[List.getElem?_replicate] at h2;split at h2<;>cases h2
  have ha:vs[i]? =some v:=by
   unfold start at h2;rw[Δ (by simpa using hi),μ] at h2;cases e:vs[i]? with
   | none=>rw[e] at h2; cases h2
   | some a=>rw[e] at h2; cases h2; rfl
  obtain⟨u,hu,rv⟩:=r.get ha;have hp:ps[i]? =some y:=by
   rw[<-S.pre,List.getElem?_take_of_lt (by omega)]; exact h1
  have ndP:ps.Nodup:=by rw[<-S.pre]; exact S.nd.sublist (List.take_sublist _ _)
  refine⟨u,rv,?_⟩;rcases S.par y (ο hp) with k | k
  ·exact .inl ⟨k,Zs ndP hp hu k⟩
  ·obtain⟨c,e⟩:=wH (n:=s.heap.objs.size+1) k;refine .inr ⟨.inl k,c,e,?_⟩;have q:=x.cell y c e;rw[Zu ndP hp hu (by show scope.names.lookup y≠_; rw[k]; decide)] at q;exact q
 ·exact e0.hok.fresh (Nat.le_of_lt (x.above y c (PySem.mem_of_lookup h)))
 ·unfold start;show _=N.length;rw[Β,ε,Χ];omega
theorem W2{CX:CXT}{P:Program}{w:World}{K:W.Frag}{mg:Str->Option Value}{base:Heap}{k:Nat}{f:Addr}{name qual:Str}{params:Arguments}{body:List Stmt}{scope:Scope}{dV kV doc pm cdv ct oc:Value}{an od:Option Addr}
  {osl:Array (Option Value)} {N ps:List Str} {sp:Sp} (lk:K.lookup f=some ⟨oc,od,.func (PySem.W.fnOf name qual params body scope dV kV doc pm an cdv ct),osl⟩) (hcd:PySem.W.codeIn K cdv qual=true) (S:FnScope N ps scope)
  (len: ∀vs H Q E,sp vs H Q E->vs.length=ps.length)
  (hbody: ∀(A:Around) (outer:List Env) (s:Shared) (H:Hp) (vs:List V) (Q:VK) (E:XK),Room k (A.deeper (envOfC qual scope s.heap.objs.size f cdv))->sp vs H Q E->
   ∃t,PSs (cxOf CX P w K mg base N qual scope f cdv A outer s H E) body t/\t {nx:=λ_ H'=>Q .non H',rt:=Q} (start N vs) H):
  FnOk P w K mg base CX (k+1) f (PySem.W.fnOf name qual params body scope dV kV doc pm an cdv ct) ps sp:=by
 refine⟨len,λA outer s H args us vs Q E hr e0 hb r hsp=>?_⟩;have hl:=len _ _ _ _ hsp;have KX:K.In s.heap:=e0.mod.kin.keeps λb o e=>(e0.bs b o e).1;have lim:s.heap.NoLimit:=e0.mod.nolimit.keeps λb o e=>(e0.bs b o e).1;have hkind: ∀y∈ps.zip us,scope.names.lookup y.1=some .local\/(scope.names.lookup y.1=some .cell/\((cellsFrom (s.heap.objs.size+1) scope.names []).lookup y.1).isSome=true):=fun⟨n,v⟩ hy=>by
  rcases S.par n (List.of_mem_zip hy).1 with q | q
  ·exact .inl q
  ·exact .inr ⟨q,PySem.W.cellsFrom_some _ _ _ (.inl q)⟩
 refine codeAny_call_function hr.depth (KX _ _ lk) rfl S.co S.gen rfl (PySem.W.codeRec_of KX hcd) (hb _ _ _ _ ?_);refine wpAny_newFunctionEnv_cells S.kind hkind λenv he s1 x=>?_;subst he;refine⟨lim.keeps x.toInCall.keep,codeAny_func ?_⟩;obtain⟨t,ht,hq⟩:=hbody A outer s H vs Q E (hr.deeper _) hsp;have I:Inv (cxOf CX P w K mg base N qual scope f cdv A outer s H E) [] (start N vs) H s1:=inv_start S hr.hd e0 hl r x;refine wpAny_mono (ht [] s1 (start N vs) H _ I hq) (λfl s' hs=>?_) λe s' hs=>hs;have fin: ∀{σ':St} {H':Hp} {v:V} {u:Value},Inv (cxOf CX P w K mg base N qual scope f cdv A outer s H E) [] σ' H' s'->RelV v u->Q v H'->CE outer P w H s Q u s':=
  λ{σ' H' v u} J rv q=>⟨v,H',J.os,J.bare,J.base,J.hok,rv,q⟩
 cases fl with
 | ret u=>
  obtain⟨v,σ',H',J,rv,q⟩:=hs;exact fin J rv q
 | next=>
  obtain⟨σ',H',J,q⟩:=hs;exact fin (v:=V.non) (u:=Value.none) J rfl q
 | brk=>
  obtain⟨_,_,_,q⟩:=hs;exact False.elim q
 | cont=>
  obtain⟨_,_,_,q⟩:=hs;exact False.elim q
section
variable {X:Cx} {x:Str} {p pos:Pos} {e:Expr} {es:List Expr} {t:TA} {id T:String} {r:List V->Hp->VK->Prop}
def tCB (r:List V->Hp->VK->Prop) (t:TA):TE:=fun σ H Q=>t σ H λvs H1=>r vs H1 Q
theorem wz(hc:yk X (.builtin id) r)(hg:Gl X x)(hm:X.mg x=none)(hv:bootBuiltins x=some (.builtin id))(ha:PA X (e::es) t)(hn:x≠"__name__":=by decide)(hdb:(x==("__debug__":Str))=false:=by decide)
  (he:starEach (e::es) X.env=(false,eval e X.env)::starEach es X.env:=by rfl) (hpl:(backTo pos (starEach es X.env)).any (·.1)=false:=by rfl):PE X (.Call (.Name x p) (e::es) [] pos) (tCB r t):=by
 intro pins s σ H Q I h;refine wpAny_Call_Name_kw (xl I hg hm hv ?_ hn hdb);exact PyProof.Rows.callWith_builtin1 (thn (ha pos pins s σ H _ I h) λus s1 ⟨vs,H1,I1,r1,q1⟩=>hc pins s1 σ H1 vs us Q I1 r1 q1) he hpl
theorem pe_callTy(hc:yk X (.type T) r)(hg:Gl X x)(hm:X.mg x=none)(hv:bootBuiltins x=some (.type T))(ha:PA X (e::es) t)(hn:x≠"__name__":=by decide)(hdb:(x==("__debug__":Str))=false:=by decide)
  (he:starEach (e::es) X.env=(false,eval e X.env)::starEach es X.env:=by rfl) (hpl:(backTo pos (starEach es X.env)).any (·.1)=false:=by rfl):PE X (.Call (.Name x p) (e::es) [] pos) (tCB r t):=by
 intro pins s σ H Q I h;refine wpAny_Call_Name_kw (xl I hg hm hv ?_ hn hdb);exact PyProof.Rows.callWith_type1 (thn (ha pos pins s σ H _ I h) λus s1 ⟨vs,H1,I1,r1,q1⟩=>hc pins s1 σ H1 vs us Q I1 r1 q1) he hpl
end
end L2
namespace HT
open PySem PyProof.Rows
section
open PySem.SeqAt
open PySem.AutoSeq1 (wpAny_loadPart')
open PySem.MeetsSeq PySem.MeetsSeq2 PySem.MeetsSeq3
end
section
variable {prog:Program} {w:World} {A:Around} {E:Value->Shared->Prop} {s:Shared}
theorem cat_tup{vs ws:List Value}{Q:Value->Shared->Prop}(ht:IsTup s.heap t vs.toArray)(hb:IsTup s.heap b ws.toArray)(hv:vs≠[])
  (h1:ws=[]->Q (.ref t) s) (h2:ws≠[]->Q (.ref s.heap.objs.size) {s with heap:=s.heap.push {cls:= .type "tuple",data:= .seq (vs++ws).toArray}})
  (hsz:vs.length+ws.length<=sizeLine):wpAny (model prog w) A (binaryOp .Add (.ref t) (.ref b)) Q E s:=by
 obtain⟨⟨cls,dd,data,sl⟩,ho,hc,n,hd⟩:=id ht;obtain⟨⟨cls2,dd2,data2,sl2⟩,ho2,hc2,n2,hd2⟩:=id hb;simp only at hc hd hc2 hd2;subst hc hd hc2 hd2;have e:vs.toArray++ws.toArray=(vs++ws).toArray:=by simp
 by_cases hw:ws=[]
 ·exact concat_meets ⟨_,ho,rfl⟩ ⟨_,ho2,rfl⟩ noFill_tuple_add seq_tuple_add PySem.F.slot_tuple_add PySem.F.entry_tuple_add (PySem.F.args_tuple_add_2 _ _)
   (tuple_addW1 t b vs.toArray ws.toArray n n2 dd dd2 sl sl2 (by simpa using hv) (by simp[hw])) ⟨ho,ho2,h1 hw⟩
 ·refine concat_meets ⟨_,ho,rfl⟩ ⟨_,ho2,rfl⟩ noFill_tuple_add seq_tuple_add PySem.F.slot_tuple_add PySem.F.entry_tuple_add (PySem.F.args_tuple_add_2 _ _)
   (tuple_addW2 t b vs.toArray ws.toArray n n2 dd dd2 sl sl2 (by simpa using hv) (by simpa using hw) (by rw[ψ,ψ]; exact hsz)) ⟨ho,ho2,?_⟩
  rw[e];exact h2 hw
def sIx (n d:Nat):Option Int->Nat
 | none=>d
 | some v=>if v<0 then (v+(n:Int)).toNat else min v.toNat n
theorem sIx_none(n d:Nat):sIx n d none=d:=rfl
theorem sIx_nat(n d k:Nat):sIx n d (some (k:Int))=min k n:=by
 show(if (k:Int)<0 then ((k:Int)+(n:Int)).toNat else min (k:Int).toNat n)=min k n;rw[if_neg (by omega),Θ]
theorem sIx_le(n d:Nat)(hd:d<=n)(o:Option Int):sIx n d o<=n:=by
 cases o with
 | none=>exact hd
 | some v=>
  show(if v<0 then (v+(n:Int)).toNat else min v.toNat n)<=n;by_cases hv:v<0
  ·rw[if_pos hv]; omega
  ·rw[if_neg hv]; exact Nat.min_le_right _ _
theorem XG(v:Int)(n d:Nat):(if v<0 then max (v+(n:Int)) 0 else min v (n:Int))=((sIx n d (some v):Nat):Int):=by
 show(if v<0 then max (v+(n:Int)) 0 else min v (n:Int))=(((if v<0 then (v+(n:Int)).toNat else min v.toNat n):Nat):Int);by_cases hv:v<0
 ·simp only[if_pos hv]; omega
 ·simp only[if_neg hv]; omega
theorem adjust_gen(lo hi:Option Int)(n:Nat):Builtin.Slice.sliceAdjust lo hi 1 (n:Int)=(((sIx n 0 lo:Nat):Int),((sIx n n hi:Nat):Int)):=by
 have h1: ¬((1:Int)<0):=by omega
 unfold Builtin.Slice.sliceAdjust;simp only[h1,if_false];refine Prod.ext ?_ ?_
 ·cases lo with
  | none=>rfl
  | some v=>exact XG v n 0
 ·cases hi with
  | none=>rfl
  | some v=>exact XG v n n
theorem places_gen(i j:Nat):Builtin.Slice.slicePlaces (i:Int) (j:Int) 1=j-i:=by
 unfold Builtin.Slice.slicePlaces;have h1:(1:Int)>0:=by omega
 simp only[h1,if_true,Int.ediv_one];split<;>omega
theorem vx{Q:Option Int->Shared->Prop}(p:IsPart v o)(h:Q o s):wpAny (model prog w) A (Builtin.Slice.slicePartIndex v) Q E s:=by
 cases p with
 | none=>exact slicePart_none h
 | int i t=>exact slicePart_int h
theorem xD{sl:Addr}{vl vu:Value}{lo hi:Option Int}{n:Nat}{Q:Int×Int×Nat->Shared->Prop}(hs:s.heap.IsSliceOf sl vl vu .none)(pl:IsPart vl lo)(pu:IsPart vu hi)
  (h:Q (((sIx n 0 lo:Nat):Int),1,sIx n n hi-sIx n 0 lo) s):wpAny (model prog w) A (Builtin.Slice.sliceApplied (.ref sl) (pure (n:Int))) Q E s:=by
 obtain⟨os,hos,hcs,hds⟩:=id hs;unfold Builtin.Slice.sliceApplied Builtin.Slice.sliceFields;refine γ (γ (wpAny_field hos hds (x:=vl) rfl (γ (wpAny_field hos hds (x:=vu) rfl (γ (wpAny_field hos hds (x:= .none) rfl (ι ?_)))))));refine γ (slicePart_none ?_);show wpAny _ _ (if ((1:Int)==0)=true then _ else _) _ _ s;rw[if_neg (by decide)];refine γ (vx pl (γ (vx pu (γ (ι ?_)))));show wpAny _ _ (match Builtin.Slice.sliceAdjust lo hi 1 (n:Int) with | (lo,hi)=>pure (lo,(1:Int),Builtin.Slice.slicePlaces lo hi 1)) _ _ s;rw[adjust_gen lo hi n];show wpAny _ _ (pure (((sIx n 0 lo:Nat):Int),(1:Int),Builtin.Slice.slicePlaces ((sIx n 0 lo:Nat):Int) ((sIx n n hi:Nat):Int) 1)) _ _ s;rw[places_gen];exact ι h
theorem pick_gen(xs:Array Value)(i k:Nat):((List.range k).filterMap fun(m:Nat)=>xs[((i:Int)+(m:Int)*1).toNat]?).toArray=((xs.toList.drop i).take k).toArray:=by
 have e:(fun(m:Nat)=>xs[((i:Int)+(m:Int)*1).toNat]?)=λm=>xs[i+m]? :=by
  funext m
  have:((i:Int)+(m:Int)*1).toNat=i+m:=by omega
  rw[this]
 rw[e];have:=pick_run xs i k;rw[List.filterMap_map] at this;have e2:((λx=>xs[x]?) ∘ λx=>i+x)=λm=>xs[i+m]? :=rfl;rw[e2] at this;rw[this]
theorem getItem_tuple_cut{t sl:Addr}{items:Array Value}{vl vu:Value}{lo hi:Option Int}{Q:Value->Shared->Prop}(ht:IsTup s.heap t items)(hs:s.heap.IsSliceOf sl vl vu .none)(pl:IsPart vl lo)(pu:IsPart vu hi)
  (hw: ¬(sIx items.size 0 lo=0/\sIx items.size items.size hi=items.size))
  (h:Q (.ref s.heap.objs.size) {s with heap:=s.heap.push {cls:= .type "tuple",data:= .seq ((items.toList.drop (sIx items.size 0 lo)).take (sIx items.size items.size hi - sIx items.size 0 lo)).toArray}})
  (hsz:items.size<=sizeLine):wpAny (model prog w) A (getItem (.ref t) (.ref sl)) Q E s:=by
 have htake:sizeOk (.seq ((items.toList.drop (sIx items.size 0 lo)).take (sIx items.size items.size hi-sIx items.size 0 lo)).toArray):=by
  show((items.toList.drop (sIx items.size 0 lo)).take (sIx items.size items.size hi-sIx items.size 0 lo)).toArray.size<=sizeLine;rw[ψ,List.length_take,List.length_drop,Array.length_toList];omega
 have hj:sIx items.size items.size hi<=items.size:=sIx_le _ _ (θ _) hi;obtain⟨os,hos,hcs,hds⟩:=id hs;have hTs:s.TypeIs (.ref sl) "slice":=⟨os,hos,hcs⟩;unfold getItem
 try with_reducible refine wpAny_holding ?_
 first | refine γ (ι ?_) | skip
 refine γ (wpAny_sequenceKey ht.typeIs (by decide) ?_);refine γ (wpAny_callSpecial?_slot (name:=Str.ofString "__getitem__") ht.typeIs PyProof.Rows.slot_tuple_getitem
  (wpAny_call_entry PyProof.Rows.slot_tuple_getitem ht.typeIs entry_tuple_getitem ?_ (args_tuple_getitem _ _)))
 show wpAny _ _ (Builtin.Tuple.tupleItemsOf (.ref t)>>=_) _ _ s;refine γ (tupleItemsOf_ ht ?_);refine γ (wpAny_typeOf hTs ?_);rw[if_pos (by decide)];refine γ (xD hs pl pu ?_);have hno: ¬((((sIx items.size 0 lo:Nat):Int)==0&&(1:Int)==1&&(sIx items.size items.size hi-sIx items.size 0 lo)==items.size)=true):=by
  intro q;rw[Bool.and_eq_true,Bool.and_eq_true] at q;have q1:((sIx items.size 0 lo:Nat):Int)=0:=eq_of_beq q.1.1;have q2:sIx items.size items.size hi-sIx items.size 0 lo=items.size:=eq_of_beq q.2;exact hw ⟨by omega,by omega⟩
 show wpAny _ _ (if (((sIx items.size 0 lo:Nat):Int)==0&&(1:Int)==1&&(sIx items.size items.size hi-sIx items.size 0 lo)==items.size)=true then _ else _) _ _ s;rw[if_neg hno,pick_gen]
 first
  | exact γ (m:=Builtin.Tuple.tupleExact _) (wpAny_newObj_type (ι ⟨_,rfl,ι h⟩) htake)
  | exact γ (m:=Builtin.Tuple.tupleExact _) (wpAny_newObj_type (γ (ι (ι ⟨_,rfl,ι h⟩))) htake)
  | exact γ (γ (m:=Builtin.Tuple.tupleExact _) (wpAny_newObj_type (ι (ι ⟨_,rfl,ι h⟩)) htake))
  | exact γ (γ (m:=Builtin.Tuple.tupleExact _) (wpAny_newObj_type (ι ⟨_,rfl,ι h⟩) htake))
end
end HT
namespace L2
open PySem PySem.Spec PyProof.Rows
abbrev TO:=St->Hp->(Option Int->Hp->Prop)->Prop
def PO (X:Cx) (e:Option Expr) (t:TO):Prop:=
 ∀(pins:List (Addr×Obj)) (s:Shared) (σ:St) (H:Hp) (Q:Option Int->Hp->Prop),Inv X pins σ H s->t σ H Q->
  wpAny (model X.prog X.w) X.A (evalPart e X.env) (λu s'=> ∃o H',Inv X pins σ H' s'/\IsPart u o/\Q o H') X.xe s
def vh:TO:=λ_ H Q=>Q none H
def Y1 (t:TE):TO:=fun σ H Q=>t σ H λx H1=> ∃i,x= .int i/\Q (some i) H1
section
variable {X:Cx} {e:Expr} {te:TE} {lo hi:Option Expr} {tl th:TO} {pos p2:Pos}
theorem wx:PO X none vh:=by
 intro pins s σ H Q I h;rw[evalPart_none];exact ι ⟨none,H,I,.none,h⟩
theorem ww(h:PE X e te):PO X (some e) (Y1 te):=by
 intro pins s σ H Q I hw;rw[evalPart_some];refine thn (h pins s σ H _ I hw) λu s1 ⟨x,H1,I1,r1,q1⟩=>?_;obtain⟨i,rfl,q⟩:=q1;obtain⟨t,rfl⟩:=r1;exact⟨some i,H1,I1,.int i t,q⟩
def SlR (X:Cx) (r:V->Option Int->Option Int->Hp->VK->Prop):Prop:=
 ∀(pins:List (Addr×Obj)) (s:Shared) (σ:St) (H:Hp) (x:V) (v vl vu:Value) (lo hi:Option Int) (sl:Addr) (Q:VK),Inv X pins σ H s->RelV x v->s.heap.IsSliceOf sl vl vu .none->IsPart vl lo->IsPart vu hi->r x lo hi H Q->
  ∃T id,typeLookup (.type T) "__getitem__"=pure (some (.builtin id))/\s.TypeIs v T/\wpAny (model X.prog X.w) X.A (getItem v (.ref sl)) (EP X pins σ Q) X.xe s
def tSl (r:V->Option Int->Option Int->Hp->VK->Prop) (te:TE) (tl th:TO):TE:=fun σ H Q=>te σ H λx H1=>tl σ H1 λl H2=>th σ H2 λu H3=>r x l u H3 Q
theorem xW{r:V->Option Int->Option Int->Hp->VK->Prop}(hr:SlR X r)(he:PE X e te)(hl:PO X lo tl)(hu:PO X hi th):PE X (.Subscript e (.Slice lo hi none p2) pos) (tSl r te tl th):=by
 intro pins s σ H Q I h;refine Subscript_ (thn (he pins s σ H _ I h) λv s1 ⟨x,H1,I1,r1,q1⟩=>?_);refine wpAny_Slice (thn (hl pins s1 σ H1 _ I1 q1) λvl s2 ⟨l,H2,I2,pl,q2⟩=>thn (hu pins s2 σ H2 _ I2 q2) λvu s3 ⟨u,H3,I3,pu,q3⟩=>?_);rw[evalPart_none];refine ι ?_;have I4:Inv X pins σ H3 {s3 with heap:=s3.heap.push {cls:= .type "slice",data:= .fields #[vl,vu,.none]}}:=I3.kept (t':=s3.toks) λb ob q=>η _ q;obtain⟨T,id,hT,ht,hg⟩:=hr pins {s3 with heap:=s3.heap.push {cls:= .type "slice",data:= .fields #[vl,vu,.none]}} σ H3 x v vl vu l u s3.heap.objs.size Q I4 r1 (Heap.IsSliceOf.new ..) pl pu q3;show wpAny (model X.prog X.w) X.A (subscriptTail e (.Slice lo hi none p2) v (.ref s3.heap.objs.size)) (EP X pins σ Q) X.xe {s3 with heap:=s3.heap.push {cls:= .type "slice",data:= .fields #[vl,vu,.none]}};exact tail_any (ops:=[.ref s3.heap.objs.size,v]) ht hT hg (by with_unfolding_all rfl)
def cutV (xs:List V) (lo hi:Option Int):List V:=(xs.drop (HT.sIx xs.length 0 lo)).take (HT.sIx xs.length xs.length hi-HT.sIx xs.length 0 lo)
theorem vd(xs:List V)(lo hi:Option Int):(cutV xs lo hi).length<=xs.length:=by
 unfold cutV;rw[List.length_take,List.length_drop];omega
def rSlT (K:W.Frag):V->Option Int->Option Int->Hp->VK->Prop:=λx lo hi H Q=> ∃a xs,x= .ref a/\SqT K H a xs/\
 ¬(HT.sIx xs.length 0 lo=0/\HT.sIx xs.length xs.length hi=xs.length)/\ ∀p,H p=none->Q (.ref p) (upd H p (.tup (cutV xs lo hi)))
theorem sl_tup:SlR X (rSlT X.K):=by
 intro pins s σ H x v vl vu lo hi sl Q I rx hs pl pu h;obtain⟨a,xs,rfl,hx,hw,q⟩:=h;cases rx
 obtain⟨its,r,ht,hz⟩:=I.tuple hx;have hlen:its.toArray.size=xs.length:=by rw[ψ]; exact r.length.symm
 refine⟨"tuple",_,PyProof.Rows.slot_tuple_getitem.lookup,ht.typeIs,?_⟩;refine HT.getItem_tuple_cut ht hs pl pu (by rw[hlen]; exact hw) ?_ (by rw[hlen]; exact hz);rw[hlen];refine⟨.ref s.heap.objs.size,_,I.laid (t':=s.toks) (o:= .tup (cutV xs lo hi)) (λb ob q=>η _ q) (θ _) ?_,rfl,q _ (I.hok.fresh (θ _))⟩;exact⟨Τ (vd xs lo hi) hz,_,(r.drop (HT.sIx xs.length 0 lo)).take (HT.sIx xs.length xs.length hi - HT.sIx xs.length 0 lo),IsTup.new _ _⟩
def rCatT (K:W.Frag):R2:=λx y H Q=> ∃a b xs ys,x= .ref a/\y= .ref b/\SqT K H a xs/\SqT K H b ys/\xs≠[]/\xs.length+ys.length<=sizeLine/\
 (ys=[]->Q (.ref a) H)/\(ys≠[]-> ∀p,H p=none->Q (.ref p) (upd H p (.tup (xs++ys))))
theorem Vals.nil_iff(r:Vals xs us):us=[]↔xs=[]:=by
 cases r with
 | nil=>simp
 | cons _ _=>simp
theorem op_catT:OpR X (binaryOp .Add) (rCatT X.K):=by
 intro pins s σ H x y v u Q I rx ry h;obtain⟨a,b,xs,ys,rfl,rfl,ha,hb,hx,hz,q1,q2⟩:=h;cases rx
 cases ry
 obtain⟨its,r1,p1,_⟩:=I.tuple ha;obtain⟨its2,r2,p2,_⟩:=I.tuple hb;refine HT.cat_tup p1 p2 (λz=>hx (r1.nil_iff.mp z)) (λz=>⟨.ref a,H,I,rfl,q1 (r2.nil_iff.mp z)⟩) (λz=>?_) (by rw[<-r1.length,<-r2.length]; exact hz);refine⟨.ref s.heap.objs.size,_,I.laid (t':=s.toks) (o:= .tup (xs++ys)) (λb ob q=>η _ q) (θ _) ?_,rfl,q2 (λw=>z (r2.nil_iff.mpr w)) _ (I.hok.fresh (θ _))⟩;exact⟨by rw[Β]; exact hz,_,r1.append r2,IsTup.new _ _⟩
end
def ixN (n:Nat) (i:Int):Option Nat:=if 0<=i then (if i<n then some i.toNat else none) else if -(n:Int)<=i then some (i+n).toNat else none
def atI {α:Type} (xs:List α) (i:Int):Option α:=(ixN xs.length i).bind λj=>xs[j]?
theorem ZN(h:ixN n i=some j):seqIndex? i n=some j/\j<n/\ -(n:Int)<=i/\i<n:=by
 unfold ixN at h;by_cases h0:0<=i
 ·rw[if_pos h0] at h;by_cases h1:i<n
  ·rw[if_pos h1] at h;have e:i.toNat=j:=Γ h;exact⟨by rw[seqIndex_of h0 h1,e],by omega,by omega,h1⟩
  ·rw[if_neg h1] at h; cases h
 ·rw[if_neg h0] at h;by_cases h1: -(n:Int)<=i
  ·rw[if_pos h1] at h;have e:(i+n).toNat=j:=Γ h;exact⟨by rw[seqIndex_neg (by omega) h1,e],by omega,h1,by omega⟩
  ·rw[if_neg h1] at h; cases h
theorem Z0{xs:List α}{v:α}(h:atI xs i=some v): ∃j,seqIndex? i xs.length=some j/\xs[j]? =some v/\j<xs.length/\ -(xs.length:Int)<=i/\i<xs.length:=by
 unfold atI at h;cases e:ixN xs.length i with
 | none=>rw[e] at h; cases h
 | some j=>
  rw[e] at h;obtain⟨h1,h2,h3,h4⟩:=ZN e;exact⟨j,h1,h,h2,h3,h4⟩
theorem zx{α:Type}{xs:List α}{j:Nat}{v:α}(h:xs[j]? =some v):atI xs (j:Int)=some v:=by
 have hj:j<xs.length:=(ξ.mp h).1;have e:ixN xs.length (j:Int)=some j:=by
  unfold ixN;rw[if_pos (by omega),if_pos (by omega)]; simp
 unfold atI; rw[e]; exact h
theorem wN(xs:List α)(v:α):atI (xs++[v]) (-1)=some v:=by
 have hl:(xs++[v]).length=xs.length+1:=by simp
 have e:ixN (xs++[v]).length (-1)=some xs.length:=by
  unfold ixN;rw[hl,if_neg (by decide),if_pos (by omega)];congr 1;omega
 unfold atI;rw[e];show(xs++[v])[xs.length]? =some v;simp
def PlainIx (b:Expr):Prop:= ∀o i,subscripted b false o i=operate [o,i] (getItem o i)
def IxR (X:Cx) (r:R2):Prop:=
 ∀(value slice:Expr) (pins:List (Addr×Obj)) (s:Shared) (σ:St) (H:Hp) (x y:V) (v u:Value) (Q:VK),Inv X pins σ H s->RelV x v->RelV y u->r x y H Q->
  subscripted slice false v u=operate [v,u] (getItem v u)->wpAny (model X.prog X.w) X.A (subscriptTail value slice v u) (EP X pins σ Q) X.xe s
def MtR (X:Cx) (id:String) (r:V->List V->Hp->VK->Prop):Prop:=
 ∀(pins:List (Addr×Obj)) (s:Shared) (σ:St) (H:Hp) (x:V) (xs:List V) (v:Value) (us:List Value) (Q:VK),Inv X pins σ H s->RelV x v->Vals xs us->r x xs H Q->
  wpAny (model X.prog X.w) X.A (call (.builtin id) (v::us)) (EP X pins σ Q) X.xe s
section
variable {X:Cx} {a b:Expr} {ta tb:TE} {pos:Pos}
theorem IxR.or(h:IxR X r)(h':IxR X r'):IxR X (λx y H Q=>r x y H Q\/r' x y H Q):=by
 intro value slice pins s σ H x y v u Q I rx ry q hs;rcases q with q | q
 ·exact h value slice pins s σ H x y v u Q I rx ry q hs
 ·exact h' value slice pins s σ H x y v u Q I rx ry q hs
theorem zn(hr:IxR X r)(ha:PE X a ta)(hb:PE X b tb)(hs:PlainIx b):PE X (.Subscript a b pos) (tOp r ta tb):=by
 intro pins s σ H Q I h;exact Subscript_ (binT ha hb I h λv u s2 x y H2 I2 rx ry q=>hr a b pins s2 σ H2 x y v u Q I2 rx ry q (hs _ _))
def rIxL (K:W.Frag):R2:=λx y H Q=> ∃p xs i v,x= .ref p/\y= .int i/\SqL K H p xs/\atI xs i=some v/\Q v H
def rIxT (K:W.Frag):R2:=λx y H Q=> ∃p xs i v,x= .ref p/\y= .int i/\SqT K H p xs/\atI xs i=some v/\Q v H
def rIxS:R2:=λx y H Q=> ∃z i c,x= .str z/\y= .int i/\z.length<=sizeLine/\atI z.cps.toList i=some c/\Q (.str ⟨#[c]⟩) H
theorem ix_list:IxR X (rIxL X.K):=by
 intro value slice pins s σ H x y v u Q I rx ry h hs;obtain⟨p,xs,i,z,rfl,rfl,hq,he,q⟩:=h;cases rx
 obtain⟨t,rfl⟩:=ry;obtain⟨its,r,pl,hz⟩:=I.list hq;obtain⟨j,h1,h2,h3,h4,h5⟩:=Z0 he;obtain⟨w,ew,rw'⟩:=r.get h2;have hl:=r.length;have hn:=vM;have fin:EP X pins σ Q w s:=⟨z,H,I,rw',q⟩;by_cases h0:0<=i
 ·have hj:i.toNat=j:=by
   rw[seqIndex_of h0 h5] at h1;exact Γ h1
  exact item_listR pl.isList h0 (by omega) (by rw[hj]; simpa using ew) fin hs
 ·have hj:(i+(its.toArray.size:Int)).toNat=j:=by
   rw[seqIndex_neg (by omega) h4] at h1;rw[ψ,<-hl];exact Γ h1
  exact subscriptTail_builtinR (x:=w) pl.isList.typeIs slot_list_getitem.lookup
   (wpAny_getItem_list_neg (Q:=λr s'=>r=w/\EP X pins σ Q r s') pl.isList (by omega) (by rw[ψ]<;>omega) (by omega) (by rw[hj]; simpa using ew) ⟨rfl,fin⟩) hs
theorem ix_tup:IxR X (rIxT X.K):=by
 intro value slice pins s σ H x y v u Q I rx ry h hs;obtain⟨p,xs,i,z,rfl,rfl,hq,he,q⟩:=h;cases rx
 obtain⟨t,rfl⟩:=ry;obtain⟨its,r,pl,hz⟩:=I.tuple hq;obtain⟨j,h1,h2,h3,h4,h5⟩:=Z0 he;obtain⟨w,ew,rw'⟩:=r.get h2;have hl:=r.length;have hn:=vM;have fin:EP X pins σ Q w s:=⟨z,H,I,rw',q⟩;exact subscriptTail_builtinR (x:=w) pl.typeIs slot_tuple_getitem.lookup
  (getItem_tuple (j:=j) (Q:=λr s'=>r=w/\EP X pins σ Q r s') pl (by omega) (by omega) (by rw[ψ,<-hl]; exact h1) (by simpa using ew) ⟨rfl,fin⟩) hs
theorem ix_str:IxR X rIxS:=by
 intro value slice pins s σ H x y v u Q I rx ry h hs;obtain⟨z,i,c,rfl,rfl,hz,he,q⟩:=h;obtain⟨t,rfl⟩:=rx;obtain⟨t',rfl⟩:=ry;obtain⟨j,h1,h2,h3,h4,h5⟩:=Z0 he;have hl:z.cps.toList.length=z.length:=by simp[Str.length]
 rw[hl] at h1 h4 h5;have hn:=vM;exact tail_any (typeIs_str s z t) slot_str_getitem.lookup (getItem_str (c:=c) (by
  have e1:decide (i< -(2^63:Int))=false:=decide_eq_false (by omega);have e2:decide (i>=2^63)=false:=decide_eq_false (by omega);rw[e1,e2,Bool.or_false]) (by rw[h1]; simpa using h2) ⟨.str ⟨#[c]⟩,H,I.tok _,⟨_,rfl⟩,q⟩) hs
def rIx (K:W.Frag):R2:=λx y H Q=>rIxL K x y H Q\/rIxT K x y H Q\/rIxS x y H Q
theorem ix_seq:IxR X (rIx X.K):=ix_list.or (ix_tup.or ix_str)
theorem mapSeq_set(its:List Value)(n j:Nat)(u:Value):Obj.mapSeq (·.setIfInBounds j u) {cls:= .type "list",data:= .seq its.toArray n}={cls:= .type "list",data:= .seq (its.set j u).toArray n}:=by
 simp[Obj.mapSeq]
theorem Inv.lst(I:Inv X pins σ H s)(h:H p=some (.lst xs)):
  ∃(its:List Value) (n:Nat),Vals xs its/\s.heap.get? p=some {cls:= .type "list",data:= .seq its.toArray n}/\xs.length<=sizeLine:=by
 obtain⟨z,its,n,r,e⟩:=I.hok p _ h;exact⟨its,n,r,e,z⟩
theorem Inv.lstUpd{its its':List Value}{f:Obj->Obj}(I:Inv X pins σ H s)(h:H p=some (.lst xs))
  (ho:s.heap.get? p=some {cls:= .type "list",data:= .seq its.toArray n}) (hf:f {cls:= .type "list",data:= .seq its.toArray n}={cls:= .type "list",data:= .seq its'.toArray n'}) (r:Vals ys its') (hz:ys.length<=sizeLine) (t:Nat):
  Inv X pins σ (upd H p (.lst ys)) {s with heap:=s.heap.update p f,toks:=t}:=by
 have e:(s.heap.update p f).get? p=some {cls:= .type "list",data:= .seq its'.toArray n'}:=by
  rw[Heap.get?_update_self f ho (by rw[hf]<;>rfl),hf]
 refine I.write (x:=p) (e:=p) (by rw[h]; trivial) (.inl rfl) (λb u hb q=>(Heap.get?_update_other _ _ (Ne.symm hb)).trans q) ⟨_,e⟩ ?_;exact⟨hz,its',n',r,e⟩
def rSetL:V->V->V->Hp->(Hp->Prop)->Prop:=λo i v H Q=> ∃p xs k j,o= .ref p/\i= .int k/\H p=some (.lst xs)/\ixN xs.length k=some j/\Q (upd H p (.lst (xs.set j v)))
theorem set_list:PSet X rSetL:=by
 intro pins s σ H o i v ov iv u Q I ro ri rv h;obtain⟨p,xs,k,j,rfl,rfl,hp,hj,q⟩:=h;cases ro
 obtain⟨t,rfl⟩:=ri;obtain⟨its,n,r,ho,hz⟩:=I.lst hp;obtain⟨h1,h2,h3,h4⟩:=ZN hj;have hl:=r.length;have hn:=vM;have I':Inv X pins σ (upd H p (.lst (xs.set j v))) {s with heap:=s.heap.update p (Obj.mapSeq (·.setIfInBounds j u))}:=
  I.lstUpd hp ho (mapSeq_set its n j u) (r.set rv j) (by rw[List.length_set]; exact hz) s.toks
 by_cases h0:0<=k
 ·have hk:k.toNat=j:=by
   rw[seqIndex_of h0 h4] at h1;exact Γ h1
  exact PySem.W.ki_setAt ho h0 (by omega) (by rw[ψ,<-hl]; exact h4) (by rw[hk]; exact⟨_,I',q⟩)
 ·have hk:(k+(its.toArray.size:Int)).toNat=j:=by
   rw[seqIndex_neg (by omega) h3] at h1;rw[ψ,<-hl];exact Γ h1
  exact PySem.W.ki_setBack ho (by omega) (by rw[ψ,<-hl]; exact h3) (by omega) (by rw[hk]; exact⟨_,I',q⟩)
theorem slice_bounds(lo hi:Option Int)(n:Nat):(sliceBounds lo hi none n).1=((HT.sIx n 0 lo:Nat):Int)/\(sliceBounds lo hi none n).2.1=((HT.sIx n n hi:Nat):Int)/\(sliceBounds lo hi none n).2.2=1:=by
 refine⟨?_,?_,rfl⟩
 ·cases lo with
  | none=>simp[sliceBounds,HT.sIx]
  | some i=>
   simp only[sliceBounds,HT.sIx,Option.getD_none,show(1:Int)>0 by decide,if_true];by_cases h:i<0
   ·simp only[h,if_true]<;>omega
   ·simp only[h,if_false]<;>omega
 ·cases hi with
  | none=>simp[sliceBounds,HT.sIx]
  | some i=>
   simp only[sliceBounds,HT.sIx,Option.getD_none,show(1:Int)>0 by decide,if_true];by_cases h:i<0
   ·simp only[h,if_true]<;>omega
   ·simp only[h,if_false]<;>omega
theorem slicePick_cut(its:List Value)(lo hi:Option Int):slicePick its.toArray lo hi none=((its.drop (HT.sIx its.length 0 lo)).take (HT.sIx its.length its.length hi-HT.sIx its.length 0 lo)).toArray:=by
 obtain⟨h1,h2,h3⟩:=slice_bounds lo hi its.toArray.size;unfold slicePick;rw[h1,h2,h3];simp only[sliceRange_one,pick_run,List.size_toArray]<;>rfl
def rSlL (K:W.Frag):V->Option Int->Option Int->Hp->VK->Prop:=λx lo hi H Q=> ∃a xs,x= .ref a/\SqL K H a xs/\ ∀p,H p=none->Q (.ref p) (upd H p (.lst (cutV xs lo hi)))
theorem ZC:SlR X (rSlL X.K):=by
 intro pins s σ H x v vl vu lo hi sl Q I rx hs pl pu h;obtain⟨a,xs,rfl,hx,q⟩:=h;cases rx
 obtain⟨its,r,ht,hz⟩:=I.list hx;have hlen:=r.length;refine⟨"list",_,slot_list_getitem.lookup,ht.isList.typeIs,?_⟩;refine wpAny_getItem_list_slice ht.isList hs pl pu .none (by simp) ?_ (by rw[ψ]<;>omega);rw[slicePick_cut,<-hlen];refine⟨.ref s.heap.objs.size,_,I.laid (t':=s.toks) (o:= .lst (cutV xs lo hi)) (λb ob q=>η _ q) (θ _) ?_,rfl,q _ (I.hok.fresh (θ _))⟩;exact⟨Τ (vd xs lo hi) hz,_,0,(r.drop (HT.sIx xs.length 0 lo)).take (HT.sIx xs.length xs.length hi - HT.sIx xs.length 0 lo),π _ rfl⟩
def xZ:V->Bool
 | .non=>true
 | .bl _=>true
 | .int _=>true
 | .str _=>true
 | _=>false
def eqV:V->V->Bool
 | .non,.non=>true
 | .bl a,.bl b=>a==b
 | .bl a,.int b=>(if a then 1 else 0)==b
 | .int a,.bl b=>a==(if b then 1 else 0)
 | .int a,.int b=>a==b
 | .str a,.str b=>a==b
 | _,_=>false
theorem eqAt_V(ry:RelV y u)(rx:RelV x v)(fy:xZ y=true)(fx:xZ x=true):SeqAt.EqAt A s u v (eqV y x):=by
 cases y with
 | non=>
  cases ry
  cases x with
  | non=>cases rx; exact SeqAt.EqAt.same _
  | bl b=>cases rx; exact SeqAt.EqAt.none_bool b
  | int b=>obtain⟨t,rfl⟩:=rx; exact SeqAt.EqAt.none_int b t
  | str b=>obtain⟨t,rfl⟩:=rx; exact SeqAt.EqAt.none_str b t
  | _=>exact absurd (show false=true from fx) Ζ
 | bl a=>
  cases ry
  cases x with
  | non=>cases rx; exact SeqAt.EqAt.bool_none a
  | bl b=>cases rx; exact SeqAt.EqAt.bool_bool a b
  | int b=>obtain⟨t,rfl⟩:=rx; exact SeqAt.EqAt.bool_int a b t
  | str b=>obtain⟨t,rfl⟩:=rx; exact SeqAt.EqAt.bool_str a b t
  | _=>exact absurd (show false=true from fx) Ζ
 | int a=>
  obtain⟨t',rfl⟩:=ry;cases x with
  | non=>cases rx; exact SeqAt.EqAt.int_none a t'
  | bl b=>cases rx; exact SeqAt.EqAt.int_bool a t' b
  | int b=>obtain⟨t,rfl⟩:=rx; exact SeqAt.EqAt.int_int a t' b t
  | str b=>obtain⟨t,rfl⟩:=rx; exact SeqAt.EqAt.int_str a t' b t
  | _=>exact absurd (show false=true from fx) Ζ
 | str a=>
  obtain⟨t',rfl⟩:=ry;cases x with
  | non=>cases rx; exact SeqAt.EqAt.str_none a t'
  | bl b=>cases rx; exact SeqAt.EqAt.str_bool a t' b
  | int b=>obtain⟨t,rfl⟩:=rx; exact SeqAt.EqAt.str_int a t' b t
  | str b=>obtain⟨t,rfl⟩:=rx; exact SeqAt.EqAt.str_str a t' b t
  | _=>exact absurd (show false=true from fx) Ζ
 | _=>exact absurd (show false=true from fy) Ζ
def eqU (x:V) (u:Value):Bool:=match u with
 | .none=>eqV .non x
 | .bool b=>eqV (.bl b) x
 | .int i _=>eqV (.int i) x
 | .str z _=>eqV (.str z) x
 | _=>false
theorem Wp(r:RelV y u)(f:xZ y=true):eqU x u=eqV y x:=by
 cases y with
 | non=>cases r; rfl
 | bl b=>cases r; rfl
 | int i=>obtain⟨t,rfl⟩:=r; rfl
 | str z=>obtain⟨t,rfl⟩:=r; rfl
 | _=>exact absurd (show false=true from f) Ζ
theorem Z2: ∀{xs:List V} {us:List Value},Vals xs us->xs.all xZ=true->us.any (eqU x)=xs.any λy=>eqV y x
 | _,_,.nil,_=>rfl
 | y::xs,u::us,.cons r t,f=>by
  rw[List.all_cons,Bool.and_eq_true] at f;rw[List.any_cons,List.any_cons,Wp r f.1,Z2 t f.2]
theorem vL(rx:RelV x v)(fx:xZ x=true): ∀{xs:List V} {us:List Value},Vals xs us->xs.all xZ=true-> ∀u∈us,SeqAt.EqAt A s u v (eqU x u)
 | _,_,.nil,_=>λu hu=>by cases hu
 | y::xs,u::us,.cons r t,f=>λu' hu=>by
  rw[List.all_cons,Bool.and_eq_true] at f;rcases Φ.mp hu with rfl | hu
  ·rw[Wp r f.1]; exact eqAt_V r rx f.1 fx
  ·exact vL rx fx t f.2 u' hu
def inV (x:V) (xs:List V):Bool:=xs.any λy=>eqV y x
def rIn (K:W.Frag) (neg:Bool):R2:=λx y H Q=> ∃p xs,y= .ref p/\(SqL K H p xs\/SqT K H p xs)/\xZ x=true/\xs.all xZ=true/\Q (.bl (if neg then !inV x xs else inV x xs)) H
theorem op_notIn_seq:OpR X (compareOp .NotIn) (rIn X.K true):=by
 intro pins s σ H x y v u Q I rx ry h;obtain⟨p,xs,rfl,hq,fx,fs,q⟩:=h;cases ry
 rcases hq with hq | hq
 ·obtain⟨its,r,pl,hz⟩:=I.list hq;refine SeqAt.notIn_listAt (eqU x) pl.isList (λw hw=>vL rx fx r fs w (by simpa using hw)) ⟨.bl _,H,I,rfl,?_⟩;rw[show its.toArray.any (eqU x)=its.any (eqU x) by simp,Z2 r fs];exact q
 ·obtain⟨its,r,pl,hz⟩:=I.tuple hq;refine SeqAt.notIn_tupleAt (eqU x) pl (λw hw=>vL rx fx r fs w (by simpa using hw)) ⟨.bl _,H,I,rfl,?_⟩;rw[show its.toArray.any (eqU x)=its.any (eqU x) by simp,Z2 r fs];exact q
theorem zp:yk X (.builtin "len") (λxs H Q=> ∃p ys,xs=[.ref p]/\(SqL X.K H p ys\/SqT X.K H p ys)/\Q (.int ys.length) H):=by
 intro pins s σ H xs us Q I r h;obtain⟨p,ys,rfl,hq,q⟩:=h;obtain⟨u,rfl,rx⟩:=v4 r;cases rx
 have hn:=vM;rcases hq with hq | hq
 ·obtain⟨its,r',pl,hz⟩:=I.list hq;have hlen:=r'.length;exact Calls.call_len_list pl.isList (by simp only[List.size_toArray]<;>omega) ⟨.int ys.length,H,I.tok _,⟨s.toks+1,by rw[ψ,hlen]⟩,q⟩
 ·obtain⟨its,r',pl,hz⟩:=I.tuple hq;have hlen:=r'.length;exact len_tuple pl (by simp only[List.size_toArray]<;>omega) ⟨.int ys.length,H,I.tok _,⟨s.toks+1,by rw[ψ,hlen]⟩,q⟩
theorem wJ:yk X (.type "list") (λxs H Q=> ∃p ys,xs=[.ref p]/\(SqL X.K H p ys\/SqT X.K H p ys)/\ ∀l,H l=none->Q (.ref l) (upd H l (.lst ys))):=by
 intro pins s σ H xs us Q I r h;obtain⟨p,ys,rfl,hq,q⟩:=h;obtain⟨u,rfl,rx⟩:=v4 r;cases rx
 have fin: ∀(its:List Value),Vals ys its->ys.length<=sizeLine-> ∀(h':Heap) (c':Nat),(∀b o',s.heap.get? b=some o'->h'.get? b=some o')->
   h'.get? s.heap.objs.size=some {cls:= .type "list",dict:=none,data:= .seq its.toArray c',slots:=#[]}->EP X pins σ Q (.ref s.heap.objs.size) {s with heap:=h'}:=λits r' hz h' c' kp e=>
  ⟨.ref s.heap.objs.size,_,I.laid (t':=s.toks) kp (θ _) (show ObjOk X.prog X.w _ h' _ (.lst ys) from⟨hz,its,c',r',e⟩),rfl,q _ (I.hok.fresh (θ _))⟩
 rcases hq with hq | hq
 ·obtain⟨its,r',pl,hz⟩:=I.list hq;have hlen:=r'.length;obtain⟨o,ho,hc,n,hd⟩:=pl.isList;exact call_list_seq p (.inl rfl) ho hc hd (λh' c' kp e=>fin its r' hz h' c' kp e) (by simp only[List.size_toArray]<;>omega)
 ·obtain⟨its,r',pl,hz⟩:=I.tuple hq;have hlen:=r'.length;obtain⟨o,ho,hc,n,hd⟩:=pl;exact call_list_seq p (.inr rfl) ho hc hd (λh' c' kp e=>fin its r' hz h' c' kp e) (by simp only[List.size_toArray]<;>omega)
theorem wc:yk X (.type "tuple") (λxs H Q=> ∃p ys,xs=[.ref p]/\((SqL X.K H p ys/\ ∀l,H l=none->Q (.ref l) (upd H l (.tup ys)))\/(SqT X.K H p ys/\Q (.ref p) H))):=by
 intro pins s σ H xs us Q I r h;obtain⟨p,ys,rfl,h⟩:=h;obtain⟨u,rfl,rx⟩:=v4 r;cases rx
 rcases h with ⟨hq,q⟩ | ⟨hq,q⟩
 ·obtain⟨its,r',pl,hz⟩:=I.list hq;have hlen:=r'.length;refine call_tuple_list pl.isList (λh' kp=>?_) (by simp only[List.size_toArray]<;>omega);have I1:Inv X pins σ H {s with heap:=h'}:=I.kept (t':=s.toks) kp;have I2:Inv X pins σ (upd H h'.objs.size (.tup ys)) {s with heap:=h'.push {cls:= .type "tuple",data:= .seq its.toArray}}:=
   I1.laid (t':=s.toks) (λb o e=>η _ e) (θ _) (show ObjOk X.prog X.w _ _ _ (.tup ys) from⟨hz,its,r',IsTup.new _ _⟩)
  exact⟨.ref h'.objs.size,_,I2,rfl,q _ (I1.hok.fresh (θ _))⟩
 ·obtain⟨its,r',pl,hz⟩:=I.tuple hq;exact call_tuple_same pl ⟨.ref p,H,I,rfl,q⟩
def tyV (K:W.Frag) (T:String) (x:V) (H:Hp):Prop:=match x with
 | .str _=>T="str"
 | .int _=>T="int"
 | .ref p=>(T="list"/\ ∃xs,SqL K H p xs)\/(T="tuple"/\ ∃o,K.lookup p=some o/\o.cls= .type "tuple"/\o.dict=none)\/
   (T="dict"/\((∃kvs,H p=some (.dK kvs))\/ ∃kvs,H p=some (.dT kvs)))\/(T="set"/\ ∃S n,H p=some (.set S n))
 | _=>False
theorem tyV_is(I:Inv X pins σ H s)(r:RelV x v)(ty:tyV X.K T x H):
  s.TypeIs v T/\ ∀a,v= .ref a-> ∃ob,s.heap.get? a=some ob/\ob.dict=none:=by
 cases x with
 | str z=>
  obtain⟨t,rfl⟩:=r;cases (show T="str" from ty)
  exact⟨typeIs_str s z t,λ_ e=>nomatch e⟩
 | int i=>
  obtain⟨t,rfl⟩:=r;cases (show T="int" from ty)
  exact⟨typeIs_int s i t,λ_ e=>nomatch e⟩
 | ref p=>
  cases r
  rcases ty with ⟨rfl,xs,hq⟩ | ⟨rfl,o,hk,hc,hd⟩ | ⟨rfl,hk⟩ | ⟨rfl,S,n,hk⟩
  ·obtain⟨its,_,pl,_⟩:=I.list hq;refine⟨pl.isList.typeIs,λa e=>?_⟩;cases e
   obtain⟨o,n,e,c,hd,_⟩:=pl;exact⟨o,e,hd⟩
  ·refine⟨⟨o,I.kIn p o hk,hc⟩,λa e=>?_⟩;cases e
   exact⟨o,I.kIn _ o hk,hd⟩
  ·have z: ∃o,s.heap.get? p=some o/\o.ExactDict:=by
    rcases hk with ⟨kvs,hk⟩ | ⟨kvs,hk⟩
    ·obtain⟨_,_,_,_,o,_,_,e,ex,_⟩:=I.hok p _ hk;exact⟨o,e,ex⟩
    ·obtain⟨_,_,_,_,o,_,_,e,ex,_⟩:=I.hok p _ hk;exact⟨o,e,ex⟩
   obtain⟨o,e,ex⟩:=z;refine⟨⟨o,e,ex.1⟩,λa e2=>?_⟩;cases e2
   exact⟨o,e,ex.2.1⟩
  ·obtain⟨o,_,_,_,e,ex,_⟩:=I.hok p _ hk;refine⟨⟨o,e,ex.1⟩,λa e2=>?_⟩;cases e2
   exact⟨o,e,ex.2.1⟩
 | _=>exact False.elim ty
def tBM (K:W.Frag) (T:String) (r:V->List V->Hp->VK->Prop) (to:TE) (t:TA):TE:=fun σ H Q=>to σ H λx H1=>tyV K T x H1/\t σ H1 λxs H2=>r x xs H2 Q
variable {o e:Expr} {es:List Expr} {to:TE} {t:TA} {name:Str} {apos cpos:Pos} {T id:String} {r:V->List V->Hp->VK->Prop}
theorem wA(pa:PlainAttrs T)(slot:Slot T name id)(hty:typeOf (.builtin id)=pure (.type "method_descriptor"))(hm:MtR X id r)(ho:PE X o to)(ha:PA X (e::es) t)
  (hbase:attributeBase o name X.env (eval o X.env)=eval o X.env:=by rfl)
  (hfew:((backTo cpos (starEach (e::es) X.env)).all (λx=> !x.1)&&(backToKw cpos (keywordEach [] X.env)).all (λx=>x.1.isSome)
   &&decide ((e::es).length+([]:List Keyword).length+(if ([]:List Keyword).isEmpty then 0 else 1)<30))=true:=by rfl)
  (hline:(apos.endLine==cpos.line)=true:=by rfl) (hs:starEach (e::es) X.env=(false,eval e X.env)::starEach es X.env:=by rfl) (hplain:(backTo cpos (starEach es X.env)).any (·.1)=false:=by rfl):
  PE X (.Call (.Attribute o name apos) (e::es) [] cpos) (tBM X.K T r to t):=by
 intro pins s σ H Q I h;refine wpAny_Call_method_late hbase hfew hline rfl (thn (ho pins s σ H _ I h) λv s1 ⟨x,H1,I1,r1,ty,q1⟩=>?_);obtain⟨h1,h2⟩:=tyV_is I1 r1 ty;refine⟨T,id,pa,slot,hty,h1,h2,?_⟩;have hA:=ha cpos pins s1 σ H1 _ I1 q1;rw[hs] at hA ⊢;refine Calls.callWith_builtin (by show(false || (backTo cpos (starEach es X.env)).any (·.1))=false; rw[hplain]<;>rfl) (Calls.evalArgs_plain ?_);exact thn hA λus s2 ⟨vs,H2,I2,r2,q2⟩=>hm pins s2 σ H2 x vs v us Q I2 r1 r2 q2
/- xs.append(e),list.index on a module's tuple .. are MtR facts of 06m -/
end
def MtM (X:Cx) (id:String) (r:V->List V->Hp->VK->Prop):Prop:=
 ∀(pins:List (Addr×Obj)) (s:Shared) (σ:St) (H:Hp) (x:V) (xs:List V) (v:Value) (us:List Value) (Q:VK),Inv X pins σ H s->RelV x v->Vals xs us->r x xs H Q->
  wpAny (model X.prog X.w) X.A (call (.builtin id) (v::us)) (EP X pins σ Q) X.xe s
theorem Vals.one: ∀{x:V} {us:List Value},Vals [x] us-> ∃u,us=[u]/\RelV x u
 | _,_,.cons r .nil=>⟨_,rfl,r⟩
theorem Vals.eraseIdx: ∀{xs:List V} {us:List Value} (i:Nat),Vals xs us->Vals (xs.eraseIdx i) (us.eraseIdx i)
 | _,_,_,.nil=> .nil
 | _,_,0,.cons _ t=>t
 | _,_,i+1,.cons r t=> .cons r (Vals.eraseIdx i t)
theorem Vals.rep(h:Vals xs us): ∀k:Nat,Vals (List.replicate k xs).flatten (List.replicate k us).flatten
 | 0=> .nil
 | k+1=>by
  rw[List.replicate_succ,List.replicate_succ,List.flatten_cons,List.flatten_cons];exact Vals.append h (Vals.rep h k)
theorem Zh: ∀(l:List α) (i:Nat),(l.eraseIdx i).length<=l.length
 | [],_=>θ _
 | _::_,0=>Nat.le_succ _
 | _::r,i+1=>Nat.succ_le_succ (Zh r i)
theorem Zl(its:List Value): ∀(k:Nat) (acc:List Value),
  List.foldl (λx1 x2=>x1++x2) acc.toArray (List.replicate k its.toArray)=(acc++(List.replicate k its).flatten).toArray
 | 0,acc=>by simp
 | k+1,acc=>by
  have e:acc.toArray++its.toArray=(acc++its).toArray:=by simp
  have e2:(acc++its)++(List.replicate k its).flatten=acc++(List.replicate (k+1) its).flatten:=by
   rw[List.replicate_succ,List.flatten_cons,List.append_assoc]
  rw[<-e2,<-Zl its k (acc++its),<-e,List.replicate_succ,List.foldl_cons]
section
variable {X:Cx} {pins:List (Addr×Obj)} {σ:St} {H:Hp} {s:Shared} {l b:Addr} {xs ys zs:List V}
theorem Inv.lset{its its':List Value}{f:Array Value->Array Value}(I:Inv X pins σ H s)(hH:H l=some (.lst xs))
  (e:s.heap.get? l=some {cls:= .type "list",data:= .seq its.toArray n}) (hf:f its.toArray=its'.toArray) (hv:Vals ys its') (hz:ys.length<=sizeLine):
  Inv X pins σ (upd H l (.lst ys)) {s with heap:=s.heap.update l (Obj.mapSeq f),toks:=t'}:=by
 have q:=PySem.IsL.update e f;rw[hf] at q;refine I.write (x:=l) (e:=l) (by rw[hH]; exact trivial) (.inl rfl) (λb' u hb hu=>(Heap.get?_update_other s.heap (Obj.mapSeq f) (Ne.symm hb)).trans hu) ⟨_,q⟩ ?_;exact⟨hz,its',_,hv,q⟩
theorem Inv.lnew(I:Inv X pins σ H s)(hv:Vals ys its)(hz:ys.length<=sizeLine):
  Inv X pins σ (upd H s.heap.objs.size (.lst ys)) {s with heap:=s.heap.push {cls:= .type "list",data:= .seq its.toArray},toks:=t'}:=
 I.laid (λ_ _ q=>η _ q) (θ _) ⟨hz,its,0,hv,π _ rfl⟩
theorem Inv.fresh(I:Inv X pins σ H s):H s.heap.objs.size=none:=I.hok.fresh (θ _)
theorem Inv.lstM(I:Inv X pins σ H s)(hH:H l=some (.lst xs)):xs.length<=sizeLine/\ ∃(its:List Value) (n:Nat),Vals xs its/\xs.length=its.length/\s.heap.get? l=some {cls:= .type "list",data:= .seq its.toArray n}:=by
 obtain⟨z,its,n,r,e⟩:=I.hok l _ hH;exact⟨z,its,n,r,r.length,e⟩
theorem notLongL(h:n<=sizeLine):Builtin.List.listTooLong n=false:=by
 unfold Builtin.List.listTooLong;exact decide_eq_false (by omega)
end
section
variable {X:Cx}
def rAppend:V->List V->Hp->VK->Prop:=λx vs H Q=> ∃l xs y,x= .ref l/\vs=[y]/\H l=some (.lst xs)/\xs.length<sizeLine/\Q .non (upd H l (.lst (xs++[y])))
theorem xb:MtM X "list.append" rAppend:=by
 intro pins s σ H x vs v us Q I rx rv h;obtain⟨l,xs,y,rfl,rfl,hH,hz,q⟩:=h;cases rx
 obtain⟨u,rfl,ru⟩:=rv.one;obtain⟨z,its,n,r,hl,e⟩:=I.lstM hH;refine call_meets F.slot_list_append ⟨_,e,rfl⟩ F.entry_list_append (F.args_list_append_2 _ _) (PySem.list_append l its.toArray n u (by rw[ψ]; omega)) ⟨e,?_⟩;refine⟨.non,_,I.lset (its':=its++[u]) hH e (by simp) (r.append (.cons ru .nil)) ?_,rfl,q⟩;rw[Β,List.length_singleton];omega
def rPopAt:V->List V->Hp->VK->Prop:=λx vs H Q=> ∃l xs i k y,x= .ref l/\vs=[.int i]/\H l=some (.lst xs)/\ -(2^63)<=i/\i<2^63/\seqIndex? i xs.length=some k/\xs[k]? =some y/\Q y (upd H l (.lst (xs.eraseIdx k)))
theorem Yj:MtM X "list.pop" rPopAt:=by
 intro pins s σ H x vs v us Q I rx rv h;obtain⟨l,xs,i,k,y,rfl,rfl,hH,h1,h2,hk,hy,q⟩:=h;cases rx
 obtain⟨u,rfl,ru⟩:=rv.one;obtain⟨t,rfl⟩:=ru;obtain⟨z,its,n,r,hl,e⟩:=I.lstM hH;obtain⟨w,hw,rw'⟩:=r.get hy;refine call_meets F.slot_list_pop ⟨_,e,rfl⟩ F.entry_list_pop (F.args_list_pop_2 _ _)
  (MeetsSeq.list_pop_at l its.toArray n i t k w (fitsIndex_both h1 h2) (by rw[ψ,<-hl]; exact hk) (by rw[<-Array.getElem?_toList]; exact hw) (by rw[ψ]; omega)) ⟨e,?_⟩
 refine⟨y,_,I.lset (its':=its.eraseIdx k) hH e ?_ (r.eraseIdx k) ?_,rw',q⟩
 ·show its.toArray.eraseIdxIfInBounds k=(its.eraseIdx k).toArray;rw[List.eraseIdxIfInBounds_toArray]
 ·have:=Zh xs k;omega
def rCat:R2:=λx y H Q=> ∃l b xs zs,x= .ref l/\y= .ref b/\H l=some (.lst xs)/\H b=some (.lst zs)/\xs.length+zs.length<=sizeLine/\ ∀p,H p=none->Q (.ref p) (upd H p (.lst (xs++zs)))
theorem wV:OpR X (binaryOp .Add) rCat:=by
 intro pins s σ H x y v u Q I rx ry h;obtain⟨l,b,xs,zs,rfl,rfl,hH,hB,hz,q⟩:=h;cases rx
 cases ry
 obtain⟨z,its,n,r,hl,e⟩:=I.lstM hH;obtain⟨z2,its2,n2,r2,hl2,e2⟩:=I.lstM hB;refine PySem.P.add_list e e2 ?_ (by rw[ψ,ψ]; omega);have ea:its.toArray++its2.toArray=(its++its2).toArray:=by simp
 rw[ea];exact⟨.ref _,_,I.lnew (t':=s.toks) (r.append r2) (by rw[Β]; omega),rfl,q _ I.fresh⟩
def rRep:R2:=λx y H Q=> ∃l k xs,x= .ref l/\y= .int k/\H l=some (.lst xs)/\ -(2^63)<=k/\k<2^63/\xs.length*k.toNat<=sizeLine/\
 ∀p,H p=none->Q (.ref p) (upd H p (.lst (List.replicate k.toNat xs).flatten))
theorem len_rep(xs:List α)(k:Nat):(List.replicate k xs).flatten.length=k*xs.length:=by
 induction k with
 | zero=>simp
 | succ k ih=>rw[List.replicate_succ,List.flatten_cons,Β,ih,Nat.succ_mul,Nat.add_comm]
theorem ZH:OpR X (binaryOp .Mult) rRep:=by
 intro pins s σ H x y v u Q I rx ry h;obtain⟨l,k,xs,rfl,rfl,hH,h1,h2,hz,q⟩:=h;cases rx
 obtain⟨t,rfl⟩:=ry;obtain⟨z,its,n,r,hl,e⟩:=I.lstM hH;have hlen:its.toArray.size*k.toNat<=sizeLine:=by rw[ψ,<-hl]; exact hz
 have hcap: ¬its.toArray.size*k.toNat>(2^63-1) / 8:=by
  have:(sizeLine:Nat)<=(2^63-1) / 8:=by decide
  omega
 have hfit: ¬(!Builtin.List.listFitsIndex k)=true:=by
  rw[fitsIndex_both h1 h2];exact Ζ
 have hlong: ¬Builtin.List.listTooLong (its.toArray.size*k.toNat)=true:=by
  rw[notLongL hlen];exact Ζ
 have hnew:List.foldl (λx1 x2=>x1++x2) #[] (List.replicate (if its.toArray.isEmpty=true then 0 else k.toNat) its.toArray)=(List.replicate k.toNat its).flatten.toArray:=by
  have f0: ∀m:Nat,List.foldl (λx1 x2=>x1++x2) #[] (List.replicate m its.toArray)=(List.replicate m its).flatten.toArray:=λm=>by
   have:=Zl its m [];rw[List.nil_append] at this;exact this
  rw[f0];cases its with
  | nil=>simp
  | cons a r'=>rw[if_neg (by simp)]
 refine wpAny_binaryOp_repeat_ref (T:="list") (U:="int") (by decide) ⟨_,e,rfl⟩ (λs'=>typeIs_int s' k t) noFill_list_mul F.fills_int_mul F.slot_int_rmul repeat_list F.slot_int_index.lookup
  (call_meets F.slot_int_rmul (typeIs_int s k t) F.entry_int_rmul (F.args_int_rmul_2 _ _) (int___rmul___int_list k t l its.toArray n)
   ⟨e,rfl,⟨_,e,rfl⟩,call_meets F.slot_list_mul ⟨_,e,rfl⟩ F.entry_list_mul (F.args_list_mul_2 _ _) (AutoListH.list___mul___list_int_3 l its.toArray n k t hfit hcap hlong) ⟨e,?_⟩⟩)
 rw[hnew];exact⟨.ref _,_,I.lnew (t':=s.toks) (r.rep k.toNat) (by rw[len_rep,Nat.mul_comm]; exact hz),rfl,q _ I.fresh⟩
end
end L2
namespace Att
open PySem PySem.W PySem.Calls PyProof.Rows
theorem ints_of_wellAll: ∀(ns:List Int) (vs:List Value),WellAll P h vs (ns.map WData.int)->IntsAre vs ns:=by
 intro ns
 induction ns with
 | nil=>
  intro vs w;rw[List.map_nil] at w;cases w
  exact .nil
 | cons n ns ih=>
  intro vs w;rw[List.map_cons] at w;cases w with
  | cons a b=>
   cases a
   exact .cons _ _ (ih _ b)
theorem script_of{l:OpenLaw}(hn:l.most=some n)
  (hpre:l.row.toRowW.claim.pre args=true) (hwl:WellAll P h vals args):
  ∃a vs ns,vals=[Value.ref a]/\args=[WData.list (ns.map WData.int)]/\h.get? a=some {cls:= .type "list",data:= .seq vs.toArray}/\IntsAre vs ns/\ns.length<=n:=by
 have hsh:WShape.hasAll [] args [.list .int]=true:=(pre_splitW hpre).1;have hc:l.pre.holds [] {args:=args}=true:=(pre_splitW hpre).2;obtain⟨d,r,rfl,h1,h2⟩:=hasAllW_cons hsh;obtain rfl:=hasAllW_nil h2;obtain⟨xs,rfl,h3⟩:=hasW_list h1;obtain⟨ns,rfl⟩:=items_int h3;have hlen:ns.length<=n:=by
  unfold OpenLaw.pre at hc;have h4:(WTm.not (.lt (.lit (.int (n:Int))) (.len (.arg 0)))).holds [] {args:=[.list (ns.map .int)]}=true:=by
   have h4:=(holds_andW hc).1;rw[hn] at h4;exact h4
  have h5:=condW_of h4 (w_not (w_lt w_lit (w_len_list (w_arg rfl))));rw[ε] at h5;refine Nat.le_of_not_lt λq=>?_;have q':(n:Int)<((ns.length:Nat):Int):=by omega
  first
   | (rw[decide_eq_true q'] at h5; exact absurd h5 (by decide))
   | (simp at h5; omega)
 cases hwl with
 | cons w1 w2=>
  cases w2
  cases w1 with
  | list ho hall=>exact⟨_,_,ns,rfl,rfl,ho,ints_of_wellAll ns _ hall,hlen⟩
theorem post_true(l:OpenLaw)(args:List WData):l.row.toRowW.claim.post args (.bool true) args=true:=
 postW_of (r:=l.row.toRowW) (X:=(true==true))
  (show WShape.has [] (.bool true) .bool=true by first | rfl | decide | simp[WShape.has,WShape.arms,WShape.armsAll])
  (show(WTm.eq .res (.lit (.bool true))).value [] {args:=args,res:=some (.bool true),after:=args}=some (.bool (true==true)) from w_eq_bool (w_res rfl) w_lit) rfl
theorem attach_call{l:OpenLaw}{XP:(Str->Option Value)->Heap->Prop}{YP:World->Heap->Prop}{d:DefRec}
  (hn:l.most=some n) (hdf:d.params.defaults=[])
  (call: ∀(w:World) (s₀ s₁:Shared) (mg mb:Str->Option Value) (fa:Addr) (o:Obj) (pm cd doc:Value) (a:Addr) (vs:List Value) (ns:List Int),
   Ground q loose [] XP w s₀ mg mb s₁.heap->YP w s₁.heap->
   s₁.heap.get? fa=some o->o.data= .func (docDef d.name d.params d.body d.scope pm cd doc)->s₁.heap.CodeRec cd d.name->mg d.name=some (.ref fa)->
   s₁.heap.get? a=some {cls:= .type "list",data:= .seq vs.toArray}->IntsAre vs ns->ns.length<=n->s₁.gens=#[]->
   codeAny (model l.prog w) callerA (.call (.ref fa) ⟨[.ref a],[]⟩) (λr s'=>r= .ok (.ret (.bool true))/\OldK s₁.heap s'.heap/\s'.os=s₁.os/\AllBare s'.gens) s₁):
  WalkO q loose XP YP l.row.toRowW d [] (λf vs=>PySem.call f vs):=by
 intro w s₀ s₁ mg mb G Y fa o pm cd doc dV kV ho hd hcd hD hmg hg args vals as hpre hlay hrd hwl hlo;obtain rfl:dV= .none:=Dflts.none hD hdf;obtain rfl:kV= .none:=Dflts.noKw hD;obtain⟨a,vs,ns,rfl,rfl,hobj,hints,hlen⟩:=script_of hn hpre hwl;refine enter_call (codeAny_mono (call w s₀ s₁ mg mb fa o pm cd doc a vs ns G Y ho (fd_plain hd) hcd hmg hobj hints hlen hg) λr s' hq=>?_);obtain⟨rfl,h2,h3,h4⟩:=hq;exact⟨.inl ⟨.bool true,.bool true,[],rfl,λ_=>rfl,.bool true,post_true l _,λ_=>⟨List.Pairwise.nil,λ_ hm=>(nomatch hm)⟩⟩,h2,h3,h4⟩
end Att
namespace L2
open PySem PySem.Spec PyProof.Rows
theorem wO: ∀{vs:List Value} {ns:List Int},IntsAre vs ns->Vals (ns.map V.int) vs
 | _,_,.nil=> .nil
 | _,_,.cons n t h=> .cons ⟨t,rfl⟩ (wO h)
def Only (H:Hp):Prop:= ∀b,H b=none\/ ∃o xs,H b=some (.frz o (.lst xs))
theorem law_call{K:W.Frag}{mg mb:Str->Option Value}{s₁:Shared}{vs:List Value}
  (KX:K.In s₁.heap) (hns:s₁.heap.Ns mainGlobals mg) (hb:s₁.heap.Ns builtinsNs mb) (hbb: ∀x:Str,x≠"__name__"->mb x=bootBuiltins x) (hlim:s₁.heap.NoLimit) (hg:s₁.gens=#[])
  (ha:s₁.heap.get? a=some {cls:= .type "list",data:= .seq vs.toArray}) (hi:IntsAre vs ns) (hl:ns.length<=sizeLine) (hr:Room k callerA)
  (F: ∀base:Heap,K.In base->base.Ns mainGlobals mg->FnOk P w K mg base CX k fa fd [x] sp) (hbind: ∀(s:Shared) (u:Value),BindsTo s fd ⟨[u],[]⟩ [(x,u)])
  (hsp: ∀H:Hp,Only H->SqL K H a (ns.map V.int)->sp [.ref a] H (λv _=>v= .bl true) λ_ _ _=>False)
  (hCX: ∀H e s',CX [] H s₁ (λ_ _ _=>False) e s'->False):
  codeAny (model P w) callerA (.call (.ref fa) ⟨[.ref a],[]⟩) (λr s'=>r= .ok (.ret (.bool true))/\OldK s₁.heap s'.heap/\s'.os=s₁.os/\AllBare s'.gens) s₁:=by
 have rv:=wO hi;have lenV:=hi.length
 -- from an abstract heap in which nothing but the script may be tracked
 have core: ∀H:Hp,Only H->SqL K H a (ns.map V.int)->HOk P w H s₁.heap->(∀b,H b≠none->b=a)->(H a≠none->K.lookup a=none)->
   codeAny (model P w) callerA (.call (.ref fa) ⟨[.ref a],[]⟩) (λr s'=>r= .ok (.ret (.bool true))/\OldK s₁.heap s'.heap/\s'.os=s₁.os/\AllBare s'.gens) s₁:=by
  intro H hO hS hok hA hK;have base_of: ∀{b:Addr} {o:Obj},s₁.heap.get? b=some o->H b=none->(hidT s₁.heap H).get? b=some o:=λe n=>Yp e n;have noA: ∀{b:Addr} {o:Obj} {es:Array DictEntry} {ep:Nat},s₁.heap.get? b=some o->o.data= .dict es ep->H b=none:=λ{b o es ep} e d=>by
   cases q:H b with
   | none=>rfl
   | some u=>
    have e':b=a:=hA b (by rw[q]; simp);subst e';rw[ha] at e; cases e;have d':Data.seq vs.toArray _=Data.dict es ep:=d;cases d'
  have nsK: ∀{b:Addr} {m:Str->Option Value},s₁.heap.Ns b m->(hidT s₁.heap H).Ns b m:=λ{b m} ⟨o,es,ep,e,d,r⟩=>⟨o,es,ep,base_of e (noA e d),d,r⟩;have hKb:K.In (hidT s₁.heap H):=λb o e=>base_of (KX b o e) (by
   cases q:H b with
   | none=>rfl
   | some u=>
    have e':b=a:=hA b (by rw[q]; simp);subst e';rw[hK (by rw[q]; simp)] at e; cases e)
  have hM:Mod K mg (hidT s₁.heap H):=⟨hKb,nsK hns,⟨mb,nsK hb,hbb⟩,let ⟨mc,h1,h2⟩:=hlim; ⟨mc,nsK h1,h2⟩⟩;have e0:Env0 P w K mg (hidT s₁.heap H) callerA [] s₁ H:=⟨rfl,hM,λb o e=>Xi e,Nat.le_of_eq (Zk _ _),trivial,λb hb=>absurd (show b∈([]:List Addr) from hb) (by simp),hok,.of_eq hg⟩;refine codeAny_mono ((F _ hKb (nsK hns)).run callerA [] s₁ H ⟨[.ref a],[]⟩ [.ref a] [.ref a] _ _ hr e0 (hbind s₁ (.ref a)) (.cons rfl .nil) (hsp H hO hS)) λr s' h=>?_;cases r with
  | error e=>exact(hCX H e s' h).elim
  | ok fl=>
   cases fl with
   | next=>exact False.elim h
   | brk=>exact False.elim h
   | cont=>exact False.elim h
   | ret u=>
    obtain⟨v,H',os,bare,un,hok',r',q⟩:=h;have q':v= .bl true:=q;subst q';obtain rfl:u=Value.bool true:=r';refine⟨rfl,OldK.of_keep λb o e=>?_,os,bare⟩;cases q:H b with
    | none=>exact un.keep b o e q (by intro z; exact absurd (show b∈([]:List Addr) from z) (by simp)) (by simp)
    | some u=>
     rcases hO b with z | ⟨ob,xs,z⟩
     ·rw[q] at z; cases z
     ·have z2:=un.frzs b ob _ z;obtain⟨e1,_⟩:=hok b _ z;obtain⟨e2,_⟩:=hok' b _ z2;rw[e] at e1; cases e1;exact e2
 cases hk:K.lookup a with
 | some o=>
  -- the script is one of the module's own objects
  have e:=KX a o hk;rw[ha] at e;cases e
  refine core (λ_=>none) (λ_=> .inl rfl) (.inr ⟨_,vs.toArray,_,hk,rfl,rfl,rfl,by rw[ψ,lenV]; exact hl,by simpa using rv⟩) (λb u z=>by have z':(none:Option HO)=some u:=z; cases z') (λb z=>absurd rfl z) λz=>absurd rfl z
 | none=>
  refine core (λb=>if b=a then some (.frz {cls:= .type "list",data:= .seq vs.toArray} (.lst (ns.map V.int))) else none) (λb=>?_) (.inl (.inr ⟨{cls:= .type "list",data:= .seq vs.toArray},if_pos rfl⟩)) (λb u z=>?_) (λb z=>?_) λ_=>hk
  ·by_cases hb:b=a
   ·exact .inr ⟨_,_,if_pos hb⟩
   ·exact .inl (if_neg hb)
  ·by_cases hb:b=a
   ·have z':=(if_pos hb).symm.trans z;cases z'
    subst hb;exact⟨ha,by rw[ε]; exact hl,vs,_,rv,ha⟩
   ·have z':=(if_neg hb).symm.trans z;cases z'
  ·by_cases hb:b=a
   ·exact hb
   ·exact absurd (if_neg hb) z
abbrev KOf {K:W.Frag} {h:Heap} (_:K.In h):W.Frag:=K
theorem walk_of{l:PySem.W.OpenLaw}{XP:(Str->Option Value)->Heap->Prop}{YP:World->Heap->Prop}{d:DefRec}{K:Params->W.Frag}{CX:World->CXT}{sp:World->Sp}
  (hn:l.most=some n) (hn2:n<=sizeLine) (hdf:d.params.defaults=[]) (hr:Room k callerA)
  (hY: ∀(w:World) (h:Heap),YP w h->(K w.params).In h)
  (F: ∀(w:World) (mg:Str->Option Value) (fa:Addr) (h:Heap),(K w.params).In h->h.Ns mainGlobals mg->mg d.name=some (.ref fa)->
   ∃fd:FuncData,(∀(s:Shared) (u:Value),BindsTo s fd ⟨[u],[]⟩ [(x,u)])/\
    ∀base:Heap,(K w.params).In base->base.Ns mainGlobals mg->FnOk l.prog w (K w.params) mg base (CX w) k fa fd [x] (sp w))
  (hsp: ∀(w:World) (H:Hp) (a:Addr) (ns:List Int),ns.length<=n->Only H->SqL (K w.params) H a (ns.map V.int)->sp w [.ref a] H (λv _=>v= .bl true) λ_ _ _=>False)
  (hCX: ∀(w:World) (H:Hp) (s:Shared) (e:Value) (s':Shared),CX w [] H s (λ_ _ _=>False) e s'->False):
  PySem.W.WalkO q loose XP YP l.row.toRowW d [] (λf vs=>PySem.call f vs):=by
 refine Att.attach_call hn hdf λw s₀ s₁ mg mb fa o pm cd doc a vs ns G Y ho hd hcd hmg hobj hints hlen hg=>?_;have KX:=hY w _ Y;obtain⟨fd,hb,hF⟩:=F w mg fa _ KX G.T.g hmg;exact law_call KX G.T.g G.T.b G.T.builtins G.T.nolimit hg hobj hints (Τ hlen hn2) hr hF hb (λH hO hS=>hsp w H a ns hlen hO hS) λH e s'=>hCX w H s₁ e s'
end L2
/- THE LAST THEOREM (shape; LID,My.*are yours):
   My.Adr:a structure of the addresses that your layer names (classes,functions); My.Txt K t:a structure (Prop) of the equations over K;
   My.txt_mk:{K} {implicit addresses ..} (e1:nsIn K mainGlobals "law"=some (some (.ref f))) (e2:K.lookup f=some ⟨oc,od,.func (fnOf "law" "law" params body scope dV kV doc pm an cdv ct),sl⟩) (e3:codeIn K cdv "law"=true) .. : ∃t,My.Txt K t
set_option maxRecDepth 100000 in
set_option maxHeartbeats 0 in
theorem PySem.Challenge.cw_LID_holds : PySem.Challenge.rw_LID.Holds := by
 w_on; o_law; k_head; (case hw=>w_witness2)
 k_fill
 refine L2.walk_of (l:=PySem.Challenge.rw_LID) (n:=63) (k:=40) (x:="script") (CX:=λw=> ..) (sp:=λ_=>My.sp_law) rfl (by decide) rfl ⟨rfl,by decide,by decide⟩ (λw h Y=>PySem.W.kIn_of Y) ?F ?S ?C
 case F=>
  intro w mg fa h KX G hmg;have T: ∃t,My.Txt (L2.KOf KX) t:=by
   dsimp only[L2.KOf]                          -- K must stand as «<heap const>w.params» for k_is;refine' My.txt_mk ?e1 ?e2 ?e3 ..
   (case e1=>PySem.W.k_is)                    -- in the order:a name ->its address ->its object ->its parts
   (case e2=>PySem.W.k_is)
   ..
  obtain⟨t,T⟩:=T;have e0:=hmg.symm.trans (PySem.W.mg_of KX G T.law);cases e0                                       -- fa is the law's own address
  exact⟨_,λs u=> .of_eq rfl,λbase kb nb=>My.law_fn T kb nb⟩     -- if «.of_eq rfl» comes too early:refine'⟨_,?b,λbase kb nb=>My.law_fn T kb nb⟩; exact λs u=> .of_eq rfl
 case S=>exact λw H a ns hl hO hS=> ..
 case C=>exact ..
(the tactic k_is has no namespace:write k_is) -/
namespace L2
open PySem PySem.Spec PyProof.Rows
def zT (s:Stmt):Arguments:=match s with
 | .FunctionDef _ a _ _ _ _ _ _ _ _=>a
 | _=>{posonlyargs:=[],args:=[],vararg:=none,kwonlyargs:=[],kw_defaults:=[],kwarg:=none,defaults:=[]}
def zm (s:Stmt):List Stmt:=match s with
 | .FunctionDef _ _ b _ _ _ _ _ _ _=>b
 | _=>[]
def nsc:PySem.Scope:={kind:= .function,names:=[],isGenerator:=false,isCoroutine:=false}
def zd (s:Stmt):Scope:=match s with
 | .FunctionDef _ _ _ _ _ _ sc _ _ _=>sc
 | _=>nsc
abbrev CX0:CXT:=λ_ _ _ _ _ _=>False
abbrev E0:XK:=λ_ _ _=>False
theorem Xg:wn CX0 X E0:=λ_ _ _ _ _ _ _ h=>h.elim
structure Fun (K:W.Frag) (x qual:Str) (st:Stmt) (f:Addr) (fd:FuncData):Prop where
 ex: ∃(oc:Value) (od:Option Addr) (kV doc pm:Value) (an:Option Addr) (cdv ct:Value) (osl:Array (Option Value)),
  fd=PySem.W.fnOf x qual (zT st) (zm st) (zd st) .none kV doc pm an cdv ct/\K.lookup f=some ⟨oc,od,.func fd,osl⟩/\PySem.W.codeIn K cdv qual=true
 kp:PySem.W.keepIn K (.ref f)=true
section
variable {P:Program} {w:World} {K:W.Frag} {mg:Str->Option Value} {base:Heap}
theorem Fun.ok{x qual:Str}{st:Stmt}{f:Addr}{fd:FuncData}{N ps:List Str}{k:Nat}{sp:Sp}(F:Fun K x qual st f fd)(S:FnScope N ps (zd st))(len: ∀vs H Q E,sp vs H Q E->vs.length=ps.length)
  (hbody: ∀(cdv:Value) (A:Around) (outer:List Env) (s:Shared) (H:Hp) (vs:List V) (Q:VK) (E:XK),Room k (A.deeper (envOfC qual (zd st) s.heap.objs.size f cdv))->sp vs H Q E->
   ∃t,PSs (cxOf CX0 P w K mg base N qual (zd st) f cdv A outer s H E).nox (zm st) t/\t {nx:=λ_ H'=>Q .non H',rt:=Q} (start N vs) H):FnOk P w K mg base CX0 (k+1) f fd ps sp:=by
 obtain⟨oc,od,kV,doc,pm,an,cdv,ct,osl,rfl,lk,hcd⟩:=F.ex;refine W2 lk hcd S len λA outer s H vs Q E hr hsp=>?_;obtain⟨t,h,q⟩:=hbody cdv A outer s H vs Q E hr hsp;exact⟨t,h.nox,q⟩
theorem Fun.binds{x qual:Str}{st:Stmt}{f:Addr}{fd:FuncData}{ps:List Str}(F:Fun K x qual st f fd)
  (h: ∀(kV doc pm:Value) (an:Option Addr) (cdv ct:Value) (us:List Value),us.length=ps.length->bindArgs (PySem.W.fnOf x qual (zT st) (zm st) (zd st) .none kV doc pm an cdv ct) ⟨us,[]⟩=pure (ps.zip us)):Binds K fd ps []:=by
 obtain⟨oc,od,kV,doc,pm,an,cdv,ct,osl,rfl,lk,hcd⟩:=F.ex;exact .all (h kV doc pm an cdv ct)
theorem ZS{x qual:Str}{st:Stmt}{f:Addr}{oc:Value}{od an:Option Addr}{osl:Array (Option Value)}{kV doc pm cdv ct:Value}(l:K.lookup f=some ⟨oc,od,.func (PySem.W.fnOf x qual (zT st) (zm st) (zd st) .none kV doc pm an cdv ct),osl⟩)
  (c:PySem.W.codeIn K cdv qual=true) (k:PySem.W.keepIn K (.ref f)=true):Fun K x qual st f (PySem.W.fnOf x qual (zT st) (zm st) (zd st) .none kV doc pm an cdv ct):=⟨⟨oc,od,kV,doc,pm,an,cdv,ct,osl,rfl,l,c⟩,k⟩
end
theorem zq(h:n<=1000):n<sizeLine:=Nat.lt_of_le_of_lt h (by decide)
section
variable {X:Cx}
theorem pv(i:Nat){x:Str}(hN:X.N[i]? =some x:=by rfl)(hv:Vis X.env.scope x:=by first | exact Or.inl rfl | exact Or.inr (Or.inl rfl) | exact Or.inr (Or.inr rfl))(hd:(x==("__debug__":Str))=false:=by decide)
  (hcd:(x==("__classdict__":Str))=false:=by decide):PE X (.Name x pos) (tVar i):=vC hN hv hd hcd
end
theorem iteF{A B:Prop}(h:B):if false=true then A else B:=by
 rw[if_neg Ζ];exact h
theorem iteT{A B:Prop}(h:A):if true=true then A else B:=by
 rw[if_pos rfl];exact h
def Same (H H':Hp):Prop:= ∀b o,H b=some o->H' b=some o
theorem Same.refl(H:Hp):Same H H:=λ_ _ h=>h
theorem Same.trans(a:Same H H1)(b:Same H1 H2):Same H H2:=λc o h=>b c o (a c o h)
theorem Same.free(e:Same H H')(h:H' l=Option.none):H l=Option.none:=by
 cases q:H l with
 | none=>rfl
 | some o=>
  rw[e l o q] at h;cases h
end L2
namespace L2
open PySem
def xx (s:Stmt) (i:Nat):Stmt:=match s with
 | .ClassDef _ _ _ body _ _ _ _ _ _ _=>body.getD i (.Pass ⟨0,0,0,0⟩)
 | _=> .Pass ⟨0,0,0,0⟩
end L2
namespace K17
open PySem L2
def top (i:Nat):Stmt:=PySem.Challenge.pw_dropsums_k17_whole_stays_and_falls_on_th.main.body.getD i (.Pass ⟨0,0,0,0⟩)
def dEo (P:Params) (x:Str) (t:Nat) (v:Value):DictEntry:=⟨PyData.keyHash P x,.str x t,v⟩
def cO (n:Str) (t:Nat) (q:Str) (t1 t2:Nat) (l a f:Int) (r s x y z:Value) (k:Int) (t3:Nat):Obj:=
 ⟨.type "code",none,.fields #[.str n t,.str q t1,.str "/claim/cut.py" t2,.int l 0,.int a 0,.int 0 0,.int 0 0,.int f 0,r,.bool true,.int 181 0,s,.none,x,y,z,.int k 0,.int l 0,.str "/claim/cut.py" t3],#[]⟩
def fO (n q:Str) (s:Stmt) (m:Str) (t c:Nat):Obj:=⟨.type "function",none,.func (PySem.W.fnOf n q (zT s) (zm s) (zd s) .none .none .none (.str m t) none (.ref c) .none),#[]⟩
def KK:Params->W.Frag:=λP=>
 (nat_lit 3,⟨(.type "dict"),none,(.dict #[dEo P "__name__" 165 (.str "law_dropsums_k17_whole_stays_and_falls_on_th" 491),dEo P "__doc__" 166 .none,dEo P "__package__" 167 .none,dEo P "__loader__" 168 (.builtin "__main__.__loader__#opaque"),dEo P "__spec__" 169 .none,dEo P "__annotations__" 170 (.ref 6),dEo P "__builtins__" 171 (.ref 4),dEo P "__file__" 173 (.str "/claim/cut.py" 172),dEo P "__cached__" 174 .none,dEo P "common_divisor" 199 (.ref 21),dEo P "without_divisor" 205 (.ref 26),dEo P "times_added" 211 (.ref 31),dEo P "SORTS" 213 (.int 0 212),dEo P "RULES" 215 (.int 1 214),dEo P "TAKES" 217 (.int 0 216),dEo P "GIVES" 219 (.int 1 218),dEo P "QUICK_TURNS" 223 (.int 200 222),dEo P "Tableau" 307 (.ref 90),dEo P "weighed" 320 (.ref 101),dEo P "height_of" 330 (.ref 108),dEo P "falls" 336 (.ref 113),dEo P "sorts_rows" 342 (.ref 118),dEo P "rules_rows" 348 (.ref 123),dEo P "DropError" 368 (.ref 133),dEo P "NoStep" 393 (.ref 153),dEo P "can_go" 401 (.ref 160),dEo P "gone" 407 (.ref 165),dEo P "walked" 418 (.ref 172),dEo P "stands_on" 430 (.ref 179),dEo P "reduced" 438 (.ref 184),dEo P "first_with" 448 (.ref 191),dEo P "without_column" 454 (.ref 196),dEo P "nought_maker" 460 (.ref 201),dEo P "common_multiple" 468 (.ref 208),dEo P "count_of" 478 (.ref 215),dEo P "all_kept" 484 (.ref 220),dEo P "change_of" 490 (.ref 225),dEo P "_law_feed" 502 (.ref 232),dEo P "_law_draw" 512 (.ref 239),dEo P "_law_names" 518 (.ref 244),dEo P "_law_rule" 524 (.ref 249),dEo P "_law_pot" 530 (.ref 254),dEo P "_law_kept_pot" 536 (.ref 259),dEo P "_law_gone" 542 (.ref 264),dEo P "_law_there" 548 (.ref 269),dEo P "_law_order" 560 (.ref 276),dEo P "_law_made" 566 (.ref 281),dEo P "_law_way_right" 572 (.ref 286),dEo P "_law_round_right" 578 (.ref 291),dEo P "law" 584 (.ref 296)] 50),#[]⟩)::
 (nat_lit 20,cO "common_divisor" 189 "common_divisor" 190 191 2 1 3 (.ref 15) (.ref 16) (.ref 17) (.ref 18) (.ref 19) 197 198)::
 (nat_lit 21,fO "common_divisor" "common_divisor" (top 1) "dropsums.wholes" 187 20)::
 (nat_lit 25,cO "without_divisor" 200 "without_divisor" 201 202 11 1 3 (.ref 22) (.ref 23) .none .none (.ref 24) 203 204)::
 (nat_lit 26,fO "without_divisor" "without_divisor" (top 2) "dropsums.wholes" 187 25)::
 (nat_lit 30,cO "times_added" 206 "times_added" 207 208 14 2 3 (.ref 27) (.ref 28) .none .none (.ref 29) 209 210)::
 (nat_lit 31,fO "times_added" "times_added" (top 3) "dropsums.wholes" 187 30)::
 (nat_lit 42,cO "__init__" 236 "Tableau.__init__" 237 238 24 3 3 (.ref 39) (.ref 40) .none .none (.ref 41) 239 240)::
 (nat_lit 43,fO "__init__" "Tableau.__init__" (xx (top 10) 0) "dropsums.tableau" 220 42)::
 (nat_lit 47,cO "low_row" 242 "Tableau.low_row" 243 244 32 1 3 (.ref 44) (.ref 45) .none .none (.ref 46) 245 246)::
 (nat_lit 48,fO "low_row" "Tableau.low_row" (xx (top 10) 1) "dropsums.tableau" 220 47)::
 (nat_lit 54,cO "is_low" 248 "Tableau.is_low" 249 250 38 2 3 (.ref 49) (.ref 50) (.ref 51) (.ref 52) (.ref 53) 253 254)::
 (nat_lit 55,fO "is_low" "Tableau.is_low" (xx (top 10) 2) "dropsums.tableau" 220 54)::
 (nat_lit 59,cO "column_for" 256 "Tableau.column_for" 257 258 41 2 3 (.ref 56) (.ref 57) .none .none (.ref 58) 259 260)::
 (nat_lit 60,fO "column_for" "Tableau.column_for" (xx (top 10) 3) "dropsums.tableau" 220 59)::
 (nat_lit 66,cO "is_sought" 262 "Tableau.is_sought" 263 264 50 2 3 (.ref 61) (.ref 62) (.ref 63) (.ref 64) (.ref 65) 267 268)::
 (nat_lit 67,fO "is_sought" "Tableau.is_sought" (xx (top 10) 4) "dropsums.tableau" 220 66)::
 (nat_lit 71,cO "turn" 270 "Tableau.turn" 271 272 53 3 3 (.ref 68) (.ref 69) .none .none (.ref 70) 273 274)::
 (nat_lit 72,fO "turn" "Tableau.turn" (xx (top 10) 5) "dropsums.tableau" 220 71)::
 (nat_lit 76,cO "turned" 276 "Tableau.turned" 277 278 66 5 3 (.ref 73) (.ref 74) .none .none (.ref 75) 279 280)::
 (nat_lit 77,fO "turned" "Tableau.turned" (xx (top 10) 6) "dropsums.tableau" 220 76)::
 (nat_lit 81,cO "met" 282 "Tableau.met" 283 284 73 1 3 (.ref 78) (.ref 79) .none .none (.ref 80) 285 286)::
 (nat_lit 82,fO "met" "Tableau.met" (xx (top 10) 7) "dropsums.tableau" 220 81)::
 (nat_lit 86,cO "borne" 288 "Tableau.borne" 289 290 81 2 3 (.ref 83) (.ref 84) .none .none (.ref 85) 291 292)::
 (nat_lit 87,fO "borne" "Tableau.borne" (xx (top 10) 8) "dropsums.tableau" 220 86)::
 (nat_lit 89,⟨(.type "dict"),none,(.dict #[dEo P "__module__" 231 (.str "dropsums.tableau" 220),dEo P "__firstlineno__" 235 (.int 22 234),dEo P "__init__" 241 (.ref 43),dEo P "low_row" 247 (.ref 48),dEo P "is_low" 255 (.ref 55),dEo P "column_for" 261 (.ref 60),dEo P "is_sought" 269 (.ref 67),dEo P "turn" 275 (.ref 72),dEo P "turned" 281 (.ref 77),dEo P "met" 287 (.ref 82),dEo P "borne" 293 (.ref 87),dEo P "__static_attributes__" 300 (.ref 88),dEo P "__dict__" 302 (.ref 91),dEo P "__weakref__" 304 (.ref 92),dEo P "__doc__" 305 .none] 4),#[]⟩)::
 (nat_lit 90,⟨(.type "type"),none,(.cls ⟨"Tableau",[(.type "object")],[(.ref 90),(.type "object")],89,"Tableau",true,[],[],false,none,false⟩),#[none,none,(some (.str "Tableau" 224)),(some (.str "Tableau" 232)),(some (.builtin "object.__new__")),(some (.bool true))]⟩)::
 (nat_lit 100,cO "weighed" 310 "weighed" 311 312 89 2 3 (.ref 95) (.ref 96) (.ref 97) (.ref 98) (.ref 99) 318 319)::
 (nat_lit 101,fO "weighed" "weighed" (top 12) "dropsums.weighing" 308 100)::
 (nat_lit 107,cO "height_of" 323 "height_of" 324 325 100 2 3 (.ref 102) (.ref 103) (.ref 104) (.ref 105) (.ref 106) 328 329)::
 (nat_lit 108,fO "height_of" "height_of" (top 14) "dropsums.falling" 321 107)::
 (nat_lit 112,cO "falls" 331 "falls" 332 333 102 1 3 (.ref 109) (.ref 110) .none .none (.ref 111) 334 335)::
 (nat_lit 113,fO "falls" "falls" (top 15) "dropsums.falling" 321 112)::
 (nat_lit 117,cO "sorts_rows" 337 "sorts_rows" 338 339 112 1 3 (.ref 114) (.ref 115) .none .none (.ref 116) 340 341)::
 (nat_lit 118,fO "sorts_rows" "sorts_rows" (top 16) "dropsums.falling" 321 117)::
 (nat_lit 122,cO "rules_rows" 343 "rules_rows" 344 345 114 1 3 (.ref 119) (.ref 120) .none .none (.ref 121) 346 347)::
 (nat_lit 123,fO "rules_rows" "rules_rows" (top 17) "dropsums.falling" 321 122)::
 (nat_lit 132,⟨(.type "dict"),none,(.dict #[dEo P "__module__" 358 (.str "dropsums.errors" 349),dEo P "__firstlineno__" 362 (.int 117 361),dEo P "__static_attributes__" 363 (.ref 131),dEo P "__weakref__" 365 (.ref 134),dEo P "__doc__" 366 .none] 3),#[]⟩)::
 (nat_lit 133,⟨(.type "type"),none,(.cls ⟨"DropError",[(.type "ValueError")],[(.ref 133),(.type "ValueError"),(.type "Exception"),(.type "BaseException"),(.type "object")],132,"DropError",true,[],[(.ref 153)],false,none,false⟩),#[(some (.ref 124)),none,(some (.str "DropError" 351)),(some (.str "DropError" 359)),(some (.builtin "ValueError.__new__")),(some (.bool true))]⟩)::
 (nat_lit 149,cO "__init__" 381 "NoStep.__init__" 382 383 121 2 3 (.ref 144) (.ref 145) (.ref 146) (.ref 147) (.ref 148) 386 387)::
 (nat_lit 150,fO "__init__" "NoStep.__init__" (xx (top 20) 0) "dropsums.errors" 349 149)::
 (nat_lit 152,⟨(.type "dict"),none,(.dict #[dEo P "__module__" 376 (.str "dropsums.errors" 349),dEo P "__firstlineno__" 380 (.int 119 379),dEo P "__init__" 388 (.ref 150),dEo P "__static_attributes__" 390 (.ref 151),dEo P "__doc__" 391 .none] 2),#[]⟩)::
 (nat_lit 153,⟨(.type "type"),none,(.cls ⟨"NoStep",[(.ref 133)],[(.ref 153),(.ref 133),(.type "ValueError"),(.type "Exception"),(.type "BaseException"),(.type "object")],152,"NoStep",true,[],[],false,none,false⟩),#[(some (.ref 137)),none,(some (.str "NoStep" 369)),(some (.str "NoStep" 377)),(some (.builtin "ValueError.__new__")),(some (.bool true))]⟩)::
 (nat_lit 159,cO "can_go" 396 "can_go" 397 398 124 3 3 (.ref 156) (.ref 157) .none .none (.ref 158) 399 400)::
 (nat_lit 160,fO "can_go" "can_go" (top 22) "dropsums.steps" 394 159)::
 (nat_lit 164,cO "gone" 402 "gone" 403 404 129 3 3 (.ref 161) (.ref 162) .none .none (.ref 163) 405 406)::
 (nat_lit 165,fO "gone" "gone" (top 23) "dropsums.steps" 394 164)::
 (nat_lit 171,cO "walked" 410 "walked" 411 412 136 3 3 (.ref 166) (.ref 167) (.ref 168) (.ref 169) (.ref 170) 416 417)::
 (nat_lit 172,fO "walked" "walked" (top 25) "dropsums.orders" 408 171)::
 (nat_lit 178,cO "stands_on" 419 "stands_on" 420 421 138 3 3 (.ref 173) (.ref 174) (.ref 175) (.ref 176) (.ref 177) 428 429)::
 (nat_lit 179,fO "stands_on" "stands_on" (top 26) "dropsums.orders" 408 178)::
 (nat_lit 183,cO "reduced" 433 "reduced" 434 435 146 2 3 (.ref 180) (.ref 181) .none .none (.ref 182) 436 437)::
 (nat_lit 184,fO "reduced" "reduced" (top 28) "dropsums.elimination" 431 183)::
 (nat_lit 190,cO "first_with" 439 "first_with" 440 441 158 3 3 (.ref 185) (.ref 186) (.ref 187) (.ref 188) (.ref 189) 446 447)::
 (nat_lit 191,fO "first_with" "first_with" (top 29) "dropsums.elimination" 431 190)::
 (nat_lit 195,cO "without_column" 449 "without_column" 450 451 163 3 3 (.ref 192) (.ref 193) .none .none (.ref 194) 452 453)::
 (nat_lit 196,fO "without_column" "without_column" (top 30) "dropsums.elimination" 431 195)::
 (nat_lit 200,cO "nought_maker" 455 "nought_maker" 456 457 167 4 3 (.ref 197) (.ref 198) .none .none (.ref 199) 458 459)::
 (nat_lit 201,fO "nought_maker" "nought_maker" (top 31) "dropsums.elimination" 431 200)::
 (nat_lit 207,cO "common_multiple" 461 "common_multiple" 462 463 176 2 3 (.ref 202) (.ref 203) (.ref 204) (.ref 205) (.ref 206) 466 467)::
 (nat_lit 208,fO "common_multiple" "common_multiple" (top 32) "dropsums.elimination" 431 207)::
 (nat_lit 214,cO "count_of" 471 "count_of" 472 473 179 2 3 (.ref 209) (.ref 210) (.ref 211) (.ref 212) (.ref 213) 476 477)::
 (nat_lit 215,fO "count_of" "count_of" (top 34) "dropsums.staying" 469 214)::
 (nat_lit 219,cO "all_kept" 479 "all_kept" 480 481 181 1 3 (.ref 216) (.ref 217) .none .none (.ref 218) 482 483)::
 (nat_lit 220,fO "all_kept" "all_kept" (top 35) "dropsums.staying" 469 219)::
 (nat_lit 224,cO "change_of" 485 "change_of" 486 487 185 1 3 (.ref 221) (.ref 222) .none .none (.ref 223) 488 489)::
 (nat_lit 225,fO "change_of" "change_of" (top 36) "dropsums.staying" 469 224)::
 (nat_lit 231,cO "_law_feed" 493 "_law_feed" 494 495 188 2 3 (.ref 226) (.ref 227) (.ref 228) (.ref 229) (.ref 230) 500 501)::
 (nat_lit 232,fO "_law_feed" "_law_feed" (top 38) "law_dropsums_k17_whole_stays_and_falls_on_th" 491 231)::
 (nat_lit 238,cO "_law_draw" 503 "_law_draw" 504 505 194 2 3 (.ref 233) (.ref 234) (.ref 235) (.ref 236) (.ref 237) 510 511)::
 (nat_lit 239,fO "_law_draw" "_law_draw" (top 39) "law_dropsums_k17_whole_stays_and_falls_on_th" 491 238)::
 (nat_lit 243,cO "_law_names" 513 "_law_names" 514 515 203 2 3 (.ref 240) (.ref 241) .none .none (.ref 242) 516 517)::
 (nat_lit 244,fO "_law_names" "_law_names" (top 40) "law_dropsums_k17_whole_stays_and_falls_on_th" 491 243)::
 (nat_lit 248,cO "_law_rule" 519 "_law_rule" 520 521 208 2 3 (.ref 245) (.ref 246) .none .none (.ref 247) 522 523)::
 (nat_lit 249,fO "_law_rule" "_law_rule" (top 41) "law_dropsums_k17_whole_stays_and_falls_on_th" 491 248)::
 (nat_lit 253,cO "_law_pot" 525 "_law_pot" 526 527 226 1 3 (.ref 250) (.ref 251) .none .none (.ref 252) 528 529)::
 (nat_lit 254,fO "_law_pot" "_law_pot" (top 42) "law_dropsums_k17_whole_stays_and_falls_on_th" 491 253)::
 (nat_lit 258,cO "_law_kept_pot" 531 "_law_kept_pot" 532 533 236 1 3 (.ref 255) (.ref 256) .none .none (.ref 257) 534 535)::
 (nat_lit 259,fO "_law_kept_pot" "_law_kept_pot" (top 43) "law_dropsums_k17_whole_stays_and_falls_on_th" 491 258)::
 (nat_lit 263,cO "_law_gone" 537 "_law_gone" 538 539 257 3 3 (.ref 260) (.ref 261) .none .none (.ref 262) 540 541)::
 (nat_lit 264,fO "_law_gone" "_law_gone" (top 44) "law_dropsums_k17_whole_stays_and_falls_on_th" 491 263)::
 (nat_lit 268,cO "_law_there" 543 "_law_there" 544 545 263 2 3 (.ref 265) (.ref 266) .none .none (.ref 267) 546 547)::
 (nat_lit 269,fO "_law_there" "_law_there" (top 45) "law_dropsums_k17_whole_stays_and_falls_on_th" 491 268)::
 (nat_lit 275,cO "_law_order" 549 "_law_order" 550 551 265 3 3 (.ref 270) (.ref 271) (.ref 272) (.ref 273) (.ref 274) 558 559)::
 (nat_lit 276,fO "_law_order" "_law_order" (top 46) "law_dropsums_k17_whole_stays_and_falls_on_th" 491 275)::
 (nat_lit 280,cO "_law_made" 561 "_law_made" 562 563 274 3 3 (.ref 277) (.ref 278) .none .none (.ref 279) 564 565)::
 (nat_lit 281,fO "_law_made" "_law_made" (top 47) "law_dropsums_k17_whole_stays_and_falls_on_th" 491 280)::
 (nat_lit 285,cO "_law_way_right" 567 "_law_way_right" 568 569 280 3 3 (.ref 282) (.ref 283) .none .none (.ref 284) 570 571)::
 (nat_lit 286,fO "_law_way_right" "_law_way_right" (top 48) "law_dropsums_k17_whole_stays_and_falls_on_th" 491 285)::
 (nat_lit 290,cO "_law_round_right" 573 "_law_round_right" 574 575 292 3 3 (.ref 287) (.ref 288) .none .none (.ref 289) 576 577)::
 (nat_lit 291,fO "_law_round_right" "_law_round_right" (top 49) "law_dropsums_k17_whole_stays_and_falls_on_th" 491 290)::
 (nat_lit 295,cO "law" 579 "law" 580 581 304 1 3 (.ref 292) (.ref 293) .none .none (.ref 294) 582 583)::
 (nat_lit 296,fO "law" "law" (top 50) "law_dropsums_k17_whole_stays_and_falls_on_th" 491 295)::[]
def KB:W.Frag:=(nat_lit 45,PySem.W.tabObj #[])::(nat_lit 57,PySem.W.tabObj #[])::[]
def KT:Params->W.Frag:=λP=>KK P++KB
def KA:List Addr:=3::20::21::25::26::30::31::42::43::47::48::54::55::59::60::66::67::71::72::76::77::81::82::86::87::89::90::100::101::107::108::112::113::117::118::122::123::132::133::149::150::152::153::159::160::164::165::171::172::178::179::183::184::190::191::195::196::200::201::207::208::214::215::219::220::224::225::231::232::238::239::243::244::248::249::253::254::258::259::263::264::268::269::275::276::280::281::285::286::290::291::295::296::45::57::[]
theorem ke: ∀P,KA=(KT P).map (·.1):=λ_=>by kernel_rfl
def VW:Program:={PySem.Challenge.pw_dropsums_k17_whole_stays_and_falls_on_th with main:={PySem.Challenge.pw_dropsums_k17_whole_stays_and_falls_on_th.main with body:=([1,2,3,4,5,6,7,9,10,12,14,15,16,17,19,20,22,23,25,26,28,29,30,31,32,34,35,36,38,39,40,41,42,43,44,45,46,47,48,49,50]:List Nat).map top}}
abbrev RR:=PySem.Challenge.rw_dropsums_k17_whole_stays_and_falls_on_th.row
theorem said0:PySem.Challenge.rw_dropsums_k17_whole_stays_and_falls_on_th.wellSaid=true:=nofun
theorem left0:PySem.W.LeftO RR.prog VW [] (λs=>PySem.W.xlAt VW [] s&&PySem.W.recOk (PySem.W.RowW.records RR.toRowW) s) (PySem.W.Hook.obs (PySem.W.kHook KT KA ke)) (PySem.W.Hook.val (PySem.W.kHook KT KA ke)) 4014:=λw=>by kernel_rfl
end K17
namespace L2
open PySem PySem.Spec PyProof.Rows
section
variable {P:Program} {w:World} {A:Around} {R:Result->Shared->Prop} {s:Shared}
theorem Zo(J:Nat->Shared->Prop)
  (turn: ∀n s,J n s->wpAny (model P w) A (pyNext it) (λr c₁=>match r with
   | none=>R (.ok .next) c₁
   | some v=>wpAny (model P w) A (letOwnedTupleGo tgt it v) (λ_ d₁=>wpAny (model P w) A (assign tgt env v) (λ_ c₂=>
     wpAny (model P w) A (forIn ifs true λc r=>if r=true then do let ok<-isTrue c env (eval c env); pure (ForInStep.yield ok) else pure (ForInStep.yield r)) (λok c₃=>
      if ok=true then wpAny (model P w) A (eval elt env) (λx c₄=>
       wpAny (model P w) A (call (.builtin "list.append") [acc,x]) (λ_ c₅=> ∃m,m<n/\J m c₅) (notedBy (model P w) A env λe s'=>R (.error e) s') c₄) (notedBy (model P w) A env λe s'=>R (.error e) s') c₃
      else∃m,m<n/\J m c₃) (notedBy (model P w) A env λe s'=>R (.error e) s') c₂) (notedBy (model P w) A env λe s'=>R (.error e) s') d₁) (notedBy (model P w) A env λe s'=>R (.error e) s') c₁) (notedBy (model P w) A env λe s'=>R (.error e) s') s)
  (n:Nat) (hn:J n s):
  codeAny (model P w) A (.compLoop (.ListComp elt [⟨tgt,iter,ifs,0⟩] scope pos) 0 it acc env) R s:=by
 refine codeAny_loop rfl J (λn s hJ=>?_) n hn;show wpAny _ A ((compTurn (.ListComp elt [⟨tgt,iter,ifs,0⟩] scope pos) 0 it acc env).onRaise (λx=>do noteFrame x env; theTreesLotGoes x)) _ _ s;refine wpAny_noted ?_;rw[compTurn_list];refine γ (wpAny_standAt (γ (wpAny_mono (turn n s hJ) (λr c₁ e₁=>?_) λ_ _ z=>z)));cases r with
 | none=>exact ι e₁
 | some v=>
  refine γ (wpAny_mono e₁ (λ_ d₁ f₁=>?_) λ_ _ z=>z);refine γ (wpAny_mono f₁ (λ_ c₂ e₂=>γ (wpAny_mono e₂ (λok c₃ e₃=>?_) λ_ _ z=>z)) λ_ _ z=>z);cases ok with
  | false=>exact ι ⟨rfl,e₃⟩
  | true=>
   exact γ (γ (wpAny_mono e₃ (λx c₄ e₄=>γ (wpAny_mono e₄ (λ_ c₅ e₅=>ι (ι ⟨rfl,e₅⟩)) λ_ _ z=>z)) λ_ _ z=>z))
end
def cloF (env:Env):List (Str×NameKind)->List (Str×Addr)->List (Str×Addr)
 | [],acc=>acc
 | (n,k)::r,acc=>if k= .free then cloF env r ((n,(env.cells.lookup n).getD 0)::acc) else cloF env r acc
theorem vX{env:Env}: ∀(names:List (Str×NameKind)) (acc:List (Str×Addr)),(∀x∈names,x.2= .free-> ∃c,env.cells.lookup x.1=some c)->
  (forIn names acc (fun(x:Str×NameKind) (cs:List (Str×Addr))=>(if (x.2==NameKind.free)=true then do let a<-cellOf env x.1; pure (ForInStep.yield ((x.1,a)::cs)) else pure (ForInStep.yield cs):Sem (ForInStep (List (Str×Addr))))):Sem (List (Str×Addr)))=pure (cloF env names acc)
 | [],acc,_=>by simp[cloF]
 | (n,k)::r,acc,h=>by
  have ih:=λacc=>vX (env:=env) r acc λx hx=>h x (χ _ hx);rw[List.forIn_cons];by_cases hk:k= .free
  ·subst hk;obtain⟨c,hc⟩:=h (n,.free) υ rfl;have hc':env.cells.lookup n=some c:=hc;have e:cellOf env n=pure c:=by unfold cellOf; rw[hc']
   simp only[cloF,if_true,hc',Option.getD_some,beq_self_eq_true,e,pure_bind];exact ih _
  ·have hb:(k==NameKind.free)=false:=by simpa using hk
   simp only[cloF,hk,if_false,hb,Bool.false_eq_true,pure_bind];exact ih _
theorem wm{env:Env}{scope:Scope}(h: ∀x∈scope.names,x.2= .free-> ∃c,env.cells.lookup x.1=some c):closureFor scope env=pure (cloF env scope.names []):=by
 rw[<-vX scope.names [] h];unfold closureFor;simp only[bind_pure]
theorem yd: ∀(names:List (Str×NameKind)) (acc:List (Str×Addr)),(cloF env names acc).lookup y=if (y,NameKind.free)∈names then some ((env.cells.lookup y).getD 0) else acc.lookup y
 | [],acc=>by simp[cloF]
 | (n,k)::r,acc=>by
  unfold cloF;by_cases hk:k= .free
  ·subst hk;rw[if_pos rfl,yd r];by_cases hy:y=n
   ·subst hy;simp[List.lookup_cons]
   ·have hb:(y==n)=false:=by simpa using hy
    simp[List.lookup_cons,hb,hy]
  ·rw[if_neg hk,yd r];have: ¬((y,NameKind.free)=(n,k)):=by
    intro e;exact hk (Prod.mk.inj e).2.symm
   simp[this]
structure CScope (o sc:Scope) (TN F:List Str):Prop where
 okind:o.kind= .function:=by decide +kernel
 kind:sc.kind= .function:=by decide +kernel
 nocell: ∀y∈sc.names,y.2≠.cell:=by decide +kernel
 names: ∀y∈sc.names,y.2= .local->sc.names.lookup y.1=some .local:=by decide +kernel
 fr: ∀y∈sc.names,y.2= .free->o.names.lookup y.1=some .cell/\sc.names.lookup y.1=some .free:=by decide +kernel
 ff: ∀y∈F,(y,NameKind.free)∈sc.names:=by decide +kernel
theorem xJ{env:Env}{y:Str}(hk:env.scope.kind= .function)(hc:env.kindOf y=some .cell): ∀{names:List (Str×NameKind)},names.lookup y=some .free->
  (names.map fun(n,k)=>if (k==NameKind.free&&env.scope.kind== .function&&env.kindOf n==some .cell) then (n,NameKind.cell) else (n,k)).lookup y=some .cell
 | [],h=>by simp at h
 | (n,k)::r,h=>by
  have ih:=@xJ env y hk hc r;show List.lookup y ((if (k==NameKind.free&&env.scope.kind== .function&&env.kindOf n==some .cell)=true then (n,NameKind.cell) else (n,k))::_)=_;cases hx:y==n with
  | true=>
   rw[List.lookup_cons,hx] at h;cases h
   have e:y=n:=by simpa using hx
   subst e;rw[if_pos (by simp[hk,hc])];simp[List.lookup_cons]
  | false=>
   rw[List.lookup_cons,hx] at h;by_cases hc':(k==NameKind.free&&env.scope.kind== .function&&env.kindOf n==some .cell)=true
   ·rw[if_pos hc']; simp only[List.lookup_cons,hx]; exact ih h
   ·rw[if_neg hc']; simp only[List.lookup_cons,hx]; exact ih h
theorem wu{env:Env}{y:Str}: ∀{names:List (Str×NameKind)},(∀z∈names,z.2≠.cell)->
    ((names.map fun(n,k)=>if (k==NameKind.free&&env.scope.kind== .function&&env.kindOf n==some .cell) then (n,NameKind.cell) else (n,k)).lookup y=some .cell\/
     (names.map fun(n,k)=>if (k==NameKind.free&&env.scope.kind== .function&&env.kindOf n==some .cell) then (n,NameKind.cell) else (n,k)).lookup y=some .free)->(y,NameKind.free)∈names
  | [],_,h=>by simp at h
  | (n,k)::r,hn,h=>by
    have ih:=@wu env y r λz hz=>hn z (χ _ hz);have h':List.lookup y ((if (k==NameKind.free&&env.scope.kind== .function&&env.kindOf n==some .cell)=true then (n,NameKind.cell) else (n,k))::(r.map fun(n,k)=>if (k==NameKind.free&&env.scope.kind== .function&&env.kindOf n==some .cell) then (n,NameKind.cell) else (n,k)))=some .cell\/
      List.lookup y ((if (k==NameKind.free&&env.scope.kind== .function&&env.kindOf n==some .cell)=true then (n,NameKind.cell) else (n,k))::(r.map fun(n,k)=>if (k==NameKind.free&&env.scope.kind== .function&&env.kindOf n==some .cell) then (n,NameKind.cell) else (n,k)))=some .free:=h
    clear h;cases hx:y==n with
    | true=>
      have e:y=n:=by simpa using hx
      subst e;by_cases hc':(k==NameKind.free&&env.scope.kind== .function&&env.kindOf y==some .cell)=true
      · have hk:k= .free:=by
          have:=(Bool.and_eq_true _ _▸(Bool.and_eq_true _ _▸hc').1).1;simpa using this
        subst hk;exact υ
      · rw[if_neg hc'] at h'
        simp only[List.lookup_cons,beq_self_eq_true] at h';rcases h' with h' | h'
        · cases h'
          exact absurd rfl (hn _ υ)
        · cases h'
          exact υ
    | false=>
      by_cases hc':(k==NameKind.free&&env.scope.kind== .function&&env.kindOf n==some .cell)=true
      · rw[if_pos hc'] at h'; simp only[List.lookup_cons,hx] at h'; exact χ _ (ih h')
      · rw[if_neg hc'] at h'; simp only[List.lookup_cons,hx] at h'; exact χ _ (ih h')
def cxC (X:Cx) (N:List Str) (sc:Scope) (cl:List (Str×Addr)) (C:Addr) (fp:List Addr) (s₃:Shared) (H₃:Hp) (xe:Value->Shared->Prop):Cx:=
 {X with N:=N,s₀:=s₃,H₀:=H₃,env:=compEnvC sc cl C X.env,outer:=X.stack,ex:=fp,fn:=λ_=>false,pn:=[],xe:=xe}
def sub (ix:List Nat) (σ:St):St:=ix.map λi=>(σ[i]?).join
theorem inv_comp{X:Cx}{ix:List Nat}{h4:Heap}{m:Str->Option Value}{xe:Value->Shared->Prop}
  (S:CScope X.env.scope sc TN F) (hix:ix.map (λi=>X.N[i]?)=F.map some) (I:Inv X pins σ H s) (hf: ∀b∈fp,FpOk X pins H b) (ho: ∀b∈fp,∃o,s.heap.get? b=some o)
  (hk: ∀b o,s.heap.get? b=some o->h4.get? b=some o) (hn:h4.Ns s.heap.objs.size m):
  Inv (cxC X (TN++F) sc (cloF X.env sc.names []) s.heap.objs.size fp s H xe) [] (List.replicate TN.length none++sub ix σ) H {s with heap:=h4,toks:=tk}:=by
 have cl: ∀x c,(cloF X.env sc.names []).lookup x=some c->X.env.cells.lookup x=some c:=λx c e=>by
  rw[yd] at e;by_cases hx:(x,NameKind.free)∈sc.names
  ·rw[if_pos hx] at e;obtain⟨c',hc'⟩:=I.ok.has x (.inl (S.fr _ hx rfl).1);rw[hc'] at e ⊢;exact e
  ·rw[if_neg hx] at e;cases e
 have cl': ∀x,(x,NameKind.free)∈sc.names->(cloF X.env sc.names []).lookup x=X.env.cells.lookup x:=λx hx=>by
  rw[yd,if_pos hx];obtain⟨c',hc'⟩:=I.ok.has x (.inl (S.fr _ hx rfl).1);rw[hc'];rfl
 have hlen:ix.length=F.length:=by
  have:=congrArg List.length hix;simpa using this
 refine⟨⟨I.ok.mod,S.kind,I.ok.glob,I.ok.blt,θ _,λx y c h1 h2=>I.ok.inj x y c (cl x c h1) (cl y c h2),λx hx=>?_,λx c z=>(nomatch z),I.ok.hd,I.ok.frames,.inl rfl,λb hb=>⟨?_,λx c e=>(hf b hb).2.2.2.2.1 x c (cl x c e)⟩,
  I.bs,Τ I.ok.bsz I.sz,λb o e hb=>?_,λb hb hfs=>?_,I.stack,I.stkFree⟩,rfl,I.bare,Un.kept hk,⟨m,hn,λi x v h1 h2 h3=>?_⟩,λx c e=>?_,I.hok.fresh (θ _),λx c e=>I.freeC x c (cl x c e),λp hp=>absurd (show p∈([]:List (Addr×Obj)) from hp) (by simp),I.hok.kept hk,?_⟩
 ·have hx':(x,NameKind.free)∈sc.names:=wu (env:=X.env) S.nocell hx;obtain⟨c,hc⟩:=I.ok.has x (.inl (S.fr _ hx' rfl).1);exact⟨c,(cl' x hx').trans hc⟩
 ·obtain⟨o,e⟩:=ho b hb;exact Ν (ν e)
 ·rcases(hf b hb).2.2.2.1 with z | z
  ·exact I.ok.noex b o e z
  ·exact absurd (Ε (ν e) (Τ I.ok.bsz z)) (Nat.lt_irrefl _)
 ·rcases Φ.mp (I.stkSub b hfs) with z | z
  ·exact(hf b hb).2.1 z
  ·exact(hf b hb).2.2.1 z
 ·have hi:TN.length<=i:=by
   apply Nat.le_of_not_lt
   intro hlt;rw[Δ (by simpa using hlt),List.getElem?_replicate] at h2;split at h2<;>cases h2
  rw[Α (by simpa using hi),Χ] at h2;have h1':F[i-TN.length]? =some x:=by
   have:(TN++F)[i]? =some x:=h1;rw[Α hi] at this;exact this
  have e3:=congrArg (λl=>l[i-TN.length]?) hix;simp only[List.getElem?_map,h1',Option.map_some] at e3;unfold sub at h2;rw[μ] at h2;cases ej:ix[i-TN.length]? with
  | none=>rw[ej] at h2; cases h2
  | some k=>
   rw[ej] at h2 e3;have h2':(σ[k]?).join=some v:=Γ h2;have e3':X.N[k]? =some x:=Γ e3;have hσ:σ[k]? =some (some v):=by
    cases e:σ[k]? with
    | none=>rw[e] at h2'; cases h2'
    | some q=>
     rw[e] at h2';have:q=some v:=h2';rw[this]
   have hfr:=S.ff x (ο h1');have hcell:=(S.fr _ hfr rfl).1;obtain⟨m0,hn0,hl0⟩:=I.loc;obtain⟨u,r,l⟩:=hl0 k x v e3' hσ (.inr (.inl hcell));refine⟨u,r,?_⟩;rcases l with ⟨l1,_⟩ | ⟨_,c,hc,o,ho',hd⟩
   ·have l1':X.env.scope.names.lookup x=some .local:=l1;rw[hcell] at l1';cases l1'
   ·exact .inr ⟨.inl (xJ (env:=X.env) S.okind hcell (S.fr _ hfr rfl).2),c,(cl' x hfr).trans hc,o,hk c o ho',hd⟩
 ·obtain⟨v,o,ho',hd⟩:=I.cell x c (cl x c e);exact⟨v,o,hk c o ho',hd⟩
 ·show _=(TN++F).length;rw[Β,Β,Χ];unfold sub;rw[ε,hlen]
def PTs (X:Cx) (ifs:List Expr) (tc:TT):Prop:=
 ∀(pins:List (Addr×Obj)) (s:Shared) (σ:St) (H:Hp) (Q:Bool->Hp->Prop),Inv X pins σ H s->tc σ H Q->
  wpAny (model X.prog X.w) X.A (forIn ifs true λc r=>if r=true then do let ok<-isTrue c X.env (eval c X.env); pure (ForInStep.yield ok) else pure (ForInStep.yield r)) (TP X pins σ Q) X.xe s
def tAll:TT:=λ_ H Q=>Q true H
theorem zu:PTs X [] tAll:=λ_ _ _ H _ I h=>wpAny_tests_nil ⟨H,I,h⟩
theorem xK(hc:PT X c tc):PTs X [c] tc:=λpins s σ H Q I h=>wpAny_tests_one (hc pins s σ H Q I h)
def CGo (J:It) (D:Addr) (g:TG) (tc:TT) (te:TE) (Q:VK) (σ:St) (H:Hp):Prop:=
 ∃W:Nat->Nat->St->List V->Hp->Prop,(∃m,W 0 m σ [] (upd H D (.lst [])))/\ ∀i m τ ys H,W i m τ ys H->H D=some (.lst ys)/\
  ((J.stop i H/\Q (.ref D) H)\/(J.go i H/\ ∀v H',J.yld i H v H'->g v τ H' fun τ2 H2=>tc τ2 H2 λb H3=>
   if b=true then te τ2 H3 λy H4=>H4 D=some (.lst ys)/\ys.length<sizeLine/\ ∃m',m'<m/\W (i+1) m' τ2 (ys++[y]) (upd H4 D (.lst (ys++[y])))
   else∃m',m'<m/\W (i+1) m' τ2 ys H3))
def xU (wi:TI) (n:Nat) (ix:List Nat) (g:TG) (tc:TT) (te:TE):TE:=fun σ H Q=>wi σ H λJ H1=> ∀D,H1 D=none->CGo J D g tc te Q (List.replicate n none++sub ix σ) H1
theorem Zv{Q:Value->Shared->Prop}{E:Value->Shared->Prop}(I:Inv X pins σ H s)(hD:H D=some (.lst ys))(hz:ys.length<sizeLine)(r:RelV y u)
  (h: ∀s',Inv X pins σ (upd H D (.lst (ys++[y]))) s'->Q .none s'):wpAny (model X.prog X.w) X.A (call (.builtin "list.append") [.ref D,u]) Q E s:=by
 obtain⟨z,its,n,rr,hl,e⟩:=I.lstM hD;refine call_meets F.slot_list_append ⟨_,e,rfl⟩ F.entry_list_append (F.args_list_append_2 _ _) (PySem.list_append D its.toArray n u (by rw[ψ]; omega)) ⟨e,?_⟩;refine h _ (I.lset (its':=its++[u]) hD e (by simp) (rr.append (.cons r .nil)) ?_);rw[Β,List.length_singleton];omega
theorem vV{X:Cx}{ix:List Nat}{tn:Nat->Heap->Prop}
  {RR:Value->Addr->Result->Shared->Prop} {E:Value->Shared->Prop}
  (S:CScope X.env.scope sc TN F) (hix:ix.map (λi=>X.N[i]?)=F.map some) (hc:X.calm=true) (I:Inv X pins σ H s) (T:Turn X.prog X.w X.K tg J fp it tn) (st:tn 0 s.heap) (hf: ∀b∈fp,FpOk X pins H b)
  (hg: ∀cl C fp s3 H3 xe,PG (cxC X (TN++F) sc cl C fp s3 H3 xe) tg g) (ht: ∀cl C fp s3 H3 xe,PTs (cxC X (TN++F) sc cl C fp s3 H3 xe) ifs tc) (he: ∀cl C fp s3 H3 xe,PE (cxC X (TN++F) sc cl C fp s3 H3 xe) elt te)
  (hW: ∀D,H D=none->CGo J D g tc te Q (List.replicate TN.length none++sub ix σ) H)
  (fin: ∀D C H' s',Inv X pins σ H' s'->(∃m,s'.heap.Ns C m)->H' C=none->C≠X.env.locals->X.s₀.heap.objs.size<=C->(∀x c,X.env.cells.lookup x=some c->c≠C)->(∀p∈X.pn++pins,p.1≠C)->Q (.ref D) H'->RR (.ref D) C (.ok .next) s'):
  wpAny (model X.prog X.w) X.A (newList []) (λacc s₃=>wpAny (model X.prog X.w) X.A (newFunctionEnv sc X.env.globals (cloF X.env sc.names []) [] X.env.qual none .none (some X.env)) (λcenv s₄=>
   codeAny (model X.prog X.w) X.A (.compStart (.ListComp elt [⟨tg,iter,ifs,0⟩] sc pos) 0 (.ref it) acc {cenv with scope:=relabel sc X.env}) (RR acc cenv.locals) s₄) E s₃) E s:=by
 have hfo: ∀b∈fp,∃o,s.heap.get? b=some o:=λb hb=>let ⟨o,e,_⟩:=T.obj 0 _ st b hb; ⟨o,e⟩
 refine wpAny_newObj_type ?_;obtain⟨W,⟨m0,w0⟩,go⟩:=hW s.heap.objs.size I.fresh;have I3:Inv X pins σ (upd H s.heap.objs.size (.lst [])) {s with heap:=s.heap.push {cls:= .type "list",data:= .seq ([]:List Value).toArray}}:=I.lnew (its:=[]) (ys:=[]) (t':=s.toks) .nil (Ι _);generalize hs3:({s with heap:=s.heap.push {cls:= .type "list",data:= .seq ([]:List Value).toArray}}:Shared)=s3 at I3;have hk3: ∀b o,s.heap.get? b=some o->s3.heap.get? b=some o:=λb o e=>by
  rw[<-hs3];exact η _ e
 have hf3: ∀b∈fp,FpOk X pins (upd H s.heap.objs.size (.lst [])) b:=λb hb=>by
  obtain⟨o,e⟩:=hfo b hb;exact⟨by rw[zk (Ν (ν e))]; exact(hf b hb).1,(hf b hb).2⟩
 have st3:tn 0 s3.heap:=T.keep 0 _ _ st λb hb o e=>hk3 b o e;show wpAny _ _ _ _ _ s3;refine wpAny_newFunctionEnv S.nocell (by intro y hy; simp at hy) (λh4 hn4 hsb=>?_) S.kind;have hk4: ∀b o,s3.heap.get? b=some o->h4.get? b=some o:=λb o e=>(hsb.2 b (Ν (ν e))).trans (η _ e);generalize hR:RR (.ref s.heap.objs.size) s3.heap.objs.size=R;have loop: ∀s4:Shared,s4={s3 with heap:=h4,toks:=s3.toks+([]:List (Str×Value)).length}->
   codeAny (model X.prog X.w) X.A (.compLoop (.ListComp elt [⟨tg,iter,ifs,0⟩] sc pos) 0 (.ref it) (.ref s.heap.objs.size) (compEnvC sc (cloF X.env sc.names []) s3.heap.objs.size X.env)) R s4:=by
  rintro s4 rfl
  let X':Cx:=cxC X (TN++F) sc (cloF X.env sc.names []) s3.heap.objs.size fp s3 (upd H s.heap.objs.size (.lst [])) (notedBy (model X.prog X.w) X.A (compEnvC sc (cloF X.env sc.names []) s3.heap.objs.size X.env) λe s'=>R (.error e) s')
  have I4:Inv X' [] (List.replicate TN.length none++sub ix σ) (upd H s.heap.objs.size (.lst [])) {s3 with heap:=h4,toks:=s3.toks+([]:List (Str×Value)).length}:=
   inv_comp S hix I3 hf3 (λb hb=>let ⟨o,e⟩:=hfo b hb; ⟨o,hk3 b o e⟩) hk4 hn4
  have fpx: ∀{H':Hp},(∀b∈fp,H' b=none)-> ∀b∈fp,FpOk X' [] H' b:=λ{H'} hn b hb=>by
   refine⟨hn b hb,(I4.ok.exf b hb).1,λz=>I4.ok.exfs b hb z,.inl hb,λx c e=>(I4.ok.exf b hb).2 x c e,λp hp=>absurd (show p∈([]:List (Addr×Obj)) from hp) (by simp)⟩
  refine Zo (λn s'=> ∃i τ ys H',Inv X' [] τ H' s'/\tn i s'.heap/\(∀b∈fp,H' b=none)/\W i n τ ys H') ?_ m0 ⟨0,_,[],_,I4,T.keep 0 _ _ st3 λb hb o e=>hk4 b o e,λb hb=>(hf3 b hb).1,w0⟩;rintro n s5 ⟨i,τ,ys,H5,I5,st5,fr5,w5⟩;obtain⟨hD,hgo⟩:=go i n τ ys H5 w5;rcases hgo with ⟨stop,q⟩ | ⟨hgo,step⟩
  ·refine thn (T.done X' rfl rfl rfl hc i [] s5 τ H5 X'.xe I5 (fpx fr5) st5 stop) λr s6 ⟨hr,I6⟩=>?_;subst hr;show R (.ok .next) s6;rw[<-hR];have J6:Inv X pins σ H5 s6:=I3.call' (ch:=fp) I6.os I6.base I6.hok I6.bare λb hb=>⟨(hf3 b hb).2.2.2.1,(hf3 b hb).2.1,(hf3 b hb).2.2.2.2.1,(hf3 b hb).2.2.2.2.2⟩;refine fin s.heap.objs.size s3.heap.objs.size H5 s6 J6 (let ⟨m,hn,_⟩:=I6.loc; ⟨m,hn⟩) I6.free (Ω I3.lt) I3.sz (λx c e z=>?_) (λp hp z=>?_) q
   ·obtain⟨v,o,ho,_⟩:=I3.cell x c e;exact absurd (ν ho) (by rw[z]; exact Nat.lt_irrefl _)
   ·exact absurd (ν (I3.pin p hp).1) (by rw[z]; exact Nat.lt_irrefl _)
  ·refine thn (T.item X' rfl rfl rfl hc i [] s5 τ H5 X'.xe I5 (fpx fr5) st5 hgo) λr s6 ⟨u,hr,h6⟩=>?_;subst hr;refine thn h6 λ_ s7 ⟨v,H7,I7,r7,y7,st7,fr7⟩=>?_;have I7':=I7.pinned (fpx fr7) (T.obj _ _ st7);refine thn (hg _ _ _ _ _ _ _ s7 τ H7 v u _ I7' r7 (step v H7 y7)) λ_ s8 ⟨τ8,H8,I8,q8⟩=>?_;refine thn (ht _ _ _ _ _ _ _ s8 τ8 H8 _ I8 q8) λok s9 ⟨H9,I9,q9⟩=>?_;have again: ∀{ys':List V} {H':Hp} {s':Shared},Inv X' ([]++wT fp s7.heap) τ8 H' s'->(∃m',m'<n/\W (i+1) m' τ8 ys' H')-> ∃m,m<n/\ ∃i τ ys H'',Inv X' [] τ H'' s'/\tn i s'.heap/\(∀b∈fp,H'' b=none)/\W i m τ ys H'':=λ{ys' H' s'} I' ⟨m',hm,w'⟩=>by
    refine⟨m',hm,i+1,τ8,ys',H',I'.unpinned,T.keep _ _ _ st7 λb hb o e=>(I'.pin (b,o) (ω _ (ω _ (yR hb e)))).1,λb hb=>?_,w'⟩;obtain⟨o,e,d⟩:=T.obj _ _ st7 b hb;exact(I'.pin (b,o) (ω _ (ω _ (yR hb e)))).2.1
   cases ok with
   | false=>
    exact again I9 q9
   | true=>
    refine thn (he _ _ _ _ _ _ _ s9 τ8 H9 _ I9 q9) λx s10 ⟨y,H10,I10,r10,hD10,hz10,q10⟩=>?_;exact Zv (X:=X') I10 hD10 hz10 r10 λs11 I11=>again I11 q10
 subst hR;exact codeAny_compStart_list (loop _ rfl) (T.self X.A 0 _ _ _ (T.keep 0 _ _ st3 λb hb o e=>hk4 b o e) (loop _ rfl))
section
variable {X:Cx} {sc:Scope} {TN F:List Str} {ix:List Nat} {elt tg iter:Expr} {ifs:List Expr} {pos:Pos} {g:TG} {tc:TT} {te:TE} {wi:TI}
theorem vW(S:CScope X.env.scope sc TN F)(I:Inv X pins σ H s):closureFor sc X.env=pure (cloF X.env sc.names []):=
 wm λx hx hk=>I.ok.has x.1 (.inl (S.fr x hx hk).1)
theorem zy(S:CScope X.env.scope sc TN F)(hix:ix.map (λi=>X.N[i]?)=F.map some)(hc:X.calm=true)(hi:PI X tg iter wi)
  (hg: ∀cl C fp s3 H3 xe,PG (cxC X (TN++F) sc cl C fp s3 H3 xe) tg g) (ht: ∀cl C fp s3 H3 xe,PTs (cxC X (TN++F) sc cl C fp s3 H3 xe) ifs tc) (he: ∀cl C fp s3 H3 xe,PE (cxC X (TN++F) sc cl C fp s3 H3 xe) elt te)
  (hs: ∀x,foldedSetIterable iter X.env x=pure x:=by intro _; rfl):PE X (.ListComp elt [⟨tg,iter,ifs,0⟩] sc pos) (xU wi TN.length ix g tc te):=by
 intro pins s σ H Q I h;rw[eval_ListComp];refine wpAny_comprehension_free (use:=none) rfl hs (vW S I) S.kind S.names (thn (hi pins s σ H _ I h) λv s1 h1=>thn h1 λitv s2 h2=>?_);obtain⟨it,fp,tn,J,H2,e,I2,T,st2,f2,q2⟩:=h2;subst e;refine vV (RR:=λacc C=>compPost (model X.prog X.w) X.A X.xe none (EP X pins σ Q) acc C) S hix hc I2 T st2 f2 hg ht he q2 λD C H' s' I' hn hC1 hC2 hC3 hC4 hC5 q=>?_;obtain⟨m,hn⟩:=hn;exact⟨m,hn,λh' hs'=>⟨.ref D,H',I'.turned (t':=s'.toks) (λb o hb e=>(hs'.2 b hb).trans e) hC1 hC2 (.inr hC3) hC4 hC5,rfl,q⟩⟩
theorem yi{spos:Pos}(hN:X.N.Nodup)(hiy:X.N[i]? =some y)(hy:X.env.scope.names.lookup y=some .local)(S:CScope X.env.scope sc TN F)(hix:ix.map (λi=>X.N[i]?)=F.map some)(hc:X.calm=true)(hi:PI X tg iter wi)
  (hg: ∀cl C fp s3 H3 xe,PG (cxC X (TN++F) sc cl C fp s3 H3 xe) tg g) (ht: ∀cl C fp s3 H3 xe,PTs (cxC X (TN++F) sc cl C fp s3 H3 xe) ifs tc) (he: ∀cl C fp s3 H3 xe,PE (cxC X (TN++F) sc cl C fp s3 H3 xe) elt te)
  (hsw:swapsWith (.ListComp elt [⟨tg,iter,ifs,0⟩] sc pos) (some (.Name y py)) spos.line X.env=pure true:=by rfl)
  (hs: ∀x,foldedSetIterable iter X.env x=pure x:=by intro _; rfl):PS X (.Assign [.Name y py] (.ListComp elt [⟨tg,iter,ifs,0⟩] sc pos) spos) (tAsg (xU wi TN.length ix g tc te) (zF i)):=by
 intro pins s σ H D I h;rw[exec_Assign_Name_used _ _ _ _ hsw]; refine γ (wpAny_standAt (γ ?_));show wpAny _ X.A (do let _<-comprehension (.ListComp elt [⟨tg,iter,ifs,0⟩] sc pos) sc X.env _ (newList []) false (eval iter X.env) (some (assign (.Name y py) X.env))) _ _ s;refine γ (wpAny_mono (wpAny_comprehension_free (use:=some (assign (.Name y py) X.env)) (Q:=λ_ s'=>SP X pins D .next s') rfl hs (vW S I) S.kind S.names
  (thn (hi pins s σ H _ I h) λv s1 h1=>thn h1 λitv s2 h2=>?_)) (λ_ s' hq=>ι (ι hq)) λ_ _ e=>e)
 obtain⟨it,fp,tn,J,H2,e,I2,T,st2,f2,q2⟩:=h2;subst e;refine vV (RR:=λacc C=>compPost (model X.prog X.w) X.A X.xe (some (assign (.Name y py) X.env)) (λ_ s'=>SP X pins D .next s') acc C) S hix hc I2 T st2 f2 hg ht he q2 λDl C H' s' I' hn hC1 hC2 hC3 hC4 hC5 q=>?_;obtain⟨m,hn⟩:=hn;show wpAny _ X.A (assign (.Name y py) X.env (.ref Dl)) _ _ _;refine wpAny_assign_Name (Zc I' hN hiy (.inl hy) (show RelV (.ref Dl) (.ref Dl) from rfl) (λs'' I'' ⟨a,hsb,ha⟩=>?_) (.inr hy));have haC:C≠a:=by
  rcases ha with z | z
  ·rw[z]; exact hC2
  ·exact λz'=>hC4 y a z z'.symm
 refine⟨m,hn.sameBut hsb haC,λh' hs'=>?_⟩;exact⟨_,H',I''.turned (t':=s''.toks) (λb o hb e=>(hs'.2 b hb).trans e) hC1 hC2 (.inr hC3) hC4 hC5,q⟩
end
def Y5 (H:Hp) (p:Addr):Option (List V):=match H p with
 | some (.lst xs)=>some xs
 | some (.tup xs)=>some xs
 | _=>none
def dAt (H:Hp) (x y:V):Option V:=match x,y with
 | .ref p,.int i=>(Y5 H p).bind λxs=>atI xs i
 | _,_=>none
def rIxd:R2:=λx y H Q=> ∃v,dAt H x y=some v/\Q v H
section
variable {X:Cx}
theorem ix_d:IxR X rIxd:=by
 intro value slice pins s σ H x y v u Q I rx ry h hs;refine ix_seq value slice pins s σ H x y v u Q I rx ry ?_ hs;obtain⟨z,e,q⟩:=h;unfold dAt at e;split at e
 case h_2=>cases e
 case h_1 p i=>
  unfold Y5 at e;split at e
  case h_1 xs hp=>exact .inl ⟨_,xs,_,z,rfl,rfl,SqL.of hp,e,q⟩
  case h_2 xs hp=>exact .inr (.inl ⟨_,xs,_,z,rfl,rfl,SqT.of hp,e,q⟩)
  case h_3=>cases e
theorem ziq(ha:PE X a ta)(hb:PE X b tb)(hs:PlainIx b:=by exact λ_ _=>rfl):PE X (.Subscript a b pos) (tOp rIxd ta tb):=zn ix_d ha hb hs
def dSet (H:Hp) (o i v:V):Option Hp:=match o,i with
 | .ref p,.int k=>match H p with
  | some (.lst xs)=>(ixN xs.length k).map λj=>upd H p (.lst (xs.set j v))
  | _=>none
 | _,_=>none
def Yc:V->V->V->Hp->(Hp->Prop)->Prop:=λo i v H Q=> ∃H',dSet H o i v=some H'/\Q H'
theorem yu:PSet X Yc:=by
 intro pins s σ H o i v ov iv u Q I ro ri rv h;refine set_list pins s σ H o i v ov iv u Q I ro ri rv ?_;obtain⟨H',e,q⟩:=h;unfold dSet at e;split at e
 case h_2=>cases e
 case h_1 p k=>
  split at e
  case h_2=>cases e
  case h_1 xs hp=>
   cases ej:ixN xs.length k with
   | none=>rw[ej] at e; cases e
   | some j=>
    rw[ej] at e;cases e
    exact⟨p,xs,k,j,rfl,rfl,hp,ej,q⟩
end
section
variable {σ:St} {H:Hp} {Q:VK} {D:Ends} {t u:TS} {te ta tb:TE} {tr:TA} {g:TG} {r:R2} {x y v:V} {c:TT} {QB:Bool->Hp->Prop} {QL:List V->Hp->Prop} {QG:St->Hp->Prop} {n:Nat}
theorem yy(h:t {D with nx:=u D} σ H):tSeq t u D σ H:=h
theorem yo(h:D.nx σ H):WK D σ H:=h
theorem yK(h:te σ H λx H1=>g x σ H1 D.nx):tAsg te g D σ H:=h
theorem zN(h:QG (σ.set i (some v)) H):zF i v σ H QG:=h
theorem w_op(h:ta σ H λx H1=>tb σ H1 λy H2=>r x y H2 Q):tOp r ta tb σ H Q:=h
theorem yg(e:σ[i]? =some (some v))(h:Q v H):tVar i σ H Q:=⟨v,e,h⟩
theorem w_c(h:Q v H):tC v σ H Q:=h
theorem xo{k:Int->Int->V}(h:Q (k i j) H):rI0 k (.int i) (.int j) H Q:=⟨i,j,rfl,rfl,h⟩
theorem w_rI{C:Int->Int->Prop}{k:Int->Int->V}(hc:C i j)(h:Q (k i j) H):rI C k (.int i) (.int j) H Q:=⟨i,j,rfl,rfl,hc,h⟩
theorem xz(h:c σ H λb' H1=>if b'=true then t D σ H1 else b D σ H1):tIfS c t b D σ H:=h
theorem xA(h:c σ H λb' H1=>if b'=true then ta σ H1 Q else tb σ H1 Q):tIf c ta tb σ H Q:=h
theorem yL(h:te σ H λx H'=> ∃k,x= .bl k/\QB k H'):XV te σ H QB:=h
theorem w_tb(h:te σ H λx H'=> ∃k,x= .bl k/\QB k H'):tB te σ H QB:=h
theorem w_bl{P:Bool->Prop}(h:P b): ∃k,V.bl b= .bl k/\P k:=⟨b,rfl,h⟩
theorem w_not(h:c σ H λb H1=>QB (!b) H1):tNot c σ H QB:=h
theorem xg(h:te σ H D.rt):tRet te D σ H:=h
theorem yp(h:QL [] H):tNil σ H QL:=h
theorem zK(h:te σ H λx H1=>tr σ H1 λxs H2=>QL (x::xs) H2):yn te tr σ H QL:=h
theorem xh(h:tr σ H λxs H1=>xs.length<=sizeLine/\ ∀p,H1 p=none->Q (.ref p) (upd H1 p (.lst xs))):tLst tr σ H Q:=h
theorem xf(h:tr σ H λxs H1=>xs.length<=sizeLine/\ ∀p,H1 p=none->Q (.ref p) (upd H1 p (.tup xs))):tTup tr σ H Q:=h
theorem w_cb{r:List V->Hp->VK->Prop}(h:tr σ H λvs H1=>r vs H1 Q):tCB r tr σ H Q:=h
theorem yD(h:tr σ H λvs H1=>sp (vs++dvs) H1 Q E):Zb sp dvs E tr σ H Q:=h
theorem yN(h:to σ H λo H1=>ti σ H1 λi H2=>ts o i v H2 λH3=>QG σ H3):gSub to ti ts v σ H QG:=h
theorem zC(hp:H p=some (.lst xs))(e:atI xs i=some v)(h:Q v H):rIxd (.ref p) (.int i) H Q:=⟨v,by simp only[dAt,Y5,hp,Option.bind_some,e],h⟩
theorem zJ(hp:H p=some (.tup xs))(e:atI xs i=some v)(h:Q v H):rIxd (.ref p) (.int i) H Q:=⟨v,by simp only[dAt,Y5,hp,Option.bind_some,e],h⟩
theorem xP{QH:Hp->Prop}(hp:H p=some (.lst xs))(e:ixN xs.length i=some j)(h:QH (upd H p (.lst (xs.set j v)))):Yc (.ref p) (.int i) v H QH:=
 ⟨_,by simp only[dSet,hp,e,Option.map_some],h⟩
theorem xB(h:c σ H λb H1=>if b=true then d σ H1 QB else QB false H1):tAnd c d σ H QB:=h
theorem iteD{p A B:Prop}[Decidable p](h1:p->A)(h2: ¬p->B):if decide p=true then A else B:=by
 by_cases h:p
 ·rw[decide_eq_true h,if_pos rfl];exact h1 h
 ·rw[decide_eq_false h,if_neg Ζ];exact h2 h
theorem Wl{p A B:Prop}[Decidable p](h1: ¬p->A)(h2:p->B):if (!decide p)=true then A else B:=by
 by_cases h:p
 ·rw[decide_eq_true h];exact iteF (h2 h)
 ·rw[decide_eq_false h];exact iteT (h1 h)
end
def Has (P:Program) (w:World) (K:W.Frag) (mg:Str->Option Value) (base:Heap) (k:Nat) (x:Str) (ps:List Str) (sp:Sp):Prop:=
 ∃f fd,FnOk P w K mg base CX0 k f fd ps sp/\mg x=some (.ref f)/\PySem.W.keepIn K (.ref f)=true/\Binds K fd ps []
theorem pe_fn{X:Cx}(h:Has X.prog X.w X.K X.mg X.base k x ps sp)(hr:Room j X.A)(hkj:k<=j)(ha:PA X (e::es) t)(hg:Gl X x:=by rfl)
  (hdb:(x==("__debug__":Str))=false:=by decide) (he:starEach (e::es) X.env=(false,eval e X.env)::starEach es X.env:=by rfl) (hpl:(backTo pos (starEach es X.env)).any (·.1)=false:=by rfl):
  PE X (.Call (.Name x p) (e::es) [] pos) (Zb sp [] E0 t):=by
 obtain⟨f,fd,F,hm,hk,hb⟩:=h;exact pe_call F (hr.mono hkj) hg hm hk hb .nil Xg ha hdb he hpl
section
variable {lo:Int} {n:Nat} {D:Addr} {te:TE} {tc:TT} {Q:VK} {ρ:St} {H:Hp}
theorem xH(Pv:Nat->List V->Hp->Prop)(h0:Pv 0 [] (upd H D (.lst [])))
  (hs: ∀i ys H',i<n->Pv i ys H'->H' D=some (.lst ys)-> ∀(R:V->Hp->Prop) (S:Hp->Prop),(∀y H4,H4 D=some (.lst ys)->ys.length<sizeLine->Pv (i+1) (ys++[y]) (upd H4 D (.lst (ys++[y])))->R y H4)->(∀H3,H3 D=some (.lst ys)->Pv (i+1) ys H3->S H3)->
   tc (some (.int (lo+i))::ρ) H' λb H3=>if b=true then te (some (.int (lo+i))::ρ) H3 R else S H3)
  (hd: ∀ys H',Pv n ys H'->H' D=some (.lst ys)->Q (.ref D) H'):CGo (Itr lo n) D (zF 0) tc te Q (none::ρ) H:=by
 refine⟨λi m τ ys H'=>m=n-i/\i<=n/\(∃tv,τ=tv::ρ)/\Pv i ys H'/\H' D=some (.lst ys),⟨n,by omega,Ι _,⟨_,rfl⟩,h0,zf⟩,?_⟩;rintro i m τ ys H' ⟨rfl,hi,⟨tv,rfl⟩,hp,hD⟩;refine⟨hD,?_⟩;by_cases hlt:i<n
 ·refine .inr ⟨hlt,?_⟩;rintro v H'' ⟨rfl,rfl⟩;show tc (some (.int (lo+i))::ρ) _ _;exact hs i ys _ hlt hp hD _ _ (λy H4 a b c=>⟨a,b,n-(i+1),by omega,rfl,hlt,⟨_,rfl⟩,c,zf⟩) λH3 a c=>⟨n-(i+1),by omega,rfl,hlt,⟨_,rfl⟩,c,a⟩
 ·have e:i=n:=by omega
  subst e;exact .inl ⟨θ _,hd ys _ hp hD⟩
theorem ZY{K:W.Frag}{a:Addr}{xs:List V}(Pv:Nat->List V->Hp->Prop)(h0:Pv 0 [] (upd H D (.lst [])))(hl: ∀i ys H',i<=xs.length->Pv i ys H'->SqT K H' a xs)
  (hs: ∀i x ys H',xs[i]? =some x->Pv i ys H'->H' D=some (.lst ys)-> ∀(R:V->Hp->Prop) (S:Hp->Prop),(∀y H4,H4 D=some (.lst ys)->ys.length<sizeLine->Pv (i+1) (ys++[y]) (upd H4 D (.lst (ys++[y])))->R y H4)->(∀H3,H3 D=some (.lst ys)->Pv (i+1) ys H3->S H3)->
   tc (some x::ρ) H' λb H3=>if b=true then te (some x::ρ) H3 R else S H3)
  (hd: ∀ys H',Pv xs.length ys H'->H' D=some (.lst ys)->Q (.ref D) H'):CGo (Itt K a) D (zF 0) tc te Q (none::ρ) H:=by
 refine⟨λi m τ ys H'=>m=xs.length-i/\i<=xs.length/\(∃tv,τ=tv::ρ)/\Pv i ys H'/\H' D=some (.lst ys),⟨xs.length,by omega,Ι _,⟨_,rfl⟩,h0,zf⟩,?_⟩;rintro i m τ ys H' ⟨rfl,hi,⟨tv,rfl⟩,hp,hD⟩;refine⟨hD,?_⟩;have sq:=hl i ys H' hi hp;by_cases hlt:i<xs.length
 ·refine .inr ⟨⟨xs,xs[i],sq,by simp[hlt]⟩,?_⟩;rintro v H'' ⟨rfl,hv⟩;have hv':=hv xs sq;show tc (some v::ρ) _ _;exact hs i v ys _ hv' hp hD _ _ (λy H4 a b c=>⟨a,b,xs.length-(i+1),by omega,rfl,hlt,⟨_,rfl⟩,c,zf⟩) λH3 a c=>⟨xs.length-(i+1),by omega,rfl,hlt,⟨_,rfl⟩,c,a⟩
 ·have e:i=xs.length:=by omega
  subst e;exact .inl ⟨⟨xs,sq,θ _⟩,hd ys _ hp hD⟩
end
theorem zU{Q:Bool->Hp->Prop}(h:Q true H):tAll σ H Q:=h
def yG (sc o:Scope):Scope:=
 {sc with names:=sc.names.map fun(n,k)=>if (k== .free&&o.kind== .function&&o.names.lookup n==some .cell) then (n,.cell) else (n,k)}
instance {sc:Scope} {x:Str}:Decidable (Vis sc x):=by unfold Vis; infer_instance
structure BScope (o sc:Scope) (TN F G:List Str):Prop extends CScope o sc TN F where
 nd:(TN++F).Nodup:=by decide +kernel
 vis: ∀x∈TN++F,Vis (yG sc o) x:=by decide +kernel
 loc: ∀x∈TN,(yG sc o).names.lookup x=some .local:=by decide +kernel
 gl: ∀x∈G,(yG sc o).names.lookup x=some .globalImplicit:=by decide +kernel
section
variable {X:Cx} {sc:Scope} {TN F G:List Str} {cl:List (Str×Addr)} {C:Addr} {fp:List Addr} {s3:Shared} {H3:Hp} {xe:Value->Shared->Prop} {x:Str} {pos:Pos}
theorem pvb(S:BScope X.env.scope sc TN F G)(i:Nat)(hN:(TN++F)[i]? =some x:=by rfl)(hd:(x==("__debug__":Str))=false:=by decide)(hcd:(x==("__classdict__":Str))=false:=by decide):PE (cxC X (TN++F) sc cl C fp s3 H3 xe) (.Name x pos) (tVar i):=
 vC hN (S.vis x (ο hN)) hd hcd
theorem pgb(S:BScope X.env.scope sc TN F G)(i:Nat)(hN:(TN++F)[i]? =some x:=by rfl)(hT:TN[i]? =some x:=by rfl):PG (cxC X (TN++F) sc cl C fp s3 H3 xe) (.Name x pos) (zF i):=
 vm S.nd hN (.inl (S.loc x (ο hT))) (.inr (S.loc x (ο hT)))
theorem BScope.g(S:BScope X.env.scope sc TN F G)(i:Nat)(hG:G[i]? =some x:=by rfl):Gl (cxC X (TN++F) sc cl C fp s3 H3 xe) x:=S.gl x (ο hG)
end
def Wt:Expr->Option V
 | .Constant (.int n) _ _=>some (.int n)
 | .Constant (.str y) _ _=>some (.str y)
 | .Constant (.bool b) _ _=>some (.bl b)
 | .Constant .none _ _=>some .non
 | _=>none
def wG:List Expr->Option (List V)
 | []=>some []
 | e::r=>match Wt e,wG r with
  | some v,some vs=>some (v::vs)
  | _,_=>none
def Z7 (vs:List V):TA:=λ_ H Q=>Q vs H
theorem Ze: ∀{es:List Expr} {vs:List V},wG es=some vs->PA X es (Z7 vs)
 | [],vs,h=>by
  cases h
  exact yH
 | e::r,vs,h=>by
  unfold wG at h;split at h
  case h_2=>cases h
  case h_1 v vs' h1 h2=>
   cases h
   have ih:=Ze (X:=X) h2;have go: ∀{te:TE},PE X e te->(starEach (e::r) X.env=(false,eval e X.env)::starEach r X.env)->(∀σ H Q,Q v H->te σ H Q)->PA X (e::r) (Z7 (v::vs')):=λ{te} he hs hq=>by
    have q:=xr he ih hs;intro pos pins s σ H Q I hh;exact q pos pins s σ H Q I (hq σ H _ hh)
   unfold Wt at h1;split at h1
   case h_1=>cases h1; exact go zg rfl λ_ _ _ h=>h
   case h_2=>cases h1; exact go wg rfl λ_ _ _ h=>h
   case h_3=>cases h1; exact go vE rfl λ_ _ _ h=>h
   case h_4=>cases h1; exact go vD rfl λ_ _ _ h=>h
   case h_5=>cases h1
theorem wy(h:wG es=some vs):PE X (.List es pos) (tLst (Z7 vs)):=zR (Ze h)
theorem yx{Q:List V->Hp->Prop}(h:Q vs H):Z7 vs σ H Q:=h
instance {sc:Scope} {x:Str}:Decidable (Loc sc x):=by unfold Loc; infer_instance
structure Nm (N:List Str) (sc:Scope):Prop where
 nd:N.Nodup
 loc: ∀x∈N,Loc sc x
section
variable {X:Cx} {x:Str} {pos:Pos}
theorem Loc.vis(h:Loc sc x):Vis sc x:=h.elim .inl λz=> .inr (.inl z)
theorem pvd(M:Nm X.N X.env.scope)(i:Nat)(hN:X.N[i]? =some x:=by rfl)(hd:(x==("__debug__":Str))=false:=by decide)(hcd:(x==("__classdict__":Str))=false:=by decide):PE X (.Name x pos) (tVar i):=
 vC hN (M.loc x (ο hN)).vis hd hcd
theorem zj(M:Nm X.N X.env.scope)(i:Nat)(he:PE X e te)(hi:X.N[i]? =some x:=by rfl)(hs:swapsWith e (some (.Name x pos')) pos.line X.env=pure false:=by rfl)(hf:X.fn x=true:=by rfl):
  PS X (.Assign [.Name x pos'] e pos) (tAsg te (zF i)):=wf M.nd hi (M.loc x (ο hi)) he hs (.inl hf)
theorem pgd(M:Nm X.N X.env.scope)(i:Nat)(hi:X.N[i]? =some x:=by rfl)(hf:X.fn x=true:=by rfl):PG X (.Name x pos) (zF i):=vm M.nd hi (M.loc x (ο hi)) (.inl hf)
end
section
variable {ta:TA} {tl:TE} {n:Nat} {ix:List Nat} {g:TG} {tc:TT} {te:TE} {σ:St} {H:Hp} {Q:VK}
theorem yh(h:ta σ H λvs H1=> ∃j:Int,vs=[.int j]/\ -(2^62)<=j/\j<2^62/\ ∀D,H1 D=none->CGo (Itr 0 j.toNat) D g tc te Q (List.replicate n none++sub ix σ) H1):xU (Xu ta) n ix g tc te σ H Q:=h
theorem yl{K:W.Frag}(h:tl σ H λx H1=> ∃a,x= .ref a/\(∃xs,SqT K H1 a xs)/\ ∀D,H1 D=none->CGo (Itt K a) D g tc te Q (List.replicate n none++sub ix σ) H1):xU (iTup K tl) n ix g tc te σ H Q:=h
end
def ForJ (J:It) (g:TG) (tb:TS) (D:Ends) (σ:St) (H1:Hp):Prop:= ∃W:Nat->Nat->St->Hp->Prop,(∃m,W 0 m σ H1)/\ ∀i m σ H,W i m σ H->
 (J.stop i H/\D.nx σ H)\/(J.go i H/\ ∃N:St->Hp->Prop,(∀σ' H',N σ' H'-> ∃m',m'<m/\W (i+1) m' σ' H')/\ ∀x H',J.yld i H x H'->g x σ H' fun σ2 H2=>tb {D with nx:=N,ct:=N,bk:=D.nx} σ2 H2)
theorem yz(h:ta σ H λvs H1=> ∃j:Int,vs=[.int j]/\ -(2^62)<=j/\j<2^62/\ForJ (Itr 0 j.toNat) g tb D σ H1):tFor (Xu ta) g tb D σ H:=h
theorem yO{K:W.Frag}{tl:TE}{g:TG}{tb:TS}{D:Ends}{σ:St}{H:Hp}(h:tl σ H λx H1=> ∃a,x= .ref a/\(∃xs,SqT K H1 a xs)/\ForJ (Itt K a) g tb D σ H1):tFor (iTup K tl) g tb D σ H:=h
theorem yP{K:W.Frag}{tl:TE}{g:TG}{tb:TS}{D:Ends}{σ:St}{H:Hp}(h:tl σ H λx H1=> ∃a,x= .ref a/\(∃xs,SqL K H1 a xs)/\ForJ (Itl K a) g tb D σ H1):tFor (Wn K tl) g tb D σ H:=h
def zM:Expr->Bool
 | .Starred .. =>true
 | _=>false
theorem xj(h:zM e=false):starEach (e::es) env=(false,eval e env)::starEach es env:=by
 cases e<;>first | rfl | cases h
theorem xi: ∀{es:List Expr},es.all (λe=> !zM e)=true->(backTo pos (starEach es env)).any (·.1)=false
 | [],_=>rfl
 | e::es,h=>by
  rw[List.all_cons,Bool.and_eq_true] at h; rw[xj (by simpa using h.1)];cases es with
  | nil=>rfl
  | cons a r=>
   have ih:=xi (env:=env) (pos:=pos) (es:=a::r) h.2;rw[xj (by simpa using (by simpa using h.2:zM a=false/\_).1)] at ih ⊢;exact ih
section
variable {X:Cx} {e a:Expr} {es:List Expr} {te:TE} {t ta:TA} {x:Str} {p pos:Pos} {tg:Expr} {id T:String} {r:List V->Hp->VK->Prop}
theorem pa_c(ha:PE X e te)(hr:PA X es t)(h:zM e=false:=by rfl):PA X (e::es) (yn te t):=xr ha hr (xj h)
theorem yc(hm:X.mg "range"=none)(ha:PA X [a] ta)(hg:Gl X "range":=by rfl)(h:zM a=false:=by rfl):PI X tg (.Call (.Name "range" p) [a] [] pos) (Xu ta):=pi_range1 hg hm ha (xj h)
theorem zP(hc:yk X (.builtin id) r)(hm:X.mg x=none)(hv:bootBuiltins x=some (.builtin id))(ha:PA X (e::es) t)(hg:Gl X x:=by rfl)(h:zM e=false:=by rfl)(h2:es.all (λe=> !zM e)=true:=by rfl)(hn:x≠"__name__":=by decide)(hdb:(x==("__debug__":Str))=false:=by decide):
  PE X (.Call (.Name x p) (e::es) [] pos) (tCB r t):=wz hc hg hm hv ha hn hdb (xj h) (xi h2)
theorem zV(hc:yk X (.type T) r)(hm:X.mg x=none)(hv:bootBuiltins x=some (.type T))(ha:PA X (e::es) t)(hg:Gl X x:=by rfl)(h:zM e=false:=by rfl)(h2:es.all (λe=> !zM e)=true:=by rfl)(hn:x≠"__name__":=by decide)(hdb:(x==("__debug__":Str))=false:=by decide):
  PE X (.Call (.Name x p) (e::es) [] pos) (tCB r t):=pe_callTy hc hg hm hv ha hn hdb (xj h) (xi h2)
theorem pe_f(h:Has X.prog X.w X.K X.mg X.base k x ps sp)(hr:Room j X.A)(hkj:k<=j)(ha:PA X (e::es) t)(hg:Gl X x:=by rfl)(h1:zM e=false:=by rfl)(h2:es.all (λe=> !zM e)=true:=by rfl)
  (hdb:(x==("__debug__":Str))=false:=by decide):PE X (.Call (.Name x p) (e::es) [] pos) (Zb sp [] E0 t):=pe_fn h hr hkj ha hg hdb (xj h1) (xi h2)
end
end L2
namespace L2
theorem pa_1(ha:PE X e te)(h:zM e=false:=by rfl):PA X [e] (yn te tNil):=pa_c ha yH h
theorem pa_2(ha:PE X e te)(hb:PE X e' te')(h:zM e=false:=by rfl)(h':zM e'=false:=by rfl):PA X [e,e'] (yn te (yn te' tNil)):=pa_c ha (pa_1 hb h') h
end L2
namespace L2
open PySem PySem.Spec PyProof.Rows
theorem yQ{D:Ends}(h:te σ H λ_ H1=>D.nx σ H1):WN te D σ H:=h
theorem w_bm{K:W.Frag}{T:String}{r:V->List V->Hp->VK->Prop}{to:TE}{t:TA}{σ:St}{H:Hp}{Q:VK}(h:to σ H λx H1=>tyV K T x H1/\t σ H1 λxs H2=>r x xs H2 Q):tBM K T r to t σ H Q:=h
end L2
namespace K17
open PySem L2
end K17
local macro_rules | `(tactic| walk_at "c") => `(tactic| first | refine L2.yy ?_ | refine L2.yK ?_ | refine L2.zN ?_ | refine L2.w_op ?_ | refine L2.yg rfl ?_ | refine L2.w_c ?_ | refine L2.xo ?_ | refine L2.xz ?_ | refine L2.xA ?_ | refine L2.yL ?_ | refine L2.w_tb ?_ | refine L2.w_bl ?_ | refine L2.w_not ?_ | refine L2.xg ?_ | refine L2.w_retN ?_ | refine L2.yp ?_ | refine L2.zK ?_ | refine L2.xh ?_ | refine L2.xf ?_ | refine L2.w_cb ?_ | refine L2.yD ?_ | refine L2.yN ?_ | refine L2.xB ?_ | refine L2.w_or ?_ | refine L2.yo ?_ | refine L2.zU ?_ | refine L2.yx ?_ | refine L2.yh ?_ | refine L2.yl ?_ | refine L2.yz ?_ | refine L2.yO ?_ | refine L2.yP ?_ | refine L2.yQ ?_ | refine L2.w_bm ?_ | refine L2.iteT ?_ | refine L2.iteF ?_)
local macro_rules | `(tactic| nofun) => `(tactic| walk_at "v")
local macro_rules | `(tactic| walk_at "v") => `(tactic| repeat (with_reducible first | walk_at "c"))
namespace K17
open PySem L2
abbrev Y7:Stmt:=top 38
abbrev Y8:Stmt:=top 39
def FeedAt (H:Hp) (p:Addr):Prop:= ∃a b c:Int,H p=some (.lst [.int a,.int b,.int c])
theorem FeedAt.here:FeedAt (upd H p (.lst [.int x,.int y,.int z])) p:=⟨x,y,z,zf⟩
def YK (K:W.Frag):Sp:=λvs H Q _=> ∃(a:Addr) (ns:List Int) (k:Nat),vs=[.ref a,.int k]/\SqL K H a (ns.map V.int)/\ns.length<=63/\ ∀p x y z,H p=none->Q (.ref p) (upd H p (.lst [.int x,.int y,.int z]))
def yE:Sp:=λvs H Q _=> ∃(p:Addr) (m:Int),vs=[.ref p,.int m]/\FeedAt H p/\0<m/\m<1000000/\ ∀(r x y z:Int),0<=r->r<m->Q (.int r) (upd H p (.lst [.int x,.int y,.int z]))
theorem md{i j:Int}(h:0<j):0<=i%j/\i%j<j:=⟨Int.emod_nonneg _ (Int.ne_of_gt h),Int.emod_lt_of_pos _ h⟩
theorem mulL(h1:0<=i)(h2:i<4000000000):CMul i j:= .inl ⟨by omega,by omega⟩
section
variable {P:Program} {w:World} {K:W.Frag} {mg:Str->Option Value} {base:Heap}
theorem scDraw:FnScope ["_law_feed_here","_law_many","_law_found","_law_mixed"] ["_law_feed_here","_law_many"] (zd Y8):=⟨rfl,rfl,rfl,nofun,rfl,nofun,nofun⟩
theorem ok_draw{f:Addr}{fd:FuncData}(F:Fun K "_law_draw" "_law_draw" Y8 f fd):FnOk P w K mg base CX0 1 f fd ["_law_feed_here","_law_many"] yE:=by
 refine F.ok scDraw (λvs H Q E h=>?_) (λcdv A outer s H vs Q E hr h=>?_)
 ·obtain⟨p,m,rfl,_⟩:=h;rfl
 obtain⟨p,m,rfl,⟨a,b,c,hp⟩,hm,hm2,k⟩:=h;refine⟨_,ze (zX (zo zY (ziq (pv 0) zg) zg) (ya (pv 0) zg yu))
  (ze (zZ (zv vF (ziq (pv 0) zg) zg (zw _))
   (ze (wf (i:=2) scDraw.nd rfl (Or.inl rfl) (zo xk (ziq (pv 0) zg) (pv 1)))
   (ze (zX (zo ZI (ziq (pv 0) zg) (pv 1)) (ya (pv 0) zg yu))
   (zi (zr (pv 2))))) zB)
  (ze (wf (i:=3) scDraw.nd rfl (Or.inl rfl) (zo xk (zo y3 (zo xk (zo zY (ziq (pv 0) zg) (zo y3 zg (ziq (pv 0) zg))) zg) zg) zg))
  (ze (wf (i:=3) scDraw.nd rfl (Or.inl rfl) (zo xk (zo y3 (pv 3) (zo zY (pv 3) zg)) zg))
  (zi (zr (zo xk (zo ZI (zo xk (zo y3 (pv 3) zg) zg) zg) (pv 1))))))),?_⟩
 nofun;refine zC hp rfl ?_;nofun;refine xP hp rfl ?_;nofun;refine zC zf rfl ?_;nofun;refine iteD (λ_=>?_) (λ_=>?_)
 ·nofun;refine zC zf rfl ?_;nofun;refine w_rI hm ?_;nofun;refine zC zf rfl ?_;nofun;refine w_rI ⟨hm,by omega⟩ ?_;nofun;refine xP zf rfl ?_;nofun;rw[ZA];exact k _ _ _ _ (md hm).1 (md hm).2
 ·nofun;refine zC zf rfl ?_;nofun;refine zC zf rfl ?_;refine w_rI (mulL (by decide) (by decide)) ?_;nofun;refine w_rI (by decide) ?_;nofun;refine w_rI (mulL (md (by decide)).1 (by have:=(md (i:=b+40692*(c+1)) (j:=2147483399) (by decide)).2; omega)) ?_;nofun;refine w_rI (by decide) ?_;generalize hx:(b+40692*(c+1))%2147483399*48271%2147483647=x;have h1:=md (i:=(b+40692*(c+1))%2147483399*48271) (j:=2147483647) (by decide);rw[hx] at h1;nofun;refine w_rI (mulL h1.1 (by omega)) ?_;nofun;refine w_rI (by decide) ?_;generalize hy:x*(x+7919)%2147483587=y;have h2:=md (i:=x*(x+7919)) (j:=2147483587) (by decide);rw[hy] at h2;nofun;refine w_rI (mulL h2.1 (by omega)) ?_;nofun;refine w_rI (by decide) ?_;nofun;refine w_rI ⟨by decide,by decide⟩ ?_;nofun;refine w_rI hm ?_;exact k _ _ _ _ (md hm).1 (md hm).2
theorem scFeed:FnScope ["_law_script","_law_k","_law_cell","_law_left"] ["_law_script","_law_k"] (zd Y7):=⟨rfl,rfl,rfl,nofun,rfl,nofun,nofun⟩
theorem ok_feed{f:Addr}{fd:FuncData}(hlen:mg "len"=none)(F:Fun K "_law_feed" "_law_feed" Y7 f fd):FnOk P w K mg base CX0 1 f fd ["_law_script","_law_k"] (YK K):=by
 refine F.ok scFeed (λvs H Q E h=>?_) (λcdv A outer s H vs Q E hr h=>?_)
 ·obtain⟨a,ns,k,rfl,_⟩:=h;rfl
 obtain⟨a,ns,k,rfl,hS,hl,q⟩:=h;refine⟨_,ze (wf (i:=2) scFeed.nd rfl (Or.inl rfl) (zo zY (zo y3 zg (pv 1)) zg))
  (ze (zZ (zv vF (wz zp (by rfl) hlen Ρ (xr (pv 0) yH)) zg (zw _))
   (zi (wf (i:=2) scFeed.nd rfl (Or.inl rfl) (zo zY (zn ix_list (pv 0) (zo xk (pv 1) (wz zp (by rfl) hlen Ρ (xr (pv 0) yH))) (λ_ _=>rfl))
    (zo y3 zg (zo ZI (pv 1) (wz zp (by rfl) hlen Ρ (xr (pv 0) yH)))))))
   zB)
  (ze (wf (i:=3) scFeed.nd rfl (Or.inl rfl) (xX (zv Yg (pv 2) (zo op_pow zg zg) (zw _)) (pv 2) zg))
  (zi (zr (zR (xr (pv 3) (xr (zo zY (zo zY (zo xk (pv 2) zg) (zo y3 zg (pv 1))) zg) (xr zg yH)))))))),?_⟩
 nofun;refine w_rI (mulL (by decide) (by decide)) ?_;nofun;refine⟨a,_,rfl,.inl hS,?_⟩;nofun;refine iteD (λh0=>?_) (λ_=>?_)
 ·nofun;refine⟨a,_,rfl,.inl hS,?_⟩;rw[ε] at h0 ⊢;have h0':0<ns.length:=by omega
  refine w_rI h0 ?_;obtain⟨j,hj⟩: ∃j:Nat,(k:Int)%(ns.length:Int)=(j:Int):=⟨k%ns.length,by omega⟩;have hjl:j<ns.length:=by
   have:=(md (i:=(k:Int)) h0).2;omega
  refine⟨a,_,_,.int ns[j],rfl,rfl,hS,?_,?_⟩
  ·rw[hj];exact zx (by simp[hjl])
  ·nofun;refine⟨a,_,rfl,.inl hS,?_⟩;rw[ε];refine w_rI ⟨h0,by omega⟩ ?_;refine w_rI (mulL (by decide) (by decide)) ?_;nofun;refine w_rI ⟨by decide,by decide,by decide⟩ ?_;nofun;refine iteD (λ_=>?_) (λ_=>?_)
   all_goals
    nofun;refine w_rI (by decide) ?_;nofun;refine w_rI (mulL (by decide) (by decide)) ?_;nofun;exact⟨sz3,λp hp=>q p _ _ _ hp⟩
 ·nofun;refine w_rI ⟨by decide,by decide,by decide⟩ ?_;nofun;refine iteD (λ_=>?_) (λ_=>?_)
  all_goals
   nofun;refine w_rI (by decide) ?_;nofun;refine w_rI (mulL (by decide) (by decide)) ?_;nofun;exact⟨sz3,λp hp=>q p _ _ _ hp⟩
end
end K17
namespace L2
open PySem PySem.Spec PyProof.Rows
mutual
inductive RdV (H:Hp):V->PyData->Prop
 | non:RdV H .non .none
 | bl (b:Bool):RdV H (.bl b) (.bool b)
 | int (i:Int):RdV H (.int i) (.int i)
 | str (x:Str):RdV H (.str x) (.str x)
 | lst {p:Addr} {xs:List V} {ds:List PyData}:H p=some (.lst xs)->RdVs H xs ds->RdV H (.ref p) (.list ds)
 | tup {p:Addr} {xs:List V} {ds:List PyData}:H p=some (.tup xs)->RdVs H xs ds->RdV H (.ref p) (.tuple ds)
 | ftup {p:Addr} {o:Obj} {xs:List V} {ds:List PyData}:H p=some (.frz o (.tup xs))->RdVs H xs ds->RdV H (.ref p) (.tuple ds)
inductive RdVs (H:Hp):List V->List PyData->Prop
 | nil:RdVs H [] []
 | cons {v:V} {d:PyData} {vs:List V} {ds:List PyData}:RdV H v d->RdVs H vs ds->RdVs H (v::vs) (d::ds)
end
section
variable {X:Cx} {pins:List (Addr×Obj)} {σ:St} {H:Hp} {s:Shared}
mutual
theorem RdV.reads(I:Inv X pins σ H s):RdV H v d-> ∀{u:Value},RelV v u-> ∃as,Reads s.heap u d as
 | .non,u,r=>by
  cases r
  exact⟨[],.none⟩
 | .bl b,u,r=>by
  cases r
  exact⟨[],.bool b⟩
 | .int i,u,r=>by
  obtain⟨t,rfl⟩:=r;exact⟨[],.int i t⟩
 | .str x,u,r=>by
  obtain⟨t,rfl⟩:=r;exact⟨[],.str x t⟩
 | .lst (p:=p) hp h,u,r=>by
  cases r
  obtain⟨its,n,rv,e,z⟩:=I.lst hp;obtain⟨as,q⟩:=RdVs.reads I h rv;exact⟨p::as,.list e rfl rfl (by simpa using q)⟩
 | .tup (p:=p) hp h,u,r=>by
  cases r
  obtain⟨z,its,rv,o,e,c,n,d⟩:=I.hok p _ hp;obtain⟨as,q⟩:=RdVs.reads I h rv;exact⟨as,.tuple e c d (by simpa using q)⟩
 | .ftup (p:=p) hp h,u,r=>by
  cases r
  obtain⟨_,z,its,rv,o,e,c,n,d⟩:=I.hok p _ hp;obtain⟨as,q⟩:=RdVs.reads I h rv;exact⟨as,.tuple e c d (by simpa using q)⟩
theorem RdVs.reads(I:Inv X pins σ H s):RdVs H vs ds-> ∀{us:List Value},Vals vs us-> ∃as,ReadsAll s.heap us ds as
 | .nil,us,r=>by
  cases r
  exact⟨[],.nil⟩
 | .cons h hs,us,r=>by
  cases r with
  | cons r1 r2=>
   obtain⟨as,q⟩:=RdV.reads I h r1;obtain⟨bs,q2⟩:=RdVs.reads I hs r2;exact⟨as++bs,.cons q q2⟩
end
end
theorem vz: ∀(ns:List Int),RdVs H (ns.map V.int) (ns.map PyData.int)
 | []=> .nil
 | n::ns=> .cons (.int n) (vz ns)
section
variable {X:Cx} {k:Nat}
def rEqD:R2:=λx y H Q=> ∃dx dy,RdV H x dx/\RdV H y dy/\dx.canLay0=true/\dy.canLay0=true/\dx.depth<=60/\Q (.bl (PyData.eqv dx dy)) H
theorem op_eqD(hr:Room k X.A):OpR X (compareOp .Eq) rEqD:=by
 intro pins s σ H x y v u Q I rx ry h;obtain⟨dx,dy,hx,hy,cx,cy,hd,q⟩:=h;obtain⟨as,ra⟩:=hx.reads I rx;obtain⟨bs,rb⟩:=hy.reads I ry;have:=hr.units;exact SeqAt.compareEq_reads ra rb cx cy (by omega) ⟨.bl _,H,I,rfl,q⟩
end
theorem vR: ∀(ns ms:List Int),PyData.eqvAll (ns.map PyData.int) (ms.map PyData.int)=decide (ns=ms)
 | [],[]=>by simp only[List.map_nil,PyData.eqvAll,decide_true]
 | [],m::ms=>by simp[PyData.eqvAll]
 | n::ns,[]=>by simp[PyData.eqvAll]
 | n::ns,m::ms=>by
  simp only[List.map_cons,PyData.eqvAll,PyData.eqv,vR ns ms];by_cases h:n=m
  ·subst h; simp
  ·simp[h]
theorem xY: ∀(ns:List Int),PyData.canLayAll0 (ns.map PyData.int)=true
 | []=>rfl
 | n::ns=>by simp[PyData.canLayAll0,PyData.canLay0,xY ns]
theorem wj: ∀(ns:List Int),PyData.depthAll (ns.map PyData.int)=0
 | []=>rfl
 | n::ns=>by simp[PyData.depthAll,PyData.depth,wj ns]
theorem w_eqL{ns ms:List Int}(hp:H p=some (.lst (ns.map V.int)))(hq:H q=some (.lst (ms.map V.int)))(h:Q (.bl (decide (ns=ms))) H):rEqD (.ref p) (.ref q) H Q:=by
 refine⟨_,_,.lst hp (vz ns),.lst hq (vz ms),xY ns,xY ms,?_,?_⟩
 ·show PyData.depthAll _+1<=60;rw[wj];decide
 ·show Q (.bl (PyData.eqvAll _ _)) H;rw[vR];exact h
section
variable {X:Cx}
theorem YY: ∀{xs:List V} {us:List Value},xs.length=us.length->(∀(j:Nat) (x:V) (u:Value),xs[j]? =some x->us[j]? =some u->RelV x u)->Vals xs us
 | [],[],_,_=> .nil
 | [],v::vs,h,_=>absurd h (by simp)
 | v::vs,[],h,_=>absurd h (by simp)
 | x::xs,u::us,h,k=> .cons (k 0 x u rfl rfl) (YY (by simpa using h) λj y v e1 e2=>k (j+1) y v (by simpa using e1) (by simpa using e2))
def rRange:List V->Hp->VK->Prop:=λxs H Q=> ∃j:Int,xs=[.int j]/\ ∀r,H r=none->Q (.ref r) (upd H r (.rng 0 j))
theorem ve:yk X (.type "range") rRange:=by
 intro pins s σ H xs us Q I r h;obtain⟨j,rfl,q⟩:=h;obtain⟨u,rfl,ru⟩:=r.one;obtain⟨t,rfl⟩:=ru;refine call_range_1 ⟨.ref _,_,I.laid (λb o e=>η _ e) (θ _) ?_,rfl,q _ I.fresh⟩;exact⟨_,_,_,π _ rfl⟩
def rListR:List V->Hp->VK->Prop:=λxs H Q=> ∃(p:Addr) (n:Nat),xs=[.ref p]/\H p=some (.rng 0 (n:Int))/\n<=1000/\ ∀l,H l=none->Q (.ref l) (upd H l (.lst ((List.range n).map fun(i:Nat)=>V.int (i:Int))))
theorem wK(hc:X.calm=true):yk X (.type "list") rListR:=by
 intro pins s σ H xs us Q I r h;obtain⟨p,n,rfl,hp,hn,q⟩:=h;obtain⟨u,rfl,ru⟩:=r.one;cases ru
 obtain⟨t,u,v,e⟩:=I.hok p _ hp;refine call_list_range (n:=n) (I.ok.hd hc) e (small_one (by omega) (by omega) (by omega) (by omega)) (by rw[rangeSize_one]; split<;>omega) (by omega) λh' tk acc' c' hk hS hacc=>?_;refine⟨.ref _,_,I.laid (t':=tk) hk (θ _) ?_,rfl,q _ I.fresh⟩;obtain⟨hsz,hit⟩:=hacc;refine⟨by rw[ε,Ξ]; exact Nat.le_of_lt (zq hn),acc'.toList,c',YY (by simp[hsz]) λj x u ex eu=>?_,hS⟩;have hj:j<n:=by
  have:=(ξ.mp ex).1;simpa using this
 rw[μ,List.getElem?_range hj] at ex;have ex':V.int (j:Int)=x:=Γ ex;subst ex';obtain⟨t,ht⟩:=hit j u (by simpa using eu);exact⟨t,by rw[ht]; congr 1; omega⟩
theorem vo: ∀{ns:List Int} {us:List Value},Vals (ns.map V.int) us-> ∃xs:List (Int×Tok),us=xs.map (λq=>Value.int q.1 q.2)/\xs.map (·.1)=ns
 | [],us,r=>by
  cases r
  exact⟨[],rfl,rfl⟩
 | n::ns,us,r=>by
  cases r with
  | cons r1 r2=>
   obtain⟨t,rfl⟩:=r1;obtain⟨xs,rfl,e⟩:=vo r2;exact⟨(n,t)::xs,rfl,by simp[e]⟩
def rSum:List V->Hp->VK->Prop:=λxs H Q=> ∃(p:Addr) (ns:List Int),xs=[.ref p]/\H p=some (.lst (ns.map V.int))/\Q (.int ns.sum) H
theorem call_sum(hc:X.calm=true):yk X (.builtin "sum") rSum:=by
 intro pins s σ H xs us Q I r h;obtain⟨p,ns,rfl,hp,q⟩:=h;obtain⟨u,rfl,ru⟩:=r.one;cases ru
 obtain⟨its,n,rv,e,z⟩:=I.lst hp;obtain⟨ys,rfl,hy⟩:=vo rv;have hl:s.heap.IsList p (intItems ys.toArray):=⟨_,e,rfl,n,by simp[intItems]⟩;refine sum_intListG (I.ok.hd hc) hl λh' tk t' hk=>⟨.int ns.sum,H,I.kept hk,⟨t',?_⟩,q⟩;congr 1;have hlen:ys.length=ns.length:=by rw[<-hy,ε]
 rw[preSum_eq];simp[hy,hlen]
end
section
variable {prog:Program} {w:World} {A:Around} {E:Value->Shared->Prop} {s:Shared}
theorem yt{Q:Value->Shared->Prop}(J:s.heap.IsTupleIter j t i)(T:s.heap.IsTuple t its)(e:its[i]? =some v)
  (k: ∀h',h'.IsTupleIter j t (i+1)->Heap.SameBut j s.heap h'->Q v {s with heap:=h'}):wpAny (model prog w) A (Builtin.SmallTypes.nextOf (.ref j)) Q E s:=by
 obtain⟨o,ho,hc,hd⟩:=id J; obtain⟨ot,hot,_,n,hdt⟩:=T;unfold Builtin.SmallTypes.nextOf; refine γ (wpAny_callSpecial?_slot (name:=Str.ofString "__next__") J.typeIs F.slot_tuple_iterator_next (wpAny_call_entry F.slot_tuple_iterator_next J.typeIs F.entry_tuple_iterator_next ?_ (F.args_tuple_iterator_next_1 _)));show wpAny _ _ (field (.ref j) 0>>=_) _ _ s; refine γ (wpAny_field ho hd (x:= .ref t) rfl ?_);show wpAny _ _ (if (Value.ref t==Value.none)=true then _ else _) _ _ s; rw[if_neg (show¬((Value.ref t==Value.none)=true) from Ζ)];show wpAny _ _ (field (.ref j) 1>>=_) _ _ s; refine γ (wpAny_field ho hd (x:= .int i 0) rfl ?_);show wpAny _ _ (seqItems? (.ref t)>>=_) _ _ s; refine γ (wpAny_seqItems hot hdt ?_);simp only[Int.toNat_natCast,e];refine γ (wpAny_setField ho hd (by simp) (ι ⟨v,rfl,ι (k _ ?_ (Heap.SameBut.update ..))⟩));exact⟨_,Heap.get?_update_self _ ho (Obj.isFreed_of_fields (Obj.data_mapFields hd _)),(Obj.cls_mapFields ..).trans hc,by rw[Obj.data_mapFields hd]; simp[rawInt]⟩
theorem x5{Q:Value->Shared->Prop}(hh:A.handled=none)(J:s.heap.IsTupleIter j t i)(T:s.heap.IsTuple t its)(e:its[i]? =none)
  (k: ∀h' x,Heap.ExtBut j s.heap h'->(∃o,h'.get? x=some o/\o.cls= .type "StopIteration")->E (.ref x) {s with heap:=h'}):wpAny (model prog w) A (Builtin.SmallTypes.nextOf (.ref j)) Q E s:=by
 obtain⟨o,ho,hc,hd⟩:=id J; obtain⟨ot,hot,_,n,hdt⟩:=T;unfold Builtin.SmallTypes.nextOf; refine γ (wpAny_callSpecial?_slot (name:=Str.ofString "__next__") J.typeIs F.slot_tuple_iterator_next (wpAny_call_entry F.slot_tuple_iterator_next J.typeIs F.entry_tuple_iterator_next ?_ (F.args_tuple_iterator_next_1 _)));show wpAny _ _ (field (.ref j) 0>>=_) _ _ s; refine γ (wpAny_field ho hd (x:= .ref t) rfl ?_);show wpAny _ _ (if (Value.ref t==Value.none)=true then _ else _) _ _ s; rw[if_neg (show¬((Value.ref t==Value.none)=true) from Ζ)];show wpAny _ _ (field (.ref j) 1>>=_) _ _ s; refine γ (wpAny_field ho hd (x:= .int i 0) rfl ?_);show wpAny _ _ (seqItems? (.ref t)>>=_) _ _ s; refine γ (wpAny_seqItems hot hdt ?_);simp only[Int.toNat_natCast,e]; refine γ (wpAny_rule (γ (wpAny_setField ho hd (by simp) ?_)));show wpAny _ _ (newExc (.type "StopIteration") []>>=_) _ _ _; refine γ ?_; simp only[newExc,newTuple];refine γ (wpAny_newObj_type ?_ (by size_fits)); refine γ (m:=firstArgMember _ _) (wpAny_of_eq (a:=Value.none) (by first | rfl | (simp only[firstArgMember]; rfl)) ?_);refine wpAny_newObj_type ?_ (by size_fits); simp only[raiseNew]; refine γ (wpAny_handled ?_)
 (first | rw[show A.in1.handled=none from hh] | rw[hh]); refine γ (ι (wpAny_throw ?_)); exact k _ _ (((Heap.SameBut.update ..).extBut.push _).push _) ⟨_,π _ rfl,rfl⟩
theorem Zn(hh:A.handled=none)(j t:Addr)(ne:t≠j)(its:Array Value):Draws prog w A j [j,t] its.size (λi v=>its[i]? =some v) (λi h=>h.IsTupleIter j t i/\h.IsTuple t its) where
 live:=λ_ _ q=>let ⟨o,e,_⟩:=q.1; ⟨o,e⟩
 frame:=λ_ _ _ q hk=>⟨q.1.at λo e=>hk j (by simp) o e,let ⟨o,e,r⟩:=q.2; ⟨o,hk t (by simp) o e,r⟩⟩
 item:=λi s Q E hi q k=>yt q.1 q.2 (v:=its[i]) (by simp[hi]) λh' J' sb=>k _ h' s.toks (by simp[hi]) ⟨J',let ⟨o,e,r⟩:=q.2; ⟨o,sb.extBut t o ne e,r⟩⟩ sb
 done:=λs Q E q k=>x5 hh q.1 q.2 (by simp) k
abbrev enuH (h:Heap) (t:Addr):Heap:=h.push {cls:= .type "tuple_iterator",data:= .fields #[.ref t,.int 0 0]}
abbrev enuH2 (h:Heap) (t:Addr):Heap:=(enuH h t).push {cls:= .type "enumerate",data:= .fields #[.none,.bool false,.ref h.objs.size,rawInt 0,.none,.none]}
theorem enu_new(t:Addr)(its:Array Value):Meets (Builtin.«enumerate.__new__» ⟨[.type "enumerate",.ref t],[]⟩) (λ_ R s=>s.heap.IsTuple t its/\R (.ok (.ret (.ref (enuH s.heap t).objs.size))) {s with heap:=enuH2 s.heap t}):=
 .of_wp λprog w A R s h=>by
  obtain⟨hp,g,d,tk,os⟩:=s; obtain⟨hT,h⟩:=h;have hsub:=sub_enumerate; obtain⟨o,ho,hc,n,hd⟩:=id hT;have hT':Heap.IsTuple (Shared.heap ⟨hp,g,d,tk,os⟩) t its:=hT;obtain⟨c,dct,dt,sl⟩:=o;replace hc:c= .type "tuple":=hc;replace hd:dt= .seq its n:=hd;subst hc hd
  wp_walk using AutoSeq1.wpAny_loadPart' ho
  refine wpAny_stack_any λst=>ι ?_; split
  ·rename_i cl _ _ _ _ _; cases (cl==Value.type "enumerate")
   ·wp_walk using AutoSeq1.wpAny_loadPart' ho,wpAny_pyIter_tuple hT'; exact⟨_,rfl,h⟩
   ·wp_walk using AutoSeq1.wpAny_loadPart' ho,wpAny_pyIter_tuple hT'; exact⟨_,rfl,h⟩
  ·wp_walk using AutoSeq1.wpAny_loadPart' ho,wpAny_pyIter_tuple hT'; exact⟨_,rfl,h⟩
theorem call_enu{Q:Value->Shared->Prop}(hT:s.heap.IsTuple t its)
  (k: ∀h',IsEnum h' (s.heap.objs.size+1) s.heap.objs.size 0 .none->h'.IsTupleIter s.heap.objs.size t 0->(∀b o,s.heap.get? b=some o->h'.get? b=some o)->Q (.ref (s.heap.objs.size+1)) {s with heap:=h'}):
  wpAny (model prog w) A (call (.type "enumerate") [.ref t]) Q E s:=by
 refine callType_new F.called_enumerate (by decide) (F.typeCall_enumerate_1 _) (F.newCall_enumerate_1 _) (λobj=>F.args_object_init_2 obj _) F.entry_enumerate_new (enu_new t its) ⟨hT,?_⟩;have z1:(enuH s.heap t).objs.size=s.heap.objs.size+1:=Heap.size_push ..;have he:=π (enuH s.heap t) (o:={cls:= .type "enumerate",data:= .fields #[.none,.bool false,.ref s.heap.objs.size,rawInt 0,.none,.none]}) rfl;show _/\_;rw[z1] at he ⊢;exact⟨⟨_,he,rfl⟩,k _ he ⟨_,η _ (π _ rfl),rfl,rfl⟩ λb o x=>η _ (η _ x)⟩
end
section
variable {X:Cx} {pins:List (Addr×Obj)} {σ:St} {H:Hp} {s:Shared}
theorem Inv.turnNew{h':Heap}{tk:Nat}{ch:List Addr}{T:Addr}{xs:List V}{vals:List Value}(I:Inv X pins σ H s)(hf: ∀b∈ch,FpOk X pins H b)(k: ∀b o,b∉ch->s.heap.get? b=some o->h'.get? b=some o)(ht: ∀b∈ch,∃o,h'.get? b=some o)
  (hT:s.heap.objs.size<=T) (r:Vals xs vals) (hz:xs.length<=sizeLine) (hv:h'.IsTuple T vals.toArray):Inv X pins σ (upd H T (.tup xs)) {s with heap:=h',toks:=tk}:=by
 have hn:H T=none:=I.hok.fresh hT;have nT: ∀b o,s.heap.get? b=some o->b≠T:=λb o e z=>absurd (Ε (ν e) (z▸hT)) (Nat.lt_irrefl _);have nc: ∀b u,H b=some u->b∉ch:=λb u e z=>by rw[(hf b z).1] at e; cases e
 refine I.step (g':=s.gens) (d':=s.drawn) (ch:=ch) (λb hb=>⟨(hf b hb).2.2.2.1,(hf b hb).2.1,(hf b hb).2.2.2.2.1,(hf b hb).2.2.2.2.2⟩) (λb o _ _ hc e _=>k b o hc e) (λb o _ _ hc e _=>⟨o.slots,k b o hc e⟩)
  (λb o _ e n=>by rw[zk (nT b o e)]; exact n) (λb o hc e=>⟨o,k b o hc e⟩) (λb ys e=>by rw[zk (zh e hn)]; exact e) (λb o u e=>by rw[zk (zh e hn)]; exact e)
  (λb ps e=>⟨#[],by rw[zk (zh e hn),e]; simp⟩) (λm hm=>?_) (λb u e=>?_) I.bare
 ·obtain⟨o,es,ep,ho,q⟩:=hm;exact⟨o,es,ep,k _ o (λz=>(hf _ z).2.1 rfl) ho,q⟩
 ·by_cases hb:b=T
  ·subst hb;rw[zf] at e;cases e
   exact⟨hz,vals,r,hv⟩
  ·rw[zk hb] at e;refine(I.hok b u e).stay (λc v hc q=>k c v ?_ q) (λc q=>by rw[zk (zh q hn)]; exact q) λc ys q=>by rw[zk (zh q hn)]; exact q
   rcases hc with z | z
   ·rw[z]; exact nc b u e
   ·exact nc c _ z
theorem Inv.turnOnly{h':Heap}{tk:Nat}{ch:List Addr}(I:Inv X pins σ H s)(hf: ∀b∈ch,FpOk X pins H b)(k: ∀b o,b∉ch->s.heap.get? b=some o->h'.get? b=some o):Inv X pins σ H {s with heap:=h',toks:=tk}:=by
 have nc: ∀b u,H b=some u->b∉ch:=λb u e z=>by rw[(hf b z).1] at e; cases e
 refine I.step (g':=s.gens) (d':=s.drawn) (ch:=ch) (λb hb=>⟨(hf b hb).2.2.2.1,(hf b hb).2.1,(hf b hb).2.2.2.2.1,(hf b hb).2.2.2.2.2⟩) (λb o _ _ hc e _=>k b o hc e) (λb o _ _ hc e _=>⟨o.slots,k b o hc e⟩)
  (λb o _ e n=>n) (λb o hc e=>⟨o,k b o hc e⟩) (λb ys e=>e) (λb o u e=>e) (λb ps e=>⟨#[],by rw[e]; simp⟩) (λm hm=>?_) (λb u e=>?_) I.bare
 ·obtain⟨o,es,ep,ho,q⟩:=hm;exact⟨o,es,ep,k _ o (λz=>(hf _ z).2.1 rfl) ho,q⟩
 ·refine(I.hok b u e).stay (λc v hc q=>k c v ?_ q) (λc q=>q) λc ys q=>q;rcases hc with z | z
  ·rw[z]; exact nc b u e
  ·exact nc c _ z
end
def Ite (K:W.Frag) (a:Addr):It:=
 ⟨λi H=> ∃xs x,SqT K H a xs/\xs[i]? =some x,λi H v H'=> ∃p x,v= .ref p/\H p=none/\H'=upd H p (.tup [.int (i:Int),x])/\ ∀xs,SqT K H a xs->xs[i]? =some x,λi H=> ∃xs,SqT K H a xs/\xs.length=i⟩
theorem turn_enu{P:Program}{w:World}{K:W.Frag}{es:List Expr}{kt:Nat}{pt:Pos}(a e it:Addr)(hei:e≠it)(hai:a≠it)(hae:a≠e):
  Turn P w K (.Tuple es kt pt) (Ite K a) [e,it] e (λi h=>(∃old,IsEnum h e it i old)/\h.IsTupleIter it a i) where
 mem:=by simp
 obj:=λi h st b hb=>by
  obtain⟨⟨old,he⟩,o,eo,c,d⟩:=st;rcases Φ.mp hb with rfl | hq
  ·exact⟨_,he,λv z=>by have z':Data.fields _=Data.cell v:=z; cases z'⟩
  ·rw[Υ.mp hq]; exact⟨o,eo,λv z=>by rw[d] at z; cases z⟩
 keep:=λi h h' st k=>⟨let ⟨old,he⟩:=st.1; ⟨old,k e (by simp) _ he⟩,st.2.at λo x=>k it (by simp) o x⟩
 item:=by
  intro X hP hw hK hc i pins s σ H E I hf st hg;subst hP hw hK;obtain⟨xs,x,hq,hx⟩:=hg;obtain⟨its,rv,p,hz⟩:=I.tuple hq;obtain⟨u,hu,ru⟩:=rv.get hx;have W:=WalksT.enumerateD (Zn (prog:=X.prog) (w:=X.w) (A:=X.A.in1) (I.ok.hd hc) it a hai its.toArray) e hei (by simp[hei,Ne.symm hae]) (by simp);have hi:i<its.toArray.size:=by
   have:=(ξ.mp hu).1;simpa using this
  refine W.item i s _ E hi ⟨st.1,st.2,p⟩ λT vals h' tk hP hsz hT hM hk=>⟨.ref T,rfl,?_⟩;obtain⟨t,x',hx',rfl⟩:=hP;have ex:x'=u:=by
   have:its[i]? =some x':=by simpa using hx'
   rw[this] at hu;exact Γ hu
  subst ex;refine W.go es kt pt i T {s with heap:=h',toks:=tk} _ E hM λh'' hst hk2=>?_;obtain⟨⟨old2,he2⟩,hit2,_⟩:=hst;have hTw:=W.apart i T h' hM;obtain⟨oT,eT,cT⟩:=hT;have I2:Inv X pins σ (upd H T (.tup [.int (i:Int),x])) {s with heap:=h'',toks:=tk}:=I.turnNew (ch:=[e,it]) hf (λb o hb q=>hk2 b o hb (hk b o hb q)) (λb hb=>by
   rcases Φ.mp hb with rfl | hq
   ·exact⟨_,he2⟩
   ·rw[Υ.mp hq]; obtain⟨o,eo,_⟩:=hit2; exact⟨o,eo⟩) hsz (vals:=[.int i t,x']) (.cons ⟨t,rfl⟩ (.cons ru .nil)) (sz2) ⟨oT,hk2 T oT hTw eT,cT⟩
  refine⟨.ref T,_,I2,rfl,⟨T,x,rfl,I.hok.fresh hsz,rfl,λys hy=>by rw[I.tuple_inj hy hq]; exact hx⟩,⟨⟨old2,he2⟩,hit2⟩,λb hb=>?_⟩;rw[zk (λz=>hTw (by rw[<-z]; exact hb))];exact(hf b hb).1
 done:=by
  intro X hP hw hK hc i pins s σ H E I hf st hg;subst hP hw hK;obtain⟨xs,hq,hx⟩:=hg;obtain⟨its,rv,p,hz⟩:=I.tuple hq;have hl:=rv.length;have W:=WalksT.enumerateD (Zn (prog:=X.prog) (w:=X.w) (A:=X.A.in1) (I.ok.hd hc) it a hai its.toArray) e hei (by simp[hei,Ne.symm hae]) (by simp);have ei:i=its.toArray.size:=by rw[ψ]; omega
  subst ei;exact W.done s _ E ⟨st.1,st.2,p⟩ λh' tk hk=>⟨rfl,I.turnOnly hf hk⟩
 self:=λ_ _ s _ _ st h=>by
  obtain⟨⟨old,he⟩,_⟩:=st;exact wpAny_pyIter_enum he h
section
variable {X:Cx} {es:List Expr} {kt:Nat} {pt:Pos}
def iEnu (K:W.Frag) (ta:TA):TI:=fun σ H R=>ta σ H λvs H1=> ∃a,vs=[.ref a]/\(∃xs,SqT K H1 a xs)/\R (Ite K a) H1
theorem pi_enu{e:Expr}{ta:TA}{p pos:Pos}(hm:X.mg "enumerate"=none)(ha:PA X [e] ta)(hg:Gl X "enumerate":=by rfl)(h:zM e=false:=by rfl):PI X (.Tuple es kt pt) (.Call (.Name "enumerate" p) [e] [] pos) (iEnu X.K ta):=by
 intro pins s σ H R I hh;refine Call_ (xl I hg hm boot_enumerate (PyProof.Rows.callWith_type1 (thn (ha pos pins s σ H _ I hh) λus s1 ⟨vs,H1,I1,r1,q1⟩=>?_) (xj h) rfl));obtain⟨a,rfl,⟨xs,hq⟩,q⟩:=q1;obtain⟨u,rfl,ru⟩:=r1.one;cases ru
 obtain⟨its,rv,pl,hz⟩:=I1.tuple hq;have hlt:a<s1.heap.objs.size:=by
  obtain⟨o,eo,_⟩:=pl;exact ν eo
 refine call_enu (its:=its.toArray) pl λh' he hi hk=>wpAny_pyIter_enum he ?_;refine⟨_,[s1.heap.objs.size+1,s1.heap.objs.size],_,_,H1,rfl,I1.kept (t':=s1.toks) hk,turn_enu a (s1.heap.objs.size+1) s1.heap.objs.size (Nat.succ_ne_self _) (Ν hlt) (Ν (Ε hlt (Nat.le_succ _))),⟨⟨_,he⟩,hi⟩,λb hb=>?_,q⟩;have hb':s1.heap.objs.size<=b:=by
  rcases Φ.mp hb with z | z
  ·rw[z]; exact Nat.le_succ _
  ·rw[Υ.mp z];exact θ _
 exact I1.fpOk hb' (I1.hok.fresh hb')
end
section
variable {prog:Program} {w:World} {A:Around} {E:Value->Shared->Prop} {s:Shared}
theorem tupX{h:Heap}(T:h.IsTuple t its)(x:Heap.ExtBut a h h')(n:t≠a):h'.IsTuple t its:=let ⟨o,e,r⟩:=T; ⟨o,x t o n e,r⟩
theorem tupJ{h:Heap}(J:h.IsTupleIter j t i)(x:Heap.ExtBut a h h')(n:j≠a):h'.IsTupleIter j t i:=J.at λo e=>x j o n e
theorem zipT_item{z TI TO i1 i2 l1 l2:Addr}{k1 k2:Nat}{xs ys:Array Value}{x y a b:Value}{Q:Value->Shared->Prop}(D:ZipApart z TI TO i1 i2 l1 l2)(hz:IsZip s.heap z TI TO .none)(hTI:IsPair s.heap TI (.ref i1) (.ref i2))(hTO:IsPair s.heap TO a b)
  (h1:s.heap.IsTupleIter i1 l1 k1) (h2:s.heap.IsTupleIter i2 l2 k2) (hl1:s.heap.IsTuple l1 xs) (hl2:s.heap.IsTuple l2 ys) (hx:xs[k1]? =some x) (hy:ys[k2]? =some y)
  (hQ: ∀h',IsZip h' z TI TO (rawInt s.heap.objs.size)->IsPair h' TO x y->h'.IsTupleIter i1 l1 (k1+1)->h'.IsTupleIter i2 l2 (k2+1)->IsPair h' s.heap.objs.size x y->
   (∀d o,d≠z->d≠TO->d≠i1->d≠i2->s.heap.get? d=some o->h'.get? d=some o)->Q (.ref s.heap.objs.size) {s with heap:=h'}):
  wpAny (model prog w) A (Builtin.«zip.__next__» ⟨[.ref z],[]⟩) (λf s'=> ∃v,f= .done (.ret v)/\Q v s') E s:=by
 show wpAny _ _ (field (.ref z) 2>>=_) _ _ _; refine γ (wpAny_field hz rfl (x:= .bool false) rfl ?_);show wpAny _ _ (field (.ref z) 3>>=_) _ _ _; refine γ (wpAny_field hz rfl (x:= .ref TI) rfl ?_);refine γ (wpAny_seqItems hTI rfl ?_); show wpAny _ _ (Builtin.SmallTypes.ownedTupleIsFree (.ref z)>>=_) _ _ _;refine γ ?_; unfold Builtin.SmallTypes.ownedTupleIsFree;refine γ (wpAny_field hz rfl (x:= .none) rfl (ι ?_)); simp only[if_true];refine γ (wpAny_rule ?_); refine γ (wpAny_field hz rfl (x:= .ref TO) rfl ?_);refine γ (wpAny_setField_rec hz (by simp) λg1 zz1 s1=>?_); replace zz1:IsZip g1 z TI TO .ellipsis:=zz1;refine γ ?_; simp only[List.zipIdx_cons,List.zipIdx_nil,List.forIn_cons,List.forIn_nil];refine γ (γ (wpAny_onRaise ?_)); show wpAny _ _ (Builtin.SmallTypes.nextOf (.ref i1)>>=_) _ _ _;refine γ (yt (tupJ h1 s1.extBut D.i1z) (tupX hl1 s1.extBut D.l1z) hx λg2 j2 s2=>ι ?_);have o2:IsPair g2 TO a b:=s2.extBut _ _ D.TOi1 (s1.extBut _ _ D.TOz hTO);refine γ (wpAny_seqItems o2 rfl ?_); refine γ (wpAny_updateSeq_pair o2 λg3 o3 s3=>?_); replace o3:IsPair g3 TO x b:=o3;refine γ (wpAny_letGo (ι ?_)); refine γ (γ (wpAny_onRaise ?_)); show wpAny _ _ (Builtin.SmallTypes.nextOf (.ref i2)>>=_) _ _ _;refine γ (yt (tupJ (tupJ (tupJ h2 s1.extBut D.i2z) s2.extBut D.i12.symm) s3.extBut D.TOi2.symm) (tupX (tupX (tupX hl2 s1.extBut D.l2z) s2.extBut D.l2i1) s3.extBut D.l2TO) hy λg4 j4 s4=>ι ?_);have o4:IsPair g4 TO x b:=s4.extBut _ _ D.TOi2 o3;refine γ (wpAny_seqItems o4 rfl ?_); refine γ (wpAny_updateSeq_pair o4 λg5 o5 s5=>?_); replace o5:IsPair g5 TO x y:=o5;refine γ (wpAny_letGo (ι (ι ?_))); refine γ (wpAny_seqItems o5 rfl ?_); refine γ (wpAny_newTuple ?_);have sz:g5.objs.size=s.heap.objs.size:=by rw[s5.1,s4.1,s3.1,s2.1,s1.1]
 have z5:IsZip g5 z TI TO .ellipsis:=s5.extBut _ _ D.TOz.symm (s4.extBut _ _ D.i2z.symm (s3.extBut _ _ D.TOz.symm (s2.extBut _ _ D.i1z.symm zz1)));have k5: ∀c o,c≠z->c≠TO->c≠i1->c≠i2->s.heap.get? c=some o->g5.get? c=some o:=λc o c1 c2 c3 c4 q=>s5.extBut _ _ c2 (s4.extBut _ _ c4 (s3.extBut _ _ c2 (s2.extBut _ _ c3 (s1.extBut _ _ c1 q))));have a5:g5.IsTupleIter i1 l1 (k1+1):=tupJ (tupJ (tupJ j2 s3.extBut D.TOi1.symm) s4.extBut D.i12) s5.extBut D.TOi1.symm;have b5:g5.IsTupleIter i2 l2 (k2+1):=tupJ j4 s5.extBut D.TOi2.symm;have zlt:z<g5.objs.size:=ν z5;show wpAny _ _ (Builtin.SmallTypes.ownedTupleHandOut (.ref z) (.ref g5.objs.size)>>=_) _ _ _; refine γ ?_; unfold Builtin.SmallTypes.ownedTupleHandOut;have z6:IsZip (g5.push {cls:= .type "tuple",data:= .seq #[x,y]}) z TI TO .ellipsis:=η _ z5;refine γ (wpAny_setField_rec z6 (by simp) λg7 z7 s7=>?_); replace z7:IsZip g7 z TI TO (rawInt g5.objs.size):=z7;refine wpAny_setField_rec z7 (by simp) λg8 z8 s8=>?_; replace z8:IsZip g8 z TI TO (rawInt g5.objs.size):=z8;have up: ∀c o,c≠z->g5.get? c=some o->g8.get? c=some o:=λc o c1 q=>s8.extBut _ _ c1 (s7.extBut _ _ c1 (η _ q));have t8:IsPair g8 g5.objs.size x y:=s8.extBut _ _ (Ω zlt) (s7.extBut _ _ (Ω zlt) (π _ rfl));rw[sz] at z8 t8; refine ι ⟨_,rfl,?_⟩; show Q (.ref g5.objs.size) _; rw[sz];exact hQ g8 z8 (up _ _ D.TOz o5) (a5.at λo q=>up _ o D.i1z q) (b5.at λo q=>up _ o D.i2z q) t8 λc o c1 c2 c3 c4 q=>up c o c1 (k5 c o c1 c2 c3 c4 q)
theorem zipT_end{z TI TO i1 i2 l1 l2:Addr}{k1 k2:Nat}{xs ys:Array Value}{a b:Value}{Q:Fin->Shared->Prop}(hh:A.handled=none)(D:ZipApart z TI TO i1 i2 l1 l2)(hz:IsZip s.heap z TI TO .none)(hTI:IsPair s.heap TI (.ref i1) (.ref i2))(hTO:IsPair s.heap TO a b)
  (h1:s.heap.IsTupleIter i1 l1 k1) (h2:s.heap.IsTupleIter i2 l2 k2) (hl1:s.heap.IsTuple l1 xs) (hl2:s.heap.IsTuple l2 ys) (hend:xs[k1]? =none\/ys[k2]? =none)
  (hE: ∀h' e,(∀d o,d≠z->d≠TO->d≠i1->d≠i2->s.heap.get? d=some o->h'.get? d=some o)->(∃o,h'.get? e=some o/\o.cls= .type "StopIteration")->E (.ref e) {s with heap:=h'}):wpAny (model prog w) A (Builtin.«zip.__next__» ⟨[.ref z],[]⟩) Q E s:=by
 show wpAny _ _ (field (.ref z) 2>>=_) _ _ _; refine γ (wpAny_field hz rfl (x:= .bool false) rfl ?_);show wpAny _ _ (field (.ref z) 3>>=_) _ _ _; refine γ (wpAny_field hz rfl (x:= .ref TI) rfl ?_);refine γ (wpAny_seqItems hTI rfl ?_); show wpAny _ _ (Builtin.SmallTypes.ownedTupleIsFree (.ref z)>>=_) _ _ _;refine γ ?_; unfold Builtin.SmallTypes.ownedTupleIsFree;refine γ (wpAny_field hz rfl (x:= .none) rfl (ι ?_)); simp only[if_true];refine γ (wpAny_rule ?_); refine γ (wpAny_field hz rfl (x:= .ref TO) rfl ?_);refine γ (wpAny_setField_rec hz (by simp) λg1 zz1 s1=>?_); replace zz1:IsZip g1 z TI TO .ellipsis:=zz1;refine γ ?_; simp only[List.zipIdx_cons,List.zipIdx_nil,List.forIn_cons,List.forIn_nil];refine γ (γ (wpAny_onRaise ?_)); show wpAny _ _ (Builtin.SmallTypes.nextOf (.ref i1)>>=_) _ _ _;cases hx:xs[k1]? with
 | none=>
  refine γ (x5 hh (tupJ h1 s1.extBut D.i1z) (tupX hl1 s1.extBut D.l1z) hx λg2 e s2 he=>?_);obtain⟨oe,hoe,hce⟩:=he; have z2:IsZip g2 z TI TO .ellipsis:=s2 _ _ D.i1z.symm zz1;have ez:e≠z:=λq=>by subst q; rw[z2] at hoe; cases hoe; simp at hce
  refine wpAny_setField_rec z2 (by simp) λg3 _ s3=>hE g3 e (λc o c1 _ c3 _ q=>s3.extBut _ _ c1 (s2 _ _ c3 (s1.extBut _ _ c1 q))) ⟨oe,s3.extBut _ _ ez hoe,hce⟩
 | some x=>
  have hy:ys[k2]? =none:=by rcases hend with q | q; rw[hx] at q; cases q; exact q
  refine γ (yt (tupJ h1 s1.extBut D.i1z) (tupX hl1 s1.extBut D.l1z) hx λg2 j2 s2=>ι ?_);have o2:IsPair g2 TO a b:=s2.extBut _ _ D.TOi1 (s1.extBut _ _ D.TOz hTO);refine γ (wpAny_seqItems o2 rfl ?_); refine γ (wpAny_updateSeq_pair o2 λg3 o3 s3=>?_); refine γ (wpAny_letGo (ι ?_));refine γ (γ (wpAny_onRaise ?_)); show wpAny _ _ (Builtin.SmallTypes.nextOf (.ref i2)>>=_) _ _ _;refine γ (x5 hh (tupJ (tupJ (tupJ h2 s1.extBut D.i2z) s2.extBut D.i12.symm) s3.extBut D.TOi2.symm) (tupX (tupX (tupX hl2 s1.extBut D.l2z) s2.extBut D.l2i1) s3.extBut D.l2TO) hy λg4 e s4 he=>?_);obtain⟨oe,hoe,hce⟩:=he; have z4:IsZip g4 z TI TO .ellipsis:=s4 _ _ D.i2z.symm (s3.extBut _ _ D.TOz.symm (s2.extBut _ _ D.i1z.symm zz1));have ez:e≠z:=λq=>by subst q; rw[z4] at hoe; cases hoe; simp at hce
  refine wpAny_setField_rec z4 (by simp) λg5 _ s5=>hE g5 e (λc o c1 c2 c3 c4 q=>s5.extBut _ _ c1 (s4 _ _ c4 (s3.extBut _ _ c2 (s2.extBut _ _ c3 (s1.extBut _ _ c1 q))))) ⟨oe,s5.extBut _ _ ez hoe,hce⟩
abbrev zpH1 (h:Heap) (a:Addr):Heap:=h.push {cls:= .type "tuple_iterator",data:= .fields #[.ref a,.int 0 0]}
abbrev zpH2 (h:Heap) (a b:Addr):Heap:=(zpH1 h a).push {cls:= .type "tuple_iterator",data:= .fields #[.ref b,.int 0 0]}
abbrev zpH3 (h:Heap) (a b:Addr):Heap:=(zpH2 h a b).push {cls:= .type "tuple",data:= .seq #[.ref h.objs.size,.ref (zpH1 h a).objs.size]}
abbrev zpH4 (h:Heap) (a b:Addr):Heap:=(zpH3 h a b).push {cls:= .type "tuple",data:= .seq #[.none,.none]}
abbrev zpH5 (h:Heap) (a b:Addr):Heap:=(zpH4 h a b).push {cls:= .type "zip",data:= .fields #[.none,.bool false,.bool false,.ref (zpH2 h a b).objs.size,.ref (zpH3 h a b).objs.size]}
theorem zp_new(a b:Addr)(xs ys:Array Value):Meets (Builtin.«zip.__new__» ⟨[.type "zip",.ref a,.ref b],[]⟩) (λ_ R s=>s.heap.IsTuple a xs/\s.heap.IsTuple b ys/\R (.ok (.ret (.ref (zpH4 s.heap a b).objs.size))) {s with heap:=zpH5 s.heap a b}):=
 .of_wp λprog w A R s h=>by
  obtain⟨hp,g,d,tk,os⟩:=s; obtain⟨hA,hB,h⟩:=h; have hsub:=sub_zip;have tA:Heap.IsTuple (Shared.heap ⟨hp,g,d,tk,os⟩) a xs:=hA;have tB:Heap.IsTuple (Shared.heap ⟨hp.push {cls:= .type "tuple_iterator",data:= .fields #[.ref a,.int 0 0]},g,d,tk,os⟩) b ys:=let ⟨o,e,r⟩:=hB; ⟨o,η _ e,r⟩
  wp_walk using wpAny_pyIter_tuple tA,wpAny_pyIter_tuple tB
  exact⟨_,rfl,h⟩
theorem call_zp{Q:Value->Shared->Prop}(hA:s.heap.IsTuple a xs)(hB:s.heap.IsTuple b ys)
  (k: ∀h',IsZip h' (s.heap.objs.size+4) (s.heap.objs.size+2) (s.heap.objs.size+3) .none->IsPair h' (s.heap.objs.size+2) (.ref s.heap.objs.size) (.ref (s.heap.objs.size+1))->IsPair h' (s.heap.objs.size+3) .none .none->
   h'.IsTupleIter s.heap.objs.size a 0->h'.IsTupleIter (s.heap.objs.size+1) b 0->(∀c o,s.heap.get? c=some o->h'.get? c=some o)->Q (.ref (s.heap.objs.size+4)) {s with heap:=h'}):
  wpAny (model prog w) A (call (.type "zip") [.ref a,.ref b]) Q E s:=by
 refine callType_new F.called_zip (by decide) (F.typeCall_zip_2 _ _) (F.newCall_zip_2 _ _) (λobj=>F.args_object_init_3 obj _ _) F.entry_zip_new (zp_new a b xs ys) ⟨hA,hB,?_⟩;have z1:(zpH1 s.heap a).objs.size=s.heap.objs.size+1:=Heap.size_push ..;have z2:(zpH2 s.heap a b).objs.size=s.heap.objs.size+2:=by rw[Heap.size_push,z1]
 have z3:(zpH3 s.heap a b).objs.size=s.heap.objs.size+3:=by rw[Heap.size_push,z2]
 have z4:(zpH4 s.heap a b).objs.size=s.heap.objs.size+4:=by rw[Heap.size_push,z3]
 have g5:(zpH5 s.heap a b).get? (zpH4 s.heap a b).objs.size=some _:=π _ rfl;have g4:(zpH5 s.heap a b).get? (zpH3 s.heap a b).objs.size=some _:=η _ (π _ rfl);have g3:(zpH5 s.heap a b).get? (zpH2 s.heap a b).objs.size=some _:=η _ (η _ (π _ rfl));have g2:(zpH5 s.heap a b).get? (zpH1 s.heap a).objs.size=some _:=η _ (η _ (η _ (π _ rfl)));have g1:(zpH5 s.heap a b).get? s.heap.objs.size=some _:=η _ (η _ (η _ (η _ (π _ rfl))));show _/\_;rw[z2,z3,z4] at g5; rw[z1,z2] at g3; rw[z3] at g4; rw[z1] at g2;have kk: ∀c o,s.heap.get? c=some o->(zpH5 s.heap a b).get? c=some o:=λc o q=>η _ (η _ (η _ (η _ (η _ q))));rw[z4];exact⟨⟨_,g5,rfl⟩,k _ g5 g3 g4 ⟨_,g1,rfl,rfl⟩ ⟨_,g2,rfl,rfl⟩ kk⟩
end
def Itz (K:W.Frag) (a b:Addr):It:=
 ⟨λi H=> ∃xs ys x y,SqT K H a xs/\SqT K H b ys/\xs[i]? =some x/\ys[i]? =some y,λi H v H'=> ∃p x y,v= .ref p/\H p=none/\H'=upd H p (.tup [x,y])/\(∀xs,SqT K H a xs->xs[i]? =some x)/\ ∀ys,SqT K H b ys->ys[i]? =some y,
  λi H=> ∃xs ys,SqT K H a xs/\SqT K H b ys/\(xs.length<=i\/ys.length<=i)⟩
theorem turn_zp{P:Program}{w:World}{K:W.Frag}{es:List Expr}{kt:Nat}{pt:Pos}(a b z TI TO i1 i2:Addr)(D:ZipApart z TI TO i1 i2 a b):
  Turn P w K (.Tuple es kt pt) (Itz K a b) [z,TI,TO,i1,i2] z (λi h=>IsZip h z TI TO .none/\IsPair h TI (.ref i1) (.ref i2)/\(∃u v,IsPair h TO u v)/\h.IsTupleIter i1 a i/\h.IsTupleIter i2 b i) where
 mem:=by simp
 obj:=λi h st q hq=>by
  obtain⟨hz,hI,⟨u,v,hO⟩,⟨o1,e1,c1,d1⟩,⟨o2,e2,c2,d2⟩⟩:=st;simp only[List.mem_cons,List.not_mem_nil,or_false] at hq;rcases hq with rfl | rfl | rfl | rfl | rfl
  ·exact⟨_,hz,λv y=>by have y':Data.fields _=Data.cell v:=y; cases y'⟩
  ·exact⟨_,hI,λv y=>by have y':Data.seq _ _=Data.cell v:=y; cases y'⟩
  ·exact⟨_,hO,λv y=>by have y':Data.seq _ _=Data.cell v:=y; cases y'⟩
  ·exact⟨o1,e1,λv y=>by rw[d1] at y; cases y⟩
  ·exact⟨o2,e2,λv y=>by rw[d2] at y; cases y⟩
 keep:=λi h h' st k=>⟨k z (by simp) _ st.1,k TI (by simp) _ st.2.1,let ⟨u,v,q⟩:=st.2.2.1; ⟨u,v,k TO (by simp) _ q⟩,st.2.2.2.1.at λo x=>k i1 (by simp) o x,st.2.2.2.2.at λo x=>k i2 (by simp) o x⟩
 item:=by
  intro X hP hw hK hc i pins s σ H E I hf st hg;subst hP hw hK;obtain⟨xs,ys,x,y,hqa,hqb,hx,hy⟩:=hg;obtain⟨ia,rva,pa,za⟩:=I.tuple hqa;obtain⟨ib,rvb,pb,zb⟩:=I.tuple hqb;obtain⟨u,hu,ru⟩:=rva.get hx;obtain⟨v,hv,rv⟩:=rvb.get hy;obtain⟨hz,hI,⟨ou,ov,hO⟩,h1,h2⟩:=st;have hT:s.TypeIs (.ref z) "zip":=⟨_,hz,rfl⟩; unfold pyNext;refine γ (wpAny_attempt (wpAny_callSpecial?_slot (name:=Str.ofString "__next__") hT F.slot_zip_next (wpAny_call_entry F.slot_zip_next hT F.entry_zip_next
   (zipT_item D hz hI hO h1 h2 pa pb (x:=u) (y:=v) (by simpa using hu) (by simpa using hv) λh' z' o' a' b' t' k'=>ι ?_) (F.args_zip_next_1 _))))
  refine⟨_,rfl,wpAny_letOwnedTupleGo_zip z' λh'' z'' sb=>?_⟩;have nz:s.heap.objs.size≠z:=Ω (ν hz);have nTO:s.heap.objs.size≠TO:=Ω (ν hO);have nTI:s.heap.objs.size≠TI:=Ω (ν hI);have n1:s.heap.objs.size≠i1:=by obtain⟨o,e,_⟩:=h1; exact Ω (ν e)
  have n2:s.heap.objs.size≠i2:=by obtain⟨o,e,_⟩:=h2; exact Ω (ν e)
  have up: ∀q o,q≠z->h'.get? q=some o->h''.get? q=some o:=λq o hq e=>(sb.2 q hq).trans e;have hI'':IsPair h'' TI (.ref i1) (.ref i2):=up _ _ D.TIz (k' TI _ D.TIz D.TITO D.TIi1 D.TIi2 hI);have I2:Inv X pins σ (upd H s.heap.objs.size (.tup [x,y])) {s with heap:=h'',toks:=s.toks}:=I.turnNew (ch:=[z,TI,TO,i1,i2]) hf (λq o hq e=>by
   simp only[List.mem_cons,List.not_mem_nil,or_false,not_or] at hq;exact up q o hq.1 (k' q o hq.1 hq.2.2.1 hq.2.2.2.1 hq.2.2.2.2 e)) (λq hq=>by
   simp only[List.mem_cons,List.not_mem_nil,or_false] at hq;rcases hq with rfl | rfl | rfl | rfl | rfl
   ·exact⟨_,z''⟩
   ·exact⟨_,hI''⟩
   ·exact⟨_,up _ _ D.TOz o'⟩
   ·obtain⟨o,e,_⟩:=a'; exact⟨o,up _ o D.i1z e⟩
   ·obtain⟨o,e,_⟩:=b'; exact⟨o,up _ o D.i2z e⟩) (θ _) (vals:=[u,v]) (.cons ru (.cons rv .nil)) (sz2) ⟨_,up _ _ nz t',rfl,_,rfl⟩
  refine⟨.ref s.heap.objs.size,_,I2,rfl,⟨_,x,y,rfl,I.fresh,rfl,λzs hzs=>by rw[I.tuple_inj hzs hqa]; exact hx,λzs hzs=>by rw[I.tuple_inj hzs hqb]; exact hy⟩,
   ⟨z'',hI'',⟨_,_,up _ _ D.TOz o'⟩,a'.at λo e=>up _ o D.i1z e,b'.at λo e=>up _ o D.i2z e⟩,λq hq=>?_⟩
  have hq0:=(hf q hq).1;simp only[List.mem_cons,List.not_mem_nil,or_false] at hq;rw[zk]
  ·exact hq0
  ·rcases hq with rfl | rfl | rfl | rfl | rfl
   ·exact Ne.symm nz
   ·exact Ne.symm nTI
   ·exact Ne.symm nTO
   ·exact Ne.symm n1
   ·exact Ne.symm n2
 done:=by
  intro X hP hw hK hc i pins s σ H E I hf st hg;subst hP hw hK;obtain⟨xs,ys,hqa,hqb,hx⟩:=hg;obtain⟨ia,rva,pa,za⟩:=I.tuple hqa;obtain⟨ib,rvb,pb,zb⟩:=I.tuple hqb;obtain⟨hz,hI,⟨ou,ov,hO⟩,h1,h2⟩:=st;have la:=rva.length;have lb:=rvb.length;have hT:s.TypeIs (.ref z) "zip":=⟨_,hz,rfl⟩; unfold pyNext;refine γ (wpAny_attempt (wpAny_callSpecial?_slot (name:=Str.ofString "__next__") hT F.slot_zip_next (wpAny_call_entry F.slot_zip_next hT F.entry_zip_next
   (zipT_end (I.ok.hd hc) D hz hI hO h1 h2 pa pb (hx.elim (λq=> .inl (by simp; omega)) λq=> .inr (by simp; omega)) λh' e k' he=>?_) (F.args_zip_next_1 _))))
  obtain⟨o,ho,hcl⟩:=he;refine γ (wpAny_isInstance (T:="StopIteration") (b:=true) ⟨o,ho,hcl⟩ isSubtype_stop ?_);refine ι ⟨rfl,I.turnOnly (tk:=s.toks) hf λq o hq e=>?_⟩;simp only[List.mem_cons,List.not_mem_nil,or_false,not_or] at hq;exact k' q o hq.1 hq.2.2.1 hq.2.2.2.1 hq.2.2.2.2 e
 self:=λ_ _ s _ _ st h=>wpAny_pyIter_zip st.1 h
section
variable {X:Cx} {es:List Expr} {kt:Nat} {pt:Pos}
def iZp (K:W.Frag) (ta:TA):TI:=fun σ H R=>ta σ H λvs H1=> ∃a b,vs=[.ref a,.ref b]/\(∃xs,SqT K H1 a xs)/\(∃ys,SqT K H1 b ys)/\R (Itz K a b) H1
theorem Xe{e e':Expr}{ta:TA}{p pos:Pos}(hm:X.mg "zip"=none)(ha:PA X [e,e'] ta)(hg:Gl X "zip":=by rfl)(h:zM e=false:=by rfl)(h':zM e'=false:=by rfl):PI X (.Tuple es kt pt) (.Call (.Name "zip" p) [e,e'] [] pos) (iZp X.K ta):=by
 intro pins s σ H R I hh;refine Call_ (xl I hg hm boot_zip (PyProof.Rows.callWith_type1 (thn (ha pos pins s σ H _ I hh) λus s1 ⟨vs,H1,I1,r1,q1⟩=>?_) (xj h) (xi (by simp[h']))));obtain⟨a,b,rfl,⟨xs,hqa⟩,⟨ys,hqb⟩,q⟩:=q1;cases r1 with
 | cons ru r2=>
  cases r2 with
  | cons rv r3=>
   cases r3
   cases ru
   cases rv
   obtain⟨ia,rva,pa,za⟩:=I1.tuple hqa;obtain⟨ib,rvb,pb,zb⟩:=I1.tuple hqb;have la:a<s1.heap.objs.size:=by obtain⟨o,e,_⟩:=pa; exact ν e
   have lb:b<s1.heap.objs.size:=by obtain⟨o,e,_⟩:=pb; exact ν e
   refine call_zp (xs:=ia.toArray) (ys:=ib.toArray) pa pb λg hz hI hO j1 j2 hk=>wpAny_pyIter_zip hz ?_;refine⟨_,[s1.heap.objs.size+4,s1.heap.objs.size+2,s1.heap.objs.size+3,s1.heap.objs.size,s1.heap.objs.size+1],_,_,H1,rfl,I1.kept (t':=s1.toks) hk,turn_zp a b _ _ _ _ _ (zipApart_new la lb),⟨hz,hI,⟨_,_,hO⟩,j1,j2⟩,λq hq=>?_,by assumption⟩;have hq':s1.heap.objs.size<=q:=by
    simp only[List.mem_cons,List.not_mem_nil,or_false] at hq;rcases hq with z | z | z | z | z<;>rw[z]<;>first | exact θ _ | exact Nat.le_add_right _ _
   exact I1.fpOk hq' (I1.hok.fresh hq')
end
def yJ (h:Heap) (T:Addr) (a b c:Value):Prop:=h.get? T=some {cls:= .type "tuple",data:= .seq #[a,b,c]}
structure Apart3 (z TI TO i1 i2 i3 l1 l2 l3:Addr):Prop where
 nz:TI≠z/\TO≠z/\i1≠z/\i2≠z/\i3≠z
 nI:TI≠TO/\TI≠i1/\TI≠i2/\TI≠i3
 nO:TO≠i1/\TO≠i2/\TO≠i3
 ni:i1≠i2/\i1≠i3/\i2≠i3
 l1:l1≠z/\l1≠TO/\l1≠i1/\l1≠i2/\l1≠i3
 l2:l2≠z/\l2≠TO/\l2≠i1/\l2≠i2/\l2≠i3
 l3:l3≠z/\l3≠TO/\l3≠i1/\l3≠i2/\l3≠i3
section
variable {prog:Program} {w:World} {A:Around} {E:Value->Shared->Prop} {s:Shared}
theorem YJ{Q:Unit->Shared->Prop}(hT:yJ s.heap T a b c)
  (h: ∀h',h'.get? T=some {cls:= .type "tuple",data:= .seq ((#[a,b,c]:Array Value).setIfInBounds k x)}->Heap.SameBut T s.heap h'->Q () {s with heap:=h'}):
  wpAny (model prog w) A (updateSeq T (·.setIfInBounds k x)) Q E s:=by
 refine wpAny_updateSeq hT rfl (h _ ?_ (Heap.SameBut.update ..)); rw[Heap.get?_update_self _ hT rfl];simp[Obj.mapSeq]
theorem zip3_item{z TI TO i1 i2 i3 l1 l2 l3:Addr}{k1 k2 k3:Nat}{xs ys zs:Array Value}{x y v a b c:Value}{Q:Value->Shared->Prop}(D:Apart3 z TI TO i1 i2 i3 l1 l2 l3)(hz:IsZip s.heap z TI TO .none)(hTI:yJ s.heap TI (.ref i1) (.ref i2) (.ref i3))(hTO:yJ s.heap TO a b c)
  (h1:s.heap.IsTupleIter i1 l1 k1) (h2:s.heap.IsTupleIter i2 l2 k2) (h3:s.heap.IsTupleIter i3 l3 k3) (hl1:s.heap.IsTuple l1 xs) (hl2:s.heap.IsTuple l2 ys) (hl3:s.heap.IsTuple l3 zs) (hx:xs[k1]? =some x) (hy:ys[k2]? =some y) (hv:zs[k3]? =some v)
  (hQ: ∀h',IsZip h' z TI TO (rawInt s.heap.objs.size)->yJ h' TO x y v->h'.IsTupleIter i1 l1 (k1+1)->h'.IsTupleIter i2 l2 (k2+1)->h'.IsTupleIter i3 l3 (k3+1)->yJ h' s.heap.objs.size x y v->
   (∀d o,d≠z->d≠TO->d≠i1->d≠i2->d≠i3->s.heap.get? d=some o->h'.get? d=some o)->Q (.ref s.heap.objs.size) {s with heap:=h'}):
  wpAny (model prog w) A (Builtin.«zip.__next__» ⟨[.ref z],[]⟩) (λf s'=> ∃v,f= .done (.ret v)/\Q v s') E s:=by
 obtain⟨⟨TIz,TOz,i1z,i2z,i3z⟩,⟨TITO,TIi1,TIi2,TIi3⟩,⟨TOi1,TOi2,TOi3⟩,⟨i12,i13,i23⟩,⟨l1z,l1TO,l1i1,l1i2,l1i3⟩,⟨l2z,l2TO,l2i1,l2i2,l2i3⟩,⟨l3z,l3TO,l3i1,l3i2,l3i3⟩⟩:=D;show wpAny _ _ (field (.ref z) 2>>=_) _ _ _; refine γ (wpAny_field hz rfl (x:= .bool false) rfl ?_);show wpAny _ _ (field (.ref z) 3>>=_) _ _ _; refine γ (wpAny_field hz rfl (x:= .ref TI) rfl ?_);refine γ (wpAny_seqItems hTI rfl ?_); show wpAny _ _ (Builtin.SmallTypes.ownedTupleIsFree (.ref z)>>=_) _ _ _;refine γ ?_; unfold Builtin.SmallTypes.ownedTupleIsFree;refine γ (wpAny_field hz rfl (x:= .none) rfl (ι ?_)); simp only[if_true];refine γ (wpAny_rule ?_); refine γ (wpAny_field hz rfl (x:= .ref TO) rfl ?_);refine γ (wpAny_setField_rec hz (by simp) λg1 zz1 s1=>?_); replace zz1:IsZip g1 z TI TO .ellipsis:=zz1;refine γ ?_; simp only[List.zipIdx_cons,List.zipIdx_nil,List.forIn_cons,List.forIn_nil];refine γ (γ (wpAny_onRaise ?_)); show wpAny _ _ (Builtin.SmallTypes.nextOf (.ref i1)>>=_) _ _ _;refine γ (yt (tupJ h1 s1.extBut i1z) (tupX hl1 s1.extBut l1z) hx λg2 j2 s2=>ι ?_);have o2:yJ g2 TO a b c:=s2.extBut _ _ TOi1 (s1.extBut _ _ TOz hTO);refine γ (wpAny_seqItems o2 rfl ?_); refine γ (YJ o2 λg3 o3 s3=>?_); replace o3:yJ g3 TO x b c:=o3;refine γ (wpAny_letGo (ι ?_)); refine γ (γ (wpAny_onRaise ?_)); show wpAny _ _ (Builtin.SmallTypes.nextOf (.ref i2)>>=_) _ _ _;refine γ (yt (tupJ (tupJ (tupJ h2 s1.extBut i2z) s2.extBut i12.symm) s3.extBut TOi2.symm) (tupX (tupX (tupX hl2 s1.extBut l2z) s2.extBut l2i1) s3.extBut l2TO) hy λg4 j4 s4=>ι ?_);have o4:yJ g4 TO x b c:=s4.extBut _ _ TOi2 o3;refine γ (wpAny_seqItems o4 rfl ?_); refine γ (YJ o4 λg5 o5 s5=>?_); replace o5:yJ g5 TO x y c:=o5;refine γ (wpAny_letGo (ι ?_)); refine γ (γ (wpAny_onRaise ?_)); show wpAny _ _ (Builtin.SmallTypes.nextOf (.ref i3)>>=_) _ _ _;refine γ (yt (tupJ (tupJ (tupJ (tupJ (tupJ h3 s1.extBut i3z) s2.extBut i13.symm) s3.extBut TOi3.symm) s4.extBut i23.symm) s5.extBut TOi3.symm) (tupX (tupX (tupX (tupX (tupX hl3 s1.extBut l3z) s2.extBut l3i1) s3.extBut l3TO) s4.extBut l3i2) s5.extBut l3TO) hv λg6 j6 s6=>ι ?_);have o6:yJ g6 TO x y c:=s6.extBut _ _ TOi3 o5;refine γ (wpAny_seqItems o6 rfl ?_); refine γ (YJ o6 λg7 o7 s7=>?_); replace o7:yJ g7 TO x y v:=o7;refine γ (wpAny_letGo (ι (ι ?_))); refine γ (wpAny_seqItems o7 rfl ?_); refine γ (wpAny_newTuple ?_);have sz:g7.objs.size=s.heap.objs.size:=by rw[s7.1,s6.1,s5.1,s4.1,s3.1,s2.1,s1.1]
 have k7: ∀c o,c≠TO->c≠i1->c≠i2->c≠i3->g1.get? c=some o->g7.get? c=some o:=λc o c2 c3 c4 c5 q=>s7.extBut _ _ c2 (s6.extBut _ _ c5 (s5.extBut _ _ c2 (s4.extBut _ _ c4 (s3.extBut _ _ c2 (s2.extBut _ _ c3 q)))));have z7:IsZip g7 z TI TO .ellipsis:=k7 _ _ TOz.symm i1z.symm i2z.symm i3z.symm zz1;have a7:g7.IsTupleIter i1 l1 (k1+1):=tupJ (tupJ (tupJ (tupJ (tupJ j2 s3.extBut TOi1.symm) s4.extBut i12) s5.extBut TOi1.symm) s6.extBut i13) s7.extBut TOi1.symm;have b7:g7.IsTupleIter i2 l2 (k2+1):=tupJ (tupJ (tupJ j4 s5.extBut TOi2.symm) s6.extBut i23) s7.extBut TOi2.symm;have c7:g7.IsTupleIter i3 l3 (k3+1):=tupJ j6 s7.extBut TOi3.symm;have zlt:z<g7.objs.size:=ν z7;show wpAny _ _ (Builtin.SmallTypes.ownedTupleHandOut (.ref z) (.ref g7.objs.size)>>=_) _ _ _; refine γ ?_; unfold Builtin.SmallTypes.ownedTupleHandOut;have z8:IsZip (g7.push {cls:= .type "tuple",data:= .seq #[x,y,v]}) z TI TO .ellipsis:=η _ z7;refine γ (wpAny_setField_rec z8 (by simp) λg9 z9 s9=>?_); replace z9:IsZip g9 z TI TO (rawInt g7.objs.size):=z9;refine wpAny_setField_rec z9 (by simp) λgA zA sA=>?_; replace zA:IsZip gA z TI TO (rawInt g7.objs.size):=zA;have up: ∀c o,c≠z->g7.get? c=some o->gA.get? c=some o:=λc o c1 q=>sA.extBut _ _ c1 (s9.extBut _ _ c1 (η _ q));have tA:yJ gA g7.objs.size x y v:=sA.extBut _ _ (Ω zlt) (s9.extBut _ _ (Ω zlt) (π _ rfl));rw[sz] at zA tA; refine ι ⟨_,rfl,?_⟩; show Q (.ref g7.objs.size) _; rw[sz];exact hQ gA zA (up _ _ TOz o7) (a7.at λo q=>up _ o i1z q) (b7.at λo q=>up _ o i2z q) (c7.at λo q=>up _ o i3z q) tA λc o c1 c2 c3 c4 c5 q=>up c o c1 (k7 c o c2 c3 c4 c5 (s1.extBut _ _ c1 q))
theorem zip3_end{z TI TO i1 i2 i3 l1 l2 l3:Addr}{k1:Nat}{xs:Array Value}{a b c:Value}{Q:Fin->Shared->Prop}(hh:A.handled=none)(D:Apart3 z TI TO i1 i2 i3 l1 l2 l3)(hz:IsZip s.heap z TI TO .none)(hTI:yJ s.heap TI (.ref i1) (.ref i2) (.ref i3))(hTO:yJ s.heap TO a b c)
  (h1:s.heap.IsTupleIter i1 l1 k1) (hl1:s.heap.IsTuple l1 xs) (hx:xs[k1]? =none)
  (hE: ∀h' e,(∀d o,d≠z->d≠TO->d≠i1->d≠i2->d≠i3->s.heap.get? d=some o->h'.get? d=some o)->(∃o,h'.get? e=some o/\o.cls= .type "StopIteration")->E (.ref e) {s with heap:=h'}):wpAny (model prog w) A (Builtin.«zip.__next__» ⟨[.ref z],[]⟩) Q E s:=by
 obtain⟨⟨TIz,TOz,i1z,i2z,i3z⟩,⟨TITO,TIi1,TIi2,TIi3⟩,⟨TOi1,TOi2,TOi3⟩,⟨i12,i13,i23⟩,⟨l1z,l1TO,l1i1,l1i2,l1i3⟩,_,_⟩:=D;show wpAny _ _ (field (.ref z) 2>>=_) _ _ _; refine γ (wpAny_field hz rfl (x:= .bool false) rfl ?_);show wpAny _ _ (field (.ref z) 3>>=_) _ _ _; refine γ (wpAny_field hz rfl (x:= .ref TI) rfl ?_);refine γ (wpAny_seqItems hTI rfl ?_); show wpAny _ _ (Builtin.SmallTypes.ownedTupleIsFree (.ref z)>>=_) _ _ _;refine γ ?_; unfold Builtin.SmallTypes.ownedTupleIsFree;refine γ (wpAny_field hz rfl (x:= .none) rfl (ι ?_)); simp only[if_true];refine γ (wpAny_rule ?_); refine γ (wpAny_field hz rfl (x:= .ref TO) rfl ?_);refine γ (wpAny_setField_rec hz (by simp) λg1 zz1 s1=>?_); replace zz1:IsZip g1 z TI TO .ellipsis:=zz1;refine γ ?_; simp only[List.zipIdx_cons,List.zipIdx_nil,List.forIn_cons,List.forIn_nil];refine γ (γ (wpAny_onRaise ?_)); show wpAny _ _ (Builtin.SmallTypes.nextOf (.ref i1)>>=_) _ _ _;refine γ (x5 hh (tupJ h1 s1.extBut i1z) (tupX hl1 s1.extBut l1z) hx λg2 e s2 he=>?_);obtain⟨oe,hoe,hce⟩:=he; have z2:IsZip g2 z TI TO .ellipsis:=s2 _ _ i1z.symm zz1;have ez:e≠z:=λq=>by subst q; rw[z2] at hoe; cases hoe; simp at hce
 refine wpAny_setField_rec z2 (by simp) λg3 _ s3=>hE g3 e (λc o c1 _ c3 _ _ q=>s3.extBut _ _ c1 (s2 _ _ c3 (s1.extBut _ _ c1 q))) ⟨oe,s3.extBut _ _ ez hoe,hce⟩
end
theorem tyC3(a b c:Value):checkTypeCall "zip" ⟨[a,b,c],[]⟩=pure ():=by kernel_rfl
theorem nwC3(a b c:Value):checkBuiltinCall "zip.__new__" ⟨[.type "zip",a,b,c],[]⟩=pure ():=by kernel_rfl
abbrev ztH1 (h:Heap) (a:Addr):Heap:=h.push {cls:= .type "tuple_iterator",data:= .fields #[.ref a,.int 0 0]}
abbrev ztH2 (h:Heap) (a b:Addr):Heap:=(ztH1 h a).push {cls:= .type "tuple_iterator",data:= .fields #[.ref b,.int 0 0]}
abbrev ztH3 (h:Heap) (a b c:Addr):Heap:=(ztH2 h a b).push {cls:= .type "tuple_iterator",data:= .fields #[.ref c,.int 0 0]}
abbrev ztH4 (h:Heap) (a b c:Addr):Heap:=(ztH3 h a b c).push {cls:= .type "tuple",data:= .seq #[.ref h.objs.size,.ref (ztH1 h a).objs.size,.ref (ztH2 h a b).objs.size]}
abbrev ztH5 (h:Heap) (a b c:Addr):Heap:=(ztH4 h a b c).push {cls:= .type "tuple",data:= .seq #[.none,.none,.none]}
abbrev ztH6 (h:Heap) (a b c:Addr):Heap:=(ztH5 h a b c).push {cls:= .type "zip",data:= .fields #[.none,.bool false,.bool false,.ref (ztH3 h a b c).objs.size,.ref (ztH4 h a b c).objs.size]}
theorem zt_new(a b c:Addr)(xs ys zs:Array Value):Meets (Builtin.«zip.__new__» ⟨[.type "zip",.ref a,.ref b,.ref c],[]⟩) (λ_ R s=>s.heap.IsTuple a xs/\s.heap.IsTuple b ys/\s.heap.IsTuple c zs/\R (.ok (.ret (.ref (ztH5 s.heap a b c).objs.size))) {s with heap:=ztH6 s.heap a b c}):=
 .of_wp λprog w A R s h=>by
  obtain⟨hp,g,d,tk,os⟩:=s; obtain⟨hA,hB,hC,h⟩:=h; have hsub:=sub_zip;have tA:Heap.IsTuple (Shared.heap ⟨hp,g,d,tk,os⟩) a xs:=hA;have tB:Heap.IsTuple (Shared.heap ⟨ztH1 hp a,g,d,tk,os⟩) b ys:=let ⟨o,e,r⟩:=hB; ⟨o,η _ e,r⟩
  have tC:Heap.IsTuple (Shared.heap ⟨ztH2 hp a b,g,d,tk,os⟩) c zs:=let ⟨o,e,r⟩:=hC; ⟨o,η _ (η _ e),r⟩
  wp_walk using wpAny_pyIter_tuple tA,wpAny_pyIter_tuple tB,wpAny_pyIter_tuple tC
  exact⟨_,rfl,h⟩
section
variable {D:Addr} {te:TE} {tc:TT} {Q:VK} {ρ:St} {H:Hp}
theorem XJ{K:W.Frag}{a b:Addr}{xs zs:List V}(hlen:xs.length=zs.length)(Pv:Nat->List V->Hp->Prop)(h0:Pv 0 [] (upd H D (.lst [])))(hl: ∀i ys H',i<=xs.length->Pv i ys H'->SqT K H' a xs/\SqT K H' b zs)
  (hs: ∀i x z ys H' p,xs[i]? =some x->zs[i]? =some z->Pv i ys H'->H' D=some (.lst ys)->H' p=none-> ∀(R:V->Hp->Prop) (S:Hp->Prop),(∀y H4,H4 D=some (.lst ys)->ys.length<sizeLine->Pv (i+1) (ys++[y]) (upd H4 D (.lst (ys++[y])))->R y H4)->(∀H3,H3 D=some (.lst ys)->Pv (i+1) ys H3->S H3)->
   tc (some x::some z::ρ) (upd H' p (.tup [x,z])) λb H3=>if b=true then te (some x::some z::ρ) H3 R else S H3)
  (hd: ∀ys H',Pv xs.length ys H'->H' D=some (.lst ys)->Q (.ref D) H'):CGo (Itz K a b) D (gTup K 2 (yj (zF 0) (yj (zF 1) gNil))) tc te Q (none::none::ρ) H:=by
 refine⟨λi m τ ys H'=>m=xs.length-i/\i<=xs.length/\(∃tv tw,τ=tv::tw::ρ)/\Pv i ys H'/\H' D=some (.lst ys),⟨xs.length,by omega,Ι _,⟨_,_,rfl⟩,h0,zf⟩,?_⟩;rintro i m τ ys H' ⟨rfl,hi,⟨tv,tw,rfl⟩,hp,hD⟩;refine⟨hD,?_⟩;obtain⟨sq,sq'⟩:=hl i ys H' hi hp;by_cases hlt:i<xs.length
 ·have hlt':i<zs.length:=by omega
  refine .inr ⟨⟨xs,zs,xs[i],zs[i],sq,sq',by simp[hlt],by simp[hlt']⟩,?_⟩;rintro v H'' ⟨p,x,z,rfl,hpn,rfl,hx,hz⟩;have hx':=hx xs sq;have hz':=hz zs sq';refine⟨p,[x,z],rfl,SqT.of zf,rfl,x,[z],rfl,z,[],rfl,rfl,?_⟩;exact hs i x z ys _ p hx' hz' hp hD hpn _ _ (λy H4 a b c=>⟨a,b,xs.length-(i+1),by omega,rfl,hlt,⟨_,_,rfl⟩,c,zf⟩) λH3 a c=>⟨xs.length-(i+1),by omega,rfl,hlt,⟨_,_,rfl⟩,c,a⟩
 ·have e:i=xs.length:=by omega
  subst e;exact .inl ⟨⟨xs,zs,sq,sq',.inl (θ _)⟩,hd ys _ hp hD⟩
end
section
variable {ta:TA} {tl:TE} {n:Nat} {ix:List Nat} {g:TG} {tc:TT} {te:TE} {σ:St} {H:Hp} {Q:VK}
theorem yA{K:W.Frag}(h:ta σ H λvs H1=> ∃a b,vs=[.ref a,.ref b]/\(∃xs,SqT K H1 a xs)/\(∃ys,SqT K H1 b ys)/\ ∀D,H1 D=none->CGo (Itz K a b) D g tc te Q (List.replicate n none++sub ix σ) H1):xU (iZp K ta) n ix g tc te σ H Q:=h
theorem yB{K:W.Frag}(h:tl σ H λx H1=> ∃a,x= .ref a/\(∃xs,SqL K H1 a xs)/\ ∀D,H1 D=none->CGo (Itl K a) D g tc te Q (List.replicate n none++sub ix σ) H1):xU (Wn K tl) n ix g tc te σ H Q:=h
end
section
variable {σ:St} {H:Hp} {Q:VK} {te ta tb tc:TE} {r r':R2} {tl th:TO}
theorem yC(h:ta σ H λx H1=>tb σ H1 λy H2=>r x y H2 λz H3=> ∃k,z= .bl k/\(if k=true then tc σ H3 λw' H4=>r' y w' H4 Q else Q (.bl false) H3)):XX r r' ta tb tc σ H Q:=h
theorem w_sl{r:V->Option Int->Option Int->Hp->VK->Prop}(h:te σ H λx H1=>tl σ H1 λl H2=>th σ H2 λu H3=>r x l u H3 Q):tSl r te tl th σ H Q:=h
theorem z0{QO:Option Int->Hp->Prop}(h:QO none H):vh σ H QO:=h
theorem yM{QO:Option Int->Hp->Prop}(h:te σ H λx H1=> ∃i,x= .int i/\QO (some i) H1):Y1 te σ H QO:=h
end
theorem yT{X:Cx}{xe:Value->Shared->Prop}{n:Nat}(hc:X.calm=true)(h:PGs (cxC X N sc cl C fp s3 H3 xe) es t)
  (hn:(assignEach es (cxC X N sc cl C fp s3 H3 xe).env).length=n:=by rfl) (hst:(assignEach es (cxC X N sc cl C fp s3 H3 xe).env).findIdx? (·.1)=none:=by rfl):PG (cxC X N sc cl C fp s3 H3 xe) (.Tuple es k pos) (gTup X.K n t):=xM (X:=cxC X N sc cl C fp s3 H3 xe) hc h hn hst
theorem wt(Post:St->Hp->Prop)(h2: ∀σ' H',Post σ' H'->u D σ' H')(h1:(∀σ' H',Post σ' H'->u D σ' H')->t {D with nx:=u D} σ H):tSeq t u D σ H:=h1 h2
theorem xS{g:Int->V}(h:ta σ H λx H1=> ∃i,x= .int i/\Q (g i) H1):tUn (rU g) ta σ H Q:=h
end L2
namespace G2
open PySem L2
structure TK (H H':Hp):Prop where
 t: ∀q xs,H q=some (.tup xs)->H' q=some (.tup xs)
 f: ∀q o u,H q=some (.frz o u)->H' q=some (.frz o u)
section
variable {p l:Addr} {H H' H'':Hp} {o:HO}
theorem TK.trans(a:TK H H')(b:TK H' H''):TK H H'':=⟨λq xs e=>b.t q xs (a.t q xs e),λq o u e=>b.f q o u (a.f q o u e)⟩
theorem TK.lst(h:H l=some (.lst ys)):TK H (upd H l o):=⟨λq xs e=>by rw[zk (WW e h (by intro z; cases z))]; exact e,λq ob u e=>by rw[zk (WW e h (by intro z; cases z))]; exact e⟩
theorem TK.same(k:Same H H'):TK H H':=⟨λ_ _ e=>k _ _ e,λ_ _ _ e=>k _ _ e⟩
end
theorem _root_.L2.Same.new(k:Same H H')(h:H' l=none):Same H (upd H' l o):=λb u e=>by
 rw[zk (zh (k b u e) h)];exact k b u e
theorem _root_.L2.Same.put(k:Same H H')(h:H l=none):Same H (upd H' l o):=λb u e=>by
 rw[zk (zh e h)];exact k b u e
structure Tp (H:Hp) (p l:Addr) (ns:List Int):Prop where
 ex: ∃c e:Int,H p=some (.lst [.ref l,.int c,.int e])
 hl:H l=some (.lst (ns.map V.int))
 ne:p≠l
def Sm (i:Int):Prop:=-1000000000000000<i/\i<1000000000000000
structure Shw (d:PyData) (n h:Nat):Prop where
 s:d.showable=true
 nd:d.hasDict=false
 p:d.depth<=h
 l:d.shown.length<=n
end G2
namespace L2
open PySem PySem.Spec PyProof.Rows
theorem YI{K:W.Frag}{n:Nat}{t:TGs}{σ:St}{H:Hp}{Q:St->Hp->Prop}{a:Addr}{xs:List V}(h:H a=some (.tup xs))(hn:xs.length=n)(q:t xs σ H Q):gTup K n t (.ref a) σ H Q:=⟨a,xs,rfl,SqT.of h,hn,q⟩
theorem yI:OpR X (binaryOp .Mult) (rI IntMulOk λi j=> .int (i*j)):=opI λ_ _ _ _ _ _ _ hc q=>mul_int q hc
end L2
namespace G2
open PySem L2
section
variable {D:Addr} {te:TE} {tc:TT} {Q:VK} {ρ:St} {H:Hp} {K:W.Frag} {a b:Addr}
theorem zip_map{xs ys:List Int}(g:Int->Int->Int)(ha:H a=some (.tup (xs.map V.int)))(hb:H b=some (.tup (ys.map V.int)))(hlen:xs.length=ys.length)(hn:xs.length<=1000)
  (step: ∀(i:Nat) (x y:Int) (H':Hp),xs[i]? =some x->ys[i]? =some y->Same H H'-> ∀R:V->Hp->Prop,(∀H'',Same H' H''->R (.int (g x y)) H'')->te (some (.int x)::some (.int y)::ρ) H' R)
  (q: ∀H',Same H H'->H' D=some (.lst ((List.zipWith g xs ys).map V.int))->Q (.ref D) H') (hD:H D=none):CGo (Itz K a b) D (gTup K 2 (yj (zF 0) (yj (zF 1) gNil))) tAll te Q (none::none::ρ) H:=by
 refine XJ (xs:=xs.map V.int) (zs:=ys.map V.int) (by simp[hlen]) (λi zs H'=>zs=((List.zipWith g xs ys).take i).map V.int/\Same H H') ⟨rfl,Same.new (Same.refl H) hD⟩ (λi zs H' _ ⟨_,k'⟩=>⟨SqT.of (k' _ _ ha),SqT.of (k' _ _ hb)⟩) ?_ ?_
 ·rintro i x z zs H' p hx hz ⟨rfl,K'⟩ hDz hp R S kR _;have hi1:i<xs.length:=by
   have:=(ξ.mp hx).1;simpa using this
  have hi2:i<ys.length:=by omega
  have ex:x= .int xs[i]:=by
   rw[μ,δ hi1] at hx;exact(Γ hx).symm
  have ez:z= .int ys[i]:=by
   rw[μ,δ hi2] at hz;exact(Γ hz).symm
  subst ex ez;refine zU ?_;refine iteT ?_;have hD':upd H' p (.tup [.int xs[i],.int ys[i]]) D=some (.lst (((List.zipWith g xs ys).take i).map V.int)):=by rw[zk (zh hDz hp)]; exact hDz
  refine step i _ _ _ (by simp[hi1]) (by simp[hi2]) (K'.new hp) R λH'' K''=>?_;refine kR _ _ (K'' _ _ hD') (by rw[ε,List.length_take]; exact zq (by omega)) ⟨?_,((K'.new hp).trans K'').put hD⟩;have hz':(List.zipWith g xs ys)[i]? =some (g xs[i] ys[i]):=by simp[List.getElem?_zipWith,hi1,hi2]
  rw[List.take_add_one,Μ,hz'];rfl
 ·rintro zs H' ⟨rfl,K'⟩ hDz;refine q H' K' ?_;rw[hDz,List.take_of_length_le];simp;omega
end
section
variable {X:Cx} {k:Nat}
def rNeD:R2:=λx y H Q=> ∃dx dy,RdV H x dx/\RdV H y dy/\dx.canLay0=true/\dy.canLay0=true/\dx.depth<=60/\Q (.bl (!PyData.eqv dx dy)) H
theorem op_neD(hr:Room k X.A):OpR X (compareOp .NotEq) rNeD:=by
 intro pins s σ H x y v u Q I rx ry h;obtain⟨dx,dy,hx,hy,cx,cy,hd,q⟩:=h;obtain⟨as,ra⟩:=hx.reads I rx;obtain⟨bs,rb⟩:=hy.reads I ry;have:=hr.units;exact SeqAt.compareNe_reads ra rb cx cy (by omega) ⟨.bl _,H,I,rfl,q⟩
end
structure Fm where
 ins:List Int
 sts:List Int
 plus:Int
structure FmOk (n m:Nat) (B:Int) (f:Fm):Prop where
 li:f.ins.length=n
 ls:f.sts.length=m
 bi: ∀x∈f.ins,-B<=x/\x<=B
 bs: ∀x∈f.sts,-B<=x/\x<=B
 bp: -B<=f.plus/\f.plus<=B
end G2
namespace L2
open PySem PySem.Spec PyProof.Rows
theorem aoi4(a b c d:Value):argsOk "object.__init__" ⟨[a,b,c,d],[]⟩:=by unfold argsOk; rw[signature?_of (id:="object.__init__") (n:=['_','_','t','i','n','i','_','_']) (o:=['t','c','e','j','b','o']) (by kernel_rfl) F.owner_object]; kernel_rfl
section
variable {prog:Program} {w:World} {A:Around} {E:Value->Shared->Prop} {s:Shared}
theorem call_zt{Q:Value->Shared->Prop}(hA:s.heap.IsTuple a xs)(hB:s.heap.IsTuple b ys)(hC:s.heap.IsTuple c zs)
  (k: ∀h',IsZip h' (s.heap.objs.size+5) (s.heap.objs.size+3) (s.heap.objs.size+4) .none->yJ h' (s.heap.objs.size+3) (.ref s.heap.objs.size) (.ref (s.heap.objs.size+1)) (.ref (s.heap.objs.size+2))->yJ h' (s.heap.objs.size+4) .none .none .none->
   h'.IsTupleIter s.heap.objs.size a 0->h'.IsTupleIter (s.heap.objs.size+1) b 0->h'.IsTupleIter (s.heap.objs.size+2) c 0->(∀d o,s.heap.get? d=some o->h'.get? d=some o)->Q (.ref (s.heap.objs.size+5)) {s with heap:=h'}):
  wpAny (model prog w) A (call (.type "zip") [.ref a,.ref b,.ref c]) Q E s:=by
 refine callType_new F.called_zip (by decide) (tyC3 _ _ _) (nwC3 _ _ _) (λobj=>aoi4 obj _ _ _) F.entry_zip_new (zt_new a b c xs ys zs) ⟨hA,hB,hC,?_⟩;have z1:(ztH1 s.heap a).objs.size=s.heap.objs.size+1:=Heap.size_push ..;have z2:(ztH2 s.heap a b).objs.size=s.heap.objs.size+2:=by rw[Heap.size_push,z1]
 have z3:(ztH3 s.heap a b c).objs.size=s.heap.objs.size+3:=by rw[Heap.size_push,z2]
 have z4:(ztH4 s.heap a b c).objs.size=s.heap.objs.size+4:=by rw[Heap.size_push,z3]
 have z5:(ztH5 s.heap a b c).objs.size=s.heap.objs.size+5:=by rw[Heap.size_push,z4]
 have p1: ∀{h:Heap} {o:Obj} {d:Addr} {u:Obj},h.get? d=some u->(h.push o).get? d=some u:=λq=>η _ q;have g6:(ztH6 s.heap a b c).get? (ztH5 s.heap a b c).objs.size=some _:=π _ rfl;have g5:(ztH6 s.heap a b c).get? (ztH4 s.heap a b c).objs.size=some _:=p1 (π _ rfl);have g4:(ztH6 s.heap a b c).get? (ztH3 s.heap a b c).objs.size=some _:=p1 (p1 (π _ rfl));have g3:(ztH6 s.heap a b c).get? (ztH2 s.heap a b).objs.size=some _:=p1 (p1 (p1 (π _ rfl)));have g2:(ztH6 s.heap a b c).get? (ztH1 s.heap a).objs.size=some _:=p1 (p1 (p1 (p1 (π _ rfl))));have g1:(ztH6 s.heap a b c).get? s.heap.objs.size=some _:=p1 (p1 (p1 (p1 (p1 (π _ rfl)))));show _/\_;rw[z3,z4,z5] at g6; rw[z4] at g5; rw[z1,z2,z3] at g4; rw[z2] at g3; rw[z1] at g2;have kk: ∀d o,s.heap.get? d=some o->(ztH6 s.heap a b c).get? d=some o:=λd o q=>p1 (p1 (p1 (p1 (p1 (p1 q)))));rw[z5];exact⟨⟨_,g6,rfl⟩,k _ g6 g4 g5 ⟨_,g1,rfl,rfl⟩ ⟨_,g2,rfl,rfl⟩ ⟨_,g3,rfl,rfl⟩ kk⟩
end
def It3 (K:W.Frag) (a b c:Addr):It:=
  ⟨λi H=> ∃xs ys zs x y z,SqT K H a xs/\SqT K H b ys/\SqT K H c zs/\xs[i]? =some x/\ys[i]? =some y/\zs[i]? =some z,
   λi H v H'=> ∃p x y z,v= .ref p/\H p=none/\H'=upd H p (.tup [x,y,z])/\(∀xs,SqT K H a xs->xs[i]? =some x)/\(∀ys,SqT K H b ys->ys[i]? =some y)/\ ∀zs,SqT K H c zs->zs[i]? =some z,
   λi H=> ∃xs,SqT K H a xs/\xs.length<=i⟩
theorem turn_zt{P:Program}{w:World}{K:W.Frag}{es:List Expr}{kt:Nat}{pt:Pos}(a b c z TI TO i1 i2 i3:Addr)(D:Apart3 z TI TO i1 i2 i3 a b c):
  Turn P w K (.Tuple es kt pt) (It3 K a b c) [z,TI,TO,i1,i2,i3] z (λi h=>IsZip h z TI TO .none/\yJ h TI (.ref i1) (.ref i2) (.ref i3)/\(∃u v t,yJ h TO u v t)/\h.IsTupleIter i1 a i/\h.IsTupleIter i2 b i/\h.IsTupleIter i3 c i) where
 mem:=by simp
 obj:=λi h st q hq=>by
  obtain⟨hz,hI,⟨u,v,t,hO⟩,⟨o1,e1,c1,d1⟩,⟨o2,e2,c2,d2⟩,⟨o3,e3,c3,d3⟩⟩:=st;simp only[List.mem_cons,List.not_mem_nil,or_false] at hq;rcases hq with rfl | rfl | rfl | rfl | rfl | rfl
  ·exact⟨_,hz,λv y=>by have y':Data.fields _=Data.cell v:=y; cases y'⟩
  ·exact⟨_,hI,λv y=>by have y':Data.seq _ _=Data.cell v:=y; cases y'⟩
  ·exact⟨_,hO,λv y=>by have y':Data.seq _ _=Data.cell v:=y; cases y'⟩
  ·exact⟨o1,e1,λv y=>by rw[d1] at y; cases y⟩
  ·exact⟨o2,e2,λv y=>by rw[d2] at y; cases y⟩
  ·exact⟨o3,e3,λv y=>by rw[d3] at y; cases y⟩
 keep:=λi h h' st k=>⟨k z (by simp) _ st.1,k TI (by simp) _ st.2.1,let ⟨u,v,t,q⟩:=st.2.2.1; ⟨u,v,t,k TO (by simp) _ q⟩,st.2.2.2.1.at λo x=>k i1 (by simp) o x,st.2.2.2.2.1.at λo x=>k i2 (by simp) o x,st.2.2.2.2.2.at λo x=>k i3 (by simp) o x⟩
 item:=by
  intro X hP hw hK hc i pins s σ H E I hf st hg;subst hP hw hK;obtain⟨xs,ys,zs,x,y,t,hqa,hqb,hqc,hx,hy,ht⟩:=hg;obtain⟨ia,rva,pa,za⟩:=I.tuple hqa;obtain⟨ib,rvb,pb,zb⟩:=I.tuple hqb;obtain⟨ic,rvc,pc,zc⟩:=I.tuple hqc;obtain⟨u,hu,ru⟩:=rva.get hx;obtain⟨v,hv,rv⟩:=rvb.get hy;obtain⟨r,hr,rr⟩:=rvc.get ht;obtain⟨hz,hI,⟨ou,ov,ow,hO⟩,h1,h2,h3⟩:=st;obtain⟨⟨TIz,TOz,i1z,i2z,i3z⟩,⟨TITO,TIi1,TIi2,TIi3⟩,_⟩:=id D;have hT:s.TypeIs (.ref z) "zip":=⟨_,hz,rfl⟩; unfold pyNext;refine γ (wpAny_attempt (wpAny_callSpecial?_slot (name:=Str.ofString "__next__") hT F.slot_zip_next (wpAny_call_entry F.slot_zip_next hT F.entry_zip_next
   (zip3_item D hz hI hO h1 h2 h3 pa pb pc (x:=u) (y:=v) (v:=r) (by simpa using hu) (by simpa using hv) (by simpa using hr) λh' z' o' a' b' c' t' k'=>ι ?_) (F.args_zip_next_1 _))))
  refine⟨_,rfl,wpAny_letOwnedTupleGo_zip z' λh'' z'' sb=>?_⟩;have nz:s.heap.objs.size≠z:=Ω (ν hz);have nTO:s.heap.objs.size≠TO:=Ω (ν hO);have nTI:s.heap.objs.size≠TI:=Ω (ν hI);have n1:s.heap.objs.size≠i1:=by obtain⟨o,e,_⟩:=h1; exact Ω (ν e)
  have n2:s.heap.objs.size≠i2:=by obtain⟨o,e,_⟩:=h2; exact Ω (ν e)
  have n3:s.heap.objs.size≠i3:=by obtain⟨o,e,_⟩:=h3; exact Ω (ν e)
  have up: ∀q o,q≠z->h'.get? q=some o->h''.get? q=some o:=λq o hq e=>(sb.2 q hq).trans e;have hI'':yJ h'' TI (.ref i1) (.ref i2) (.ref i3):=up _ _ TIz (k' TI _ TIz TITO TIi1 TIi2 TIi3 hI);have I2:Inv X pins σ (upd H s.heap.objs.size (.tup [x,y,t])) {s with heap:=h'',toks:=s.toks}:=I.turnNew (ch:=[z,TI,TO,i1,i2,i3]) hf (λq o hq e=>by
   simp only[List.mem_cons,List.not_mem_nil,or_false,not_or] at hq;exact up q o hq.1 (k' q o hq.1 hq.2.2.1 hq.2.2.2.1 hq.2.2.2.2.1 hq.2.2.2.2.2 e)) (λq hq=>by
   simp only[List.mem_cons,List.not_mem_nil,or_false] at hq;rcases hq with rfl | rfl | rfl | rfl | rfl | rfl
   ·exact⟨_,z''⟩
   ·exact⟨_,hI''⟩
   ·exact⟨_,up _ _ TOz o'⟩
   ·obtain⟨o,e,_⟩:=a'; exact⟨o,up _ o i1z e⟩
   ·obtain⟨o,e,_⟩:=b'; exact⟨o,up _ o i2z e⟩
   ·obtain⟨o,e,_⟩:=c'; exact⟨o,up _ o i3z e⟩) (θ _) (vals:=[u,v,r]) (.cons ru (.cons rv (.cons rr .nil))) (sz3) ⟨_,up _ _ nz t',rfl,_,rfl⟩
  refine⟨.ref s.heap.objs.size,_,I2,rfl,⟨_,x,y,t,rfl,I.fresh,rfl,λws hws=>by rw[I.tuple_inj hws hqa]; exact hx,λws hws=>by rw[I.tuple_inj hws hqb]; exact hy,λws hws=>by rw[I.tuple_inj hws hqc]; exact ht⟩,
   ⟨z'',hI'',⟨_,_,_,up _ _ TOz o'⟩,a'.at λo e=>up _ o i1z e,b'.at λo e=>up _ o i2z e,c'.at λo e=>up _ o i3z e⟩,λq hq=>?_⟩
  have hq0:=(hf q hq).1;simp only[List.mem_cons,List.not_mem_nil,or_false] at hq;rw[zk]
  ·exact hq0
  ·rcases hq with rfl | rfl | rfl | rfl | rfl | rfl
   ·exact Ne.symm nz
   ·exact Ne.symm nTI
   ·exact Ne.symm nTO
   ·exact Ne.symm n1
   ·exact Ne.symm n2
   ·exact Ne.symm n3
 done:=by
  intro X hP hw hK hc i pins s σ H E I hf st hg;subst hP hw hK;obtain⟨xs,hqa,hx⟩:=hg;obtain⟨ia,rva,pa,za⟩:=I.tuple hqa;obtain⟨hz,hI,⟨ou,ov,ow,hO⟩,h1,h2,h3⟩:=st;have la:=rva.length;have hT:s.TypeIs (.ref z) "zip":=⟨_,hz,rfl⟩; unfold pyNext;refine γ (wpAny_attempt (wpAny_callSpecial?_slot (name:=Str.ofString "__next__") hT F.slot_zip_next (wpAny_call_entry F.slot_zip_next hT F.entry_zip_next
   (zip3_end (I.ok.hd hc) D hz hI hO h1 pa (by simp; omega) λh' e k' he=>?_) (F.args_zip_next_1 _))))
  obtain⟨o,ho,hcl⟩:=he;refine γ (wpAny_isInstance (T:="StopIteration") (b:=true) ⟨o,ho,hcl⟩ isSubtype_stop ?_);refine ι ⟨rfl,I.turnOnly (tk:=s.toks) hf λq o hq e=>?_⟩;simp only[List.mem_cons,List.not_mem_nil,or_false,not_or] at hq;exact k' q o hq.1 hq.2.2.1 hq.2.2.2.1 hq.2.2.2.2.1 hq.2.2.2.2.2 e
 self:=λ_ _ s _ _ st h=>wpAny_pyIter_zip st.1 h
theorem apart3(ha:a<n)(hb:b<n)(hc:c<n):Apart3 (n+5:Nat) (n+3:Nat) (n+4:Nat) (n:Nat) (n+1:Nat) (n+2:Nat) a b c:=by
 constructor<;>refine⟨?_,?_,?_⟩<;>(try refine⟨?_,?_⟩)<;>(try refine⟨?_,?_⟩)<;>(intro q; have q':(_:Nat)=_:=q; omega)
section
variable {X:Cx} {es:List Expr} {kt:Nat} {pt:Pos}
def iZt (K:W.Frag) (ta:TA):TI:=fun σ H R=>ta σ H λvs H1=> ∃a b c,vs=[.ref a,.ref b,.ref c]/\(∃xs,SqT K H1 a xs)/\(∃ys,SqT K H1 b ys)/\(∃zs,SqT K H1 c zs)/\R (It3 K a b c) H1
theorem pi_zt{e e' e'':Expr}{ta:TA}{p pos:Pos}(hm:X.mg "zip"=none)(ha:PA X [e,e',e''] ta)(hg:Gl X "zip":=by rfl)(h:zM e=false:=by rfl)(h':zM e'=false:=by rfl)(h'':zM e''=false:=by rfl):PI X (.Tuple es kt pt) (.Call (.Name "zip" p) [e,e',e''] [] pos) (iZt X.K ta):=by
 intro pins s σ H R I hh;refine Call_ (xl I hg hm boot_zip (PyProof.Rows.callWith_type1 (thn (ha pos pins s σ H _ I hh) λus s1 ⟨vs,H1,I1,r1,q1⟩=>?_) (xj h) (xi (by simp[h',h'']))));obtain⟨a,b,c,rfl,⟨xs,hqa⟩,⟨ys,hqb⟩,⟨zs,hqc⟩,q⟩:=q1;cases r1 with
 | cons ru r2=>
  cases r2 with
  | cons rv r3=>
   cases r3 with
   | cons rw' r4=>
    cases r4
    cases ru
    cases rv
    cases rw'
    obtain⟨ia,rva,pa,za⟩:=I1.tuple hqa;obtain⟨ib,rvb,pb,zb⟩:=I1.tuple hqb;obtain⟨ic,rvc,pc,zc⟩:=I1.tuple hqc;have la:a<s1.heap.objs.size:=by obtain⟨o,e,_⟩:=pa; exact ν e
    have lb:b<s1.heap.objs.size:=by obtain⟨o,e,_⟩:=pb; exact ν e
    have lc:c<s1.heap.objs.size:=by obtain⟨o,e,_⟩:=pc; exact ν e
    refine call_zt (xs:=ia.toArray) (ys:=ib.toArray) (zs:=ic.toArray) pa pb pc λg hz hI hO j1 j2 j3 hk=>wpAny_pyIter_zip hz ?_;refine⟨_,[s1.heap.objs.size+5,s1.heap.objs.size+3,s1.heap.objs.size+4,s1.heap.objs.size,s1.heap.objs.size+1,s1.heap.objs.size+2],_,_,H1,rfl,I1.kept (t':=s1.toks) hk,turn_zt a b c _ _ _ _ _ _ (apart3 la lb lc),⟨hz,hI,⟨_,_,_,hO⟩,j1,j2,j3⟩,λq hq=>?_,by assumption⟩;have hq':s1.heap.objs.size<=q:=by
     simp only[List.mem_cons,List.not_mem_nil,or_false] at hq;rcases hq with z | z | z | z | z | z<;>rw[z]<;>first | exact θ _ | exact Nat.le_add_right _ _
    exact I1.fpOk hq' (I1.hok.fresh hq')
end
theorem w_comp3{K:W.Frag}{ta:TA}{n:Nat}{ix:List Nat}{g:TG}{tc:TT}{te:TE}{σ:St}{H:Hp}{Q:VK}(h:ta σ H λvs H1=> ∃a b c,vs=[.ref a,.ref b,.ref c]/\(∃xs,SqT K H1 a xs)/\(∃ys,SqT K H1 b ys)/\(∃zs,SqT K H1 c zs)/\ ∀D,H1 D=none->CGo (It3 K a b c) D g tc te Q (List.replicate n none++sub ix σ) H1):xU (iZt K ta) n ix g tc te σ H Q:=h
theorem zip3_map{D:Addr}{te:TE}{Q:VK}{ρ:St}{H:Hp}{K:W.Frag}{a b c:Addr}{xs ys zs:List Int}(g:Int->Int->Int->Int)(ha:H a=some (.tup (xs.map V.int)))(hb:H b=some (.tup (ys.map V.int)))(hc:H c=some (.tup (zs.map V.int)))(h1:ys.length=xs.length)(h2:zs.length=xs.length)(hn:xs.length<=1000)
  (step: ∀(x y z:Int) (H':Hp),Same H H'-> ∀R:V->Hp->Prop,(∀H'',Same H' H''->R (.int (g x y z)) H'')->te (some (.int x)::some (.int y)::some (.int z)::ρ) H' R)
  (q: ∀H',Same H H'->H' D=some (.lst (((List.range xs.length).map λi=>g (xs.getD i 0) (ys.getD i 0) (zs.getD i 0)).map V.int))->Q (.ref D) H') (hD:H D=none):CGo (It3 K a b c) D (gTup K 3 (yj (zF 0) (yj (zF 1) (yj (zF 2) gNil)))) tAll te Q (none::none::none::ρ) H:=by
 refine⟨λi m τ vs H'=>m=xs.length-i/\i<=xs.length/\(∃tv tw tx,τ=tv::tw::tx::ρ)/\vs=((List.range i).map λi=>g (xs.getD i 0) (ys.getD i 0) (zs.getD i 0)).map V.int/\Same H H'/\H' D=some (.lst vs),⟨xs.length,by omega,Ι _,⟨_,_,_,rfl⟩,rfl,Same.new (Same.refl H) hD,zf⟩,?_⟩;rintro i m τ vs H' ⟨rfl,hi,⟨tv,tw,tx,rfl⟩,rfl,K',hDz⟩;refine⟨hDz,?_⟩;have sa:SqT K H' a (xs.map V.int):=SqT.of (K' _ _ ha);have sb:SqT K H' b (ys.map V.int):=SqT.of (K' _ _ hb);have sc:SqT K H' c (zs.map V.int):=SqT.of (K' _ _ hc);by_cases hlt:i<xs.length
 ·have hy:i<ys.length:=by omega
  have hz:i<zs.length:=by omega
  refine .inr ⟨⟨_,_,_,.int xs[i],.int ys[i],.int zs[i],sa,sb,sc,by simp[hlt],by simp[hy],by simp[hz]⟩,?_⟩;rintro w' H'' ⟨p,x,y,z,rfl,hp,rfl,ex,ey,ez⟩;have ex':=ex _ sa;have ey':=ey _ sb;have ez':=ez _ sc;rw[μ,δ hlt] at ex';rw[μ,δ hy] at ey';rw[μ,δ hz] at ez';cases ex'
  cases ey'
  cases ez'
  refine⟨p,_,rfl,SqT.of zf,rfl,_,_,rfl,_,_,rfl,_,_,rfl,rfl,?_⟩;refine zU ?_;refine iteT ?_;have hD':upd H' p (.tup [.int xs[i],.int ys[i],.int zs[i]]) D=some (.lst (((List.range i).map λi=>g (xs.getD i 0) (ys.getD i 0) (zs.getD i 0)).map V.int)):=by rw[zk (zh hDz hp)]; exact hDz
  refine step xs[i] ys[i] zs[i] _ (K'.new hp) _ λH3 K3=>⟨K3 _ _ hD',by rw[ε,ε,Ξ]; exact zq (by omega),xs.length-(i+1),by omega,rfl,hlt,⟨_,_,_,rfl⟩,?_,((K'.new hp).trans K3).put hD,zf⟩;rw[List.range_succ,Μ,Μ];simp[List.getD_eq_getElem?_getD,hlt,hy,hz]
 ·have e:i=xs.length:=by omega
  subst e;exact .inl ⟨⟨_,sa,by simp⟩,q H' K' hDz⟩
section
variable {X:Cx}
theorem YD: ∀{bs:List Bool} {us:List Value},Vals (bs.map V.bl) us->us=bs.map Value.bool
 | [],us,r=>by
  cases r
  rfl
 | b::bs,us,r=>by
  cases r with
  | cons r1 r2=>
   cases r1
   rw[YD r2];rfl
def rAll:List V->Hp->VK->Prop:=λxs H Q=> ∃(p:Addr) (bs:List Bool),xs=[.ref p]/\H p=some (.lst (bs.map V.bl))/\Q (.bl (bs.all id)) H
theorem all_range(bs:List Bool):(List.range bs.length).all (λi=>bs.getD i false)=bs.all id:=by
 rw[Bool.eq_iff_iff,List.all_eq_true,List.all_eq_true];constructor
 ·intro h b hb;obtain⟨i,hi,rfl⟩:=List.getElem_of_mem hb;have:=h i (Λ.mpr hi);simpa[List.getD_eq_getElem?_getD,hi] using this
 ·intro h i hi;have hi':=Λ.mp hi;have:=h bs[i] (Ο hi');simpa[List.getD_eq_getElem?_getD,hi'] using this
theorem call_all(hc:X.calm=true):yk X (.builtin "all") rAll:=by
 intro pins s σ H xs us Q I r h;obtain⟨p,bs,rfl,hp,q⟩:=h;obtain⟨u,rfl,ru⟩:=r.one;cases ru
 obtain⟨its,n,rv,e,z⟩:=I.lst hp;have hits:=YD rv;subst hits;have hl:s.heap.IsList p (bs.map Value.bool).toArray:=⟨_,e,rfl,n,rfl⟩;refine call_all_walk (wpAny_pyIter_list hl ?_);refine⟨_,_,_,_,_,_,λi=>bs.getD i false,rfl,Walks.list (A:=X.A.in1) (I.ok.hd hc) _ p (Ν (ν e)) (bs.map Value.bool).toArray,⟨⟨_,π _ rfl,rfl,rfl⟩,hl.push _⟩,?_,λh' tk hk=>?_⟩
 ·intro i v s' Q' E' hv hQ';have hv':(bs.map Value.bool)[i]? =some v:=by simpa using hv
  rw[μ] at hv';cases eb:bs[i]? with
  | none=>rw[eb] at hv'; cases hv'
  | some b=>
   rw[eb] at hv';cases hv'
   have:bs.getD i false=b:=by rw[ζ,eb]; rfl
   refine wpAny_truthy_bool ?_;dsimp only at hQ';rw[this] at hQ';exact hQ'
 ·have e1:(List.range (bs.map Value.bool).toArray.size).all (λi=>bs.getD i false)=bs.all id:=by simpa using all_range bs
  rw[e1];exact⟨.bl _,H,I.kept (t':=tk) (old_kept (l:=p) hk),rfl,q⟩
def rMinL:List V->Hp->VK->Prop:=λxs H Q=> ∃(p:Addr) (ns:List Int),xs=[.ref p]/\H p=some (.lst (ns.map V.int))/\0<ns.length/\ ∀M,M∈ns->(∀a∈ns,M<=a)->Q (.int M) H
theorem call_minL(hc:X.calm=true):yk X (.builtin "min") rMinL:=by
 intro pins s σ H xs us Q I r h;obtain⟨p,ns,rfl,hp,h0,q⟩:=h;obtain⟨u,rfl,ru⟩:=r.one;cases ru
 obtain⟨its,n,rv,e,z⟩:=I.lst hp;obtain⟨ys,rfl,hy⟩:=vo rv;have hl:s.heap.IsList p (intItems ys.toArray):=⟨_,e,rfl,n,by simp[intItems]⟩;have hlen:ys.length=ns.length:=by rw[<-hy,ε]
 refine min_intList (I.ok.hd hc) hl (by simp; omega) λv h' tk hv hk=>?_;obtain⟨t,rfl⟩:=intItems_at hv;obtain⟨h1,h2⟩:=argBest_lt (numAt ys.toArray) (ys.toArray.size-1);have hy':(ys.toArray.toList.map (·.1))=ns:=by simpa using hy
 refine⟨.int _,H,I.kept hk,⟨t,rfl⟩,q _ ?_ λa ha=>?_⟩
 ·rw[numAt_eq,hy'];exact PySem.getD_mem (by simp at h1 ⊢; omega)
 ·obtain⟨j,hj,rfl⟩:=PySem.mem_getD ha;have e2:=h2 j (by simp; omega);rw[numAt_eq,numAt_eq,hy'] at e2;rw[numAt_eq,hy'];exact e2
end
def Itel (K:W.Frag) (a:Addr):It:=
 ⟨λi H=> ∃xs x,SqL K H a xs/\xs[i]? =some x,λi H v H'=> ∃p x,v= .ref p/\H p=none/\H'=upd H p (.tup [.int (i:Int),x])/\ ∀xs,SqL K H a xs->xs[i]? =some x,λi H=> ∃xs,SqL K H a xs/\xs.length=i⟩
theorem turn_enl{P:Program}{w:World}{K:W.Frag}{es:List Expr}{kt:Nat}{pt:Pos}(a e it:Addr)(hei:e≠it)(hai:a≠it)(hae:a≠e):
  Turn P w K (.Tuple es kt pt) (Itel K a) [e,it] e (λi h=>(∃old,IsEnum h e it i old)/\h.IsListIter it a i) where
 mem:=by simp
 obj:=λi h st b hb=>by
  obtain⟨⟨old,he⟩,o,eo,c,d⟩:=st;rcases Φ.mp hb with rfl | hq
  ·exact⟨_,he,λv z=>by have z':Data.fields _=Data.cell v:=z; cases z'⟩
  ·rw[Υ.mp hq]; exact⟨o,eo,λv z=>by rw[d] at z; cases z⟩
 keep:=λi h h' st k=>⟨let ⟨old,he⟩:=st.1; ⟨old,k e (by simp) _ he⟩,st.2.at λo x=>k it (by simp) o x⟩
 item:=by
  intro X hP hw hK hc i pins s σ H E I hf st hg;subst hP hw hK;obtain⟨xs,x,hq,hx⟩:=hg;obtain⟨its,rv,p,hz⟩:=I.list hq;obtain⟨u,hu,ru⟩:=rv.get hx;have W:=WalksT.enumerateD (Draws.list (prog:=X.prog) (w:=X.w) (A:=X.A.in1) (I.ok.hd hc) it a hai its.toArray) e hei (by simp[hei,Ne.symm hae]) (by simp);have hi:i<its.toArray.size:=by
   have:=(ξ.mp hu).1;simpa using this
  refine W.item i s _ E hi ⟨st.1,st.2,p.isList⟩ λT vals h' tk hP hsz hT hM hk=>⟨.ref T,rfl,?_⟩;obtain⟨t,x',hx',rfl⟩:=hP;have ex:x'=u:=by
   have:its[i]? =some x':=by simpa using hx'
   rw[this] at hu;exact Γ hu
  subst ex;refine W.go es kt pt i T {s with heap:=h',toks:=tk} _ E hM λh'' hst hk2=>?_;obtain⟨⟨old2,he2⟩,hit2,_⟩:=hst;have hTw:=W.apart i T h' hM;obtain⟨oT,eT,cT⟩:=hT;have I2:Inv X pins σ (upd H T (.tup [.int (i:Int),x])) {s with heap:=h'',toks:=tk}:=I.turnNew (ch:=[e,it]) hf (λb o hb q=>hk2 b o hb (hk b o hb q)) (λb hb=>by
   rcases Φ.mp hb with rfl | hq
   ·exact⟨_,he2⟩
   ·rw[Υ.mp hq]; obtain⟨o,eo,_⟩:=hit2; exact⟨o,eo⟩) hsz (vals:=[.int i t,x']) (.cons ⟨t,rfl⟩ (.cons ru .nil)) (sz2) ⟨oT,hk2 T oT hTw eT,cT⟩
  refine⟨.ref T,_,I2,rfl,⟨T,x,rfl,I.hok.fresh hsz,rfl,λys hy=>by rw[I.list_inj hy hq]; exact hx⟩,⟨⟨old2,he2⟩,hit2⟩,λb hb=>?_⟩;rw[zk (λz=>hTw (by rw[<-z]; exact hb))];exact(hf b hb).1
 done:=by
  intro X hP hw hK hc i pins s σ H E I hf st hg;subst hP hw hK;obtain⟨xs,hq,hx⟩:=hg;obtain⟨its,rv,p,hz⟩:=I.list hq;have hl:=rv.length;have W:=WalksT.enumerateD (Draws.list (prog:=X.prog) (w:=X.w) (A:=X.A.in1) (I.ok.hd hc) it a hai its.toArray) e hei (by simp[hei,Ne.symm hae]) (by simp);have ei:i=its.toArray.size:=by rw[ψ]; omega
  subst ei;exact W.done s _ E ⟨st.1,st.2,p.isList⟩ λh' tk hk=>⟨rfl,I.turnOnly hf hk⟩
 self:=λ_ _ s _ _ st h=>by
  obtain⟨⟨old,he⟩,_⟩:=st;exact wpAny_pyIter_enum he h
section
variable {X:Cx} {es:List Expr} {kt:Nat} {pt:Pos}
def iEnl (K:W.Frag) (ta:TA):TI:=fun σ H R=>ta σ H λvs H1=> ∃a,vs=[.ref a]/\(∃xs,SqL K H1 a xs)/\R (Itel K a) H1
theorem pi_enl{e:Expr}{ta:TA}{p pos:Pos}(hm:X.mg "enumerate"=none)(ha:PA X [e] ta)(hg:Gl X "enumerate":=by rfl)(h:zM e=false:=by rfl):PI X (.Tuple es kt pt) (.Call (.Name "enumerate" p) [e] [] pos) (iEnl X.K ta):=by
 intro pins s σ H R I hh;refine Call_ (xl I hg hm boot_enumerate (PyProof.Rows.callWith_type1 (thn (ha pos pins s σ H _ I hh) λus s1 ⟨vs,H1,I1,r1,q1⟩=>?_) (xj h) rfl));obtain⟨a,rfl,⟨xs,hq⟩,q⟩:=q1;obtain⟨u,rfl,ru⟩:=r1.one;cases ru
 obtain⟨its,rv,pl,hz⟩:=I1.list hq;have hlt:a<s1.heap.objs.size:=by
  obtain⟨o,_,eo,_⟩:=pl;exact ν eo
 refine call_enumerate_list (items:=its.toArray) pl.isList λh' he hi _ hk=>wpAny_pyIter_enum he ?_;refine⟨_,[s1.heap.objs.size+1,s1.heap.objs.size],_,_,H1,rfl,I1.kept (t':=s1.toks) hk,turn_enl a (s1.heap.objs.size+1) s1.heap.objs.size (Nat.succ_ne_self _) (Ν hlt) (Ν (Ε hlt (Nat.le_succ _))),⟨⟨_,he⟩,hi⟩,λb hb=>?_,q⟩;have hb':s1.heap.objs.size<=b:=by
  rcases Φ.mp hb with z | z
  ·rw[z]; exact Nat.le_succ _
  ·rw[Υ.mp z];exact θ _
 exact I1.fpOk hb' (I1.hok.fresh hb')
end
def isI (i:Int):Value->Bool
 | .int a _=>a==i
 | _=>false
theorem w_forEl{K:W.Frag}{ta:TA}{g:TG}{tb:TS}{D:Ends}{σ:St}{H:Hp}(h:ta σ H λvs H1=> ∃a,vs=[.ref a]/\(∃xs,SqL K H1 a xs)/\ForJ (Itel K a) g tb D σ H1):tFor (iEnl K ta) g tb D σ H:=h
theorem for_enl{K:W.Frag}{a:Addr}{xs:List V}{g:TG}{tb:TS}{D:Ends}{σ:St}{H:Hp}(Pv:Nat->St->Hp->Prop)(h0:Pv 0 σ H)(hl: ∀i σ H,Pv i σ H->SqL K H a xs)
  (hs: ∀(i:Nat) (x:V) σ H p,xs[i]? =some x->Pv i σ H->H p=none->g (.ref p) σ (upd H p (.tup [.int (i:Int),x])) fun σ2 H2=>tb {D with nx:=Pv (i+1),ct:=Pv (i+1),bk:=D.nx} σ2 H2) (hd: ∀σ H,Pv xs.length σ H->D.nx σ H):
  ForJ (Itel K a) g tb D σ H:=by
 refine⟨λi m σ H=>m=xs.length-i/\i<=xs.length/\Pv i σ H,⟨xs.length,by simp,Ι _,h0⟩,?_⟩;rintro i m σ H ⟨rfl,hi,p⟩;have qa:=hl i σ H p;by_cases hlt:i<xs.length
 ·refine .inr ⟨⟨xs,xs[i],qa,by simp[hlt]⟩,Pv (i+1),fun σ' H' p'=>⟨xs.length-(i+1),by omega,rfl,hlt,p'⟩,λv H' yv=>?_⟩;obtain⟨q,x,rfl,hq,rfl,ex⟩:=yv;exact hs i x σ H q (ex xs qa) p hq
 ·have e:i=xs.length:=by omega
  subst e;exact .inl ⟨⟨xs,qa,rfl⟩,hd σ H p⟩
theorem vY{D:Addr}{tc:TT}{te:TE}{Q:VK}{ρ:St}{H:Hp}{K:W.Frag}{a:Addr}{xs:List V}(Pv:Nat->List V->Hp->Prop)(h0:Pv 0 [] (upd H D (.lst [])))(hl: ∀i ys H',i<=xs.length->Pv i ys H'->SqL K H' a xs)
  (hs: ∀i x ys H',xs[i]? =some x->Pv i ys H'->H' D=some (.lst ys)-> ∀(R:V->Hp->Prop) (S:Hp->Prop),(∀y H4,H4 D=some (.lst ys)->ys.length<sizeLine->Pv (i+1) (ys++[y]) (upd H4 D (.lst (ys++[y])))->R y H4)->(∀H3,H3 D=some (.lst ys)->Pv (i+1) ys H3->S H3)->
   tc (some x::ρ) H' λb H3=>if b=true then te (some x::ρ) H3 R else S H3)
  (hd: ∀ys H',Pv xs.length ys H'->H' D=some (.lst ys)->Q (.ref D) H'):CGo (Itl K a) D (zF 0) tc te Q (none::ρ) H:=by
 refine⟨λi m τ ys H'=>m=xs.length-i/\i<=xs.length/\(∃tv,τ=tv::ρ)/\Pv i ys H'/\H' D=some (.lst ys),⟨xs.length,by omega,Ι _,⟨_,rfl⟩,h0,zf⟩,?_⟩;rintro i m τ ys H' ⟨rfl,hi,⟨tv,rfl⟩,hp,hD⟩;refine⟨hD,?_⟩;have sq:=hl i ys H' hi hp;by_cases hlt:i<xs.length
 ·refine .inr ⟨⟨xs,xs[i],sq,by simp[hlt]⟩,?_⟩;rintro v H'' ⟨rfl,hv⟩;have hv':=hv xs sq;show tc (some v::ρ) _ _;exact hs i v ys _ hv' hp hD _ _ (λy H4 a b c=>⟨a,b,xs.length-(i+1),by omega,rfl,hlt,⟨_,rfl⟩,c,zf⟩) λH3 a c=>⟨xs.length-(i+1),by omega,rfl,hlt,⟨_,rfl⟩,c,a⟩
 ·have e:i=xs.length:=by omega
  subst e;exact .inl ⟨⟨xs,sq,θ _⟩,hd ys _ hp hD⟩
section
variable {X:Cx}
def rIns:V->List V->Hp->VK->Prop:=λx vs H Q=> ∃(l:Addr) (xs:List V) (i:Int) (y:V),x= .ref l/\vs=[.int i,y]/\H l=some (.lst xs)/\0<=i/\i<=xs.length/\xs.length<sizeLine/\Q .non (upd H l (.lst (xs.take i.toNat++y::xs.drop i.toNat)))
theorem mt_insert:MtM X "list.insert" rIns:=by
 intro pins s σ H x vs v us Q I rx rv h;obtain⟨l,xs,i,y,rfl,rfl,hH,h0,hi,hz,q⟩:=h;cases rx
 obtain⟨u1,us',rfl,ru1,rv'⟩: ∃u1 us',us=u1::us'/\RelV (.int i) u1/\Vals [y] us':=by
  cases rv with
  | cons r1 r2=>exact⟨_,_,rfl,r1,r2⟩
 obtain⟨u2,rfl,ru2⟩:=rv'.one;obtain⟨t,rfl⟩:=ru1;obtain⟨z,its,n,r,hl,e⟩:=I.lstM hH;have hz':xs.length<2^62:=Ε hz (by decide);have hfit: ¬(!Builtin.List.listFitsIndex i)=true:=by
  rw[fitsIndex_both (k:=i) (by omega) (by omega)];decide
 have hsz:its.toArray.size<=sizeLine:=by rw[ψ,<-hl]; exact Nat.le_of_lt hz
 refine call_meets F.slot_list_insert ⟨_,e,rfl⟩ F.entry_list_insert (F.args_list_insert_3 _ _ _) (AutoSeq1.list_insert_list_int_val_1 l its.toArray n i t u2 hfit hsz) ⟨e,?_⟩;refine⟨.non,_,I.lset (its':=its.take i.toNat++u2::its.drop i.toNat) hH e ?_ ((r.take i.toNat).append (.cons ru2 (r.drop i.toNat))) ?_,rfl,q⟩
 ·have hk:(if i<0 then (i+(its.toArray.size:Int)).toNat else min i.toNat its.toArray.size)=i.toNat:=by
   rw[if_neg (by omega),ψ];omega
  show Array.push (its.toArray.extract 0 (if i<0 then (i+(its.toArray.size:Int)).toNat else min i.toNat its.toArray.size)) u2++its.toArray.extract (if i<0 then (i+(its.toArray.size:Int)).toNat else min i.toNat its.toArray.size)=_;rw[hk]
  apply Array.toList_inj.mp
  simp[List.take_drop];rw[List.take_of_length_le (by omega)]
 ·rw[Β,List.length_cons,List.length_take,List.length_drop];omega
end
def Itzl (K:W.Frag) (a b:Addr):It:=
 ⟨λi H=> ∃xs ys x y,SqL K H a xs/\SqL K H b ys/\xs[i]? =some x/\ys[i]? =some y,λi H v H'=> ∃p x y,v= .ref p/\H p=none/\H'=upd H p (.tup [x,y])/\(∀xs,SqL K H a xs->xs[i]? =some x)/\ ∀ys,SqL K H b ys->ys[i]? =some y,
  λi H=> ∃xs ys,SqL K H a xs/\SqL K H b ys/\(xs.length<=i\/ys.length<=i)⟩
theorem turn_zpl{P:Program}{w:World}{K:W.Frag}{es:List Expr}{kt:Nat}{pt:Pos}(a b z TI TO i1 i2:Addr)(D:ZipApart z TI TO i1 i2 a b):
  Turn P w K (.Tuple es kt pt) (Itzl K a b) [z,TI,TO,i1,i2] z (λi h=>IsZip h z TI TO .none/\IsPair h TI (.ref i1) (.ref i2)/\(∃u v,IsPair h TO u v)/\h.IsListIter i1 a i/\h.IsListIter i2 b i) where
 mem:=by simp
 obj:=λi h st q hq=>by
  obtain⟨hz,hI,⟨u,v,hO⟩,⟨o1,e1,c1,d1⟩,⟨o2,e2,c2,d2⟩⟩:=st;simp only[List.mem_cons,List.not_mem_nil,or_false] at hq;rcases hq with rfl | rfl | rfl | rfl | rfl
  ·exact⟨_,hz,λv y=>by have y':Data.fields _=Data.cell v:=y; cases y'⟩
  ·exact⟨_,hI,λv y=>by have y':Data.seq _ _=Data.cell v:=y; cases y'⟩
  ·exact⟨_,hO,λv y=>by have y':Data.seq _ _=Data.cell v:=y; cases y'⟩
  ·exact⟨o1,e1,λv y=>by rw[d1] at y; cases y⟩
  ·exact⟨o2,e2,λv y=>by rw[d2] at y; cases y⟩
 keep:=λi h h' st k=>⟨k z (by simp) _ st.1,k TI (by simp) _ st.2.1,let ⟨u,v,q⟩:=st.2.2.1; ⟨u,v,k TO (by simp) _ q⟩,st.2.2.2.1.at λo x=>k i1 (by simp) o x,st.2.2.2.2.at λo x=>k i2 (by simp) o x⟩
 item:=by
  intro X hP hw hK hc i pins s σ H E I hf st hg;subst hP hw hK;obtain⟨xs,ys,x,y,hqa,hqb,hx,hy⟩:=hg;obtain⟨ia,rva,pa,za⟩:=I.list hqa;obtain⟨ib,rvb,pb,zb⟩:=I.list hqb;obtain⟨u,hu,ru⟩:=rva.get hx;obtain⟨v,hv,rv⟩:=rvb.get hy;obtain⟨hz,hI,⟨ou,ov,hO⟩,h1,h2⟩:=st;refine wpAny_pyNext_zip_item D hz hI hO h1 h2 pa.isList pb.isList (x:=u) (y:=v) (by simpa using hu) (by simpa using hv) λh' z' o' a' b' t' _ k'=>?_;refine⟨_,rfl,wpAny_letOwnedTupleGo_zip z' λh'' z'' sb=>?_⟩;have nz:s.heap.objs.size≠z:=Ω (ν hz);have nTO:s.heap.objs.size≠TO:=Ω (ν hO);have nTI:s.heap.objs.size≠TI:=Ω (ν hI);have n1:s.heap.objs.size≠i1:=by obtain⟨o,e,_⟩:=h1; exact Ω (ν e)
  have n2:s.heap.objs.size≠i2:=by obtain⟨o,e,_⟩:=h2; exact Ω (ν e)
  have up: ∀q o,q≠z->h'.get? q=some o->h''.get? q=some o:=λq o hq e=>(sb.2 q hq).trans e;have hI'':IsPair h'' TI (.ref i1) (.ref i2):=up _ _ D.TIz (k' TI _ D.TIz D.TITO D.TIi1 D.TIi2 hI);have I2:Inv X pins σ (upd H s.heap.objs.size (.tup [x,y])) {s with heap:=h'',toks:=s.toks}:=I.turnNew (ch:=[z,TI,TO,i1,i2]) hf (λq o hq e=>by
   simp only[List.mem_cons,List.not_mem_nil,or_false,not_or] at hq;exact up q o hq.1 (k' q o hq.1 hq.2.2.1 hq.2.2.2.1 hq.2.2.2.2 e)) (λq hq=>by
   simp only[List.mem_cons,List.not_mem_nil,or_false] at hq;rcases hq with rfl | rfl | rfl | rfl | rfl
   ·exact⟨_,z''⟩
   ·exact⟨_,hI''⟩
   ·exact⟨_,up _ _ D.TOz o'⟩
   ·obtain⟨o,e,_⟩:=a'; exact⟨o,up _ o D.i1z e⟩
   ·obtain⟨o,e,_⟩:=b'; exact⟨o,up _ o D.i2z e⟩) (θ _) (vals:=[u,v]) (.cons ru (.cons rv .nil)) (sz2) ⟨_,up _ _ nz t',rfl,_,rfl⟩
  refine⟨.ref s.heap.objs.size,_,I2,rfl,⟨_,x,y,rfl,I.fresh,rfl,λzs hzs=>by rw[I.list_inj hzs hqa]; exact hx,λzs hzs=>by rw[I.list_inj hzs hqb]; exact hy⟩,
   ⟨z'',hI'',⟨_,_,up _ _ D.TOz o'⟩,a'.at λo e=>up _ o D.i1z e,b'.at λo e=>up _ o D.i2z e⟩,λq hq=>?_⟩
  have hq0:=(hf q hq).1;simp only[List.mem_cons,List.not_mem_nil,or_false] at hq;rw[zk]
  ·exact hq0
  ·rcases hq with rfl | rfl | rfl | rfl | rfl
   ·exact Ne.symm nz
   ·exact Ne.symm nTI
   ·exact Ne.symm nTO
   ·exact Ne.symm n1
   ·exact Ne.symm n2
 done:=by
  intro X hP hw hK hc i pins s σ H E I hf st hg;subst hP hw hK;obtain⟨xs,ys,hqa,hqb,hx⟩:=hg;obtain⟨ia,rva,pa,za⟩:=I.list hqa;obtain⟨ib,rvb,pb,zb⟩:=I.list hqb;obtain⟨hz,hI,⟨ou,ov,hO⟩,h1,h2⟩:=st;have la:=rva.length;have lb:=rvb.length;refine wpAny_pyNext_zip_end (I.ok.hd hc) D hz hI hO h1 h2 pa.isList pb.isList (hx.elim (λq=> .inl (by simp; omega)) λq=> .inr (by simp; omega)) λh' k'=>?_;refine⟨rfl,I.turnOnly (tk:=s.toks) hf λq o hq e=>?_⟩;simp only[List.mem_cons,List.not_mem_nil,or_false,not_or] at hq;exact k' q o hq.1 hq.2.2.1 hq.2.2.2.1 hq.2.2.2.2 e
 self:=λ_ _ s _ _ st h=>wpAny_pyIter_zip st.1 h
section
variable {X:Cx} {es:List Expr} {kt:Nat} {pt:Pos}
def iZpl (K:W.Frag) (ta:TA):TI:=fun σ H R=>ta σ H λvs H1=> ∃a b,vs=[.ref a,.ref b]/\(∃xs,SqL K H1 a xs)/\(∃ys,SqL K H1 b ys)/\R (Itzl K a b) H1
theorem wU{e e':Expr}{ta:TA}{p pos:Pos}(hm:X.mg "zip"=none)(ha:PA X [e,e'] ta)(hg:Gl X "zip":=by rfl)(h:zM e=false:=by rfl)(h':zM e'=false:=by rfl):PI X (.Tuple es kt pt) (.Call (.Name "zip" p) [e,e'] [] pos) (iZpl X.K ta):=by
 intro pins s σ H R I hh;refine Call_ (xl I hg hm boot_zip (PyProof.Rows.callWith_type1 (thn (ha pos pins s σ H _ I hh) λus s1 ⟨vs,H1,I1,r1,q1⟩=>?_) (xj h) (xi (by simp[h']))));obtain⟨a,b,rfl,⟨xs,hqa⟩,⟨ys,hqb⟩,q⟩:=q1;cases r1 with
 | cons ru r2=>
  cases r2 with
  | cons rv r3=>
   cases r3
   cases ru
   cases rv
   obtain⟨ia,rva,pa,za⟩:=I1.list hqa;obtain⟨ib,rvb,pb,zb⟩:=I1.list hqb;have la:a<s1.heap.objs.size:=by obtain⟨o,_,e,_⟩:=pa; exact ν e
   have lb:b<s1.heap.objs.size:=by obtain⟨o,_,e,_⟩:=pb; exact ν e
   refine call_zip_2 (xs:=ia.toArray) (ys:=ib.toArray) pa.isList pb.isList λg hz hI hO j1 j2 _ hk=>wpAny_pyIter_zip hz ?_;refine⟨_,[s1.heap.objs.size+4,s1.heap.objs.size+2,s1.heap.objs.size+3,s1.heap.objs.size,s1.heap.objs.size+1],_,_,H1,rfl,I1.kept (t':=s1.toks) hk,turn_zpl a b _ _ _ _ _ (zipApart_new la lb),⟨hz,hI,⟨_,_,hO⟩,j1,j2⟩,λq hq=>?_,by assumption⟩;have hq':s1.heap.objs.size<=q:=by
    simp only[List.mem_cons,List.not_mem_nil,or_false] at hq;rcases hq with z | z | z | z | z<;>rw[z]<;>first | exact θ _ | exact Nat.le_add_right _ _
   exact I1.fpOk hq' (I1.hok.fresh hq')
end
section
variable {D:Addr} {te:TE} {tc:TT} {Q:VK} {ρ:St} {H:Hp}
theorem XI{K:W.Frag}{a b:Addr}{xs zs:List V}{n:Nat}(n1:n<=xs.length)(n2:n<=zs.length)(n3:xs.length<=n\/zs.length<=n)(Pv:Nat->List V->Hp->Prop)(h0:Pv 0 [] (upd H D (.lst [])))(hl: ∀i ys H',i<=n->Pv i ys H'->SqL K H' a xs/\SqL K H' b zs)
  (hs: ∀i x z ys H' p,i<n->xs[i]? =some x->zs[i]? =some z->Pv i ys H'->H' D=some (.lst ys)->H' p=none-> ∀(R:V->Hp->Prop) (S:Hp->Prop),(∀y H4,H4 D=some (.lst ys)->ys.length<sizeLine->Pv (i+1) (ys++[y]) (upd H4 D (.lst (ys++[y])))->R y H4)->(∀H3,H3 D=some (.lst ys)->Pv (i+1) ys H3->S H3)->
   tc (some x::some z::ρ) (upd H' p (.tup [x,z])) λb H3=>if b=true then te (some x::some z::ρ) H3 R else S H3)
  (hd: ∀ys H',Pv n ys H'->H' D=some (.lst ys)->Q (.ref D) H'):CGo (Itzl K a b) D (gTup K 2 (yj (zF 0) (yj (zF 1) gNil))) tc te Q (none::none::ρ) H:=by
 refine⟨λi m τ ys H'=>m=n-i/\i<=n/\(∃tv tw,τ=tv::tw::ρ)/\Pv i ys H'/\H' D=some (.lst ys),⟨n,by omega,Ι _,⟨_,_,rfl⟩,h0,zf⟩,?_⟩;rintro i m τ ys H' ⟨rfl,hi,⟨tv,tw,rfl⟩,hp,hD⟩;refine⟨hD,?_⟩;obtain⟨sq,sq'⟩:=hl i ys H' hi hp;by_cases hlt:i<n
 ·have hlt':i<zs.length:=by omega
  have hlt0:i<xs.length:=by omega
  refine .inr ⟨⟨xs,zs,xs[i],zs[i],sq,sq',by simp[hlt0],by simp[hlt']⟩,?_⟩;rintro v H'' ⟨p,x,z,rfl,hpn,rfl,hx,hz⟩;have hx':=hx xs sq;have hz':=hz zs sq';refine⟨p,[x,z],rfl,SqT.of zf,rfl,x,[z],rfl,z,[],rfl,rfl,?_⟩;exact hs i x z ys _ p hlt hx' hz' hp hD hpn _ _ (λy H4 a b c=>⟨a,b,n-(i+1),by omega,rfl,hlt,⟨_,_,rfl⟩,c,zf⟩) λH3 a c=>⟨n-(i+1),by omega,rfl,hlt,⟨_,_,rfl⟩,c,a⟩
 ·have e:i=n:=by omega
  subst e;exact .inl ⟨⟨xs,zs,sq,sq',n3⟩,hd ys _ hp hD⟩
end
end L2
namespace G2
open PySem L2
theorem prs_mapL{as:List Addr}{xs:List α}(u v:α->V)(g:α->V)(ha:H a=some (.lst (as.map V.ref)))(hl:as.length=xs.length)(hn:xs.length<=1000)
  (hx: ∀(i:Nat) (q:Addr) (x:α),as[i]? =some q->xs[i]? =some x->H q=some (.tup [u x,v x]))
  (step: ∀(i:Nat) (x:α) (H':Hp),xs[i]? =some x->Same H H'-> ∀R:V->Hp->Prop,(∀H'',Same H' H''->R (g x) H'')->te (some (u x)::some (v x)::ρ) H' R)
  (q: ∀H',Same H H'->H' D=some (.lst (xs.map g))->Q (.ref D) H') (hD:H D=none):CGo (Itl K a) D (gTup K 2 (yj (zF 0) (yj (zF 1) gNil))) tAll te Q (none::none::ρ) H:=by
 refine⟨λi m τ ys H'=>m=xs.length-i/\i<=xs.length/\(∃tv tw,τ=tv::tw::ρ)/\ys=(xs.map g).take i/\Same H H'/\H' D=some (.lst ys),⟨xs.length,by omega,Ι _,⟨_,_,rfl⟩,rfl,Same.new (Same.refl H) hD,zf⟩,?_⟩;rintro i m τ ys H' ⟨rfl,hi,⟨tv,tw,rfl⟩,rfl,K',hDz⟩;refine⟨hDz,?_⟩;have sq:SqL K H' a (as.map V.ref):=SqL.of (K' _ _ ha);by_cases hlt:i<xs.length
 ·have hlt':i<as.length:=by omega
  refine .inr ⟨⟨_,.ref as[i],sq,by simp[hlt']⟩,?_⟩;rintro w' H'' ⟨rfl,hw⟩;have hw':=hw _ sq;rw[μ,δ hlt'] at hw';cases hw'
  refine⟨as[i],_,rfl,SqT.of (K' _ _ (hx i as[i] xs[i] (by simp[hlt']) (by simp[hlt]))),rfl,_,_,rfl,_,_,rfl,rfl,?_⟩;refine zU ?_;refine iteT ?_;refine step i xs[i] _ (by simp[hlt]) K' _ λH3 K3=>⟨K3 _ _ hDz,by rw[List.length_take]; exact zq (by omega),xs.length-(i+1),by omega,rfl,hlt,⟨_,_,rfl⟩,?_,(K'.trans K3).put hD,zf⟩;rw[List.take_add_one];simp[hlt]
 ·have e:i=xs.length:=by omega
  subst e;refine .inl ⟨⟨_,sq,by simp[hl]⟩,q H' K' ?_⟩;rw[hDz,List.take_of_length_le];simp
end G2
namespace L2
open PySem PySem.Spec PyProof.Rows
structure NScope (o sc:Scope) (TN F:List Str):Prop where
 okind:o.kind= .function:=by decide +kernel
 kind:sc.kind= .function:=by decide +kernel
 names: ∀y∈sc.names,y.2= .local->sc.names.lookup y.1=some .local:=by decide +kernel
 clN: ∀y∈sc.names,y.2= .cell->sc.names.lookup y.1=some .cell:=by decide +kernel
 fr: ∀y∈sc.names,y.2= .free->o.names.lookup y.1=some .cell/\sc.names.lookup y.1=some .free:=by decide +kernel
 ff: ∀y∈F,(y,NameKind.free)∈sc.names:=by decide +kernel
theorem yU: ∀(names:List (Str×NameKind)) (n:Nat) (acc:List (Str×Addr)),cellsFrom n names acc=cellsFrom n names []++acc
 | [],n,acc=>by simp[cellsFrom]
 | (x,k)::r,n,acc=>by
  unfold cellsFrom;split
  ·rw[yU r (n+1) ((x,n)::acc),yU r (n+1) [(x,n)]];simp
  ·exact yU r n acc
theorem xn: ∀(names:List (Str×NameKind)) (n:Nat) (acc:List (Str×Addr)) (x:Str) (c:Addr),(x,c)∈cellsFrom n names acc->(x,NameKind.cell)∈names\/(x,c)∈acc
 | [],n,acc,x,c,h=> .inr h
 | (y,k)::r,n,acc,x,c,h=>by
  unfold cellsFrom at h;split at h
  ·rename_i hk
   have hk':k= .cell:=by simpa using hk
   subst hk';rcases xn r (n+1) ((y,n)::acc) x c h with z | z
   ·exact .inl (χ _ z)
   ·rcases Φ.mp z with e | z
    ·cases e
     exact .inl υ
    ·exact .inr z
  ·rcases xn r n acc x c h with z | z
   ·exact .inl (χ _ z)
   ·exact .inr z
def ownC (n:Nat) (sc:Scope):List (Str×Addr):=cellsFrom (n+1) sc.names []
def allC (env:Env) (n:Nat) (sc:Scope):List (Str×Addr):=ownC n sc++cloF env sc.names []
theorem Yk{c:α}: ∀{l r:List (Str×α)},(l++r).lookup x=some c->l.lookup x=some c\/(l.lookup x=none/\r.lookup x=some c)
 | [],r,h=> .inr ⟨rfl,h⟩
 | (y,d)::l,r,h=>by
  rw[List.cons_append,List.lookup_cons] at h;rw[List.lookup_cons];cases e:x==y with
  | true=>rw[e] at h; exact .inl h
  | false=>rw[e] at h; exact Yk h
theorem YQ{c:α}: ∀{l r:List (Str×α)},l.lookup x=some c->(l++r).lookup x=some c
 | [],r,h=>by cases h
 | (y,d)::l,r,h=>by
  rw[List.lookup_cons] at h;rw[List.cons_append,List.lookup_cons];cases e:x==y with
  | true=>rw[e] at h; exact h
  | false=>rw[e] at h; exact YQ h
theorem Wi: ∀{l r:List (Str×α)},l.lookup x=none->(l++r).lookup x=r.lookup x
 | [],r,h=>rfl
 | (y,d)::l,r,h=>by
  rw[List.lookup_cons] at h;rw[List.cons_append,List.lookup_cons];cases e:x==y with
  | true=>rw[e] at h; cases h
  | false=>rw[e] at h; exact Wi h
theorem NScope.own(S:NScope o sc TN F)(h:(ownC n sc).lookup x=some c):sc.names.lookup x=some .cell:=by
 rcases xn sc.names (n+1) [] x c (PySem.mem_of_lookup h) with z | z
 ·exact S.clN _ z rfl
 ·cases z
theorem NScope.notown(S:NScope o sc TN F)(h:(x,NameKind.free)∈sc.names):(ownC n sc).lookup x=none:=by
 cases e:(ownC n sc).lookup x with
 | none=>rfl
 | some c=>
  have h1:=S.own e;rw[(S.fr _ h rfl).2] at h1;cases h1
theorem wa{env:Env}{y:Str}: ∀{names:List (Str×NameKind)},
    ((names.map fun(n,k)=>if (k==NameKind.free&&env.scope.kind== .function&&env.kindOf n==some .cell) then (n,NameKind.cell) else (n,k)).lookup y=some .cell\/
     (names.map fun(n,k)=>if (k==NameKind.free&&env.scope.kind== .function&&env.kindOf n==some .cell) then (n,NameKind.cell) else (n,k)).lookup y=some .free)->(y,NameKind.free)∈names\/(y,NameKind.cell)∈names
  | [],h=>by simp at h
  | (n,k)::r,h=>by
    have ih:=@wa env y r;have h':List.lookup y ((if (k==NameKind.free&&env.scope.kind== .function&&env.kindOf n==some .cell)=true then (n,NameKind.cell) else (n,k))::(r.map fun(n,k)=>if (k==NameKind.free&&env.scope.kind== .function&&env.kindOf n==some .cell) then (n,NameKind.cell) else (n,k)))=some .cell\/
      List.lookup y ((if (k==NameKind.free&&env.scope.kind== .function&&env.kindOf n==some .cell)=true then (n,NameKind.cell) else (n,k))::(r.map fun(n,k)=>if (k==NameKind.free&&env.scope.kind== .function&&env.kindOf n==some .cell) then (n,NameKind.cell) else (n,k)))=some .free:=h
    clear h;have more:((y,NameKind.free)∈r\/(y,NameKind.cell)∈r)->(y,NameKind.free)∈(n,k)::r\/(y,NameKind.cell)∈(n,k)::r:=λz=>z.elim (λz=> .inl (χ _ z)) λz=> .inr (χ _ z);cases hx:y==n with
    | true=>
      have e:y=n:=by simpa using hx
      subst e;by_cases hc':(k==NameKind.free&&env.scope.kind== .function&&env.kindOf y==some .cell)=true
      · have hk:k= .free:=by
          have:=(Bool.and_eq_true _ _▸(Bool.and_eq_true _ _▸hc').1).1;simpa using this
        subst hk;exact .inl υ
      · rw[if_neg hc'] at h'
        simp only[List.lookup_cons,beq_self_eq_true] at h';rcases h' with h' | h'
        · cases h'
          exact .inr υ
        · cases h'
          exact .inl υ
    | false=>
      by_cases hc':(k==NameKind.free&&env.scope.kind== .function&&env.kindOf n==some .cell)=true
      · rw[if_pos hc'] at h'; simp only[List.lookup_cons,hx] at h'; exact more (ih h')
      · rw[if_neg hc'] at h'; simp only[List.lookup_cons,hx] at h'; exact more (ih h')
theorem newEnv_cells{E:Value->Shared->Prop}{s:Shared}{globals:Addr}{qual:Str}{env:Env}{Q:Env->Shared->Prop}
  (hQ: ∀h',h'.Ns s.heap.objs.size (λ_=>none)->(∀b o,s.heap.get? b=some o->h'.get? b=some o)->(∀x c,(ownC s.heap.objs.size scope).lookup x=some c->h'.IsCell c none/\s.heap.objs.size<c)->((ownC s.heap.objs.size scope).Pairwise λx y=>x.2≠y.2)->
   Q {scope:=scope,locals:=s.heap.objs.size,globals:=globals,cells:=ownC s.heap.objs.size scope++cl,qual:=qual,func:=none,code:=env.code,frame:=env.frame,builtins:=env.builtins} {s with heap:=h'}):
  wpAny M A (newFunctionEnv scope globals cl [] qual none .none (some env)) Q E s:=by
 simp only[newFunctionEnv,Option.isSome_some,if_true];refine γ (wpAny_alloc ?_);refine γ (wpAny_layCells _ (λname kind cells=>by cases hkc:kind==NameKind.cell<;>simp[hkc]) _ _ _ _ ?_);have ok:=cellsFrom_ok scope.names (s.heap.push {cls:= .type "dict",data:= .dict #[]}) (s.heap.objs.size+1) [] ⟨λ_ _ hm=>(nomatch hm),List.Pairwise.nil⟩ (by rw[Heap.size_push]; exact θ _);rw[Heap.size_push] at ok;rw[show({s with heap:=s.heap.push {cls:= .type "dict",data:= .dict #[]}}:Shared).heap.objs.size=s.heap.objs.size+1 from Heap.size_push ..];rw[yU];refine γ ?_;rw[List.forIn_nil];refine ι (ι ?_);exact hQ _ ((Heap.Ns.new s.heap (.type "dict")).keeps (pushCells_keeps _ _)) (λb o e=>pushCells_keeps _ _ b o (η _ e)) (λx c hc=>⟨(ok.empty x c (PySem.mem_of_lookup hc)).1,(ok.empty x c (PySem.mem_of_lookup hc)).2⟩) ok.apart
def cxN (X:Cx) (N:List Str) (sc:Scope) (cl:List (Str×Addr)) (C:Addr) (fp:List Addr) (s₃:Shared) (H₃:Hp) (xe:Value->Shared->Prop):Cx:=
 {X with N:=N,s₀:=s₃,H₀:=H₃,env:=compEnvC sc cl C X.env,outer:=X.stack,ex:=fp,fn:=λy=>sc.names.lookup y==some .cell,pn:=[],xe:=xe}
theorem inv_compN{X:Cx}{ix:List Nat}{h4:Heap}{m:Str->Option Value}{xe:Value->Shared->Prop}
  (S:NScope X.env.scope sc TN F) (hix:ix.map (λi=>X.N[i]?)=F.map some) (I:Inv X pins σ H s) (hf: ∀b∈fp,FpOk X pins H b) (ho: ∀b∈fp,∃o,s.heap.get? b=some o)
  (hk: ∀b o,s.heap.get? b=some o->h4.get? b=some o) (hn:h4.Ns s.heap.objs.size m) (hcl: ∀x c,(ownC s.heap.objs.size sc).lookup x=some c->h4.IsCell c none/\s.heap.objs.size<c) (hap:(ownC s.heap.objs.size sc).Pairwise λx y=>x.2≠y.2):
  Inv (cxN X (TN++F) sc (allC X.env s.heap.objs.size sc) s.heap.objs.size fp s H xe) [] (List.replicate TN.length none++sub ix σ) H {s with heap:=h4,toks:=tk}:=by
 have cl0: ∀x c,(cloF X.env sc.names []).lookup x=some c->X.env.cells.lookup x=some c:=λx c e=>by
  rw[yd] at e;by_cases hx:(x,NameKind.free)∈sc.names
  ·rw[if_pos hx] at e;obtain⟨c',hc'⟩:=I.ok.has x (.inl (S.fr _ hx rfl).1);rw[hc'] at e ⊢;exact e
  ·rw[if_neg hx] at e;cases e
 have cl: ∀x c,(allC X.env s.heap.objs.size sc).lookup x=some c->(ownC s.heap.objs.size sc).lookup x=some c\/X.env.cells.lookup x=some c:=λx c e=>by
  rcases Yk e with z | ⟨_,z⟩
  ·exact .inl z
  ·exact .inr (cl0 x c z)
 have old: ∀x c,X.env.cells.lookup x=some c->c<s.heap.objs.size:=λx c e=>by
  obtain⟨v,o,ho',_⟩:=I.cell x c e;exact ν ho'
 have cl': ∀x,(x,NameKind.free)∈sc.names->(allC X.env s.heap.objs.size sc).lookup x=X.env.cells.lookup x:=λx hx=>by
  unfold allC;rw[Wi (S.notown hx),yd,if_pos hx];obtain⟨c',hc'⟩:=I.ok.has x (.inl (S.fr _ hx rfl).1);rw[hc'];rfl
 have hlen:ix.length=F.length:=by
  have:=congrArg List.length hix;simpa using this
 refine⟨⟨I.ok.mod,S.kind,I.ok.glob,I.ok.blt,θ _,λx y c h1 h2=>?_,λx hx=>?_,λx c z h=>?_,I.ok.hd,I.ok.frames,.inl rfl,λb hb=>⟨?_,λx c e=>?_⟩,
  I.bs,Τ I.ok.bsz I.sz,λb o e hb=>?_,λb hb hfs=>?_,I.stack,I.stkFree⟩,rfl,I.bare,Un.kept hk,⟨m,hn,λi x v h1 h2 h3=>?_⟩,λx c e=>?_,I.hok.fresh (θ _),λx c e=>?_,λp hp=>absurd (show p∈([]:List (Addr×Obj)) from hp) (by simp),I.hok.kept hk,?_⟩
 ·rcases cl x c h1 with a | a<;>rcases cl y c h2 with b | b
  ·exact name_of_addr hap (PySem.mem_of_lookup a) (PySem.mem_of_lookup b)
  ·exact absurd (old y c b) (Nat.not_lt.mpr (Nat.le_of_lt (hcl x c a).2))
  ·exact absurd (old x c a) (Nat.not_lt.mpr (Nat.le_of_lt (hcl y c b).2))
  ·exact I.ok.inj x y c a b
 ·rcases wa (env:=X.env) hx with hx' | hx'
  ·obtain⟨c,hc⟩:=I.ok.has x (.inl (S.fr _ hx' rfl).1);exact⟨c,(cl' x hx').trans hc⟩
  ·obtain⟨c,hc⟩:=wH (n:=s.heap.objs.size+1) (S.clN _ hx' rfl);exact⟨c,YQ hc⟩
 ·have z':sc.names.lookup x=some .cell:=by simpa[cxN] using z
  obtain⟨c',hc⟩:=wH (n:=s.heap.objs.size+1) z';have hc':(allC X.env s.heap.objs.size sc).lookup x=some c':=YQ hc;have h':(allC X.env s.heap.objs.size sc).lookup x=some c:=h;have ec:c'=c:=Γ (hc'.symm.trans h');rw[<-ec];exact Nat.le_of_lt (hcl x c' hc).2
 ·obtain⟨o,e⟩:=ho b hb;exact Ν (ν e)
 ·rcases cl x c e with z | z
  ·obtain⟨o,eb⟩:=ho b hb;exact λw=>absurd (ν eb) (by rw[<-w]; exact Nat.not_lt.mpr (Nat.le_of_lt (hcl x c z).2))
  ·exact(hf b hb).2.2.2.2.1 x c z
 ·rcases(hf b hb).2.2.2.1 with z | z
  ·exact I.ok.noex b o e z
  ·exact absurd (Ε (ν e) (Τ I.ok.bsz z)) (Nat.lt_irrefl _)
 ·rcases Φ.mp (I.stkSub b hfs) with z | z
  ·exact(hf b hb).2.1 z
  ·exact(hf b hb).2.2.1 z
 ·have hi:TN.length<=i:=by
   apply Nat.le_of_not_lt
   intro hlt;rw[Δ (by simpa using hlt),List.getElem?_replicate] at h2;split at h2<;>cases h2
  rw[Α (by simpa using hi),Χ] at h2;have h1':F[i-TN.length]? =some x:=by
   have:(TN++F)[i]? =some x:=h1;rw[Α hi] at this;exact this
  have e3:=congrArg (λl=>l[i-TN.length]?) hix;simp only[List.getElem?_map,h1',Option.map_some] at e3;unfold sub at h2;rw[μ] at h2;cases ej:ix[i-TN.length]? with
  | none=>rw[ej] at h2; cases h2
  | some k=>
   rw[ej] at h2 e3;have h2':(σ[k]?).join=some v:=Γ h2;have e3':X.N[k]? =some x:=Γ e3;have hσ:σ[k]? =some (some v):=by
    cases e:σ[k]? with
    | none=>rw[e] at h2'; cases h2'
    | some q=>
     rw[e] at h2';have:q=some v:=h2';rw[this]
   have hfr:=S.ff x (ο h1');have hcell:=(S.fr _ hfr rfl).1;obtain⟨m0,hn0,hl0⟩:=I.loc;obtain⟨u,r,l⟩:=hl0 k x v e3' hσ (.inr (.inl hcell));refine⟨u,r,?_⟩;rcases l with ⟨l1,_⟩ | ⟨_,c,hc,o,ho',hd⟩
   ·have l1':X.env.scope.names.lookup x=some .local:=l1;rw[hcell] at l1';cases l1'
   ·exact .inr ⟨.inl (xJ (env:=X.env) S.okind hcell (S.fr _ hfr rfl).2),c,(cl' x hfr).trans hc,o,hk c o ho',hd⟩
 ·rcases cl x c e with z | z
  ·exact⟨_,(hcl x c z).1⟩
  ·obtain⟨v,o,ho',hd⟩:=I.cell x c z;exact⟨v,o,hk c o ho',hd⟩
 ·rcases cl x c e with z | z
  ·exact I.hok.fresh (Nat.le_of_lt (hcl x c z).2)
  ·exact I.freeC x c z
 ·show _=(TN++F).length;rw[Β,Β,Χ];unfold sub;rw[ε,hlen]
theorem comp_blockN{X:Cx}{ix:List Nat}{tn:Nat->Heap->Prop}
  {RR:Value->Addr->Result->Shared->Prop} {E:Value->Shared->Prop}
  (S:NScope X.env.scope sc TN F) (hix:ix.map (λi=>X.N[i]?)=F.map some) (hc:X.calm=true) (I:Inv X pins σ H s) (T:Turn X.prog X.w X.K tg J fp it tn) (st:tn 0 s.heap) (hf: ∀b∈fp,FpOk X pins H b)
  (hg: ∀cl C fp s3 H3 xe,PG (cxN X (TN++F) sc cl C fp s3 H3 xe) tg g) (ht: ∀cl C fp s3 H3 xe,PTs (cxN X (TN++F) sc cl C fp s3 H3 xe) ifs tc) (he: ∀cl C fp s3 H3 xe,PE (cxN X (TN++F) sc cl C fp s3 H3 xe) elt te)
  (hW: ∀D,H D=none->CGo J D g tc te Q (List.replicate TN.length none++sub ix σ) H)
  (fin: ∀D C H' s',Inv X pins σ H' s'->(∃m,s'.heap.Ns C m)->H' C=none->C≠X.env.locals->X.s₀.heap.objs.size<=C->(∀x c,X.env.cells.lookup x=some c->c≠C)->(∀p∈X.pn++pins,p.1≠C)->Q (.ref D) H'->RR (.ref D) C (.ok .next) s'):
  wpAny (model X.prog X.w) X.A (newList []) (λacc s₃=>wpAny (model X.prog X.w) X.A (newFunctionEnv sc X.env.globals (cloF X.env sc.names []) [] X.env.qual none .none (some X.env)) (λcenv s₄=>
   codeAny (model X.prog X.w) X.A (.compStart (.ListComp elt [⟨tg,iter,ifs,0⟩] sc pos) 0 (.ref it) acc {cenv with scope:=relabel sc X.env}) (RR acc cenv.locals) s₄) E s₃) E s:=by
 have hfo: ∀b∈fp,∃o,s.heap.get? b=some o:=λb hb=>let ⟨o,e,_⟩:=T.obj 0 _ st b hb; ⟨o,e⟩
 refine wpAny_newObj_type ?_;obtain⟨W,⟨m0,w0⟩,go⟩:=hW s.heap.objs.size I.fresh;have I3:Inv X pins σ (upd H s.heap.objs.size (.lst [])) {s with heap:=s.heap.push {cls:= .type "list",data:= .seq ([]:List Value).toArray}}:=I.lnew (its:=[]) (ys:=[]) (t':=s.toks) .nil (Ι _);generalize hs3:({s with heap:=s.heap.push {cls:= .type "list",data:= .seq ([]:List Value).toArray}}:Shared)=s3 at I3;have hk3: ∀b o,s.heap.get? b=some o->s3.heap.get? b=some o:=λb o e=>by
  rw[<-hs3];exact η _ e
 have hf3: ∀b∈fp,FpOk X pins (upd H s.heap.objs.size (.lst [])) b:=λb hb=>by
  obtain⟨o,e⟩:=hfo b hb;exact⟨by rw[zk (Ν (ν e))]; exact(hf b hb).1,(hf b hb).2⟩
 have st3:tn 0 s3.heap:=T.keep 0 _ _ st λb hb o e=>hk3 b o e;show wpAny _ _ _ _ _ s3;refine newEnv_cells (λh4 hn4 hk4 hcl4 hap4=>?_);generalize hR:RR (.ref s.heap.objs.size) s3.heap.objs.size=R;have loop: ∀s4:Shared,s4={s3 with heap:=h4}->
   codeAny (model X.prog X.w) X.A (.compLoop (.ListComp elt [⟨tg,iter,ifs,0⟩] sc pos) 0 (.ref it) (.ref s.heap.objs.size) (compEnvC sc (allC X.env s3.heap.objs.size sc) s3.heap.objs.size X.env)) R s4:=by
  rintro s4 rfl
  let X':Cx:=cxN X (TN++F) sc (allC X.env s3.heap.objs.size sc) s3.heap.objs.size fp s3 (upd H s.heap.objs.size (.lst [])) (notedBy (model X.prog X.w) X.A (compEnvC sc (allC X.env s3.heap.objs.size sc) s3.heap.objs.size X.env) λe s'=>R (.error e) s')
  have I4:Inv X' [] (List.replicate TN.length none++sub ix σ) (upd H s.heap.objs.size (.lst [])) {s3 with heap:=h4}:=
   inv_compN S hix I3 hf3 (λb hb=>let ⟨o,e⟩:=hfo b hb; ⟨o,hk3 b o e⟩) hk4 hn4 hcl4 hap4
  have fpx: ∀{H':Hp},(∀b∈fp,H' b=none)-> ∀b∈fp,FpOk X' [] H' b:=λ{H'} hn b hb=>by
   refine⟨hn b hb,(I4.ok.exf b hb).1,λz=>I4.ok.exfs b hb z,.inl hb,λx c e=>(I4.ok.exf b hb).2 x c e,λp hp=>absurd (show p∈([]:List (Addr×Obj)) from hp) (by simp)⟩
  refine Zo (λn s'=> ∃i τ ys H',Inv X' [] τ H' s'/\tn i s'.heap/\(∀b∈fp,H' b=none)/\W i n τ ys H') ?_ m0 ⟨0,_,[],_,I4,T.keep 0 _ _ st3 λb hb o e=>hk4 b o e,λb hb=>(hf3 b hb).1,w0⟩;rintro n s5 ⟨i,τ,ys,H5,I5,st5,fr5,w5⟩;obtain⟨hD,hgo⟩:=go i n τ ys H5 w5;rcases hgo with ⟨stop,q⟩ | ⟨hgo,step⟩
  ·refine thn (T.done X' rfl rfl rfl hc i [] s5 τ H5 X'.xe I5 (fpx fr5) st5 stop) λr s6 ⟨hr,I6⟩=>?_;subst hr;show R (.ok .next) s6;rw[<-hR];have J6:Inv X pins σ H5 s6:=I3.call' (ch:=fp) I6.os I6.base I6.hok I6.bare λb hb=>⟨(hf3 b hb).2.2.2.1,(hf3 b hb).2.1,(hf3 b hb).2.2.2.2.1,(hf3 b hb).2.2.2.2.2⟩;refine fin s.heap.objs.size s3.heap.objs.size H5 s6 J6 (let ⟨m,hn,_⟩:=I6.loc; ⟨m,hn⟩) I6.free (Ω I3.lt) I3.sz (λx c e z=>?_) (λp hp z=>?_) q
   ·obtain⟨v,o,ho,_⟩:=I3.cell x c e;exact absurd (ν ho) (by rw[z]; exact Nat.lt_irrefl _)
   ·exact absurd (ν (I3.pin p hp).1) (by rw[z]; exact Nat.lt_irrefl _)
  ·refine thn (T.item X' rfl rfl rfl hc i [] s5 τ H5 X'.xe I5 (fpx fr5) st5 hgo) λr s6 ⟨u,hr,h6⟩=>?_;subst hr;refine thn h6 λ_ s7 ⟨v,H7,I7,r7,y7,st7,fr7⟩=>?_;have I7':=I7.pinned (fpx fr7) (T.obj _ _ st7);refine thn (hg _ _ _ _ _ _ _ s7 τ H7 v u _ I7' r7 (step v H7 y7)) λ_ s8 ⟨τ8,H8,I8,q8⟩=>?_;refine thn (ht _ _ _ _ _ _ _ s8 τ8 H8 _ I8 q8) λok s9 ⟨H9,I9,q9⟩=>?_;have again: ∀{ys':List V} {H':Hp} {s':Shared},Inv X' ([]++wT fp s7.heap) τ8 H' s'->(∃m',m'<n/\W (i+1) m' τ8 ys' H')-> ∃m,m<n/\ ∃i τ ys H'',Inv X' [] τ H'' s'/\tn i s'.heap/\(∀b∈fp,H'' b=none)/\W i m τ ys H'':=λ{ys' H' s'} I' ⟨m',hm,w'⟩=>by
    refine⟨m',hm,i+1,τ8,ys',H',I'.unpinned,T.keep _ _ _ st7 λb hb o e=>(I'.pin (b,o) (ω _ (ω _ (yR hb e)))).1,λb hb=>?_,w'⟩;obtain⟨o,e,d⟩:=T.obj _ _ st7 b hb;exact(I'.pin (b,o) (ω _ (ω _ (yR hb e)))).2.1
   cases ok with
   | false=>
    exact again I9 q9
   | true=>
    refine thn (he _ _ _ _ _ _ _ s9 τ8 H9 _ I9 q9) λx s10 ⟨y,H10,I10,r10,hD10,hz10,q10⟩=>?_;exact Zv (X:=X') I10 hD10 hz10 r10 λs11 I11=>again I11 q10
 subst hR;exact codeAny_compStart_list (loop _ rfl) (T.self X.A 0 _ _ _ (T.keep 0 _ _ st3 λb hb o e=>hk4 b o e) (loop _ rfl))
section
variable {X:Cx} {sc:Scope} {TN F:List Str} {ix:List Nat} {elt tg iter:Expr} {ifs:List Expr} {pos:Pos} {g:TG} {tc:TT} {te:TE} {wi:TI}
theorem closure_ofN(S:NScope X.env.scope sc TN F)(I:Inv X pins σ H s):closureFor sc X.env=pure (cloF X.env sc.names []):=
 wm λx hx hk=>I.ok.has x.1 (.inl (S.fr x hx hk).1)
theorem Ye(S:NScope X.env.scope sc TN F)(hix:ix.map (λi=>X.N[i]?)=F.map some)(hc:X.calm=true)(hi:PI X tg iter wi)
  (hg: ∀cl C fp s3 H3 xe,PG (cxN X (TN++F) sc cl C fp s3 H3 xe) tg g) (ht: ∀cl C fp s3 H3 xe,PTs (cxN X (TN++F) sc cl C fp s3 H3 xe) ifs tc) (he: ∀cl C fp s3 H3 xe,PE (cxN X (TN++F) sc cl C fp s3 H3 xe) elt te)
  (hs: ∀x,foldedSetIterable iter X.env x=pure x:=by intro _; rfl):PE X (.ListComp elt [⟨tg,iter,ifs,0⟩] sc pos) (xU wi TN.length ix g tc te):=by
 intro pins s σ H Q I h;rw[eval_ListComp];refine wpAny_comprehension_free (use:=none) rfl hs (closure_ofN S I) S.kind S.names (thn (hi pins s σ H _ I h) λv s1 h1=>thn h1 λitv s2 h2=>?_);obtain⟨it,fp,tn,J,H2,e,I2,T,st2,f2,q2⟩:=h2;subst e;refine comp_blockN (RR:=λacc C=>compPost (model X.prog X.w) X.A X.xe none (EP X pins σ Q) acc C) S hix hc I2 T st2 f2 hg ht he q2 λD C H' s' I' hn hC1 hC2 hC3 hC4 hC5 q=>?_;obtain⟨m,hn⟩:=hn;exact⟨m,hn,λh' hs'=>⟨.ref D,H',I'.turned (t':=s'.toks) (λb o hb e=>(hs'.2 b hb).trans e) hC1 hC2 (.inr hC3) hC4 hC5,rfl,q⟩⟩
end
structure NBScope (o sc:Scope) (TN F G:List Str):Prop extends NScope o sc TN F where
 nd:(TN++F).Nodup:=by decide +kernel
 vis: ∀x∈TN++F,Vis (yG sc o) x:=by decide +kernel
 loc: ∀x∈TN,(yG sc o).names.lookup x=some .local\/((yG sc o).names.lookup x=some .cell/\sc.names.lookup x=some .cell):=by decide +kernel
 gl: ∀x∈G,(yG sc o).names.lookup x=some .globalImplicit:=by decide +kernel
section
variable {X:Cx} {sc:Scope} {TN F G:List Str} {cl:List (Str×Addr)} {C:Addr} {fp:List Addr} {s3:Shared} {H3:Hp} {xe:Value->Shared->Prop} {x:Str} {pos:Pos}
theorem pvbN(S:NBScope X.env.scope sc TN F G)(i:Nat)(hN:(TN++F)[i]? =some x:=by rfl)(hd:(x==("__debug__":Str))=false:=by decide)(hcd:(x==("__classdict__":Str))=false:=by decide):PE (cxN X (TN++F) sc cl C fp s3 H3 xe) (.Name x pos) (tVar i):=
 vC hN (S.vis x (ο hN)) hd hcd
theorem pgbN(S:NBScope X.env.scope sc TN F G)(i:Nat)(hN:(TN++F)[i]? =some x:=by rfl)(hT:TN[i]? =some x:=by rfl):PG (cxN X (TN++F) sc cl C fp s3 H3 xe) (.Name x pos) (zF i):=by
 rcases S.loc x (ο hT) with z | ⟨z,z'⟩
 ·exact vm S.nd hN (.inl z) (.inr z)
 ·exact vm S.nd hN (.inr z) (.inl (by show(sc.names.lookup x==some .cell)=true; rw[z']; rfl))
theorem NBScope.g(S:NBScope X.env.scope sc TN F G)(i:Nat)(hG:G[i]? =some x:=by rfl):Gl (cxN X (TN++F) sc cl C fp s3 H3 xe) x:=S.gl x (ο hG)
end
end L2
namespace PySem
open Sem (wp)
open Builtin
open AutoSeq1 (wpAny_loadPart')
end PySem
namespace L2
open PySem PySem.Spec PyProof.Rows
section
variable {X:Cx}
theorem Zj{c A B:Prop}[Decidable c](h1: ¬c->A)(h2:c->B):if (!decide c)=true then A else B:=by
 by_cases hc:c
 ·rw[decide_eq_true hc];exact h2 hc
 ·rw[decide_eq_false hc];exact h1 hc
end
end L2
namespace HT
open PySem PyProof.Rows
section
variable {prog:Program} {w:World} {A:Around} {E:Value->Shared->Prop} {s:Shared}
theorem getItem_tuple_all{t sl:Addr}{items:Array Value}{vl vu:Value}{lo hi:Option Int}{Q:Value->Shared->Prop}(ht:IsTup s.heap t items)(hs:s.heap.IsSliceOf sl vl vu .none)(pl:IsPart vl lo)(pu:IsPart vu hi)
  (hw:sIx items.size 0 lo=0/\sIx items.size items.size hi=items.size) (h:Q (.ref t) s):wpAny (model prog w) A (getItem (.ref t) (.ref sl)) Q E s:=by
 obtain⟨os,hos,hcs,hds⟩:=id hs;have hTs:s.TypeIs (.ref sl) "slice":=⟨os,hos,hcs⟩;unfold getItem
 try with_reducible refine wpAny_holding ?_
 first | refine γ (ι ?_) | skip
 refine γ (wpAny_sequenceKey ht.typeIs (by decide) ?_);refine γ (wpAny_callSpecial?_slot (name:=Str.ofString "__getitem__") ht.typeIs PyProof.Rows.slot_tuple_getitem
  (wpAny_call_entry PyProof.Rows.slot_tuple_getitem ht.typeIs entry_tuple_getitem ?_ (args_tuple_getitem _ _)))
 show wpAny _ _ (Builtin.Tuple.tupleItemsOf (.ref t)>>=_) _ _ s;refine γ (tupleItemsOf_ ht ?_);refine γ (wpAny_typeOf hTs ?_);rw[if_pos (by decide)];refine γ (xD hs pl pu ?_);have hyes:(((sIx items.size 0 lo:Nat):Int)==0&&(1:Int)==1&&(sIx items.size items.size hi-sIx items.size 0 lo)==items.size)=true:=by
  rw[hw.1,hw.2];simp
 show wpAny _ _ (if (((sIx items.size 0 lo:Nat):Int)==0&&(1:Int)==1&&(sIx items.size items.size hi-sIx items.size 0 lo)==items.size)=true then _ else _) _ _ s;rw[if_pos hyes];refine γ (m:=Builtin.Tuple.tupleIsExact _) ?_;unfold Builtin.Tuple.tupleIsExact;refine γ (wpAny_typeOf ht.typeIs (ι ?_));rw[if_pos (by decide)];refine γ (wpAny_rule ?_)
 first
  | exact ι ⟨_,rfl,ι h⟩
  | exact γ (ι (ι ⟨_,rfl,ι h⟩))
  | exact γ (ι ⟨_,rfl,ι h⟩)
end
end HT
namespace L2
open PySem PySem.Spec PyProof.Rows
section
variable {X:Cx}
def rSlG:V->Option Int->Option Int->Hp->VK->Prop:=λx lo hi H Q=> ∃a xs,x= .ref a/\H a=some (.tup xs)/\ ∀q H',Same H H'->H' q=some (.tup (cutV xs lo hi))->Q (.ref q) H'
theorem Y4:SlR X rSlG:=by
 intro pins s σ H x v vl vu lo hi sl Q I rx hs pl pu h;obtain⟨a,xs,rfl,hH,q⟩:=h;by_cases hw:HT.sIx xs.length 0 lo=0/\HT.sIx xs.length xs.length hi=xs.length
 ·cases rx
  obtain⟨its,r,ht,hz⟩:=I.tuple (SqT.of hH);have hlen:its.toArray.size=xs.length:=by rw[ψ]; exact r.length.symm
  refine⟨"tuple",_,PyProof.Rows.slot_tuple_getitem.lookup,ht.typeIs,?_⟩;refine HT.getItem_tuple_all ht hs pl pu (by rw[hlen]; exact hw) ?_;refine⟨.ref a,H,I,rfl,q a H (Same.refl H) ?_⟩;have e:cutV xs lo hi=xs:=by
   unfold cutV;rw[hw.1,hw.2,List.drop_zero,Nat.sub_zero,List.take_length]
  rw[e];exact hH
 ·exact sl_tup pins s σ H _ v vl vu lo hi sl Q I rx hs pl pu ⟨a,xs,rfl,SqT.of hH,hw,λp hp=>q p _ (Same.new (Same.refl H) hp) zf⟩
def X1:R2:=λx y H Q=> ∃a b xs ys,x= .ref a/\y= .ref b/\H a=some (.tup xs)/\H b=some (.tup ys)/\xs.length+ys.length<=1000/\ ∀q H',Same H H'->H' q=some (.tup (xs++ys))->Q (.ref q) H'
theorem ZJ:OpR X (binaryOp .Add) X1:=by
 intro pins s σ H x y v u Q I rx ry h;obtain⟨a,b,xs,ys,rfl,rfl,ha,hb,hz,q⟩:=h;have hz':xs.length+ys.length<=sizeLine:=Τ hz (by decide);by_cases hx:xs=[]
 ·cases rx
  cases ry
  obtain⟨its,r1,p1,_⟩:=I.tuple (SqT.of ha);obtain⟨its2,r2,p2,_⟩:=I.tuple (SqT.of hb);obtain⟨⟨cls,dd,data,sl⟩,ho,hc,n,hd⟩:=id p1;obtain⟨⟨cls2,dd2,data2,sl2⟩,ho2,hc2,n2,hd2⟩:=id p2;simp only at hc hd hc2 hd2;subst hc hd hc2 hd2;have hv:its=[]:=r1.nil_iff.mpr hx;refine concat_meets ⟨_,ho,rfl⟩ ⟨_,ho2,rfl⟩ noFill_tuple_add seq_tuple_add PySem.F.slot_tuple_add PySem.F.entry_tuple_add (PySem.F.args_tuple_add_2 _ _)
   (tuple_addW0 a b its.toArray its2.toArray n n2 dd dd2 sl sl2 (by simp[hv])) ⟨ho,ho2,?_⟩
  refine⟨.ref b,H,I,rfl,q b H (Same.refl H) ?_⟩;rw[hx,List.nil_append];exact hb
 ·refine op_catT pins s σ H _ _ v u Q I rx ry ⟨a,b,xs,ys,rfl,rfl,SqT.of ha,SqT.of hb,hx,hz',λe=>?_,λ_ p hp=>q p _ (Same.new (Same.refl H) hp) zf⟩;refine q a H (Same.refl H) ?_;rw[e,List.append_nil];exact ha
end
end L2
namespace PySem
open Sem (wp)
open Builtin
open AutoSeq1 (wpAny_loadPart')
end PySem
namespace L2
open PySem PySem.Spec PyProof.Rows
end L2
namespace L2
open PySem PySem.Spec PyProof.Rows G2
structure Kp (S:Hp->Hp->Prop) (D:Addr) (H:Hp):Prop where
 refl:S H (upd H D (.lst []))
 tr: ∀{H1 H2},S H H1->S H1 H2->S H H2
 at': ∀{H1 H2 o},S H H1->S H1 H2->H1 D=some o->H2 D=some o
 put: ∀{H1 o},S H H1->S H (upd H1 D o)
theorem Kp.same(hD:H D=none):Kp Same D H:=⟨Same.new (Same.refl _) hD,λa b=>a.trans b,λ_ b e=>b _ _ e,λa=>a.put hD⟩
section
variable {S:Hp->Hp->Prop} {D:Addr} {te:TE} {Q:VK} {ρ:St} {H:Hp} {K:W.Frag} {a:Addr} {xs:List V}
abbrev GP (S:Hp->Hp->Prop) (Ok:Nat->V->Hp->Prop) (H:Hp) (i:Nat) (ys:List V) (H':Hp):Prop:=S H H'/\ys.length=i/\ ∀(j:Nat) (y:V),ys[j]? =some y->Ok j y H'
theorem vp{Ok:Nat->V->Hp->Prop}(kp:Kp S D H)(mono: ∀{j y H1 H2},TK H1 H2->Ok j y H1->Ok j y H2)(tk: ∀{H1 H2},S H H1->S H1 H2->TK H1 H2)(g:GP S Ok H i ys H')(k:S H' H4)(hD:H4 D=some (.lst ys))(hy:Ok i y H4):GP S Ok H (i+1) (ys++[y]) (upd H4 D (.lst (ys++[y]))):=by
 obtain⟨g1,g2,g3⟩:=g;have t2:TK H4 (upd H4 D (.lst (ys++[y]))):=TK.lst hD;refine⟨kp.put (kp.tr g1 k),by rw[Β,g2]; rfl,λj z hz=>?_⟩;by_cases hj:j<ys.length
 ·rw[Δ hj] at hz;exact mono t2 (mono (tk g1 k) (g3 j z hz))
 ·have hj':j<(ys++[y]).length:=(ξ.mp hz).1;rw[Β,List.length_singleton] at hj';obtain rfl:j=ys.length:=by omega
  rw[Α (θ _),Nat.sub_self] at hz;cases hz
  rw[g2];exact mono t2 hy
theorem YR(Ok:Nat->V->Hp->Prop)(kp:Kp S D H)(mono: ∀{j y H1 H2},TK H1 H2->Ok j y H1->Ok j y H2)(tk: ∀{H1 H2},S H H1->S H1 H2->TK H1 H2)(hn:xs.length<=1000)(src: ∀H',S H H'->SqT K H' a xs)
  (step: ∀i x H' (R:V->Hp->Prop),xs[i]? =some x->S H H'->(∀y H4,S H' H4->Ok i y H4->R y H4)->te (some x::ρ) H' R)
  (q: ∀ys H',GP S Ok H xs.length ys H'->H' D=some (.lst ys)->Q (.ref D) H'):CGo (Itt K a) D (zF 0) tAll te Q (none::ρ) H:=by
 refine ZY (xs:=xs) (λi ys H'=>GP S Ok H i ys H') ⟨kp.refl,rfl,λj y h=>by simp at h⟩ (λi ys H' _ g=>src H' g.1) ?_ q;rintro i x ys H' hx g hDz R S' kR _;have hi:=(ξ.mp hx).1;refine zU (iteT (step i x H' R hx g.1 λy H4 k hy=>kR y H4 (kp.at' g.1 k hDz) (zq (by have:=g.2.1; omega)) (vp (Ok:=Ok) kp mono tk g k (kp.at' g.1 k hDz) hy)))
theorem ZR(Ok:Nat->V->Hp->Prop){lo:Int}{n:Nat}(kp:Kp S D H)(mono: ∀{j y H1 H2},TK H1 H2->Ok j y H1->Ok j y H2)(tk: ∀{H1 H2},S H H1->S H1 H2->TK H1 H2)(hn:n<=1000)
  (step: ∀i H' (R:V->Hp->Prop),i<n->S H H'->(∀y H4,S H' H4->Ok i y H4->R y H4)->te (some (.int (lo+i))::ρ) H' R)
  (q: ∀ys H',GP S Ok H n ys H'->H' D=some (.lst ys)->Q (.ref D) H'):CGo (Itr lo n) D (zF 0) tAll te Q (none::ρ) H:=by
 refine xH (λi ys H'=>GP S Ok H i ys H') ⟨kp.refl,rfl,λj y h=>by simp at h⟩ ?_ q;rintro i ys H' hi g hDz R S' kR _;refine zU (iteT (step i H' R hi g.1 λy H4 k hy=>kR y H4 (kp.at' g.1 k hDz) (zq (by have:=g.2.1; omega)) (vp (Ok:=Ok) kp mono tk g k (kp.at' g.1 k hDz) hy)))
end
end L2
namespace L2
open PySem PySem.Spec PyProof.Rows
theorem Same.none(k:Same H H')(h:H' a= .none):H a= .none:=by
 cases e:H a with
 | none=>rfl
 | some o=>rw[k _ _ e] at h; cases h
section
variable {X:Cx}
def rLnT:List V->Hp->VK->Prop:=λxs H Q=> ∃(p:Addr) (ys:List V),xs=[.ref p]/\H p=some (.tup ys)/\Q (.int ys.length) H
def rLnL:List V->Hp->VK->Prop:=λxs H Q=> ∃(p:Addr) (ys:List V),xs=[.ref p]/\H p=some (.lst ys)/\Q (.int ys.length) H
theorem call_lnL:yk X (.builtin "len") rLnL:=λpins s σ H xs us Q I r h=>zp pins s σ H xs us Q I r (let ⟨p,ys,e,hp,q⟩:=h; ⟨p,ys,e,.inl (SqL.of hp),q⟩)
def Xb:List V->Hp->VK->Prop:=λxs H Q=> ∃(p:Addr) (ys:List V),xs=[.ref p]/\H p=some (.lst ys)/\ ∀q H',Same H H'->H' q=some (.tup ys)->Q (.ref q) H'
theorem zz:yk X (.type "tuple") Xb:=λpins s σ H xs us Q I r h=>wc pins s σ H xs us Q I r (let ⟨p,ys,e,hp,q⟩:=h; ⟨p,ys,e,.inl ⟨SqL.of hp,λl hl=>q l _ (Same.new (Same.refl H) hl) zf⟩⟩)
end
end L2
namespace G2
open PySem L2
end G2
namespace L2
open PySem PySem.Spec PyProof.Rows
abbrev KT (H:Hp):List (List Key×V)->List (List Key×Addr×Value)->Prop:=Paired λp q=>p.1=q.1/\H q.2.1=some (.tup (p.1.map kV))/\RelV p.2 q.2.2
structure M1 (X:Cx) (o:Expr) (m:Str) (apos:Pos) (e:Expr) (cpos:Pos):Prop where
 base:attributeBase o m X.env (eval o X.env)=eval o X.env
 few:((backTo cpos (starEach [e] X.env)).all (λx=> !x.1)&&(backToKw cpos (keywordEach [] X.env)).all (λx=>x.1.isSome)
  &&decide (([e]:List Expr).length+([]:List Keyword).length+(if ([]:List Keyword).isEmpty then 0 else 1)<30))=true
 line:(apos.endLine==cpos.line)=true
 trees:backTo cpos (starEach [e] X.env)=[(false,eval e X.env)]
structure M2 (X:Cx) (o:Expr) (m:Str) (apos:Pos) (e f:Expr) (cpos:Pos):Prop where
 base:attributeBase o m X.env (eval o X.env)=eval o X.env
 few:((backTo cpos (starEach [e,f] X.env)).all (λx=> !x.1)&&(backToKw cpos (keywordEach [] X.env)).all (λx=>x.1.isSome)
  &&decide (([e,f]:List Expr).length+([]:List Keyword).length+(if ([]:List Keyword).isEmpty then 0 else 1)<30))=true
 line:(apos.endLine==cpos.line)=true
 trees:backTo cpos (starEach [e,f] X.env)=[(false,eval e X.env),(false,eval f X.env)]
section
variable {X:Cx} {k:Nat}
def rEqE:R2:=λx y H Q=> ∃(a z:Addr) (xs:List V),x= .ref a/\y= .ref z/\H a=some (.lst xs)/\H z=some (.lst [])/\Q (.bl xs.isEmpty) H
theorem Wa(hr:Room k X.A):OpR X (compareOp .Eq) rEqE:=by
 intro pins s σ H x y v u Q I rx ry h;obtain⟨a,z,xs,rfl,rfl,ha,hz,q⟩:=h;cases rx
 cases ry
 have hu:=hr.units;obtain⟨its,r,pl,_⟩:=I.list (SqL.of ha);obtain⟨its2,r2,pl2,_⟩:=I.list (SqL.of hz);have e2:its2=[]:=r2.nil_iff.mpr rfl;subst e2;cases xs with
 | nil=>
  have e1:its=[]:=r.nil_iff.mpr rfl;subst e1;have R:=SeqAt.RcAt.lists (A:=X.A) (e:=λ_=>true) pl.isList pl2.isList rfl (by omega) (λj h1 h2=>absurd h1 (by simp));exact R X.prog X.w X.xe _ ⟨.bl _,H,I,rfl,q⟩
 | cons y ys=>
  have hne:its≠[]:=λe=>by have:=r.nil_iff.mp e; cases this
  have R:=SeqAt.RcAt.lists_lengths (A:=X.A) pl.isList pl2.isList (by simp[hne]) (by omega);exact R X.prog X.w X.xe _ ⟨.bl _,H,I,rfl,q⟩
def rNeE:R2:=λx y H Q=> ∃(a z:Addr) (xs:List V),x= .ref a/\y= .ref z/\H a=some (.lst xs)/\H z=some (.lst [])/\Q (.bl (!xs.isEmpty)) H
theorem op_neE(hr:Room k X.A):OpR X (compareOp .NotEq) rNeE:=by
 intro pins s σ H x y v u Q I rx ry h;obtain⟨a,z,xs,rfl,rfl,ha,hz,q⟩:=h;cases rx
 cases ry
 have hu:=hr.units;obtain⟨its,r,pl,_⟩:=I.list (SqL.of ha);obtain⟨its2,r2,pl2,_⟩:=I.list (SqL.of hz);have e2:its2=[]:=r2.nil_iff.mpr rfl;subst e2;cases xs with
 | nil=>
  have e1:its=[]:=r.nil_iff.mpr rfl;subst e1;have R:=SeqAt.RcNeAt.lists (A:=X.A) (e:=λ_=>true) pl.isList pl2.isList rfl (by omega) (λj h1 h2=>absurd h1 (by simp));exact R X.prog X.w X.xe _ ⟨.bl _,H,I,rfl,q⟩
 | cons y ys=>
  have hne:its≠[]:=λe=>by have:=r.nil_iff.mp e; cases this
  have R:=SeqAt.RcNeAt.lists_lengths (A:=X.A) pl.isList pl2.isList (by simp[hne]) (by omega);exact R X.prog X.w X.xe _ ⟨.bl _,H,I,rfl,q⟩
end
end L2
namespace PySem.SeqAt
open PySem.MeetsSeq PySem PySem.Spec
end PySem.SeqAt
namespace HT
open PySem PySem.Spec PyProof.Rows
end HT
namespace L2
open PySem PySem.Spec PyProof.Rows
inductive Th where
 | non
 | bl (b:Bool)
 | int (i:Int)
 | str (s:Str)
 | tup (ts:List Th)
 | lst
 | dct
mutual
inductive ThAt (H:Hp):V->Th->Prop
 | non:ThAt H .non .non
 | bl (b:Bool):ThAt H (.bl b) (.bl b)
 | int (i:Int):ThAt H (.int i) (.int i)
 | str (s:Str):ThAt H (.str s) (.str s)
 | tup {p:Addr} {vs:List V} {ts:List Th}:H p=some (.tup vs)->ThsAt H vs ts->ThAt H (.ref p) (.tup ts)
 | lst {p:Addr} {vs:List V}:H p=some (.lst vs)->ThAt H (.ref p) .lst
 | dct {p:Addr} {kvs:List (Key×V)}:H p=some (.dK kvs)->ThAt H (.ref p) .dct
inductive ThsAt (H:Hp):List V->List Th->Prop
 | nil:ThsAt H [] []
 | cons {v:V} {t:Th} {vs:List V} {ts:List Th}:ThAt H v t->ThsAt H vs ts->ThsAt H (v::vs) (t::ts)
end
structure KS (H H':Hp):Prop where
 t: ∀q xs,H q=some (.tup xs)->H' q=some (.tup xs)
 l: ∀q xs,H q=some (.lst xs)-> ∃ys,H' q=some (.lst ys)
 d: ∀q xs,H q=some (.dK xs)-> ∃ys,H' q=some (.dK ys)
section
variable {H H' H'':Hp} {a:Addr}
mutual
theorem ThAt.ks(k:KS H H'):ThAt H v t->ThAt H' v t
 | .non=> .non
 | .bl b=> .bl b
 | .int i=> .int i
 | .str s=> .str s
 | .tup h hs=> .tup (k.t _ _ h) (ThsAt.ks k hs)
 | .lst h=>let ⟨_,h'⟩:=k.l _ _ h; .lst h'
 | .dct h=>let ⟨_,h'⟩:=k.d _ _ h; .dct h'
theorem ThsAt.ks(k:KS H H'):ThsAt H vs ts->ThsAt H' vs ts
 | .nil=> .nil
 | .cons h hs=> .cons (ThAt.ks k h) (ThsAt.ks k hs)
end
end
def Th.tn:Th->String
 | .non=>"NoneType"
 | .bl _=>"bool"
 | .int _=>"int"
 | .str _=>"str"
 | .tup _=>"tuple"
 | .lst=>"list"
 | .dct=>"dict"
def Th.isI:Th->Bool
 | .bl _=>true
 | .int _=>true
 | _=>false
def Th.isT:Th->Bool
 | .tup _=>true
 | _=>false
def GTup (K:W.Frag) (mg:Str->Option Value) (x:Str) (vs:List V):Prop:= ∃(a:Addr) (o:Obj) (its:Array Value) (n:Nat),mg x=some (.ref a)/\K.lookup a=some o/\o.cls= .type "tuple"/\o.data= .seq its n/\its.size<=sizeLine/\Vals vs its.toList
end L2
namespace L2
open PySem PySem.Spec PyProof.Rows Builtin Builtin.Str
end L2
namespace L2
open PySem
end L2
namespace L2
open PySem PyProof.Rows
def sg (x:Str):List Str:=x.cps.toList.map λc=>⟨#[c]⟩
end L2
namespace PySem.W
open PySem PySem.Calls PyProof.Rows
def KasT.eval {α:Type} (lt:Nat->Nat->Bool):KasT α->α
 | .ret a=>a
 | .ask i j k=>(k (lt i j)).eval lt
def KasT.okFor {α:Type} (lt:Nat->Nat->Bool) (n:Nat):KasT α->Bool
 | .ret _=>true
 | .ask i j k=>decide (i<n)&&(decide (j<n)&&(k (lt i j)).okFor lt n)
theorem KasT.eval_wp{cmp:Nat->Nat->(Bool->Shared->Prop)->Shared->Prop}{lt:Nat->Nat->Bool}{Q:α->Shared->Prop}(hc: ∀i j C,C (lt i j) s->i<n->j<n->cmp i j C s): ∀t:KasT α,t.okFor lt n=true->Q (t.eval lt) s->t.kasWp cmp Q s
 | .ret _,_,h=>h
 | .ask i j k,ok,h=>by
  unfold KasT.okFor at ok;rw[Bool.and_eq_true,Bool.and_eq_true] at ok;exact hc i j _ (KasT.eval_wp hc (k (lt i j)) ok.2.2 h) (of_decide_eq_true ok.1) (of_decide_eq_true ok.2.1)
def lexI (fin:Bool):List Int->List Int->Bool
 | x::xs,y::ys=>if x=y then lexI fin xs ys else decide (x<y)
 | _,_=>fin
inductive Nums:List Value->List Int->Prop
 | nil:Nums [] []
 | cons {i:Int} {t:Tok} {us:List Value} {ns:List Int}:Nums us ns->Nums (.int i t::us) (i::ns)
theorem Nums.len: ∀{us:List Value} {ns:List Int},Nums us ns->us.length=ns.length
 | _,_,.nil=>rfl
 | _,_,.cons h=>by rw[List.length_cons,List.length_cons,Nums.len h]
section
variable {prog:Program} {w:World} {A:Around} {E:Value->Shared->Prop} {s:Shared}
theorem Yl{Q:Bool->Shared->Prop}: ∀{us vs:List Value} {xs ys:List Int} (i:Nat),Nums us xs->Nums vs ys->Q (lexI fin xs ys) s->KatLex prog w A true fin Q (us.zip vs) i s
 | _,_,_,_,i,.nil,.nil,h=>h
 | _,_,_,_,i,.nil,.cons _,h=>h
 | _,_,_,_,i,.cons _,.nil,h=>h
 | _,_,x::xs,y::ys,i,.cons (t:=t) (us:=us) h1,.cons (t:=u) (us:=vs) h2,h=>by
  show KatLex prog w A true fin Q ((.int x t,.int y u)::us.zip vs) i s;refine kat_cons (SeqAt.EqAt.int_int x t y u prog w _ _ ?_);by_cases hxy:x=y
  ·rw[show(x==y)=true by simp[hxy]];refine kat_yes (Yl (i+1) h1 h2 ?_);unfold lexI at h;rw[if_pos hxy] at h;exact h
  ·rw[show(x==y)=false by simp[hxy]];unfold lexI at h;rw[if_neg hxy] at h;refine kat_no ?_;rcases Nat.eq_zero_or_pos i with hi | hi
   ·subst hi;exact oneLt_int h
   ·rw[show(true&&i==0)=false by simp; omega];exact kat_one _ _ (lt_int h)
end
end PySem.W
namespace PySem
open Sem (wp)
open AutoSeq1 (wpAny_loadPart')
end PySem
namespace L2
open PySem PySem.Spec PyProof.Rows
section
variable {X:Cx} {k:Nat}
def RowsAt (H:Hp):List Addr->List (List Int)->Prop
 | [],[]=>True
 | a::as,ks::kss=>H a=some (.tup (ks.map V.int))/\RowsAt H as kss
 | _,_=>False
theorem RowsAt.len: ∀{as:List Addr} {kss:List (List Int)},RowsAt H as kss->as.length=kss.length
 | [],[],_=>rfl
 | a::as,ks::kss,h=>by rw[List.length_cons,List.length_cons,RowsAt.len h.2]
 | [],_::_,h=>h.elim
 | _::_,[],h=>h.elim
theorem RowsAt.at: ∀{as:List Addr} {kss:List (List Int)},RowsAt H as kss-> ∀{i:Nat} {a:Addr},as[i]? =some a-> ∃ks,kss[i]? =some ks/\H a=some (.tup (ks.map V.int))
 | a::as,ks::kss,h,0,b,e=>⟨ks,rfl,by
  have:a=b:=by simpa using e
  exact this▸h.1⟩
 | a::as,ks::kss,h,i+1,b,e=>by
  obtain⟨k',h1,h2⟩:=RowsAt.at h.2 (i:=i) (a:=b) (by simpa using e);exact⟨k',by simpa using h1,h2⟩
 | [],[],_,i,b,e=>by simp at e
 | [],_::_,h,_,_,_=>h.elim
 | _::_,[],h,_,_,_=>h.elim
theorem Xj: ∀{ns:List Int} {us:List Value},Vals (ns.map V.int) us->PySem.W.Nums us ns
 | [],_,r=>by
  rw[List.map_nil] at r;cases r
  exact .nil
 | n::ns,_,r=>by
  rw[List.map_cons] at r;cases r with
  | cons r1 r2=>
   obtain⟨t,rfl⟩:=r1;exact .cons (Xj r2)
theorem Vals.getD(r:Vals xs us)(i:Nat):RelV (xs.getD i .non) (us.getD i .none):=by
 induction r generalizing i with
 | nil=>rfl
 | cons h _ ih=>
  cases i with
  | zero=>simpa using h
  | succ i=>simpa using ih i
theorem Vals.perm(r:Vals xs us): ∀p:List Nat,Vals (p.map λi=>xs.getD i .non) (p.map λi=>us.getD i .none)
 | []=> .nil
 | i::p=> .cons (Vals.getD r i) (Vals.perm r p)
end
structure Fly (lo:Nat) (h:Heap) (H:Hp) (a:Addr) (T:Option Addr) (C:Value) (d:Option Addr) (fl:Value):Prop where
 at_: ∃(vs:Array Value) (sl:Array (Option Value)),h.get? a=some ⟨C,d,.fields vs,sl⟩/\
  (match T with
   | none=>vs[1]? =some .none
   | some t=>vs[1]? =some (.ref t)/\t≠a/\ ∃oT ts,h.get? t=some oT/\oT.data= .fields ts/\ts[3]? =some fl)
 lo: ∀b∈a::T.toList,lo<=b/\H b=none
open Builtin Builtin.ObjectAttr
abbrev bmV:List Value:=[.type "ValueError",.type "Exception",.type "BaseException",.type "object"]
inductive OverV:List Value->Prop
 | base:OverV bmV
 | own (a:Addr) {l:List Value}:OverV l->OverV (.ref a::l)
structure XC (K:W.Frag) (C:Addr) (bm:List Value):Prop where
 at_: ∃(nm q:Str) (N:Addr) (bs:List Value) (sn:List Str) (sub:List Value) (ab:Bool) (col:Option Bool) (dd:Option Addr) (k0 k1 k2 k3 k5:Option Value),
  K.lookup C=some (excClassObj nm q C N bs bm true sn sub ab col dd k0 k1 k2 k3 k5 "ValueError.__new__")
 ov:OverV bm
structure XA (K:W.Frag) (C:Addr):Prop where
 bm: ∃bm,XC K C bm
 ga:PySem.W.findIn K (.ref C) "__getattribute__"=some (some (.builtin "BaseException.__getattribute__"))
 gt:PySem.W.findIn K (.ref C) "__getattr__"=some none
 sa:PySem.W.findIn K (.ref C) "__setattr__"=some (some (.builtin "object.__setattr__"))
 cl:PySem.W.findIn K (.ref C) "__class__"=some (some (.builtin "object.__class__"))
 sg:PySem.W.specialIn K (.builtin "object.__class__") "__get__"=some (some (.builtin "getset_descriptor.__get__"))
 tk:PySem.W.takesIn K (.builtin "object.__class__")=some true
end L2
namespace PySem
open Sem (wp)
open Builtin Builtin.ObjectAttr
open L2 (OverV)
section
variable {prog:Program} {w:World} {A:Around} {E:Value->Shared->Prop} {h:Heap} {g:Array GenState} {d:Drawn} {t:Nat} {os:OsState}
variable {nm q:Str} {C N:Addr} {bs bm:List Value} {sn:List Str} {sub:List Value} {ab:Bool} {col:Option Bool} {dd:Option Addr} {k0 k1 k2 k3 k5:Option Value}
end
end PySem
namespace PySem
open Sem (wp)
open Builtin Builtin.ObjectAttr
open L2 (OverV XC XA bmV)
section
variable {prog:Program} {w:World} {A:Around} {E:Value->Shared->Prop} {h:Heap} {g:Array GenState} {d:Drawn} {t:Nat} {os:OsState}
variable {nm q:Str} {C N x:Addr} {bs bm:List Value} {sn:List Str} {sub:List Value} {ab:Bool} {col:Option Bool} {dd:Option Addr} {k0 k1 k2 k3 k5:Option Value}
 {mA:Str->Option Value} {name:Str} {v:Value}
end
section
variable {prog:Program} {w:World} {A:Around} {E:Value->Shared->Prop} {h:Heap} {g:Array GenState} {d:Drawn} {t:Nat} {os:OsState} {K:W.Frag}
variable {nm q:Str} {C N x:Addr} {bs bm:List Value} {sn:List Str} {sub:List Value} {ab:Bool} {col:Option Bool} {dd:Option Addr} {k0 k1 k2 k3 k5:Option Value}
 {name:Str} {v:Value} {ox:Obj} {od:Option Obj}
end
end PySem
namespace L2
open PySem PySem.Spec PyProof.Rows
def XDct (dx:Addr) (fs:List (Str×V)):HO:= .ext λh=> ∃mA,h.Ns1 dx mA/\(∀f,RelO (fs.lookup f) (mA f))/\PySem.Within mA (fs.map (·.1))
end L2
namespace PySem
open Sem (wp)
open L2 (OverV)
section
variable {M:Model} {A:Around} {E:Value->Shared->Prop} {env:Env}
variable {nm q:Str} {C N:Addr} {bs bm:List Value} {sn:List Str} {sub:List Value} {ab:Bool} {col:Option Bool} {dd:Option Addr} {k0 k1 k2 k3 k5:Option Value}
end
end PySem
namespace L2
open PySem PySem.Spec PyProof.Rows
structure XMk (K:W.Frag) (C f:Addr):Prop where
 init:PySem.W.findIn K (.ref C) "__init__"=some (some (.ref f))
 fn:PySem.W.isFn K (.ref f)=true
 kp:PySem.W.keepIn K (.ref C)=true
 xa:XA K C
end L2
namespace PySem
open Sem (wp)
open L2 (OverV)
end PySem
namespace L2
open PySem PySem.Spec PyProof.Rows
abbrev Cx.tr (X:Cx) (pn:List (Addr×Obj)) (xe:Value->Shared->Prop):Cx:={X with pn:=pn,xe:=xe}
abbrev Cx.hdl (X:Cx) (a:Addr):Cx:={X with A:=X.A.mark (some (.ref a)),calm:=false,xe:=λ_ _=>False}
end L2
namespace PySem
open Sem (wp)
open Builtin Builtin.ObjectAttr
open L2 (OverV XC XA bmV)
section
variable {prog:Program} {w:World} {A:Around} {E:Value->Shared->Prop} {h:Heap} {g:Array GenState} {d:Drawn} {t:Nat} {os:OsState} {K:W.Frag}
variable {nm q:Str} {C N x:Addr} {bs bm:List Value} {sn:List Str} {sub:List Value} {ab:Bool} {col:Option Bool} {dd:Option Addr} {k0 k1 k2 k3 k5:Option Value}
 {ox:Obj} {od:Option Obj}
end
end PySem
namespace L2
open PySem PySem.Spec PyProof.Rows
structure XUni (K:W.Frag) (mg:Str->Option Value) (D:Addr) (cs:List (Str×Addr)):Prop where
 base:XC K D bmV
 mD:mg "DropError"=some (.ref D)
 cls: ∀c∈cs,mg c.1=some (.ref c.2)/\XC K c.2 (.ref D::bmV)/\XA K c.2
 nd:(D::cs.map (·.2)).Nodup
end L2
namespace PySem
open Sem (wp)
open L2 (OverV bmV)
section
variable {prog:Program} {w:World} {A:Around} {E:Value->Shared->Prop} {h:Heap} {g:Array GenState} {d:Drawn} {t:Nat} {os:OsState}
variable {nm q:Str} {C N:Addr} {bs:List Value} {sn:List Str} {sub:List Value} {ab:Bool} {col:Option Bool} {dd:Option Addr} {k0 k1 k2 k3 k5:Option Value}
end
end PySem
namespace L2
open PySem PySem.Spec PyProof.Rows
structure FnOkH (P:Program) (w:World) (K:W.Frag) (mg:Str->Option Value) (base:Heap) (k:Nat) (f:Addr) (fd:FuncData) (ps:List Str) (sp:Sp):Prop where
 len: ∀vs H Q E,sp vs H Q E->vs.length=ps.length
 run: ∀(A:Around) (a:Addr) (outer:List Env) (s:Shared) (H:Hp) (args:Args) (us:List Value) (vs:List V) (Q:VK),Room k A->Env0 P w K mg base A outer s H->BindsTo s fd args (ps.zip us)->Vals vs us->sp vs H Q E0->
  codeAny (model P w) (A.mark (some (.ref a))) (.call (.ref f) args) (CR CX0 outer P w H s Q E0) s
structure XBase (K:W.Frag) (C:Addr):Prop where
 at_: ∃(nm q:Str) (N:Addr) (bs:List Value) (sn:List Str) (sub:List Value) (ab:Bool) (col:Option Bool) (dd:Option Addr) (k0 k1 k2 k3 k5:Option Value),
  K.lookup C=some (excClassObj nm q C N bs bmV true sn sub ab col dd k0 k1 k2 k3 k5 "ValueError.__new__")
 fi:PySem.W.findIn K (.ref C) "__init__"=some (some (.builtin "ValueError.__init__"))
 kp:PySem.W.keepIn K (.ref C)=true
section
variable {pr:Program} {wo:World} {Ar:Around} {E:Value->Shared->Prop} {s:Shared}
abbrev eS (led:Bool):Obj:={cls:= .type "set",dict:=none,data:= .set #[] 0 (.fresh 0 0 led)}
end
end L2
namespace L2
open PySem
structure Bl (mg:Str->Option Value):Prop where
 len:mg "len"=none
 range:mg "range"=none
 tuple:mg "tuple"=none
 int:mg "int"=none
 bool:mg "bool"=none
 list:mg "list"=none
 str:mg "str"=none
 all:mg "all"=none
 any:mg "any"=none
 isi:mg "isinstance"=none
 repr:mg "repr"=none
 zip:mg "zip"=none
 min:mg "min"=none
 max:mg "max"=none
 sum:mg "sum"=none
 enu:mg "enumerate"=none
 sorted:mg "sorted"=none
 set:mg "set"=none
 dict:mg "dict"=none
 abs:mg "abs"=none
def Kn (mg:Str->Option Value) (x:Str) (i:Int):Prop:= ∃t,mg x=some (Value.int i t)
def KnS (mg:Str->Option Value) (x:Str) (a:Str):Prop:= ∃t,mg x=some (Value.str a t)
theorem pe_k{X:Cx}(h:Kn X.mg x i)(hg:Gl X x:=by rfl)(hd:(x==("__debug__":Str))=false:=by decide):PE X (.Name x pos) (tC (.int i)):=by
 obtain⟨t,e⟩:=h;exact pe_glob hg e ⟨t,rfl⟩ hd
theorem WU{X:Cx}(hm:X.mg "range"=none)(ha:PA X [a,b] ta)(hg:Gl X "range":=by rfl)(h:zM a=false:=by rfl)(h':zM b=false:=by rfl):PI X tg (.Call (.Name "range" p) [a,b] [] pos) (Xs ta):=pi_range2 hg hm ha (by rw[xj h,xj h']; rfl) (by rw[xj h']; rfl)
theorem w_forR2(h:ta σ H λvs H1=> ∃i j:Int,vs=[.int i,.int j]/\(-(2^62)<=i/\i<2^62/\ -(2^62)<=j/\j<2^62)/\ForJ (Itr i (j-i).toNat) g tb D σ H1):tFor (Xs ta) g tb D σ H:=h
theorem w_compR2(h:ta σ H λvs H1=> ∃i j:Int,vs=[.int i,.int j]/\(-(2^62)<=i/\i<2^62/\ -(2^62)<=j/\j<2^62)/\ ∀D,H1 D=none->CGo (Itr i (j-i).toNat) D g tc te Q (List.replicate n none++sub ix σ) H1):xU (Xs ta) n ix g tc te σ H Q:=h
theorem iteP{c A B:Prop}[Decidable c](hc:c)(h:A):if decide c=true then A else B:=by rw[decide_eq_true hc]; exact iteT h
theorem iteQ{c A B:Prop}[Decidable c](hc: ¬c)(h:B):if decide c=true then A else B:=by rw[decide_eq_false hc]; exact iteF h
end L2
namespace L2
open PySem PySem.Spec PyProof.Rows Builtin Builtin.Str
section
variable {X:Cx}
def isT (b:Str):Value->Bool
 | .str a _=>decide (a=b)
 | _=>false
end
end L2
namespace PT
open PySem L2 G2
def fT (i:Int):Str:=Str.ofString (toString i)
def inF (y:Str):Bool:= !(Builtin.Str.occurrences "0123456789" y 0 (Str.length "0123456789") 1).isEmpty
def figB (x:Str):Bool:=decide (x.length<=10)&&(sg x).all inF&&(match x.cps.toList with | []=>false | c::_=>decide (x="0") || !decide ((⟨#[c]⟩:Str)="0"))
def inL (y:Str):Bool:= !(Builtin.Str.occurrences "abcdefghijklmnopqrstuvwxyz" y 0 (Str.length "abcdefghijklmnopqrstuvwxyz") 1).isEmpty
def noNames:List Str:=["sorts","begin","in","out","rule","to"]
def WX (x:Str):Bool:=decide (1<=x.length)&&decide (x.length<=8)&& !decide (x∈noNames)&&(sg x).all inL&&x.cps.toList.all λc=>decide (97<=c)&&decide (c<=122)
structure Cnt (i:Int):Prop where
 fig:figB (fT i)=true
 l2:(fT i).length<=2
 rd:PySem.intText? (fT i)=some i
 ch: ∀c∈(fT i).cps.toList,48<=c/\c<=57
 lg:i.natAbs.log2<1920
structure Wd (w:Str):Prop where
 l:w.length<=8
 ch: ∀c∈w.cps.toList,33<=c/\c<=127
structure Nme (x:Str):Prop where
 b:WX x=true
 l1:1<=x.length
 l8:x.length<=8
 no:x∉noNames
 al:(sg x).all inL=true
 ch: ∀c∈x.cps.toList,97<=c/\c<=122
structure Sd (m:Nat) (cs:List Int):Prop where
 l:cs.length=m
 b: ∀c∈cs,0<=c/\c<=9
structure PD where
 nm:List Str
 rl:List (List Int×List Int)
 ins:List Int
 beg:List Int
 ans:Int
structure PD.ok (d:PD) (m:Nat):Prop where
 nl:d.nm.length=m
 nd:d.nm.Nodup
 nb: ∀x∈d.nm,WX x=true
 m0:0<m
 m8:m<=8
 r8:d.rl.length<=8
 rs: ∀r∈d.rl,Sd m r.1/\Sd m r.2/\(∃x∈r.1,0<x)/\r.1≠r.2
 hi: ∀i∈d.ins,0<=i/\i<m
 i3:d.ins.length<=3
 inn:d.ins.Nodup
 bl:d.beg.length=m
 hb: ∀b∈d.beg,0<=b/\b<=99
 ha:0<=d.ans/\d.ans<m
end PT
namespace L2
open PySem PySem.Spec PyProof.Rows
def TupF (H:Hp) (l:Addr) (ys:List V):Prop:= ∃o,H l=some (.frz o (.tup ys))/\o.dict=none/\o.cls= .type "tuple"
end L2
namespace L2
open PySem
end L2
namespace PT
open PySem L2 G2
structure KP (mg:Str->Option Value):Prop where
 sorts:Kn mg "SORTS" 0
 rules:Kn mg "RULES" 1
 inputs:Kn mg "INPUTS" 2
 begin:Kn mg "BEGIN" 3
 answer:Kn mg "ANSWER" 4
 takes:Kn mg "TAKES" 0
 gives:Kn mg "GIVES" 1
structure KR (K:W.Frag) (mg:Str->Option Value):Prop where
 fig:KnS mg "FIGURES" "0123456789"
 lets:KnS mg "LETTERS" "abcdefghijklmnopqrstuvwxyz"
 no:GTup K mg "NO_NAMES" (noNames.map V.str)
 mlet:Kn mg "MOST_LETTERS" 8
 msor:Kn mg "MOST_SORTS" 8
 mbeg:Kn mg "MOST_BEGIN" 99
 minp:Kn mg "MOST_INPUTS" 3
 mrul:Kn mg "MOST_RULES" 8
 mdro:Kn mg "MOST_DROPS" 9
 mfig:Kn mg "MOST_FIGURES" 2
 l0:Kn mg "SORTS_LINE" 0
 l1:Kn mg "BEGIN_LINE" 1
 l2:Kn mg "IN_LINE" 2
 l3:Kn mg "OUT_LINE" 3
 l4:Kn mg "FIRST_RULE" 4
def RlD (H:Hp) (r:Addr) (x:List Int×List Int):Prop:= ∃a b,H r=some (.tup [.ref a,.ref b])/\H a=some (.tup (x.1.map V.int))/\H b=some (.tup (x.2.map V.int))
def RlsD (H:Hp):List Addr->List (List Int×List Int)->Prop
 | [],[]=>True
 | r::rs,x::xs=>RlD H r x/\RlsD H rs xs
 | _,_=>False
structure PotF (fz:Bool) (H:Hp) (p:Addr) (d:PD):Prop where
 ex: ∃(ps pr pin pb:Addr) (rs:List Addr),H p=some (.tup [.ref ps,.ref pr,.ref pin,.ref pb,.int d.ans])/\(if fz=true then TupF H ps (d.nm.map V.str) else H ps=some (.tup (d.nm.map V.str)))/\H pr=some (.tup (rs.map V.ref))/\RlsD H rs d.rl/\
  H pin=some (.tup (d.ins.map V.int))/\H pb=some (.tup (d.beg.map V.int))
end PT
namespace L2
open PySem PySem.Spec PyProof.Rows
theorem SqT.sm{K:W.Frag}{H H':Hp}{a:Addr}{xs:List V}(e:Same H H')(h:SqT K H a xs):SqT K H' a xs:=by
 rcases h with (h | ⟨o,h⟩) | h
 ·exact .inl (.inl (e _ _ h))
 ·exact .inl (.inr ⟨o,e _ _ h⟩)
 ·exact .inr h
section
variable {D:Addr} {te:TE} {Q:VK} {ρ:St} {H:Hp}
theorem YV{K:W.Frag}{a:Addr}{α:Type}{ws:List α}(c r:α->V)(hs:SqT K H a (ws.map c))(hn:ws.length<=1000)(hD:H D=none)
  (h: ∀w∈ws,∀H',Same H H'-> ∀R:V->Hp->Prop,(∀H'',Same H' H''->R (r w) H'')->te (some (c w)::ρ) H' R)
  (q: ∀H',Same H H'->H' D=some (.lst (ws.map r))->Q (.ref D) H'):CGo (Itt K a) D (zF 0) tAll te Q (none::ρ) H:=by
 refine ZY (xs:=ws.map c) (λi ys H'=>ys=(ws.take i).map r/\Same H H') ⟨rfl,Same.new (Same.refl H) hD⟩ (λi ys H' _ ⟨_,k'⟩=>SqT.sm k' hs) ?_ ?_
 ·rintro i x ys H' hx ⟨rfl,K'⟩ hDy R S kR _;have hi:i<ws.length:=by
   have:=(ξ.mp hx).1;simpa using this
  have ex:x=c ws[i]:=by
   rw[μ,δ hi] at hx;exact(Γ hx).symm
  subst ex;refine zU (iteT ?_);refine h _ (Ο hi) H' K' _ λH2 K2=>?_;refine kR _ _ (K2 _ _ hDy) (by rw[ε,List.length_take]; exact zq (by omega)) ⟨?_,(K'.trans K2).put hD⟩;rw[List.take_add_one,δ hi,Μ];rfl
 ·rintro ys H1 ⟨rfl,K1⟩ e1;rw[ε,List.take_length] at e1;exact q H1 K1 e1
theorem xO{lo:Int}{n:Nat}(r:Nat->V)(hn:n<=1000)(hD:H D=none)
  (h: ∀i,i<n-> ∀H',Same H H'-> ∀R:V->Hp->Prop,(∀H'',Same H' H''->R (r i) H'')->te (some (.int (lo+i))::ρ) H' R)
  (q: ∀H',Same H H'->H' D=some (.lst ((List.range n).map r))->Q (.ref D) H'):CGo (Itr lo n) D (zF 0) tAll te Q (none::ρ) H:=by
 refine xH (n:=n) (λi ys H'=>ys=(List.range i).map r/\Same H H') ⟨rfl,Same.new (Same.refl H) hD⟩ ?_ ?_
 ·rintro i ys H' hi ⟨rfl,K'⟩ hDy R S kR _;refine zU (iteT ?_);refine h i hi H' K' _ λH2 K2=>?_;refine kR _ _ (K2 _ _ hDy) (by rw[ε,Ξ]; exact zq (by omega)) ⟨?_,(K'.trans K2).put hD⟩;rw[List.range_succ,Μ];rfl
 ·rintro ys H1 ⟨rfl,K1⟩ e1;exact q H1 K1 e1
theorem vZ{K:W.Frag}{a:Addr}{α:Type}{ws:List α}(c r:α->V)(hs:H a=some (.lst (ws.map c)))(hn:ws.length<=1000)(hD:H D=none)
  (h: ∀w∈ws,∀H',Same H H'-> ∀R:V->Hp->Prop,(∀H'',Same H' H''->R (r w) H'')->te (some (c w)::ρ) H' R)
  (q: ∀H',Same H H'->H' D=some (.lst (ws.map r))->Q (.ref D) H'):CGo (Itl K a) D (zF 0) tAll te Q (none::ρ) H:=by
 refine vY (xs:=ws.map c) (λi ys H'=>ys=(ws.take i).map r/\Same H H') ⟨rfl,Same.new (Same.refl H) hD⟩ (λi ys H' _ ⟨_,k'⟩=>SqL.of (k' _ _ hs)) ?_ ?_
 ·rintro i x ys H' hx ⟨rfl,K'⟩ hDy R S kR _;have hi:i<ws.length:=by
   have:=(ξ.mp hx).1;simpa using this
  have ex:x=c ws[i]:=by
   rw[μ,δ hi] at hx;exact(Γ hx).symm
  subst ex;refine zU (iteT ?_);refine h _ (Ο hi) H' K' _ λH2 K2=>?_;refine kR _ _ (K2 _ _ hDy) (by rw[ε,List.length_take]; exact zq (by omega)) ⟨?_,(K'.trans K2).put hD⟩;rw[List.take_add_one,δ hi,Μ];rfl
 ·rintro ys H1 ⟨rfl,K1⟩ e1;rw[ε,List.take_length] at e1;exact q H1 K1 e1
end
end L2
namespace L2
open PySem PySem.Spec PyProof.Rows Builtin Builtin.Str
section
variable {X:Cx}
def X0:List V->Hp->VK->Prop:=λxs H Q=> ∃(x:Str),xs=[.str x]/\x.cps.size<=1000/\ ∀l,H l=none->Q (.ref l) (upd H l (.lst ((sg x).map V.str)))
end
end L2
namespace PT
open PySem L2 G2
abbrev Bad:=Nat×Nat
def nameP (x:Str):Bool:=decide (1<=x.length)&&(decide (x.length<=8)&&(!decide (x∈noNames)&&(sg x).all inL))
def val (x:Str):Int:=(PySem.intText? x).getD 0
def plc (x:Str):List Str->Option Nat
 | []=>none
 | y::r=>if y=x then some 0 else (plc x r).map (· +1)
def rSort (ws:List Str) (z i:Nat) (nm:List Str):Except Bad Nat:=match plc (ws.getD i "") nm with
 | some q=> .ok q
 | none=> .error (z,i)
def rIn (ws nm:List Str):Nat->Nat->List Int->Except Bad (List Int)
 | 0,_,acc=> .ok acc
 | n+1,i,acc=>match rSort ws 2 i nm with
  | .error b=> .error b
  | .ok q=>if acc.length=3\/(q:Int)∈acc then .error (2,i) else rIn ws nm n (i+1) (acc++[(q:Int)])
def Bd (cA:Addr) (H:Hp) (E:XK) (b:Bad):Prop:= ∀dx H',Same H H'->H' dx=none->E (.ref cA) (some dx) (upd H' dx (XDct dx [("line",.int (b.1:Int)),("word",.int (b.2:Int))]))
def nums (lo n:Nat):List Str:=(List.range n).map λk=>fT ((lo+k:Nat):Int)
def gdW (h:Nat) (sorts:List Str) (x:Str):Bool:=if h=0 then nameP x else if h=1 then decide (x∈nums 0 100) else decide (x∈sorts)
def hfB (h most:Nat) (ws sorts:List Str) (i:Nat):Prop:=most<i\/gdW h sorts (ws.getD i "")=false\/((h=0\/h=2)/\ws.getD i ""∈(ws.take i).drop 1)
instance {h most:Nat} {ws sorts:List Str} {i:Nat}:Decidable (hfB h most ws sorts i):=by unfold hfB; infer_instance
def hfGo (h most:Nat) (ws sorts:List Str):Nat->Nat->Option Nat
 | 0,_=>none
 | n+1,i=>if hfB h most ws sorts i then some i else hfGo h most ws sorts n (i+1)
def hf (h least most:Nat) (ws sorts:List Str):Option Nat:=match hfGo h most ws sorts (ws.length-1) 1 with
 | some i=>some i
 | none=>if ws.length<=least then some ws.length else none
def sfT (ws:List Str) (to:Bool) (m i:Nat) (cs:List Int):Prop:=i<ws.length/\(¬(to=true/\ws.getD i ""="to")\/cs=List.replicate m 0)
instance {ws:List Str} {to:Bool} {m i:Nat} {cs:List Int}:Decidable (sfT ws to m i cs):=by unfold sfT; infer_instance
def eo {α:Type} (r:Except Bad α) (k:Option Bad):Option Bad:=match r with
 | .error b=>some b
 | .ok _=>k
end PT
namespace L2
open PySem PySem.Spec PyProof.Rows Builtin Builtin.Str
end L2
namespace PT
open PySem L2 G2
def wl (ws:List Str):Nat:=(ws.map λw=>w.length+1).sum
end PT
namespace L2
open PySem PySem.Spec PyProof.Rows
end L2
namespace L2
open PySem PySem.Spec PyProof.Rows G2
section
variable {S:Hp->Hp->Prop} {D:Addr} {te:TE} {Q:VK} {ρ:St} {H:Hp} {K:W.Frag} {a b:Addr} {xs zs:List V} {n:Nat}
theorem gm_zpl(Ok:Nat->V->Hp->Prop)(n1:n<=xs.length)(n2:n<=zs.length)(n3:xs.length<=n\/zs.length<=n)(hD:H D=none)(mono: ∀{j y H1 H2},TK H1 H2->Ok j y H1->Ok j y H2)(hn:n<=1000)(ha:H a=some (.lst xs))(hb:H b=some (.lst zs))
  (step: ∀i x z H' (R:V->Hp->Prop),i<n->xs[i]? =some x->zs[i]? =some z->Same H H'->(∀y H4,Same H' H4->Ok i y H4->R y H4)->te (some x::some z::ρ) H' R)
  (q: ∀ys H',GP Same Ok H n ys H'->H' D=some (.lst ys)->Q (.ref D) H'):CGo (Itzl K a b) D (gTup K 2 (yj (zF 0) (yj (zF 1) gNil))) tAll te Q (none::none::ρ) H:=by
 have kp:=Kp.same hD;refine XI n1 n2 n3 (λi ys H'=>GP Same Ok H i ys H') ⟨kp.refl,rfl,λj y h=>by simp at h⟩ (λi ys H' _ g=>⟨SqL.of (g.1 _ _ ha),SqL.of (g.1 _ _ hb)⟩) ?_ q;rintro i x z ys H' p hi hx hz g hDz hp R S' kR _;have kn:Same H' (upd H' p (.tup [x,z])):=Same.new (Same.refl _) hp;refine zU (iteT (step i x z _ R hi hx hz (g.1.trans kn) λy H4 k hy=>?_));have k':=kn.trans k;exact kR y H4 (k' _ _ hDz) (zq (by have:=g.2.1; omega)) (vp (Ok:=Ok) kp mono (λ_ b=>TK.same b) g k' (k' _ _ hDz) hy)
end
end L2
namespace EL
inductive Sp (S:(Nat->Int)->Prop):(Nat->Int)->Prop
 | of {v}:S v->Sp S v
 | zero:Sp S (λ_=>0)
 | add {u v}:Sp S u->Sp S v->Sp S (λj=>u j+v j)
 | smul {u} (c:Int):Sp S u->Sp S (λj=>c*u j)
 | div {u} {c:Int}:c≠0->Sp S (λj=>c*u j)->Sp S u
theorem Sp.le{S T:(Nat->Int)->Prop}(h: ∀v,S v->Sp T v){v:Nat->Int}(p:Sp S v):Sp T v:=by
 induction p with
 | of a=>exact h _ a
 | zero=>exact .zero
 | add _ _ a b=>exact .add a b
 | smul c _ a=>exact .smul c a
 | div hc _ a=>exact .div hc a
theorem Sp.lin{S:(Nat->Int)->Prop}{u v w:Nat->Int}(hd:d≠0)(hu:Sp S u)(hv:Sp S v)(h: ∀j,d*w j=a*u j+b*v j):Sp S w:=by
 refine .div hd ?_;rw[show(λj=>d*w j)=(λj=>a*u j+b*v j) from funext h];exact .add (.smul a hu) (.smul b hv)
theorem Sp.nought{S:(Nat->Int)->Prop}(φ:(Nat->Int)->Int)(ha: ∀u v,φ (λj=>u j+v j)=φ u+φ v)(hs: ∀(c:Int) u,φ (λj=>c*u j)=c*φ u)(h0: ∀v,S v->φ v=0){v:Nat->Int}(p:Sp S v):φ v=0:=by
 induction p with
 | of a=>exact h0 _ a
 | zero=>
  have:=hs 0 (λ_=>0);simpa using this
 | add _ _ a b=>rw[ha,a,b]; rfl
 | smul c _ a=>rw[hs,a,Int.mul_zero]
 | div hc _ a=>
  rw[hs] at a;exact(Int.mul_eq_zero.mp a).resolve_left hc
def cf (xs:List Int):Nat->Int:=λj=>xs.getD j 0
def SpR (rows:List (List Int)):(Nat->Int)->Prop:=Sp (λv=> ∃r∈rows,v=cf r)
theorem SpR.mem(h:r∈rows):SpR rows (cf r):= .of ⟨r,h,rfl⟩
theorem SpR.le(h: ∀r∈R,SpR T (cf r)){v:Nat->Int}(p:SpR R v):SpR T v:=Sp.le (λv ⟨r,hr,e⟩=>e▸h r hr) p
def gcdL (xs:List Int):Nat:=xs.foldl (λg x=>Nat.gcd g x.natAbs) 0
theorem Ys: ∀(xs:List Int) (g:Nat),xs.foldl (λg x=>Nat.gcd g x.natAbs) g ∣ g/\ ∀x∈xs,xs.foldl (λg x=>Nat.gcd g x.natAbs) g ∣ x.natAbs
 | [],g=>⟨Nat.dvd_refl g,λx h=>nomatch h⟩
 | y::xs,g=>by
  obtain⟨h1,h2⟩:=Ys xs (Nat.gcd g y.natAbs);refine⟨Nat.dvd_trans h1 (Nat.gcd_dvd_left _ _),λx hx=>?_⟩;rcases Φ.mp hx with rfl | hx
  ·exact Nat.dvd_trans h1 (Nat.gcd_dvd_right _ _)
  ·exact h2 x hx
theorem xG(h:x∈xs):gcdL xs ∣ x.natAbs:=(Ys xs 0).2 x h
theorem Yw: ∀(xs:List Int) (g:Nat),d ∣ g->(∀x∈xs,d ∣ x.natAbs)->d ∣ xs.foldl (λg x=>Nat.gcd g x.natAbs) g
 | [],_,h,_=>h
 | y::xs,g,h,k=>Yw xs _ (Nat.dvd_gcd h (k y υ)) λx hx=>k x (χ _ hx)
theorem Yv(h: ∀x∈xs,d ∣ x.natAbs):d ∣ gcdL xs:=Yw xs 0 (Nat.dvd_zero d) h
theorem xc(h:gcdL xs=0): ∀x∈xs,x=0:=λx hx=>by
 have:=xG hx;rw[h,Nat.zero_dvd] at this;omega
theorem x8(h:x∈xs)(h0:x≠0):gcdL xs<=x.natAbs:=Nat.le_of_dvd (by omega) (xG h)
theorem Xv(h:gcdL xs≠0): ∃x∈xs,x≠0:=by
 refine Classical.byContradiction λhn=>h ?_;have: ∀x∈xs,0 ∣ x.natAbs:=λx hx=>by
  have:x=0:=Classical.byContradiction λq=>hn ⟨x,hx,q⟩;rw[this];exact Nat.dvd_refl 0
 exact Nat.zero_dvd.mp (Yv this)
def wd (xs:List Int):List Int:=xs.map λx=>if 0<gcdL xs then x / (gcdL xs:Int) else 0
theorem Zx(xs:List Int):(wd xs).length=xs.length:=ε _
def dv (xs:List Int):Int:=if 0<gcdL xs then (gcdL xs:Int) else 1
theorem YU(xs:List Int):0<dv xs:=by
 unfold dv;split<;>omega
theorem Zw(h:x∈xs):dv xs*(if 0<gcdL xs then x / (gcdL xs:Int) else 0)=x:=by
 unfold dv;split
 ·exact Int.mul_ediv_cancel' (Int.ofNat_dvd_left.mpr (xG h))
 ·rw[xc (by omega) x h];rfl
theorem getD_mem{xs:List α}{d:α}(h:j<xs.length):xs.getD j d∈xs:=by
 rw[ζ,δ h];exact Ο h
theorem xF{xs:List α}{d:α}(h:xs.length<=j):xs.getD j d=d:=by
 rw[ζ,List.getElem?_eq_none h];rfl
theorem getD_map'(f:α->β){xs:List α}{d:β}{e:α}(h:j<xs.length):(xs.map f).getD j d=f (xs.getD j e):=by
 rw[ζ,ζ,μ,δ h];rfl
theorem XS(xs:List Int)(j:Nat):dv xs*cf (wd xs) j=cf xs j:=by
 unfold cf;by_cases h:j<xs.length
 ·unfold wd;rw[getD_map' (e:=0) _ h];exact Zw (getD_mem h)
 ·rw[xF (by rw[Zx]; omega),xF (by omega),Int.mul_zero]
theorem natAbs_le_mul{d y x:Int}(hd:0<d)(h:d*y=x):y.natAbs<=x.natAbs:=by
 rw[<-h,Int.natAbs_mul];exact Nat.le_mul_of_pos_left _ (by omega)
theorem YF(h:y∈wd xs): ∃x∈xs,y.natAbs<=x.natAbs:=by
 obtain⟨x,hx,rfl⟩:=Κ.mp h;exact⟨x,hx,natAbs_le_mul (YU xs) (Zw hx)⟩
theorem gcd_wd(h: ∃x∈xs,x≠0):gcdL (wd xs)=1:=by
 have hg:0<gcdL xs:=by
  obtain⟨x,hx,h0⟩:=h;rcases Nat.eq_zero_or_pos (gcdL xs) with z | z
  ·exact absurd (xc z x hx) h0
  ·exact z
 have hdv:dv xs=(gcdL xs:Int):=if_pos hg;have:gcdL xs*gcdL (wd xs) ∣ gcdL xs:=by
  refine Yv λx hx=>?_;have e:=Zw hx;have m:(if 0<gcdL xs then x / (gcdL xs:Int) else 0)∈wd xs:=Κ.mpr ⟨x,hx,rfl⟩;rw[<-e,Int.natAbs_mul,hdv,Int.natAbs_natCast];exact Nat.mul_dvd_mul_left _ (xG m)
 have h2:=Nat.le_of_dvd hg this;have h3:gcdL xs*gcdL (wd xs)<=gcdL xs*1:=by omega
 have h4:=Nat.le_of_mul_le_mul_left h3 hg;rcases Nat.eq_zero_or_pos (gcdL (wd xs)) with z | z
 ·obtain⟨x,hx,h0⟩:=h;have m:(if 0<gcdL xs then x / (gcdL xs:Int) else 0)∈wd xs:=Κ.mpr ⟨x,hx,rfl⟩;have e:=Zw hx;rw[xc z _ m,Int.mul_zero] at e;exact absurd e.symm h0
 ·omega
def wcol (row lead:List Int) (c:Nat):List Int:=wd (List.zipWith (λa b=>lead.getD c 0*a-row.getD c 0*b) row lead)
theorem XO{row lead:List Int}(h1:row.length=n)(h2:lead.length=n)(g:Int->Int->Int)(g0:g 0 0=0)(j:Nat):cf (List.zipWith g row lead) j=g (cf row j) (cf lead j):=by
 unfold cf;by_cases h:j<n
 ·rw[ζ,ζ,ζ,List.getElem?_zipWith,δ (by omega),δ (by omega)];rfl
 ·rw[xF (by rw[List.length_zipWith]; omega),xF (by omega),xF (by omega),g0]
theorem wcol_len{row lead:List Int}(h1:row.length=n)(h2:lead.length=n)(c:Nat):(wcol row lead c).length=n:=by
 unfold wcol;rw[Zx,List.length_zipWith];omega
theorem xI{row lead:List Int}(h1:row.length=n)(h2:lead.length=n)(c:Nat): ∃d:Int,0<d/\ ∀j,d*cf (wcol row lead c) j=cf lead c*cf row j-cf row c*cf lead j:=
 ⟨_,YU _,λj=>by
  unfold wcol;rw[XS,XO h1 h2 _ (by simp)];rfl⟩
end EL
namespace EL
def ro (left:List (List Int)) (i j:Nat):Int:=cf (left.getD i []) j
def xy (rows:List (List Int)) (start c:Nat):Option Nat:=(List.range' start (rows.length-start)).find? λi=>decide (ro rows i c≠0)
def xR (left:List (List Int)) (m p c:Nat):List (List Int):=(((left.eraseIdx p).map λr=>wcol r (left.getD p []) c).insertIdx m (left.getD p []))
def redS (c:Nat) (st:List (List Int)×List Nat):List (List Int)×List Nat:=match xy st.1 st.2.length c with
 | none=>st
 | some p=>(xR st.1 st.2.length p c,st.2++[c])
def red (rows:List (List Int)):Nat->List (List Int)×List Nat
 | 0=>(rows,[])
 | c+1=>redS c (red rows c)
def bdE (b:Nat):Nat->Nat
 | 0=>b
 | k+1=>2*bdE b k+1
structure Rd (b n:Nat) (rows:List (List Int)) (c:Nat) (left:List (List Int)) (leads:List Nat):Prop where
 len: ∀r∈left,r.length=n
 cnt:left.length=rows.length
 le:leads.length<=left.length
 sp1: ∀v,SpR left v->SpR rows v
 sp2: ∀v,SpR rows v->SpR left v
 up:leads.Pairwise (· < ·)
 lt: ∀l∈leads,l<c
 own: ∀i,i<leads.length->ro left i (leads.getD i 0)≠0
 oth: ∀i k,i<leads.length->k<left.length->k≠i->ro left k (leads.getD i 0)=0
 bef: ∀i j,i<leads.length->j<leads.getD i 0->ro left i j=0
 low: ∀k j,leads.length<=k->k<left.length->j<c->ro left k j=0
 bit: ∀r∈left,∀x∈r,x.natAbs<2^bdE b leads.length
theorem firstW_none(h:xy rows s c=none): ∀k,s<=k->k<rows.length->ro rows k c=0:=λk h1 h2=>by
 have:=List.find?_eq_none.mp h k (List.mem_range'_1.mpr ⟨h1,by omega⟩);simpa using this
theorem vc(h:xy rows s c=some p):s<=p/\p<rows.length/\ro rows p c≠0:=by
 have h1:=List.find?_some h;have h2:=List.mem_range'_1.mp (List.mem_of_find?_eq_some h);exact⟨h2.1,by omega,by simpa using h1⟩
theorem Zf{left:List (List Int)}(hp:p<left.length)(hm:m<=p):(xR left m p c).length=left.length:=by
 unfold xR;rw[List.length_insertIdx,ε,List.length_eraseIdx,if_pos hp];split<;>omega
theorem Yi{left:List (List Int)}(hp:p<left.length)(hm:m<=p)(i:Nat)(hi:i<left.length):
  (i=m/\(xR left m p c).getD i []=left.getD p [])\/(i≠m/\ ∃k,k<left.length/\k≠p/\(xR left m p c).getD i []=wcol (left.getD k []) (left.getD p []) c/\(i<m->k=i)/\(m<i->m<=k)):=by
 have hl:((left.eraseIdx p).map λr=>wcol r (left.getD p []) c).length=left.length-1:=by rw[ε,List.length_eraseIdx,if_pos hp]
 have gq: ∀q,q<left.length->left[q]? =some (left.getD q []):=λq hq=>by
  rw[ζ,δ hq];rfl
 have key: ∀q,q<left.length-1-> ∃k,k<left.length/\k≠p/\((left.eraseIdx p).map λr=>wcol r (left.getD p []) c)[q]? =some (wcol (left.getD k []) (left.getD p []) c)/\(q<p->k=q)/\(p<=q->k=q+1):=λq hq=>by
  by_cases h:q<p
  ·refine⟨q,by omega,by omega,?_,λ_=>rfl,λh'=>by omega⟩;rw[μ,List.getElem?_eraseIdx,if_pos h,gq q (by omega)];rfl
  ·refine⟨q+1,by omega,by omega,?_,λh'=>absurd h' h,λ_=>rfl⟩;rw[μ,List.getElem?_eraseIdx,if_neg h,gq (q+1) (by omega)];rfl
 unfold xR;by_cases h1:i=m
 ·refine .inl ⟨h1,?_⟩;rw[ζ,List.getElem?_insertIdx,if_neg (by omega),if_pos h1,if_pos (by rw[hl]; omega)];rfl
 ·refine .inr ⟨h1,?_⟩;by_cases h2:i<m
  ·obtain⟨k,k1,k2,k3,k4,k5⟩:=key i (by omega);refine⟨k,k1,k2,?_,λ_=>k4 (by omega),λh=>by omega⟩;rw[ζ,List.getElem?_insertIdx,if_pos h2,k3];rfl
  ·obtain⟨k,k1,k2,k3,k4,k5⟩:=key (i-1) (by omega);refine⟨k,k1,k2,?_,λh=>absurd h h2,λh=>?_⟩
   ·rw[ζ,List.getElem?_insertIdx,if_neg h2,if_neg h1,k3];rfl
   ·rcases Nat.lt_or_ge (i-1) p with z | z
    ·rw[k4 z];omega
    ·rw[k5 z];omega
theorem mem_getD{left:List (List Int)}{r:List Int}(h:r∈left): ∃i,i<left.length/\left.getD i []=r:=by
 obtain⟨i,hi,e⟩:=List.getElem_of_mem h;exact⟨i,hi,by rw[ζ,δ hi,e]; rfl⟩
theorem wW{left:List (List Int)}{m p c:Nat}(hp:p<left.length)(hm:m<=p){r:List Int}(h:r∈xR left m p c):r=left.getD p []\/ ∃k,k<left.length/\k≠p/\r=wcol (left.getD k []) (left.getD p []) c:=by
 obtain⟨i,hi,e⟩:=mem_getD h;rw[Zf hp hm] at hi;rcases Yi (c:=c) hp hm i hi with ⟨_,h2⟩ | ⟨_,k,k1,k2,k3,_⟩
 ·exact .inl (e.symm.trans h2)
 ·exact .inr ⟨k,k1,k2,e.symm.trans k3⟩
theorem vI{left:List (List Int)}(hp:p<left.length)(hm:m<=p):left.getD p []∈xR left m p c:=by
 unfold xR;rw[List.mem_insertIdx (by rw[ε,List.length_eraseIdx,if_pos hp]; omega)];exact .inl rfl
theorem nextL_wcol{left:List (List Int)}(hp:p<left.length)(hm:m<=p)(hk:k<left.length)(hkp:k≠p):wcol (left.getD k []) (left.getD p []) c∈xR left m p c:=by
 unfold xR;rw[List.mem_insertIdx (by rw[ε,List.length_eraseIdx,if_pos hp]; omega)];refine .inr (Κ.mpr ⟨_,?_,rfl⟩);rw[List.mem_eraseIdx_iff_getElem?];exact⟨k,hkp,by rw[ζ,δ hk]; rfl⟩
theorem xN{a b:Int}(ha:a.natAbs<2^m)(hb:b.natAbs<2^m):(a*b).natAbs<2^(2*m):=by
 rw[Int.natAbs_mul,Nat.two_mul,Nat.pow_add];exact Nat.mul_lt_mul_of_lt_of_lt ha hb
theorem wZ{xs:List α}{a d:α}(h:i<xs.length):(xs++[a]).getD i d=xs.getD i d:=by
 rw[ζ,Δ h,ζ]
theorem wY{xs:List α}{a d:α}:(xs++[a]).getD xs.length d=a:=by
 rw[ζ,Α (θ _),Nat.sub_self];rfl
theorem xm(h: ∀x∈r,x.natAbs<2^b)(j:Nat):(cf r j).natAbs<2^b:=by
 unfold cf;by_cases hj:j<r.length
 ·exact h _ (getD_mem hj)
 ·rw[xF (by omega)];exact Nat.two_pow_pos b
theorem Rd.step{b n c:Nat}{rows left:List (List Int)}{leads:List Nat}(I:Rd b n rows c left leads):Rd b n rows (c+1) (redS c (left,leads)).1 (redS c (left,leads)).2:=by
 unfold redS;cases hf:xy left leads.length c with
 | none=>
  have z:=firstW_none hf;refine⟨I.len,I.cnt,I.le,I.sp1,I.sp2,I.up,λl hl=>Nat.lt_succ_of_lt (I.lt l hl),I.own,I.oth,I.bef,λk j h1 h2 h3=>?_,I.bit⟩;rcases Nat.lt_or_ge j c with q | q
  ·exact I.low k j h1 h2 q
  ·have:j=c:=by omega
   rw[this];exact z k h1 h2
 | some p=>
  obtain⟨p1,p2,p3⟩:=vc hf;show Rd b n rows (c+1) (xR left leads.length p c) (leads++[c]);have hL:=Zf (c:=c) p2 p1;have lenP:(left.getD p []).length=n:=I.len _ (getD_mem p2);have lenK: ∀k,k<left.length->(left.getD k []).length=n:=λk hk=>I.len _ (getD_mem hk);have ll:(leads++[c]).length=leads.length+1:=by simp
  have bitK: ∀k,k<left.length-> ∀j,(ro left k j).natAbs<2^bdE b leads.length:=λk hk j=>xm (I.bit _ (getD_mem hk)) j;have at_:=λi hi=>Yi (c:=c) p2 p1 i hi;refine⟨λr hr=>?_,hL.trans I.cnt,?_,λv hv=>I.sp1 v (SpR.le (λr hr=>?_) hv),λv hv=>SpR.le (λr hr=>?_) (I.sp2 v hv),?_,λl hl=>?_,λi hi=>?_,λi k hi hk hki=>?_,λi j hi hj=>?_,λk j h1 h2 h3=>?_,λr hr x hx=>?_⟩
  ·rcases wW p2 p1 hr with e | ⟨k,k1,_,e⟩
   ·rw[e]; exact lenP
   ·rw[e]; exact wcol_len (lenK k k1) lenP c
  ·rw[ll,hL];omega
  ·rcases wW p2 p1 hr with e | ⟨k,k1,_,e⟩
   ·rw[e]; exact SpR.mem (getD_mem p2)
   ·obtain⟨d,d0,hd⟩:=xI (lenK k k1) lenP c;rw[e];exact Sp.lin (d:=d) (a:=cf (left.getD p []) c) (b:=-cf (left.getD k []) c) (by omega) (SpR.mem (getD_mem k1)) (SpR.mem (getD_mem p2)) λj=>by rw[hd,Int.neg_mul,Int.sub_eq_add_neg]
  ·obtain⟨k,k1,e⟩:=mem_getD hr;by_cases hkp:k=p
   ·rw[<-e,hkp]; exact SpR.mem (vI p2 p1)
   ·obtain⟨d,d0,hd⟩:=xI (lenK k k1) lenP c;rw[<-e];refine Sp.lin (a:=d) (b:=cf (left.getD k []) c) p3 (SpR.mem (nextL_wcol p2 p1 k1 hkp)) (SpR.mem (vI p2 p1)) λj=>?_;rw[hd];show ro left p c*_=_;unfold ro;omega
  ·rw[List.pairwise_append];exact⟨I.up,List.pairwise_singleton _ _,λa ha b' hb=>by rw[Υ.mp hb]; exact I.lt a ha⟩
  ·rcases List.mem_append.mp hl with h | h
   ·exact Nat.lt_succ_of_lt (I.lt l h)
   ·rw[Υ.mp h]; omega
  ·rw[ll] at hi;unfold ro;rcases at_ i (by omega) with ⟨h1,h2⟩ | ⟨h1,k,k1,k2,k3,k4,k5⟩
   ·rw[h2,h1,wY];exact p3
   ·have hi':i<leads.length:=by omega
    obtain⟨d,d0,hd⟩:=xI (lenK k k1) lenP c;have:=hd (leads.getD i 0);rw[k3,wZ hi'];have e1:cf (left.getD p []) (leads.getD i 0)=0:=I.oth i p hi' p2 (by omega);have e2:cf (left.getD k []) (leads.getD i 0)≠0:=by rw[k4 hi']; exact I.own i hi'
    rw[e1,Int.mul_zero,Int.sub_zero] at this;intro z;rw[z,Int.mul_zero] at this;exact(Int.mul_eq_zero.mp this.symm).elim p3 e2
  ·rw[ll] at hi;rw[hL] at hk;unfold ro;by_cases hic:i=leads.length
   ·rw[hic,wY];rcases at_ k hk with ⟨h1,h2⟩ | ⟨h1,q,k1,k2,k3,k4,k5⟩
    ·omega
    ·obtain⟨d,d0,hd⟩:=xI (lenK q k1) lenP c;have:=hd c;rw[k3];rw[Int.mul_comm (cf (left.getD q []) c),Int.sub_self] at this;exact(Int.mul_eq_zero.mp this).resolve_left (by omega)
   ·have hi':i<leads.length:=by omega
    rw[wZ hi'];have e1:cf (left.getD p []) (leads.getD i 0)=0:=I.oth i p hi' p2 (by omega);rcases at_ k hk with ⟨h1,h2⟩ | ⟨h1,q,k1,k2,k3,k4,k5⟩
    ·rw[h2]; exact e1
    ·obtain⟨d,d0,hd⟩:=xI (lenK q k1) lenP c;have:=hd (leads.getD i 0);have hqi:q≠i:=by
      rcases Nat.lt_or_ge k leads.length with z | z
      ·rw[k4 z]; omega
      ·have:=k5 (by omega); omega
     rw[k3];rw[e1,show cf (left.getD q []) (leads.getD i 0)=0 from I.oth i q hi' k1 hqi,Int.mul_zero,Int.mul_zero,Int.sub_self] at this;exact(Int.mul_eq_zero.mp this).resolve_left (by omega)
  ·rw[ll] at hi;unfold ro;rcases at_ i (by omega) with ⟨h1,h2⟩ | ⟨h1,k,k1,k2,k3,k4,k5⟩
   ·rw[h1,wY] at hj;rw[h2];exact I.low p j (by omega) p2 hj
   ·have hi':i<leads.length:=by omega
    rw[wZ hi'] at hj;have hc:=I.lt (leads.getD i 0) (getD_mem hi');obtain⟨d,d0,hd⟩:=xI (lenK k k1) lenP c;have:=hd j;rw[k3];rw[show cf (left.getD p []) j=0 from I.low p j p1 p2 (by omega),show cf (left.getD k []) j=0 by rw[k4 hi']; exact I.bef i j hi' hj,Int.mul_zero,Int.mul_zero,Int.sub_self] at this;exact(Int.mul_eq_zero.mp this).resolve_left (by omega)
  ·rw[ll] at h1;rw[hL] at h2;unfold ro;rcases at_ k h2 with ⟨h4,_⟩ | ⟨h4,q,k1,k2,k3,k4,k5⟩
   ·omega
   ·obtain⟨d,d0,hd⟩:=xI (lenK q k1) lenP c;have:=hd j;rw[k3];rcases Nat.lt_or_ge j c with z | z
    ·rw[show cf (left.getD p []) j=0 from I.low p j p1 p2 z,show cf (left.getD q []) j=0 from I.low q j (k5 (by omega)) k1 z,Int.mul_zero,Int.mul_zero,Int.sub_self] at this;exact(Int.mul_eq_zero.mp this).resolve_left (by omega)
    ·have hj:j=c:=by omega
     rw[hj,Int.mul_comm (cf (left.getD q []) c),Int.sub_self] at this;rw[hj];exact(Int.mul_eq_zero.mp this).resolve_left (by omega)
  ·rw[ll];show x.natAbs<2^(2*bdE b leads.length+1);have up1: ∀y:Int,y.natAbs<2^bdE b leads.length->y.natAbs<2^(2*bdE b leads.length+1):=λy hy=>Ε hy (Nat.pow_le_pow_right (by decide) (by omega));rcases wW p2 p1 hr with e | ⟨k,k1,_,e⟩
   ·rw[e] at hx;exact up1 x (I.bit _ (getD_mem p2) x hx)
   ·rw[e] at hx;obtain⟨y,hy,hxy⟩:=YF hx;refine Nat.lt_of_le_of_lt hxy ?_;obtain⟨j,hj,e2⟩:=List.getElem_of_mem hy;have e3:y=cf (left.getD p []) c*cf (left.getD k []) j-cf (left.getD k []) c*cf (left.getD p []) j:=by
     have:=XO (lenK k k1) lenP (λa b=>(left.getD p []).getD c 0*a-(left.getD k []).getD c 0*b) (by simp) j;unfold cf at this ⊢;rw[<-this,ζ,δ hj];exact e2.symm
    have a1:=xN (bitK p p2 c) (bitK k k1 j);have a2:=xN (bitK k k1 c) (bitK p p2 j);unfold ro at a1 a2;rw[e3,Nat.pow_succ];omega
theorem Rd.all(hl: ∀r∈rows,r.length=n)(hb: ∀r∈rows,∀x∈r,x.natAbs<2^b): ∀c,Rd b n rows c (red rows c).1 (red rows c).2
 | 0=>⟨hl,rfl,Ι _,λ_ h=>h,λ_ h=>h,List.Pairwise.nil,(λl h=>nomatch h),λi h=>absurd h (Nat.not_lt_zero i),λi k h=>absurd h (Nat.not_lt_zero i),λi j h=>absurd h (Nat.not_lt_zero i),λk j _ _ h=>absurd h (Nat.not_lt_zero j),hb⟩
 | c+1=>(Rd.all hl hb c).step
end EL
namespace EL
def dotF:Nat->(Nat->Int)->(Nat->Int)->Int
 | 0,_,_=>0
 | n+1,u,v=>dotF n u v+u n*v n
theorem Yy(u v w:Nat->Int): ∀n,dotF n u (λj=>v j+w j)=dotF n u v+dotF n u w
 | 0=>rfl
 | n+1=>by
  unfold dotF;rw[Yy u v w n,Int.mul_add];omega
theorem w6(u v:Nat->Int)(c:Int): ∀n,dotF n u (λj=>c*v j)=c*dotF n u v
 | 0=>(Int.mul_zero c).symm
 | n+1=>by
  unfold dotF;rw[w6 u v c n,Int.mul_add,Int.mul_left_comm]
theorem w9(u v:Nat->Int): ∀n,dotF n u v=dotF n v u
 | 0=>rfl
 | n+1=>by
  unfold dotF;rw[w9 u v n,Int.mul_comm]
theorem dotF_sp{u v:Nat->Int}(h: ∀r∈R,dotF n u (cf r)=0)(p:SpR R v):dotF n u v=0:=
 Sp.nought (dotF n u) (λa b=>Yy u a b n) (λc a=>w6 u a c n) (λv ⟨r,hr,e⟩=>e▸h r hr) p
theorem w8{u v:Nat->Int}: ∀n,(∀j,j<n->u j*v j=0)->dotF n u v=0
 | 0,_=>rfl
 | n+1,h=>by
  unfold dotF;rw[w8 n (λj hj=>h j (by omega)),h n (by omega)];rfl
theorem vT{u v:Nat->Int}: ∀n,a<n->(∀j,j<n->j≠a->u j*v j=0)->dotF n u v=u a*v a
 | 0,ha,_=>absurd ha (Nat.not_lt_zero a)
 | n+1,ha,h=>by
  unfold dotF;by_cases e:a=n
  ·rw[w8 n λj hj=>h j (by omega) (by omega),e,Int.zero_add]
  ·rw[vT n (by omega) (λj hj q=>h j (by omega) q),h n (by omega) (by omega),Int.add_zero]
theorem Yx{u v:Nat->Int}(hab:a≠b): ∀n,a<n->b<n->(∀j,j<n->j≠a->j≠b->u j*v j=0)->dotF n u v=u a*v a+u b*v b
 | 0,ha,_,_=>absurd ha (Nat.not_lt_zero a)
 | n+1,ha,hb,h=>by
  unfold dotF;by_cases e:a=n
  ·rw[vT n (a:=b) (by omega) (λj hj q=>h j (by omega) (by omega) q),e];omega
  ·by_cases e2:b=n
   ·rw[vT n (a:=a) (by omega) (λj hj q=>h j (by omega) q (by omega)),e2]
   ·rw[Yx hab n (by omega) (by omega) (λj hj q q2=>h j (by omega) q q2),h n (by omega) (by omega) (by omega),Int.add_zero]
def cm (a b:Int):Int:=((a*b).natAbs:Int) / (gcdL [a,b]:Int)
theorem gcdL_two(a b:Int):gcdL [a,b]=Nat.gcd a.natAbs b.natAbs:=by
 show Nat.gcd (Nat.gcd 0 a.natAbs) b.natAbs=_;rw[Nat.gcd_zero_left]
theorem XF(a b:Int):cm a b=(Nat.lcm a.natAbs b.natAbs:Nat):=by
 unfold cm Nat.lcm;rw[gcdL_two,Int.natAbs_mul];rfl
theorem cm_pos(ha:a≠0)(hb:b≠0):0<cm a b:=by
 rw[XF];have:=Nat.lcm_pos (m:=a.natAbs) (n:=b.natAbs) (by omega) (by omega);omega
theorem cm_left(a b:Int):a ∣ cm a b:=by
 rw[XF];exact Int.ofNat_dvd_right.mpr (Nat.dvd_lcm_left _ _)
theorem cm_right(a b:Int):b ∣ cm a b:=by
 rw[XF];exact Int.ofNat_dvd_right.mpr (Nat.dvd_lcm_right _ _)
theorem cm_abs(a b:Int):(cm a b).natAbs<=a.natAbs*b.natAbs:=by
 rw[XF,Int.natAbs_natCast];exact Nat.div_le_self _ _
def botK (rows:List (List Int)) (leads:List Nat):Nat->Int
 | 0=>1
 | k+1=>cm (botK rows leads k) (ro rows k (leads.getD k 0))
def numV (rows:List (List Int)) (leads:List Nat) (free k:Nat) (bt:Int):Int:=-ro rows k free*(bt.fdiv (ro rows k (leads.getD k 0)))
def numK (n:Nat) (rows:List (List Int)) (leads:List Nat) (free:Nat) (bt:Int):Nat->List Int
 | 0=>(List.replicate n 0).set free bt
 | k+1=>(numK n rows leads free bt k).set (leads.getD k 0) (numV rows leads free k bt)
theorem ZZ{leads:List Nat}(h: ∀i,i<m->ro rows i (leads.getD i 0)≠0): ∀k,k<=m->0<botK rows leads k/\ ∀i,i<k->ro rows i (leads.getD i 0) ∣ botK rows leads k
 | 0,_=>⟨by unfold botK; decide,λi h=>absurd h (Nat.not_lt_zero i)⟩
 | k+1,hk=>by
  obtain⟨h1,h2⟩:=ZZ h k (by omega);refine⟨cm_pos (by omega) (h k (by omega)),λi hi=>?_⟩;rcases Nat.lt_or_ge i k with z | z
  ·exact Int.dvd_trans (h2 i z) (cm_left _ _)
  ·have:i=k:=by omega
   rw[this];exact cm_right _ _
theorem vq{leads:List Nat}(h: ∀i,i<m->(ro rows i (leads.getD i 0)).natAbs<2^B): ∀k,k<=m->(botK rows leads k).natAbs<=2^(k*B)
 | 0,_=>by simp[botK]
 | k+1,hk=>by
  refine Τ (cm_abs _ _) ?_;rw[Nat.succ_mul,Nat.pow_add];exact Nat.mul_le_mul (vq h k (by omega)) (Nat.le_of_lt (h k (by omega)))
theorem xE: ∀k,(numK n rows leads free bt k).length=n
 | 0=>by unfold numK; rw[List.length_set,Χ]
 | k+1=>by unfold numK; rw[List.length_set,xE k]
theorem v2{xs:List Int}(h:i<xs.length)(j:Nat):cf (xs.set i v) j=if i=j then v else cf xs j:=by
 unfold cf;rw[ζ,List.getElem?_set];split
 ·rfl
 ·rw[ζ]
theorem cf_rep(n j:Nat):cf (List.replicate n 0) j=0:=by
 unfold cf;rw[ζ,List.getElem?_replicate];split<;>rfl
theorem ZK{leads:List Nat}(hf:free<n): ∀k,k<=leads.length->(∀i,i<k->leads.getD i 0<n/\leads.getD i 0≠free)->(∀i j,i<j->j<k->leads.getD i 0≠leads.getD j 0)->
  cf (numK n rows leads free bt k) free=bt/\(∀i,i<k->cf (numK n rows leads free bt k) (leads.getD i 0)=numV rows leads free i bt)/\ ∀j,j≠free->(∀i,i<k->j≠leads.getD i 0)->cf (numK n rows leads free bt k) j=0
 | 0,_,_,_=>by
  unfold numK;refine⟨?_,λi h=>absurd h (Nat.not_lt_zero i),λj hj _=>?_⟩
  ·rw[v2 (by rw[Χ]; exact hf),if_pos rfl]
  ·rw[v2 (by rw[Χ]; exact hf),if_neg (λe=>hj e.symm),cf_rep]
 | k+1,hk,h1,h2=>by
  obtain⟨a1,a2,a3⟩:=ZK (rows:=rows) (bt:=bt) hf k (by omega) (λi hi=>h1 i (by omega)) (λi j hi hj=>h2 i j hi (by omega));obtain⟨b1,b2⟩:=h1 k (by omega);have hl:leads.getD k 0<(numK n rows leads free bt k).length:=by rw[xE]; exact b1
  unfold numK;refine⟨?_,λi hi=>?_,λj hj hq=>?_⟩
  ·rw[v2 hl,if_neg b2]; exact a1
  ·rw[v2 hl];by_cases e:i=k
   ·rw[e,if_pos rfl]
   ·rw[if_neg (λq=>h2 i k (by omega) (by omega) q.symm)];exact a2 i (by omega)
  ·rw[v2 hl,if_neg (λq=>hq k (by omega) q.symm)];exact a3 j hj λi hi=>hq i (by omega)
theorem Yu{a b:Int}(h0:a≠0)(h:a ∣ b):a*b.fdiv a=b:=by
 rw[Int.fdiv_eq_ediv_of_dvd h];exact Int.mul_ediv_cancel' h
def vecF (n:Nat) (rows:List (List Int)) (leads:List Nat) (free:Nat):List Int:=wd (numK n rows leads free (botK rows leads leads.length) leads.length)
theorem WR{leads:List Nat}(h:leads.Pairwise (· < ·))(hij:i<j)(hj:j<leads.length):leads.getD i 0<leads.getD j 0:=by
 rw[ζ,ζ,δ (by omega),δ hj];exact List.pairwise_iff_getElem.mp h i j (by omega) hj hij
structure Vf (n:Nat) (rows:List (List Int)) (leads:List Nat) (f:Nat) (v:List Int):Prop where
 len:v.length=n
 own:cf v f≠0
 oth: ∀g,g≠f->g∉leads->cf v g=0
 ker: ∀r∈rows,dotF n (cf v) (cf r)=0
 gcd:gcdL v=1
 aft: ∀j,f<j->cf v j=0
 pos:0<cf v f
theorem bdE_pos(h:1<=b): ∀k,1<=bdE b k
 | 0=>h
 | k+1=>by unfold bdE; omega
theorem Rd.vec{b n:Nat}(hb:1<=b){rows left:List (List Int)}{leads:List Nat}(I:Rd b n rows n left leads){f:Nat}(hf:f<n)(hn:f∉leads):Vf n rows leads f (vecF n left leads f)/\ ∀x∈vecF n left leads f,x.natAbs<2^((leads.length+1)*bdE b leads.length):=by
 have B:=ZZ (rows:=left) (leads:=leads) (m:=leads.length) I.own leads.length (θ _);have mm: ∀i,i<leads.length->leads.getD i 0∈leads:=λi hi=>getD_mem hi;have A:=ZK (rows:=left) (leads:=leads) (bt:=botK left leads leads.length) hf leads.length (θ _) (λi hi=>⟨I.lt _ (mm i hi),λe=>hn (e▸mm i hi)⟩) (λi j hij hj=>Ν (WR I.up hij hj));obtain⟨A1,A2,A3⟩:=A;have nl:=xE (n:=n) (rows:=left) (leads:=leads) (free:=f) (bt:=botK left leads leads.length) leads.length;have bitR: ∀k,k<left.length-> ∀j,(ro left k j).natAbs<2^bdE b leads.length:=λk hk j=>xm (I.bit _ (getD_mem hk)) j;have BB:=vq (rows:=left) (leads:=leads) (m:=leads.length) (B:=bdE b leads.length) (λi hi=>bitR i (Ε hi I.le) _) leads.length (θ _);unfold vecF;generalize hN:numK n left leads f (botK left leads leads.length) leads.length=N at*;have up: ∀j,dv N*cf (wd N) j=cf N j:=XS N;have dp:=YU N;have rowk: ∀i,i<left.length->dotF n (cf N) (cf (left.getD i []))=0:=λi hi=>by
  by_cases h:i<leads.length
  ·have hl:=I.lt _ (mm i h);have hne:leads.getD i 0≠f:=λe=>hn (e▸mm i h);rw[Yx hne n hl hf ?_,A2 i h,A1]
   ·unfold numV;have:=Yu (I.own i h) (B.2 i h);show -ro left i f*_*ro left i (leads.getD i 0)+_*ro left i f=0;rw[Int.mul_assoc,Int.mul_comm (Int.fdiv _ _),this,Int.neg_mul,Int.mul_comm (ro left i f)];omega
   ·intro j hj q1 q2;by_cases e: ∃k,k<leads.length/\j=leads.getD k 0
    ·obtain⟨k,hk,e⟩:=e;rw[e];have:ro left i (leads.getD k 0)=0:=I.oth k i hk hi (λz=>q1 (by rw[e,z]));show _*ro left i _=0;rw[this,Int.mul_zero]
    ·rw[A3 j q2 λk hk z=>e ⟨k,hk,z⟩,Int.zero_mul]
  ·refine w8 n λj hj=>?_;show _*ro left i j=0;rw[I.low i j (by omega) hi hj,Int.mul_zero]
 refine⟨⟨?_,?_,?_,?_,?_,?_,?_⟩,?_⟩
 ·rw[Zx,nl]
 ·intro z;have:=up f;rw[z,Int.mul_zero,A1] at this;omega
 ·intro g h1 h2;have:=up g;rw[A3 g h1 λi hi e=>h2 (e▸mm i hi)] at this;exact(Int.mul_eq_zero.mp this).resolve_left (by omega)
 ·intro r hr;have h1: ∀r∈left,dotF n (cf (wd N)) (cf r)=0:=λr hr=>by
   obtain⟨i,hi,e⟩:=mem_getD hr;have h:=rowk i hi;rw[show cf N=(λj=>dv N*cf (wd N) j) from funext λj=>(up j).symm,w9,w6,e,w9] at h;exact(Int.mul_eq_zero.mp h).resolve_left (by omega)
  exact dotF_sp h1 (I.sp2 _ (SpR.mem hr))
 ·refine gcd_wd ⟨cf N f,?_,by rw[A1]; omega⟩;exact getD_mem (by rw[nl]; exact hf)
 ·intro j hj;have:=up j;have z:cf N j=0:=by
   by_cases e: ∃k,k<leads.length/\j=leads.getD k 0
   ·obtain⟨k,hk,e⟩:=e;rw[e,A2 k hk];unfold numV;rw[I.bef k f hk (by omega),Int.neg_zero,Int.zero_mul]
   ·exact A3 j (by omega) λk hk z=>e ⟨k,hk,z⟩
  rw[z] at this;exact(Int.mul_eq_zero.mp this).resolve_left (by omega)
 ·have:=up f;rw[A1] at this;rcases Int.lt_trichotomy 0 (cf (wd N) f) with z | z | z
  ·exact z
  ·rw[<-z,Int.mul_zero] at this;have:=B.1;omega
  ·have h1:=Int.mul_neg_of_pos_of_neg dp z;have:=B.1;omega
 ·intro x hx;obtain⟨y,hy,hxy⟩:=YF hx;refine Nat.lt_of_le_of_lt hxy ?_;obtain⟨j,hj,e⟩:=List.getElem_of_mem hy;have ey:y=cf N j:=by
   unfold cf;rw[ζ,δ hj,e];rfl
  have big:2^(leads.length*bdE b leads.length)<=2^((leads.length+1)*bdE b leads.length):=Nat.pow_le_pow_right (by decide) (Nat.mul_le_mul_right _ (by omega));rw[ey];by_cases q:j=f
  ·rw[q,A1];refine Nat.lt_of_le_of_lt BB (Nat.pow_lt_pow_right (by decide) ?_);rw[Nat.succ_mul];have:=bdE_pos hb leads.length;omega
  ·by_cases e: ∃k,k<leads.length/\j=leads.getD k 0
   ·obtain⟨k,hk,e⟩:=e;rw[e,A2 k hk];unfold numV;rw[Int.natAbs_mul,Int.natAbs_neg,Nat.succ_mul,Nat.pow_add,Nat.mul_comm];refine Nat.mul_lt_mul_of_le_of_lt ?_ (bitR k (Ε hk I.le) f) (Nat.two_pow_pos _);refine Τ ?_ BB;have:=Yu (I.own k hk) (B.2 k hk);have q2:=I.own k hk;rw[<-congrArg Int.natAbs this,Int.natAbs_mul];exact Nat.le_mul_of_pos_left _ (by omega)
   ·rw[A3 j q λk hk z=>e ⟨k,hk,z⟩];exact Nat.two_pow_pos _
theorem Rd.glog(I:Rd b n rows n left leads)(hf:f<n)(hn:f∉leads):gcdL (numK n left leads f (botK left leads leads.length) leads.length)<2^(leads.length*bdE b leads.length+1):=by
 have B:=ZZ (rows:=left) (leads:=leads) (m:=leads.length) I.own leads.length (θ _);have mm: ∀i,i<leads.length->leads.getD i 0∈leads:=λi hi=>getD_mem hi;have A:=ZK (rows:=left) (leads:=leads) (bt:=botK left leads leads.length) hf leads.length (θ _) (λi hi=>⟨I.lt _ (mm i hi),λe=>hn (e▸mm i hi)⟩) (λi j hij hj=>Ν (WR I.up hij hj));have bitR: ∀k,k<left.length-> ∀j,(ro left k j).natAbs<2^bdE b leads.length:=λk hk j=>xm (I.bit _ (getD_mem hk)) j;have BB:=vq (rows:=left) (leads:=leads) (m:=leads.length) (B:=bdE b leads.length) (λi hi=>bitR i (Ε hi I.le) _) leads.length (θ _);have h1:cf (numK n left leads f (botK left leads leads.length) leads.length) f∈numK n left leads f (botK left leads leads.length) leads.length:=getD_mem (by rw[xE]; exact hf);have h2:=x8 h1 (by rw[A.1]; have:=B.1; omega);rw[A.1] at h2;have h3:2^(leads.length*bdE b leads.length)<2^(leads.length*bdE b leads.length+1):=Nat.pow_lt_pow_right (by decide) (by omega);omega
theorem vj{left:List (List Int)}(h:i<m)(j:Nat):ro (left.take m) i j=ro left i j:=by
 unfold ro;rw[ζ,List.getElem?_take,if_pos h,ζ]
theorem v3{left:List (List Int)}: ∀k,k<=m->botK (left.take m) leads k=botK left leads k
 | 0,_=>rfl
 | k+1,h=>by
  unfold botK;rw[v3 k (by omega),vj (by omega)]
theorem vH{left:List (List Int)}: ∀k,k<=m->numK n (left.take m) leads f bt k=numK n left leads f bt k
 | 0,_=>rfl
 | k+1,h=>by
  unfold numK numV;rw[vH k (by omega),vj (by omega),vj (by omega)]
theorem vec_take{left:List (List Int)}{leads:List Nat}:vecF n (left.take leads.length) leads f=vecF n left leads f:=by
 unfold vecF;rw[v3 _ (θ _),vH _ (θ _)]
end EL
namespace EL
def lrow (lead:List Int) (p:Nat) (r:List Int):List Int:=(List.range r.length).map λk=>cf r k*cf lead p-cf lead k*cf r p
def lrH (p:Nat) (left:List (List Int)):List (List Int):=left.filter λr=>decide (cf r p≠0)
def lrR (p:Nat) (left:List (List Int)):List (List Int):=left.filter λr=>decide (cf r p=0)
def lrN (p:Nat) (left:List (List Int)):List (List Int):=match lrH p left with
 | []=>lrR p left
 | lead::hs=>lrR p left++hs.map (lrow lead p)
def lrF (p:Nat) (left:List (List Int)):Nat:=if lrH p left=[] then 0 else 1
def lr (rows:List (List Int)):Nat->List (List Int)×Nat
 | 0=>(rows,0)
 | p+1=>(lrN p (lr rows p).1,(lr rows p).2+lrF p (lr rows p).1)
structure Lr (b n p:Nat) (left:List (List Int)):Prop where
 len: ∀r∈left,r.length=n
 low: ∀r∈left,∀j,j<p->cf r j=0
 bit: ∀r∈left,∀x∈r,x.natAbs<2^bdE b p
theorem Wu: ∀{leads:List Nat},leads.Nodup->(∀l∈leads,l<n)->((List.range n).filter λj=>decide (j∈leads)).length=leads.length:=by
 induction n with
 | zero=>
  intro leads _ h;cases leads with
  | nil=>rfl
  | cons l _=>exact absurd (h l υ) (Nat.not_lt_zero l)
 | succ n ih=>
  intro leads nd h;rw[List.range_succ,List.filter_append,Β];by_cases hm:n∈leads
  ·have e1:(List.range n).filter (λj=>decide (j∈leads))=(List.range n).filter (λj=>decide (j∈leads.erase n)):=List.filter_congr λj hj=>by
    have:j<n:=Λ.mp hj;have q:j≠n:=by omega
    exact decide_eq_decide.mpr ⟨λh=>nd.mem_erase_iff.mpr ⟨q,h⟩,λh=>(nd.mem_erase_iff.mp h).2⟩
   rw[e1,ih (nd.erase n) λl hl=>by
    rw[nd.mem_erase_iff] at hl;have:=h l hl.2;omega,List.length_erase_of_mem hm]
   have:0<leads.length:=List.length_pos_of_mem hm;simp[hm];omega
  ·rw[ih nd λl hl=>by
    have:=h l hl;have:l≠n:=λe=>hm (e▸hl);omega]
   simp[hm]
theorem Rd.nd(I:Rd b n rows c left leads):leads.Nodup:=I.up.imp λh=>Ν h
def wb (n:Nat) (leads:List Nat):List Nat:=(List.range n).filter λj=>decide (j∉leads)
theorem frees_len{leads:List Nat}(nd:leads.Nodup)(h: ∀l∈leads,l<n):(wb n leads).length+leads.length=n:=by
 have e:=Wu nd h;have p:=(List.filter_append_perm (λj=>decide (j∈leads)) (List.range n)).length_eq;rw[Β,Ξ,e] at p;have:wb n leads=(List.range n).filter (λj=> !decide (j∈leads)):=List.filter_congr λj _=>by simp
 rw[this];omega
end EL
namespace EL
open PySem L2
open PySem.Builtin.Int
def Bb (x:Int):Prop:=intBits x<=60000000
theorem mulBb(hx:Bb x)(hy:Bb y):IntMulOk x y:=IntMulOk.of_le hx hy (by decide)
theorem bb_of{x:Int}(h:x.natAbs<2^m)(hm:m<=60000000):Bb x:=Τ (intBits_le_iff.mpr h) hm
theorem ZL(h:x<2^m)(hm:m<=9000):x.log2<9000:=by
 by_cases h0:x=0
 ·rw[h0]; decide+kernel
 ·exact Ε ((Nat.log2_lt h0).mpr h) hm
theorem op_fdivL:OpR X (binaryOp .FloorDiv) (rI (λ_ j=>0<j/\j.natAbs.log2<9000) λi j=> .int (i / j)):=opI λi j _ _ _ _ _ hc q=>
 PyProof.Rows.floordiv_int (by have:=hc.1; omega) (by rw[Int.fdiv_eq_ediv_of_nonneg i (Int.le_of_lt hc.1)]; exact q) (.inl (PyProof.noPylong_of_log2 hc.2))
theorem op_fdivNL:OpR X (binaryOp .FloorDiv) (rI (λ_ j=>j≠0/\j.natAbs.log2<9000) λi j=> .int (i.fdiv j)):=opI λi j _ _ _ _ _ hc q=>
 PyProof.Rows.floordiv_int hc.1 q (.inl (PyProof.noPylong_of_log2 hc.2))
theorem vg(h:ta σ H λvs H1=> ∃a b,vs=[.ref a,.ref b]/\(∃xs,SqL K H1 a xs)/\(∃ys,SqL K H1 b ys)/\ForJ (Itzl K a b) g tb D σ H1):tFor (iZpl K ta) g tb D σ H:=h
theorem Xw{xs zs:List V}(hz:zs.length=xs.length)(Pv:Nat->St->Hp->Prop)(h0:Pv 0 σ H)(hl: ∀i σ H,Pv i σ H->SqL K H a xs/\SqL K H b zs)
  (hs: ∀(i:Nat) (x y:V) σ H p,xs[i]? =some x->zs[i]? =some y->Pv i σ H->H p=none->g (.ref p) σ (upd H p (.tup [x,y])) fun σ2 H2=>tb {D with nx:=Pv (i+1),ct:=Pv (i+1),bk:=D.nx} σ2 H2) (hd: ∀σ H,Pv xs.length σ H->D.nx σ H):
  ForJ (Itzl K a b) g tb D σ H:=by
 refine⟨λi m σ H=>m=xs.length-i/\i<=xs.length/\Pv i σ H,⟨xs.length,by simp,Ι _,h0⟩,?_⟩;rintro i m σ H ⟨rfl,hi,p⟩;have qa:=hl i σ H p;by_cases hlt:i<xs.length
 ·have hlz:i<zs.length:=by omega
  refine .inr ⟨⟨xs,zs,xs[i],zs[i],qa.1,qa.2,by simp[hlt],by simp[hlz]⟩,Pv (i+1),fun σ' H' p'=>⟨xs.length-(i+1),by omega,rfl,hlt,p'⟩,λv H' yv=>?_⟩;obtain⟨q,x,y,rfl,hq,rfl,ex,ey⟩:=yv;exact hs i x y σ H q (ex xs qa.1) (ey zs qa.2) p hq
 ·have e:i=xs.length:=by omega
  subst e;exact .inl ⟨⟨xs,zs,qa.1,qa.2,.inl (θ _)⟩,hd σ H p⟩
theorem Zy(h: ∃W:Nat->St->Hp->Prop,(∃m,W m σ H)/\ ∀m σ H,W m σ H->c σ H λb H1=>if b=true then∃N:St->Hp->Prop,(∀σ' H',N σ' H'-> ∃m',m'<m/\W m' σ' H')/\tb {D with nx:=N,ct:=N,bk:=D.nx} σ H1 else D.nx σ H1):XU c tb D σ H:=h
def rNiL:R2:=λx y H Q=> ∃p xs,y= .ref p/\H p=some (.lst xs)/\xZ x=true/\xs.all xZ=true/\Q (.bl (!inV x xs)) H
theorem op_notInL:OpR X (compareOp .NotIn) rNiL:=λpins s σ H x y v u Q I rx ry h=>op_notIn_seq pins s σ H x y v u Q I rx ry (let ⟨p,xs,e,hp,f1,f2,q⟩:=h; ⟨p,xs,e,.inl (SqL.of hp),f1,f2,q⟩)
def RL (H:Hp) (as:List Addr) (rows:List (List Int)):Prop:=as.length=rows.length/\ ∀(i:Nat) (a:Addr) (r:List Int),as[i]? =some a->rows[i]? =some r->H a=some (.lst (r.map V.int))
theorem RL.same(k:Same H H')(h:RL H as rows):RL H' as rows:=⟨h.1,λi a r e1 e2=>k _ _ (h.2 i a r e1 e2)⟩
theorem RL.off(hD:D∉as)(h:RL H as rows):RL (upd H D o) as rows:=⟨h.1,λi a r e1 e2=>by
 rw[zk (λe=>hD (by rw[<-e]; exact ο e1))];exact h.2 i a r e1 e2⟩
theorem RL.snoc{r:List Int}(h:RL H as rows)(ha:H a=some (.lst (r.map V.int))):RL H (as++[a]) (rows++[r]):=by
 refine⟨by rw[Β,Β,h.1]; rfl,λi b q e1 e2=>?_⟩;by_cases hi:i<as.length
 ·rw[Δ hi] at e1;rw[Δ (by rw[<-h.1]; exact hi)] at e2;exact h.2 i b q e1 e2
 ·have hi':i=as.length:=by
   have:=(ξ.mp e1).1;rw[Β] at this;have:i<as.length+1:=this;omega
  rw[hi',Α (θ _),Nat.sub_self] at e1;rw[hi',h.1,Α (θ _),Nat.sub_self] at e2;cases e1
  cases e2
  exact ha
theorem RL.nil:RL H [] []:=⟨rfl,λi a r e=>nomatch e⟩
theorem RL.at_(h:RL H as rows)(hi:i<rows.length): ∃a,as[i]? =some a/\rows[i]? =some (rows.getD i [])/\H a=some (.lst ((rows.getD i []).map V.int)):=by
 have hi':i<as.length:=by rw[h.1]; exact hi
 have e:rows[i]? =some (rows.getD i []):=by rw[ζ,δ hi]; rfl
 exact⟨as[i],δ hi',e,h.2 i _ _ (δ hi') e⟩
theorem RL.map: ∀{as:List Addr} {rows:List (List Int)} (h:RL H as rows) {a:Addr},a∈as-> ∃r∈rows,H a=some (.lst (r.map V.int)):=λ{as rows} h a ha=>by
 obtain⟨i,hi,e⟩:=List.getElem_of_mem ha;have hi':i<rows.length:=by rw[<-h.1]; exact hi
 exact⟨rows[i],Ο hi',h.2 i a _ (by rw[δ hi,e]) (δ hi')⟩
theorem RL.ne(h:RL H as rows)(hl:H l=some (.lst (as.map V.ref))):l∉as:=λhm=>by
 obtain⟨r,_,e⟩:=h.map hm;rw[hl] at e;cases as with
 | nil=>exact nomatch hm
 | cons a as=>cases r<;>simp at e
theorem W5{as:List Addr}(g:List Int->List Int)(ha:H a=some (.lst (as.map V.ref)))(hr:RL H as rows)(hn:rows.length<=1000)(hD:H D=none)
  (h: ∀(i:Nat) (q:Addr),as[i]? =some q->rows[i]? =some (rows.getD i [])->H q=some (.lst ((rows.getD i []).map V.int))-> ∀H',Same H H'-> ∀R:V->Hp->Prop,(∀y H'',Same H' H''->H' y=none->H'' y=some (.lst ((g (rows.getD i [])).map V.int))->R (.ref y) H'')->te (some (.ref q)::ρ) H' R)
  (q: ∀bs H',Same H H'->H' D=some (.lst (bs.map V.ref))->RL H' bs (rows.map g)->(∀b∈bs,H b=none)->Q (.ref D) H'):CGo (Itl K a) D (zF 0) tAll te Q (none::ρ) H:=by
 refine vY (xs:=as.map V.ref) (λi ys H'=> ∃bs:List Addr,ys=bs.map V.ref/\RL H' bs ((rows.take i).map g)/\Same H H'/\D∉bs/\ ∀b∈bs,H b=none) ⟨[],rfl,by simpa using RL.nil,Same.new (Same.refl H) hD,by simp,by simp⟩ (λi ys H' _ ⟨_,_,_,k',_⟩=>SqL.of (k' _ _ ha)) ?_ ?_
 ·rintro i x ys H' hx ⟨bs,rfl,hb,K',hDb,hfr⟩ hDy R S kR _;have hi:i<as.length:=by
   have:=(ξ.mp hx).1;simpa using this
  have hi':i<rows.length:=by rw[<-hr.1]; exact hi
  have ex:x= .ref as[i]:=by
   rw[μ,δ hi] at hx;exact(Γ hx).symm
  subst ex;have eg:rows[i]? =some (rows.getD i []):=by rw[ζ,δ hi']; rfl
  refine zU (iteT ?_);refine h i as[i] (δ hi) eg (hr.2 i _ _ (δ hi) eg) H' K' _ λy H2 K2 hy ey=>?_;have hyD:y≠D:=λe=>by rw[e,hDy] at hy; cases hy
  have hyb:y∉bs:=λhm=>by
   obtain⟨r,_,e⟩:=hb.map hm;rw[e] at hy;cases hy
  have hyH:H y=none:=by
   cases e:H y with
   | none=>rfl
   | some o=>rw[K' _ _ e] at hy; cases hy
  refine kR _ _ (K2 _ _ hDy) ?_ ⟨bs++[y],by rw[Μ]; rfl,?_,(K'.trans K2).put hD,?_,λb hm=>?_⟩
  ·rw[ε,hb.1,ε,List.length_take];exact zq (by omega)
  ·rw[List.take_add_one,eg,Μ];refine RL.off ?_ (RL.snoc (hb.same K2) ey);rw[List.mem_append];rintro(z | z)
   ·exact hDb z
   ·exact hyD (Υ.mp z).symm
  ·rw[List.mem_append];rintro(z | z)
   ·exact hDb z
   ·exact hyD (Υ.mp z).symm
  ·rcases List.mem_append.mp hm with z | z
   ·exact hfr b z
   ·rw[Υ.mp z]; exact hyH
 ·rintro ys H1 ⟨bs,rfl,hb,K1,_,hfr⟩ e1;rw[ε,List.take_of_length_le (by rw[hr.1]; exact θ _)] at hb;exact q bs H1 K1 e1 hb hfr
theorem absN(x:Int):(if x<0 then -x else x)=(x.natAbs:Int):=by split<;>omega
theorem Yr(xs:List Int)(i:Nat)(hi:i<xs.length):gcdL (xs.take (i+1))=Nat.gcd (gcdL (xs.take i)) (xs.getD i 0).natAbs:=by
 unfold gcdL;rw[List.take_add_one,δ hi,List.foldl_append,ζ,δ hi];rfl
theorem atL{xs:List Int}(h:i<xs.length):atI (xs.map V.int) (i:Int)=some (.int (xs.getD i 0)):=by
 refine zx ?_;rw[μ,δ h,ζ,δ h];rfl
theorem itI{xs:List Int}(h:(xs.map V.int)[i]? =some x):i<xs.length/\x= .int (xs.getD i 0):=by
 have hi:i<xs.length:=by
  have:=(ξ.mp h).1;simpa using this
 rw[μ,δ hi] at h;refine⟨hi,?_⟩;rw[ζ,δ hi];exact(Γ h).symm
theorem itR{xs:List Addr}{i:Nat}{x:V}(h:(xs.map V.ref)[i]? =some x): ∃q,xs[i]? =some q/\x= .ref q:=by
 have hi:i<xs.length:=by
  have:=(ξ.mp h).1;simpa using this
 rw[μ,δ hi] at h;exact⟨_,δ hi,(Γ h).symm⟩
theorem cg_zpl{xs ys:List Int}(g:Int->Int->Int)(ha:H a=some (.lst (xs.map V.int)))(hb:H b=some (.lst (ys.map V.int)))(hlen:xs.length=ys.length)(hn:xs.length<=1000)(hD:H D=none)
  (h: ∀x∈xs,∀y∈ys,∀H',Same H H'-> ∀R:V->Hp->Prop,(∀H'',Same H' H''->R (.int (g x y)) H'')->te (some (.int x)::some (.int y)::ρ) H' R)
  (q: ∀H',Same H H'->H' D=some (.lst ((List.zipWith g xs ys).map V.int))->Q (.ref D) H'):CGo (Itzl K a b) D (gTup K 2 (yj (zF 0) (yj (zF 1) gNil))) tAll te Q (none::none::ρ) H:=by
 have lz:(List.zipWith g xs ys).length=xs.length:=by rw[List.length_zipWith]; omega
 refine XI (xs:=xs.map V.int) (zs:=ys.map V.int) (n:=xs.length) (by rw[ε]; exact θ _) (by rw[ε]; omega) (.inl (by rw[ε]; exact θ _)) (λi zs H'=>zs=((List.zipWith g xs ys).take i).map V.int/\Same H H') ⟨rfl,Same.new (Same.refl H) hD⟩ (λi zs H' _ ⟨_,k'⟩=>⟨SqL.of (k' _ _ ha),SqL.of (k' _ _ hb)⟩) ?_ ?_
 ·rintro i x y zs H' p hi hx hy ⟨rfl,K'⟩ hDy hp R S kR _;obtain⟨h1,rfl⟩:=itI hx;obtain⟨h2,rfl⟩:=itI hy;refine zU (iteT ?_);refine h _ (getD_mem h1) _ (getD_mem h2) _ (K'.new hp) _ λH2 K2=>?_;have KK:Same H' H2:=(Same.new (Same.refl _) hp).trans K2;refine kR _ _ (KK _ _ hDy) (by rw[ε,List.length_take]; exact zq (by omega)) ⟨?_,(K'.trans KK).put hD⟩;rw[List.take_add_one,List.getElem?_zipWith,Μ,δ h1,δ h2,ζ,ζ,δ h1,δ h2];rfl
 ·rintro zs H1 ⟨rfl,K1⟩ e1;rw[List.take_of_length_le (by omega)] at e1;exact q H1 K1 e1
def rListL:List V->Hp->VK->Prop:=λxs H Q=> ∃p ys,xs=[.ref p]/\H p=some (.lst ys)/\ ∀l,H l=none->Q (.ref l) (upd H l (.lst ys))
theorem call_listL:yk X (.type "list") rListL:=λpins s σ H xs us Q I r h=>wJ pins s σ H xs us Q I r (let ⟨p,ys,e,hp,q⟩:=h; ⟨p,ys,e,.inl (SqL.of hp),q⟩)
theorem ZO: ∀(l:List α) (n:Nat) (a:α),n<=l.length->l.take n++a::l.drop n=l.insertIdx n a
 | l,0,a,_=>by simp
 | [],n+1,a,h=>absurd h (by simp)
 | x::l,n+1,a,h=>by
  rw[List.take_succ_cons,List.drop_succ_cons,List.cons_append,List.insertIdx_succ_cons,ZO l n a (by simpa using h)]
theorem RL.erase(h:RL H as rows)(p:Nat):RL H (as.eraseIdx p) (rows.eraseIdx p):=by
 refine⟨by rw[List.length_eraseIdx,List.length_eraseIdx,h.1],λi a r e1 e2=>?_⟩;rw[List.getElem?_eraseIdx] at e1 e2;split at e1
 ·next hi=>rw[if_pos hi] at e2; exact h.2 _ _ _ e1 e2
 ·next hi=>rw[if_neg hi] at e2; exact h.2 _ _ _ e1 e2
theorem RL.insert(h:RL H as rows){r:List Int}(ha:H a=some (.lst (r.map V.int)))(hm:m<=rows.length):RL H (as.insertIdx m a) (rows.insertIdx m r):=by
 have hl:=h.1;refine⟨by rw[List.length_insertIdx,List.length_insertIdx,hl],λi b q e1 e2=>?_⟩;rw[List.getElem?_insertIdx] at e1 e2;split at e1
 ·next hi=>rw[if_pos hi] at e2; exact h.2 _ _ _ e1 e2
 ·next hi=>
  rw[if_neg hi] at e2;split at e1
  ·next hj=>
   rw[if_pos hj] at e2;rw[if_pos (by omega)] at e1 e2;cases e1
   cases e2
   exact ha
  ·next hj=>rw[if_neg hj] at e2; exact h.2 _ _ _ e1 e2
theorem RL.take(h:RL H as rows)(n:Nat):RL H (as.take n) (rows.take n):=by
 refine⟨by rw[List.length_take,List.length_take,h.1],λi a r e1 e2=>?_⟩;rw[List.getElem?_take] at e1 e2;split at e1
 ·next hi=>rw[if_pos hi] at e2; exact h.2 _ _ _ e1 e2
 ·cases e1
def nL (ls:List Nat):List V:=ls.map λn:Nat=>V.int (n:Int)
def oV:Option Nat->V
 | none=> .non
 | some t=> .int (t:Int)
theorem w_cont{D:Ends}(h:D.ct σ H):WO D σ H:=h
theorem seqIndex_nat{p n:Nat}(h:p<n):seqIndex? (p:Int) n=some p:=by
 have:=PySem.StrLaws.seqIndex_nonneg (i:=(p:Int)) (n:=n) (by omega) (by omega);rw[Θ] at this;exact this
theorem Ws{xs:List V}(h:k<=xs.length):cutV xs none (some (k:Int))=xs.take k:=by
 unfold cutV;rw[HT.sIx_none,HT.sIx_nat,List.drop_zero,Nat.sub_zero,Nat.min_eq_left h]
theorem cut_from{xs:List V}(h:k<=xs.length):cutV xs (some (k:Int)) none=xs.drop k:=by
 unfold cutV;rw[HT.sIx_none,HT.sIx_nat,Nat.min_eq_left h];exact List.take_of_length_le (by rw[List.length_drop]; exact θ _)
theorem Zm(f:α->β): ∀(l:List α) (p:Nat),(l.map f).eraseIdx p=(l.eraseIdx p).map f
 | [],_=>rfl
 | _::_,0=>rfl
 | a::l,p+1=>by
  rw[List.map_cons,List.eraseIdx_cons_succ,List.eraseIdx_cons_succ,List.map_cons,Zm f l p]
theorem ins_map(f:α->β)(l:List α)(n:Nat)(a:α)(h:n<=l.length):(l.map f).insertIdx n (f a)=(l.insertIdx n a).map f:=by
 rw[<-ZO _ _ _ h,<-ZO _ _ _ (by rw[ε]; exact h),Μ,List.map_cons,List.map_take,List.map_drop]
theorem Xr{l:List α}{a b:α}(hn:n<=l.length)(h:b∈l.insertIdx n a):b=a\/b∈l:=(List.mem_insertIdx hn).mp h
theorem ixK'(h1:r<n):ixN n (r:Int)=some r:=by
 unfold ixN;rw[if_pos (by omega),if_pos (by omega),Θ]
theorem bb_fdiv(h:Bb x):Bb (x.fdiv y):=intBits_fdiv_le h
def X0:List V->Hp->VK->Prop:=λxs H Q=> ∃p ys,xs=[.ref p]/\(H p=some (.tup ys)\/H p=some (.lst ys))/\ ∀l,H l=none->Q (.ref l) (upd H l (.lst ys))
theorem call_listS:yk X (.type "list") X0:=λpins s σ H xs us Q I r h=>wJ pins s σ H xs us Q I r (let ⟨p,ys,e,hp,q⟩:=h; ⟨p,ys,e,hp.elim (λz=> .inr (SqT.of z)) (λz=> .inl (SqL.of z)),q⟩)
end EL
namespace L2
open PySem PySem.Spec PyProof.Rows G2
theorem _root_.L2.nob(o:HO)(h:H a=none): ∃H2,upd H a o=H2/\Same H H2/\H2 a=some o:=⟨_,rfl,Same.new (Same.refl _) h,zf⟩
theorem _root_.L2.nop(o:HO)(M:Same H G)(h:H a=none): ∃H2,upd G a o=H2/\Same H H2/\H2 a=some o:=⟨_,rfl,M.put h,zf⟩
section
variable {S:Hp->Hp->Prop} {D:Addr} {te:TE} {Q:VK} {ρ:St} {H:Hp} {K:W.Frag} {a:Addr} {rs:List Addr}
theorem gm_lst2(Ok:Nat->V->Hp->Prop)(kp:Kp S D H)(mono: ∀{j y H1 H2},TK H1 H2->Ok j y H1->Ok j y H2)(tk: ∀{H1 H2},S H H1->S H1 H2->TK H1 H2)(hn:rs.length<=1000)(src: ∀H',S H H'->SqL K H' a (rs.map V.ref))
  (step: ∀i r H',rs[i]? =some r->S H H'-> ∃u v,H' r=some (.tup [u,v])/\ ∀(R:V->Hp->Prop),(∀y H4,S H' H4->Ok i y H4->R y H4)->te (some u::some v::ρ) H' R)
  (q: ∀ys H',GP S Ok H rs.length ys H'->H' D=some (.lst ys)->Q (.ref D) H'):CGo (Itl K a) D (gTup K 2 (yj (zF 0) (yj (zF 1) gNil))) tAll te Q (none::none::ρ) H:=by
 refine⟨λi m τ ys H'=>m=rs.length-i/\i<=rs.length/\(∃tv tw,τ=tv::tw::ρ)/\GP S Ok H i ys H'/\H' D=some (.lst ys),⟨rs.length,by omega,Ι _,⟨_,_,rfl⟩,⟨kp.refl,rfl,λj y h=>by simp at h⟩,zf⟩,?_⟩;rintro i m τ ys H' ⟨rfl,hi,⟨tv,tw,rfl⟩,g,hD⟩;refine⟨hD,?_⟩;have sq:=src H' g.1;by_cases hlt:i<rs.length
 ·refine .inr ⟨⟨_,.ref rs[i],sq,by simp[hlt]⟩,?_⟩;rintro v H'' ⟨rfl,hv⟩;have hv':=hv _ sq;rw[μ,δ hlt] at hv';cases hv'
  obtain⟨u,v,e,h⟩:=step i rs[i] _ (δ hlt) g.1;refine⟨rs[i],[u,v],rfl,SqT.of e,rfl,u,[v],rfl,v,[],rfl,rfl,?_⟩;refine zU (iteT (h _ λy H4 k hy=>⟨kp.at' g.1 k hD,zq (by have:=g.2.1; omega),rs.length-(i+1),by omega,rfl,hlt,⟨_,_,rfl⟩,vp (Ok:=Ok) kp mono tk g k (kp.at' g.1 k hD) hy,zf⟩))
 ·have e:i=rs.length:=by omega
  subst e;exact .inl ⟨⟨_,sq,by simp⟩,q ys _ g hD⟩
end
theorem Yt{K:W.Frag}{a b:Addr}{xs zs:List V}(hz:xs.length<=zs.length){g:TG}{tb:TS}{D:Ends}{σ:St}{H:Hp}(Pv:Nat->St->Hp->Prop)(h0:Pv 0 σ H)(hl: ∀i σ H,Pv i σ H->SqL K H a xs/\SqL K H b zs)
  (hs: ∀(i:Nat) (x y:V) σ H p,xs[i]? =some x->zs[i]? =some y->Pv i σ H->H p=none->g (.ref p) σ (upd H p (.tup [x,y])) fun σ2 H2=>tb {D with nx:=Pv (i+1),ct:=Pv (i+1),bk:=D.nx} σ2 H2) (hd: ∀σ H,Pv xs.length σ H->D.nx σ H):
  ForJ (Itzl K a b) g tb D σ H:=by
 refine⟨λi m σ H=>m=xs.length-i/\i<=xs.length/\Pv i σ H,⟨xs.length,by simp,Ι _,h0⟩,?_⟩;rintro i m σ H ⟨rfl,hi,p⟩;have qa:=hl i σ H p;by_cases hlt:i<xs.length
 ·have hlz:i<zs.length:=by omega
  refine .inr ⟨⟨xs,zs,xs[i],zs[i],qa.1,qa.2,by simp[hlt],by simp[hlz]⟩,Pv (i+1),fun σ' H' p'=>⟨xs.length-(i+1),by omega,rfl,hlt,p'⟩,λv H' yv=>?_⟩;obtain⟨q,x,y,rfl,hq,rfl,ex,ey⟩:=yv;exact hs i x y σ H q (ex xs qa.1) (ey zs qa.2) p hq
 ·have e:i=xs.length:=by omega
  subst e;exact .inl ⟨⟨xs,zs,qa.1,qa.2,.inl (θ _)⟩,hd σ H p⟩
theorem w_potW{σ:St}(hi:σ[i]? =some (some (.ref pl)))(hj:σ[j]? =some (some (.ref lr)))(e1:H pl=some (.tup (u1::u2::us)))(el:H lr=some (.lst ys))(hu:us.length<=10)
  (q: ∀q6 q2 H',Same H H'->H' q6=some (.tup (u1:: .ref q2::us))->H' q2=some (.tup ys)->Q (.ref q6) H'):
  (tOp X1 (tOp X1 (tSl rSlG (tVar i) vh (Y1 (tC (V.int 1)))) (tTup (yn (tCB Xb (yn (tVar j) tNil)) tNil))) (tSl rSlG (tVar i) (Y1 (tC (V.int 2))) vh)) σ H Q:=by
 refine w_op (w_op (w_sl (yg hi (z0 (yM (w_c ?_))))));refine⟨_,rfl,pl,_,rfl,e1,λq1 H1 K1 g1=>?_⟩;refine xf (zK (w_cb (zK (yg hj (yp ?_)))));refine⟨lr,ys,rfl,K1 _ _ el,λq2 H2 K2 g2=>yp ⟨sz1,λq3 h3=>?_⟩⟩;obtain⟨H3,q,K3,g3⟩:=nob (.tup [.ref q2]) h3; rw[q]; clear q;refine⟨q1,q3,_,_,rfl,rfl,K3 _ _ (K2 _ _ g1),g3,?_,λq4 H4 K4 g4=>?_⟩
 ·simp[cutV];omega
 refine w_sl (yg hi (yM (w_c ⟨_,rfl,z0 ?_⟩)));have K14:=((K1.trans K2).trans K3).trans K4;refine⟨pl,_,rfl,K14 _ _ e1,λq5 H5 K5 g5=>?_⟩;refine⟨q4,q5,_,_,rfl,rfl,K5 _ _ g4,g5,?_,λq6 H6 K6 g6=>?_⟩
 ·simp[cutV];omega
 refine q q6 q2 H6 ((K14.trans K5).trans K6) ?_ (K6 _ _ (K5 _ _ (K4 _ _ (K3 _ _ g2))));have c1:cutV (u1::u2::us) none (some 1)=[u1]:=by simp[cutV,HT.sIx]
 have c2:cutV (u1::u2::us) (some 2) none=us:=by simp[cutV,HT.sIx]
 rw[g6,c1,c2];rfl
end L2
namespace L2
open PySem
theorem pi_zpB{X:Cx}(hm:X.mg "zip"=none)(ha:PA X [e,e'] ta)(hK:X.K=K)(hg:Gl X "zip":=by rfl)(h:zM e=false:=by rfl)(h':zM e'=false:=by rfl):PI X (.Tuple es kt pt) (.Call (.Name "zip" p) [e,e'] [] pos) (iZp K ta):=hK▸Xe hm ha hg h h'
theorem pg_tupK{X:Cx}(hK:X.K=K)(hc:X.calm=true)(hn:(assignEach es X.env).length=n)(hst:(assignEach es X.env).findIdx? (·.1)=none)(h:PGs X es t):PG X (.Tuple es k pos) (gTup K n t):=hK▸xM hc h hn hst
end L2
namespace L2
open PySem PySem.Spec PyProof.Rows
def codH (c:Addr) (q:Str):HO:= .ext λh=>h.CodeRec (.ref c) q
def TabAt (H:Hp) (P:Addr) (q:Str):Prop:= ∃ps:Array Value,H P=some (.tbl ps)/\TriplesOk ps.toList/\ ∀pos cv,codeAmong pos ps.toList=some cv-> ∃c,cv= .ref c/\H c=some (codH c q)
def SameB (P:Addr) (H H':Hp):Prop:= ∀a o,a≠P->H a=some o->H' a=some o
theorem SameB.refl:SameB P H H:=λ_ _ _ e=>e
theorem SameB.trans(a:SameB P H H1)(b:SameB P H1 H2):SameB P H H2:=λx o n e=>b x o n (a x o n e)
theorem among_snoc(l:List Value)(h:TriplesOk l)(e:codeAmong pos (l++[rawInt a,rawInt b,c])=some cv):codeAmong pos l=some cv\/cv=c:=by
 fun_induction TriplesOk l with
 | case1=>
  simp only[List.nil_append,codeAmong,rawInt] at e;split at e
  ·exact .inr (Γ e).symm
  ·cases e
 | case2 a' t b' u x rest ih=>
  simp only[List.cons_append,codeAmong] at e ⊢;split at e
  ·rename_i hc; rw[if_pos hc]; exact .inl e
  ·rename_i hc; rw[if_neg hc]; exact ih h e
 | case3 l h1 h2=>exact h.elim
structure LamOk (X:Cx) (c P:Addr):Prop where
 code:X.env.code= .ref c
 hd:PySem.W.CodeHd X.base c P
 bm: ∃bm ob,X.mg "__builtins__"=some (.ref bm)/\bm≠builtinsNs/\X.base.get? bm=some ob/\ob.cls= .type "module"/\ob.dict=some builtinsNs/\ob.data= .plain
abbrev lamQ (X:Cx):Str:=X.env.qual++"<lambda>"
def lamO (X:Cx) (ps:Arguments) (body:Expr) (sc:Scope) (pm:Value) (c:Addr) (ct:Value):Obj:=PySem.W.kla_obj "<lambda>" (lamQ X) ps body sc (cloF X.env sc.names []) pm c ct
def we (X:Cx) (ps:Arguments) (body:Expr) (sc:Scope) (H:Hp) (f:Addr):Prop:=
 ∃pm c ct,H f=some (.ext λh=>h.get? f=some (lamO X ps body sc pm c ct))/\H c=some (codH c (lamQ X))
def tLam (X:Cx) (ps:Arguments) (body:Expr) (sc:Scope) (P:Addr):TE:=λ_ H Q=>TabAt H P (lamQ X)/\ ∀f H',SameB P H H'->TabAt H' P (lamQ X)->we X ps body sc H' f->H f=none->Q (.ref f) H'
theorem TabAt.sameB(h:TabAt H P q)(k:SameB P H H')(e:H' P=H P):TabAt H' P q:=by
 obtain⟨ps,h1,h2,h3⟩:=h;refine⟨ps,e.trans h1,h2,λpos cv e'=>?_⟩;obtain⟨c,rfl,hc⟩:=h3 pos cv e';refine⟨c,rfl,k c _ (λz=>?_) hc⟩;rw[z,h1] at hc;cases hc
theorem TabAt.same(h:TabAt H P q)(k:Same H H'):TabAt H' P q:=by
 obtain⟨ps,h1,h2,h3⟩:=h;refine⟨ps,k _ _ h1,h2,λpos cv e'=>?_⟩;obtain⟨c,rfl,hc⟩:=h3 pos cv e';exact⟨c,rfl,k _ _ hc⟩
section
variable {X:Cx} {ps:Arguments} {body:Expr} {sc:Scope} {pos:Pos} {c P:Addr}
theorem YT{φ:Heap->Prop}(h1:φ h)(h2: ∃o,h.get? a=some o)(h3: ∀h1 h2:Heap,φ h1->(∀o,h1.get? a=some o->h2.get? a=some o)->φ h2):ObjOk X.prog X.w H h a (.ext φ):=⟨h1,h2,h3⟩
theorem X7(L:LamOk X c P)(hfr: ∀y∈sc.names,y.2= .free->X.env.scope.names.lookup y.1=some .cell)(hdef:defaultsOf ps X.env=([],[]):=by rfl):PE X (.Lambda ps body sc pos) (tLam X ps body sc P):=by
 intro pins s σ H Q I h;obtain⟨⟨tb,hP,ht,hc⟩,k⟩:=h;have eP:s.heap.get? P=some (PySem.W.tabObj tb):=I.hok P _ hP;have hcl:closureFor sc X.env=pure (cloF X.env sc.names []):=wm λx hx hk=>I.ok.has x.1 (.inl (hfr x hx hk));have hg:=I.mod.glob.keeps I.bk;have hgP:mainGlobals≠P:=λq=>by
  obtain⟨o,es,ep,e,hd,_⟩:=hg;rw[q,eP] at e; cases e; cases hd
 obtain⟨bm,ob,b1,b2,b3,b4,b5,b6⟩:=L.bm;have b3':=I.bk _ _ b3;have hbP:bm≠P:=λq=>by rw[q,eP] at b3'; cases b3'; cases b6
 have hbG:bm≠mainGlobals:=λq=>by
  obtain⟨o,es,ep,e,hd,_⟩:=hg;rw[q,e] at b3'; cases b3'; rw[hd] at b6; cases b6
 have hB:s.heap.BuiltinsAt X.mg P:=⟨bm,ob,b1,b2,hbG,hbP,b3',b4,b5,b6⟩;refine PySem.W.kla_eval hdef ?_;cases hf:codeAmong pos tb.toList with
 | some cv=>
  obtain⟨c',rfl,e'⟩:=hc pos cv hf;refine PySem.W.kla_makeFunctionHit (mg:=X.mg) hcl I.ok.glob hg L.code (L.hd.keeps I.bk) eP ht hf hB λct h' tk hk hsz=>?_;have hnew:H h'.objs.size=none:=I.hok.fresh hsz;have hk': ∀b o,s.heap.get? b=some o->(h'.push (lamO X ps body sc ((X.mg "__name__").getD .none) c' ct)).get? b=some o:=λb o e=>η _ (hk b o e);have I':=I.laid (t':=tk) (a:=h'.objs.size) (o:= .ext λh=>h.get? h'.objs.size=some (lamO X ps body sc ((X.mg "__name__").getD .none) c' ct)) hk' hsz
   (YT (π _ rfl) ⟨_,π _ rfl⟩ λh1 h2 e1 e2=>e2 _ e1)
  refine⟨.ref h'.objs.size,_,I',rfl,k _ _ (λa o _ e=>?_) ?_ ⟨_,c',ct,zf,?_⟩ hnew⟩
  ·rw[zk (zh e hnew)]; exact e
  ·exact TabAt.sameB ⟨tb,hP,ht,hc⟩ (λa o _ e=>by rw[zk (zh e hnew)]; exact e) (by rw[zk (zh hP hnew)])
  ·rw[zk (zh e' hnew)]; exact e'
 | none=>
  refine PySem.W.kla_makeFunction (mg:=X.mg) hcl I.ok.glob hg L.code (L.hd.keeps I.bk) eP ht hf hgP hB λc' ct h' tk hx hge hlt hrec htb=>?_;have hcn:H c'=none:=I.hok.fresh hge;have hcP:c'≠P:=Ne.symm (zh hP hcn)
  let H1:Hp:=upd (upd H P (.tbl (tb++#[rawInt pos.line,rawInt pos.col,.ref c']))) c' (codH c' (lamQ X))
  have hsz:s.heap.objs.size<=h'.objs.size:=Τ hge (Nat.le_of_lt hlt);have e1c:H1 c'=some (codH c' (lamQ X)):=zf;have e1P:H1 P=some (.tbl (tb++#[rawInt pos.line,rawInt pos.col,.ref c'])):=by show upd _ _ _ _=_; rw[zk (Ne.symm hcP),zf]
  have e1: ∀b,b≠P->b≠c'->H1 b=H b:=λb n1 n2=>by show upd _ _ _ _=_; rw[zk n2,zk n1]
  have e1s: ∀b u,b≠P->H b=some u->H1 b=some u:=λb u n e=>by rw[e1 b n (zh e hcn)]; exact e
  have nP: ∀b,H b=none->b≠P:=λb e z=>by rw[z,hP] at e; cases e
  have nC: ∀b o,s.heap.get? b=some o->b≠c':=λb o e=>Ν (Ε (ν e) hge);have I1:Inv X pins σ H1 {s with heap:=h',toks:=tk}:=by
   refine I.step (g':=s.gens) (d':=s.drawn) (ch:=[]) (λ_ z=>nomatch z) (λb o _ _ _ e n=>hx b o (nP b n) e) (λb o _ _ _ e n=>⟨o.slots,hx b o (nP b n) e⟩) (λb o _ e n=>by rw[e1 b (nP b n) (nC b o e)]; exact n)
    (λb o _ e=>?_) (λb xs e=>e1s b _ (λz=>by rw[z,hP] at e; cases e) e) (λb o u e=>e1s b _ (λz=>by rw[z,hP] at e; cases e) e) (λb qs e=>?_) (λm hm=>?_) (λb u e=>?_) I.bare
   ·by_cases hb:b=P
    ·exact⟨_,hb▸htb⟩
    ·exact⟨o,hx b o hb e⟩
   ·by_cases hb:b=P
    ·subst hb;rw[hP] at e;cases e
     exact⟨#[rawInt pos.line,rawInt pos.col,.ref c'],e1P⟩
    ·exact⟨#[],by rw[e1s b _ hb e]; simp⟩
   ·obtain⟨o,es,ep,eo,r⟩:=hm;exact⟨o,es,ep,hx _ _ (nP _ I.free) eo,r⟩
   ·by_cases hb:b=c'
    ·subst hb;rw[e1c] at e;cases e
     obtain⟨c2,oc,vs,t,e2,hoc,hd,hv⟩:=hrec;cases e2
     exact YT ⟨b,oc,vs,t,rfl,hoc,hd,hv⟩ ⟨oc,hoc⟩ λh1 h2 ⟨c3,oc3,vs3,t3,e3,hoc3,r3⟩ k3=>by cases e3; exact⟨b,oc3,vs3,t3,rfl,k3 _ hoc3,r3⟩
    ·by_cases hb2:b=P
     ·subst hb2;rw[e1P] at e;cases e
      exact htb
     ·rw[e1 b hb2 hb] at e;refine(I.hok b u e).stay (λa v ha q=>hx a v (λz=>?_) q) (λa q=>e1s a _ (λz=>by rw[z,hP] at q; cases q) q) λa xs q=>e1s a _ (λz=>by rw[z,hP] at q; cases q) q;rcases ha with rfl | ha
      ·exact hb2 z
      ·rw[z,hP] at ha; cases ha
  have hnew:H1 h'.objs.size=none:=I1.hok.fresh (θ _);have hnew0:H h'.objs.size=none:=I.hok.fresh hsz;have I':=I1.laid (t':=tk) (a:=h'.objs.size) (o:= .ext λh=>h.get? h'.objs.size=some (lamO X ps body sc ((X.mg "__name__").getD .none) c' ct)) (h':=h'.push (lamO X ps body sc ((X.mg "__name__").getD .none) c' ct)) (λb o e=>η _ e) (θ _)
   (YT (π _ rfl) ⟨_,π _ rfl⟩ λh1 h2 e1 e2=>e2 _ e1)
  have kk:SameB P H (upd H1 h'.objs.size (.ext λh=>h.get? h'.objs.size=some (lamO X ps body sc ((X.mg "__name__").getD .none) c' ct))):=λa o n e=>by
   rw[zk (zh e hnew0)]; exact e1s a o n e
  refine⟨.ref h'.objs.size,_,I',rfl,k _ _ kk ⟨tb++#[rawInt pos.line,rawInt pos.col,.ref c'],?_,?_,λp2 cv e2=>?_⟩ ⟨_,c',ct,zf,?_⟩ hnew0⟩
  ·rw[zk (zh e1P hnew)]; exact e1P
  ·have:=TriplesOk_snoc pos.line pos.col (.ref c') _ ht;simpa using this
  ·have e2':codeAmong p2 (tb.toList++[rawInt pos.line,rawInt pos.col,.ref c'])=some cv:=by simpa using e2
   rcases among_snoc _ ht e2' with e3 | rfl
   ·obtain⟨c3,rfl,h3⟩:=hc p2 cv e3;exact⟨c3,rfl,kk _ _ (λz=>by rw[z,hP] at h3; cases h3) h3⟩
   ·exact⟨c',rfl,by rw[zk (zh e1c hnew)]; exact e1c⟩
  ·rw[zk (zh e1c hnew)]; exact e1c
end
structure LScope (o sc:Scope) (v:Str) (F:List Str):Prop where
 kind:sc.kind= .function
 co:sc.isCoroutine=false
 gen:sc.isGenerator=false
 nocell: ∀y∈sc.names,y.2≠.cell
 par:sc.names.lookup v=some .local
 fr: ∀y∈sc.names,y.2= .free->o.names.lookup y.1=some .cell
 ff: ∀y∈F,(y,NameKind.free)∈sc.names/\sc.names.lookup y=some .free
 nv:v∉F
abbrev lamE (X:Cx) (sc:Scope) (cl:List (Str×Addr)) (L f:Addr) (cd:Value):Env:=PySem.W.envX (lamQ X) sc L f cd cl
def cxL (X:Cx) (N:List Str) (sc:Scope) (cl:List (Str×Addr)) (L f:Addr) (cd:Value) (A:Around) (s₃:Shared) (H₃:Hp) (xe:Value->Shared->Prop):Cx:=
 {X with A:=A.deeper (lamE X sc cl L f cd),N:=N,s₀:=s₃,H₀:=H₃,env:=lamE X sc cl L f cd,outer:=X.stack,stack:=lamE X sc cl L f cd::X.stack,ex:=[],fn:=λ_=>false,pn:=[],xe:=xe}
section
variable {X:Cx} {pins:List (Addr×Obj)} {σ:St} {H:Hp} {s:Shared} {sc:Scope} {v:Str} {F:List Str} {ix:List Nat}
theorem inv_lam{A:Around}{h4:Heap}{m:Str->Option Value}{xe:Value->Shared->Prop}
  (S:LScope X.env.scope sc v F) (hix:ix.map (λi=>X.N[i]?)=F.map some) (I:Inv X pins σ H s) (hA:A.frames=some X.stack) (hh:A.handled=none)
  (hk: ∀b o,s.heap.get? b=some o->h4.get? b=some o) (hn:h4.Ns s.heap.objs.size m) (hm:m v=some u) (r:RelV y u):
  Inv (cxL X (v::F) sc (cloF X.env sc.names []) s.heap.objs.size f cd A s H xe) [] (some y::sub ix σ) H {s with heap:=h4,toks:=tk}:=by
 have cl: ∀x c,(cloF X.env sc.names []).lookup x=some c->X.env.cells.lookup x=some c:=λx c e=>by
  rw[yd] at e;by_cases hx:(x,NameKind.free)∈sc.names
  ·rw[if_pos hx] at e;obtain⟨c',hc'⟩:=I.ok.has x (.inl (S.fr _ hx rfl));rw[hc'] at e ⊢;exact e
  ·rw[if_neg hx] at e;cases e
 have cl': ∀x,(x,NameKind.free)∈sc.names->(cloF X.env sc.names []).lookup x=X.env.cells.lookup x:=λx hx=>by
  rw[yd,if_pos hx];obtain⟨c',hc'⟩:=I.ok.has x (.inl (S.fr _ hx rfl));rw[hc'];rfl
 have hlen:ix.length=F.length:=by
  have:=congrArg List.length hix;simpa using this
 have noE: ∀b:Addr,b∉(cxL X (v::F) sc (cloF X.env sc.names []) s.heap.objs.size f cd A s H xe).ex:=λb z=>absurd (show b∈([]:List Addr) from z) (by simp);refine⟨⟨I.ok.mod,S.kind,rfl,rfl,θ _,λx y c h1 h2=>I.ok.inj x y c (cl x c h1) (cl y c h2),λx hx=>?_,λx c z=>(nomatch z),λ_=>hh,Around.frames_deeper hA,.inr ⟨rfl,rfl⟩,λb hb=>absurd hb (noE b),
  I.bs,Τ I.ok.bsz I.sz,λb o e=>noE b,λb hb=>absurd hb (noE b),I.stack,I.stkFree⟩,rfl,I.bare,Un.kept hk,⟨m,hn,λi x w h1 h2 h3=>?_⟩,λx c e=>?_,I.hok.fresh (θ _),λx c e=>I.freeC x c (cl x c e),λp hp=>absurd (show p∈([]:List (Addr×Obj)) from hp) (by simp),I.hok.kept hk,?_⟩
 ·have hx:sc.names.lookup x=some .cell\/sc.names.lookup x=some .free:=hx;rcases hx with hx | hx
  ·exact absurd rfl (S.nocell _ (PySem.mem_of_lookup hx))
  ·have hx':=PySem.mem_of_lookup hx;obtain⟨c,hc⟩:=I.ok.has x (.inl (S.fr _ hx' rfl));exact⟨c,(cl' x hx').trans hc⟩
 ·cases i with
  | zero=>
   have e1:v=x:=Γ h1;have e2:y=w:=Γ (Γ h2);subst e1; subst e2;exact⟨u,r,.inl ⟨S.par,hm⟩⟩
  | succ i=>
   have h1':F[i]? =some x:=h1;have h2:(sub ix σ)[i]? =some (some w):=h2;have e3:=congrArg (λl=>l[i]?) hix;simp only[List.getElem?_map,h1',Option.map_some] at e3;unfold sub at h2;rw[μ] at h2;cases ej:ix[i]? with
   | none=>rw[ej] at h2; cases h2
   | some k=>
    rw[ej] at h2 e3;have h2':(σ[k]?).join=some w:=Γ h2;have e3':X.N[k]? =some x:=Γ e3;have hσ:σ[k]? =some (some w):=by
     cases e:σ[k]? with
     | none=>rw[e] at h2'; cases h2'
     | some q=>
      rw[e] at h2';have:q=some w:=h2';rw[this]
    have hfr:=S.ff x (ο h1');have hcell:=S.fr _ hfr.1 rfl;obtain⟨m0,hn0,hl0⟩:=I.loc;obtain⟨u',r',l⟩:=hl0 k x w e3' hσ (.inr (.inl hcell));refine⟨u',r',?_⟩;rcases l with ⟨l1,_⟩ | ⟨_,c,hc,o,ho',hd⟩
    ·have l1':X.env.scope.names.lookup x=some .local:=l1;rw[hcell] at l1';cases l1'
    ·exact .inr ⟨.inr hfr.2,c,(cl' x hfr.1).trans hc,o,hk c o ho',hd⟩
 ·obtain⟨v',o,ho',hd⟩:=I.cell x c (cl x c e);exact⟨v',o,hk c o ho',hd⟩
 ·show _=(v::F).length;rw[List.length_cons,List.length_cons];unfold sub;rw[ε,hlen]
theorem Yo{E:Value->Shared->Prop}(hr:Room k X.A)(S:LScope X.env.scope sc v F)(hix:ix.map (λi=>X.N[i]?)=F.map some)
  (hb: ∀pm c ct u,bindArgs (PySem.W.kla_fn "<lambda>" (lamQ X) ps body sc (cloF X.env sc.names []) pm (.ref c) ct) ⟨[u],[]⟩=pure [(v,u)])
  (he: ∀cl L f cd A s3 H3 xe,PE (cxL X (v::F) sc cl L f cd A s3 H3 xe) body te) (I:Inv X pins σ H s) (hf:we X ps body sc H f) (r:RelV y u) (h:te (some y::sub ix σ) H Q):
  wpAny (model X.prog X.w) X.A.in1 (call (.ref f) [u]) (EP X pins σ Q) E s:=by
 obtain⟨pm,c,ct,h1,h2⟩:=hf;have ho:s.heap.get? f=some (lamO X ps body sc pm c ct):=(I.hok f _ h1).1;have hcd:s.heap.CodeRec (.ref c) (lamQ X):=(I.hok c _ h2).1;refine wpAny_call (PySem.W.kla_callFunE (fd:=PySem.W.kla_fn "<lambda>" (lamQ X) ps body sc (cloF X.env sc.names []) pm (.ref c) ct) (body:=body) hr.depth ho rfl S.co S.gen rfl hcd ?_);rw[hb];refine ι (wpAny_newFunctionEnv S.nocell (λx hx=>?_) (λh4 hns hsb=>⟨I.nolimit.fresh _ hsb,?_⟩) S.kind)
 ·rw[Υ.mp hx]; exact S.par
 have hk: ∀b o,s.heap.get? b=some o->h4.get? b=some o:=λb o e=>hsb.extBut b o (Ν (ν e)) (η _ e);show codeAny _ _ (.expr body (lamE X sc (cloF X.env sc.names []) s.heap.objs.size f (.ref c))) _ _;refine PySem.W.kla_codeExpr ?_;have I4:=inv_lam (f:=f) (cd:= .ref c) (A:=X.A.in1) (tk:=s.toks+[(v,u)].length) (xe:=λe' s'=>wpAny (model X.prog X.w) (X.A.in1.deeper (lamE X sc (cloF X.env sc.names []) s.heap.objs.size f (.ref c))) (leaving (lamE X sc (cloF X.env sc.names []) s.heap.objs.size f (.ref c)) e') (λ_ s''=>E e' s'') (λe'' s''=>E e'' s'') s')
  S hix I I.ok.frames hr.hd hk hns (show [(v,u)].reverse.lookup v=some u by simp) r
 refine wpAny_mono (he _ _ _ _ _ _ _ _ _ _ _ _ _ I4 h) (λx s5 ⟨z,H5,I5,rz,q5⟩=>?_) λ_ _ z=>z;exact⟨z,H5,I.call' (ch:=[]) I5.os I5.base I5.hok I5.bare (λ_ z=>nomatch z),rz,q5⟩
end
def bsK (kf:Int->Int):Option Int->List V
 | none=>[]
 | some b=>[.int b,.int (kf b)]
theorem wP(r:Vals [a,b] us): ∃u w,us=[u,w]/\RelV a u/\RelV b w:=by
 cases r with
 | cons h1 r=>cases r with
  | cons h2 r=>cases r; exact⟨_,_,rfl,h1,h2⟩
theorem min_lt{Q:Value->Shared->Prop}{E:Value->Shared->Prop}(h:Q (.bool (decide (i<j))) s):wpAny (model prog w) A (richCompare .Lt (.int i t) (.int j u)) Q E s:=
 CmpOf.ints_lt (prog:=prog) (w:=w) (A:=A) (P:=λn v=> ∃t,v= .int ([i,j].getD n 0) t) (λn=>[i,j].getD n 0) (λ_ _ z=>z) 0 1 _ _ s Q E ⟨t,rfl⟩ ⟨u,rfl⟩ h
section
variable {X:Cx} {pins:List (Addr×Obj)} {σ:St} {sc:Scope} {v:Str} {F:List Str} {ix:List Nat} {k:Nat} {ps:Arguments} {body:Expr} {te:TE} {l f it S P:Addr} {ns:List Int} {kf:Int->Int} {H0:Hp} {R:Result->Shared->Prop}
theorem minK_loop(hr:Room k X.A)(LS:LScope X.env.scope sc v F)(hix:ix.map (λi=>X.N[i]?)=F.map some)
  (hb: ∀pm c ct u,bindArgs (PySem.W.kla_fn "<lambda>" (lamQ X) ps body sc (cloF X.env sc.names []) pm (.ref c) ct) ⟨[u],[]⟩=pure [(v,u)])
  (he: ∀cl L f cd A s3 H3 xe,PE (cxL X (v::F) sc cl L f cd A s3 H3 xe) body te)
  (hte: ∀H',Same H0 H'-> ∀i∈ns,te (some (.int i)::sub ix σ) H' (λy H''=>H''=H'/\y= .int (kf i)))
  (hl0:H0 l=some (.lst (ns.map V.int))) (hS0:H0 S=none)
  (i1:X.s₀.heap.objs.size<=it) (i2: ∀x c,X.env.cells.lookup x=some c->c≠it) (i3: ∀p∈X.pn++pins,p.1≠it) (i4:it≠X.env.locals) (i5:it∉X.fs)
  (fin: ∀ob H' s' u,Inv X pins σ H' s'->Same H0 H'->(ob=none->ns=[])->(∀b,ob=some b->b∈ns/\ ∀i∈ns,kf b<=kf i)->RelV (ob.elim V.non V.int) u->R (.ok (.ret u)) s'):
  ∀(r j:Nat) (ob:Option Int) (H:Hp) (s:Shared) (oI:Obj),ns.length-j=r->j<=ns.length->Inv X ((it,oI)::pins) σ H s->s.heap.IsListIter it l j->Same H0 H->we X ps body sc H f->H S=some (.lst (bsK kf ob))->
   (∀i∈ns.take j,∃b,ob=some b/\kf b<=kf i)->(∀b,ob=some b->b∈ns)->
   codeAny (model X.prog X.w) X.A (.builtin "min.loop" ⟨[.ref it,.ref f,.ref S],[(Str.ofString "default",.none)]⟩) R s:=by
 have hname:(toString "min"++toString ".loop":String)="min.loop":=by decide
 intro r
 induction r with
 | zero=>
  intro j ob H s oI hr' hj I hit hs hf hS hbest hob;have J:Inv X pins σ H s:=I.pins_of λp hp=>I.pin p (ω _ (χ _ hp));obtain⟨_,p2,_⟩:=I.pin (it,oI) (ω _ υ);obtain⟨its,n,rv,eS,_⟩:=I.lst hS;obtain⟨vs,nl,rl,el,zl⟩:=I.lst (hs l _ hl0);have hL:s.heap.IsList l vs.toArray:=⟨_,el,rfl,nl,rfl⟩;have hlen:vs.length=ns.length:=by rw[<-rl.length,ε]
  have hli:l≠it:=λz=>by rw[z] at hl0; have:=hs it _ hl0; rw[p2] at this; cases this
  have W:=Walks.list (prog:=X.prog) (w:=X.w) (A:=X.A.in1) hr.hd it l hli vs.toArray;refine codeAny_builtin PySem.F.entry_min_loop ?_;rw[Around.under_plainId PySem.F.plain_min_loop _];show wpAny _ X.A.in1 (seqItems? (.ref S)>>=_) _ _ _;refine γ (wpAny_seqItems eS rfl ?_);show wpAny _ X.A.in1 (tryCatch (pyNext (.ref it)) _>>=_) _ _ _;refine γ (wpAny_tryCatch (W.done _ _ _ ⟨by rw[ψ,hlen,show ns.length=j by omega]; exact hit,hL⟩ λh' tk' hk'=>?_));have J':Inv X pins σ H {s with heap:=h',toks:=tk'}:=J.turned (λb o hb' e=>hk' b o (by simpa using hb') e) p2 i4 (.inr i1) i2 i3;have hall:ns.take j=ns:=List.take_of_length_le (by omega);rw[hall] at hbest;cases ob with
  | none=>
   cases rv
   have hnil:ns=[]:=by
    cases ns with
    | nil=>rfl
    | cons a b=>obtain⟨_,e,_⟩:=hbest a υ; cases e
   show wpAny _ X.A.in1 (do rule _; ret _) _ _ _;refine γ (wpAny_rule (ι ?_));exact fin none H _ .none J' hs (λ_=>hnil) (λb e=>nomatch e) rfl
  | some b=>
   obtain⟨u1,u2,rfl,⟨t1,rfl⟩,⟨t2,rfl⟩⟩:=wP rv;have eS':=hk' S _ (by simpa using λz:S=it=>by rw[z,p2] at hS; cases hS) eS;show wpAny _ X.A.in1 (updateSeq S (λ_=>#[])>>=_) _ _ _;refine γ (wpAny_updateSeq eS' rfl (γ (wpAny_letGo (ι ?_))));have J2:=J'.lset (f:=λ_=>#[]) (its':=[]) (ys:=[]) (t':=tk') hS eS' rfl .nil (Ι _);refine fin (some b) _ _ (.int b t1) J2 (λa o e=>?_) (λz=>nomatch z) (λb' e=>?_) ⟨t1,rfl⟩
   ·rw[zk (zh e hS0)]; exact hs a o e
   ·cases e
    refine⟨hob b rfl,λi hi=>?_⟩;obtain⟨b',e,hle⟩:=hbest i hi;cases e
    exact hle
 | succ r ih=>
  intro j ob H s oI hr' hj I hit hs hf hS hbest hob;have J:Inv X pins σ H s:=I.pins_of λp hp=>I.pin p (ω _ (χ _ hp));obtain⟨_,p2,_⟩:=I.pin (it,oI) (ω _ υ);obtain⟨its,n,rv,eS,_⟩:=I.lst hS;obtain⟨vs,nl,rl,el,zl⟩:=I.lst (hs l _ hl0);have hL:s.heap.IsList l vs.toArray:=⟨_,el,rfl,nl,rfl⟩;have hlen:vs.length=ns.length:=by rw[<-rl.length,ε]
  have hli:l≠it:=λz=>by rw[z] at hl0; have:=hs it _ hl0; rw[p2] at this; cases this
  have hSi:S≠it:=λz=>by rw[z,p2] at hS; cases hS
  have W:=Walks.list (prog:=X.prog) (w:=X.w) (A:=X.A.in1) hr.hd it l hli vs.toArray;refine codeAny_builtin PySem.F.entry_min_loop ?_;rw[Around.under_plainId PySem.F.plain_min_loop _];show wpAny _ X.A.in1 (seqItems? (.ref S)>>=_) _ _ _;refine γ (wpAny_seqItems eS rfl ?_);show wpAny _ X.A.in1 (tryCatch (pyNext (.ref it)) _>>=_) _ _ _;refine γ (wpAny_tryCatch (W.item j _ _ _ (by rw[ψ,hlen]; omega) ⟨hit,hL⟩ λx h' tk' hP hst' hk'=>?_));have hj2:j<ns.length:=by omega
  obtain⟨i,hi⟩: ∃i,ns[j]? =some i:=⟨_,δ hj2⟩;have hx:vs[j]? =some x:=by simpa using hP
  obtain⟨x',hx',rx⟩:=rl.get (i:=j) (x:= .int i) (by rw[μ,hi]; rfl);rw[hx] at hx';cases hx'
  have him:i∈ns:=ο hi;have htake:ns.take (j+1)=ns.take j++[i]:=by rw[List.take_add_one,hi]; rfl
  have J':Inv X pins σ H {s with heap:=h',toks:=tk'}:=J.turned (λb o hb' e=>hk' b o (by simpa using hb') e) p2 i4 (.inr i1) i2 i3;obtain⟨oI',hoI',hoc,hod⟩:=id hst'.1;have I':Inv X ((it,oI')::pins) σ H {s with heap:=h',toks:=tk'}:=J'.pins_of λp hp=>by
   rcases Φ.mp hp with rfl | hp
   ·exact⟨hoI',p2,i4,i5,λv z=>by rw[hod] at z; cases z⟩
   ·exact J'.pin p (ω _ hp)
  show wpAny _ X.A.in1 (tryCatch (holding [x] (call (.ref f) [x])) _>>=_) _ _ _;refine γ (wpAny_tryCatch (wpAny_holding (wpAny_mono (Yo (E:=λ_ _=>False) hr LS hix hb he I' hf rx (hte H hs i him)) (λy s2 ⟨yv,H2,I2,ry,q2⟩=>?_) λ_ _ z=>z.elim)));obtain⟨rfl,rfl⟩:=q2;obtain⟨t3,rfl⟩:=ry;obtain⟨hoI2,_⟩:=I2.pin (it,oI') (ω _ υ);have hit2:s2.heap.IsListIter it l (j+1):=⟨oI',hoI2,hoc,hod⟩;obtain⟨its2,n2,rv2,eS2,zz2⟩:=I2.lst hS;have hz2:its2.toArray.size<=sizeLine:=by rw[ψ,<-rv2.length]; exact zz2
  obtain⟨t0,rfl⟩:=rx;have grow: ∀{b':Int} {H':Hp} {s':Shared},Inv X ((it,oI')::pins) σ H' s'->s'.heap.IsListIter it l (j+1)->Same H0 H'->we X ps body sc H' f->H' S=some (.lst (bsK kf (some b')))->b'∈ns->(∀i∈ns.take (j+1),kf b'<=kf i)->
    codeAny (model X.prog X.w) X.A (.builtin "min.loop" ⟨[.ref it,.ref f,.ref S],[(Str.ofString "default",.none)]⟩) R s':=λ{b' H' s'} I3 h3 hs3 hf3 hS3 hb3 hle3=>
   ih (j+1) (some b') H' s' oI' (by omega) (by omega) I3 h3 hs3 hf3 hS3 (λi hi=>⟨b',rfl,hle3 i hi⟩) λb e=>by cases e; exact hb3
  have put: ∀{tx ty:Tok},let s3:Shared:={s2 with heap:=s2.heap.update S (Obj.mapSeq λ_=>#[.int i tx,.int (kf i) ty])}
    Inv X ((it,oI')::pins) σ (upd H2 S (.lst (bsK kf (some i)))) s3/\s3.heap.IsListIter it l (j+1)/\Same H0 (upd H2 S (.lst (bsK kf (some i))))/\we X ps body sc (upd H2 S (.lst (bsK kf (some i)))) f:=λ{tx ty}=>by
   have I3:=I2.lset (f:=λ_=>#[Value.int i tx,.int (kf i) ty]) (its':=[Value.int i tx,.int (kf i) ty]) (ys:=bsK kf (some i)) (t':=s2.toks) hS eS2 rfl (.cons ⟨tx,rfl⟩ (.cons ⟨ty,rfl⟩ .nil)) (sz2);refine⟨I3,⟨oI',(Heap.get?_update_other s2.heap _ hSi).trans hoI2,hoc,hod⟩,λa o e=>?_,?_⟩
   ·rw[zk (zh e hS0)]; exact hs a o e
   ·obtain⟨pm,c,ct,e1,e2⟩:=hf;refine⟨pm,c,ct,?_,?_⟩
    ·rw[zk (λz=>by rw[z,hS] at e1; cases e1)]; exact e1
    ·rw[zk (λz=>by rw[z,hS] at e2; cases e2)]; exact e2
  cases ob with
  | none=>
   cases rv
   have hj0:ns.take j=[]:=by
    cases e:ns.take j with
    | nil=>rfl
    | cons a b=>obtain⟨_,e',_⟩:=hbest a (by rw[e]; exact υ); cases e'
   show wpAny _ X.A.in1 (updateSeq S (λ_=>#[.int i t0,.int (kf i) t3])>>=_) _ _ _;refine γ (wpAny_updateSeq eS2 rfl ?_ hz2);rw[hname];obtain⟨a1,a2,a3,a4⟩:=put (tx:=t0) (ty:=t3);refine ι ⟨plainId_quiet PySem.F.plain_min_loop _,grow a1 a2 a3 a4 zf him λi' hi'=>?_⟩;rw[htake,hj0] at hi';have e:i'=i:=by simpa using hi'
   rw[e];exact Int.le_refl _
  | some b=>
   obtain⟨u1,u2,rfl,⟨t1,rfl⟩,⟨t2,rfl⟩⟩:=wP rv;show wpAny _ X.A.in1 (tryCatch (holding [.int i t0,.int (kf i) t3] (richCompare .Lt (.int (kf i) t3) (.int (kf b) t2)>>=_)) _>>=_) _ _ _;refine γ (wpAny_tryCatch (wpAny_holding (γ (min_lt ?_))));refine γ (wpAny_holding (wpAny_truthy_bool ?_));refine γ (wpAny_letGo (ι ?_));by_cases hlt:kf i<kf b
   ·simp only[hlt,decide_true,if_true];refine γ (wpAny_updateSeq eS2 rfl (γ (wpAny_letGo ?_)) hz2);rw[hname];obtain⟨a1,a2,a3,a4⟩:=put (tx:=t0) (ty:=t3);refine ι ⟨plainId_quiet PySem.F.plain_min_loop _,grow a1 a2 a3 a4 zf him λi' hi'=>?_⟩;rw[htake] at hi';rcases List.mem_append.mp hi' with hi' | hi'
    ·obtain⟨b',e,hle⟩:=hbest i' hi';cases e
     omega
    ·have e:i'=i:=by simpa using hi'
     rw[e];exact Int.le_refl _
   ·simp only[hlt,decide_false,Bool.false_eq_true,if_false];refine γ (wpAny_letGo ?_);rw[hname];refine ι ⟨plainId_quiet PySem.F.plain_min_loop _,grow I2 hit2 hs hf hS (hob b rfl) λi' hi'=>?_⟩;rw[htake] at hi';rcases List.mem_append.mp hi' with hi' | hi'
    ·obtain⟨b',e,hle⟩:=hbest i' hi';cases e
     exact hle
    ·have e:i'=i:=by simpa using hi'
     rw[e];omega
theorem args_minK(a v d:Value):argsOk "min" ⟨[a],[(Str.ofString "key",v),(Str.ofString "default",d)]⟩:=by unfold argsOk; kernel_rfl
def WL (X:Cx) (P:Addr) (ix:List Nat) (ta te:TE):TE:=fun σ H Q=>ta σ H λx H1=> ∃(l:Addr) (ns:List Int) (kf:Int->Int),x= .ref l/\H1 l=some (.lst (ns.map V.int))/\TabAt H1 P (lamQ X)/\
 (∀H',SameB P H1 H'-> ∀i∈ns,te (some (.int i)::sub ix σ) H' (λy H''=>H''=H'/\y= .int (kf i)))/\
 ∀H' ob,SameB P H1 H'->TabAt H' P (lamQ X)->(ob=none->ns=[])->(∀b,ob=some b->b∈ns/\ ∀i∈ns,kf b<=kf i)->Q (ob.elim V.non V.int) H'
theorem ZF(hr:Room k X.A)(L:LamOk X c P)(LS:LScope X.env.scope sc v F)(hix:ix.map (λi=>X.N[i]?)=F.map some)
  (hb: ∀pm c ct u,bindArgs (PySem.W.kla_fn "<lambda>" (lamQ X) ps body sc (cloF X.env sc.names []) pm (.ref c) ct) ⟨[u],[]⟩=pure [(v,u)])
  (he: ∀cl L f cd A s3 H3 xe,PE (cxL X (v::F) sc cl L f cd A s3 H3 xe) body te) (ha:PE X e ta) (hm:X.mg "min"=none) (hg:Gl X "min":=by rfl) (hdef:defaultsOf ps X.env=([],[]):=by rfl)
  (hst:starEach [e] X.env=[(false,eval e X.env)]:=by rfl):
  PE X (.Call (.Name "min" p) [e] [⟨some "key",.Lambda ps body sc lp,kp⟩,⟨some "default",.Constant .none ck cp,kp'⟩] pos) (WL X P ix ta te):=by
 have hname:(toString "min"++toString ".loop":String)="min.loop":=by decide
 intro pins s σ H Q I h;refine wpAny_Call_Name_kw (xl I hg hm PyProof.Rows.boot_min ?_);refine PyProof.Rows.callWith_kw (e:=e) (rest:=[]) ?_ (by rw[hst]; rfl) (by rw[hst]; rfl);rw[show backTo pos (starEach [e] X.env)=(false,eval e X.env)::[] by rw[hst]; rfl];refine Calls.spliced_cons (thn (ha pins s σ H _ I h) λu s1 ⟨x,H1,I1,r1,q1⟩=>Calls.spliced_nil ?_);obtain⟨l,ns,kf,rfl,hl,hT,hte,hQ⟩:=q1;cases r1
 have hk:PK X [⟨some "key",.Lambda ps body sc lp,kp⟩,⟨some "default",.Constant .none ck cp,kp'⟩] (yn (tLam X ps body sc P) (yn (tC .non) tNil)):=vk (X7 L LS.fr hdef) (vk vD X3);refine thn (hk pos pins s1 σ H1 (λzs H2=> ∃f,zs=[.ref f,.non]/\SameB P H1 H2/\TabAt H2 P (lamQ X)/\we X ps body sc H2 f) I1 ⟨hT,λf H2 h1 h2 h3 _=>⟨f,rfl,h1,h2,h3⟩⟩) λws s2 ⟨zs,H2,I2,rz,f,ez,k12,hT2,hf2⟩=>?_;subst ez;obtain⟨w1,w2,rfl,rfl,rfl⟩:=wP rz;show wpAny _ X.A (call (.builtin "min") [.ref l] [(Str.ofString "key",.ref f),(Str.ofString "default",.none)]) _ _ s2;have hlP:l≠P:=λz=>by obtain⟨tb,e,_⟩:=hT; rw[z,e] at hl; cases hl
 have hl2:=k12 l _ hlP hl;obtain⟨its,nl,rl,el,zl⟩:=I2.lst hl2;have hL:s2.heap.IsList l its.toArray:=⟨_,el,rfl,nl,rfl⟩;refine PyProof.Rows.kmk_tree PySem.F.kind_min PySem.F.plain_min PySem.F.entry_min (args_minK _ _ _) ?_;show wpAny _ X.A.in1 (Builtin.Builtins.bindParams "min" ["key","default"] 0 ⟨[],[(Str.ofString "key",.ref f),(Str.ofString "default",.none)]⟩>>=_) _ _ s2;refine γ (wpAny_of_eq (show Builtin.Builtins.bindParams "min" ["key","default"] 0 ⟨[],[(Str.ofString "key",.ref f),(Str.ofString "default",.none)]⟩=pure [some (.ref f),some .none] from rfl) ?_);refine γ (ι ?_);refine γ (wpAny_pyIter_list hL ?_);refine γ (wpAny_newList ?_ (Ι _));rw[hname];have I3:Inv X pins σ H2 {s2 with heap:=s2.heap.push {cls:= .type "list_iterator",data:= .fields #[.ref l,.int 0 0]}}:=I2.kept (t':=s2.toks) λb o e=>η _ e;have hn:H2 s2.heap.objs.size=none:=I2.fresh;have I4:Inv X ((s2.heap.objs.size,{cls:= .type "list_iterator",data:= .fields #[.ref l,.int 0 0]})::pins) σ H2 {s2 with heap:=s2.heap.push {cls:= .type "list_iterator",data:= .fields #[.ref l,.int 0 0]}}:=I3.pins_of λp hp=>by
  rcases Φ.mp hp with rfl | hp
  ·exact⟨π _ rfl,hn,Ω I2.lt,I2.nofs (θ _),λv z=>by cases z⟩
  ·exact I3.pin p (ω _ hp)
 have I5:=I4.lnew (t':=s2.toks) (its:=[]) (ys:=[]) .nil (Ι _);have hS0:=I3.fresh;refine ι ⟨plainId_quiet PySem.F.plain_min_loop _,minK_loop (H0:=H2) (ns:=ns) (kf:=kf) (l:=l) (f:=f) hr LS hix hb he (λH' k2 i hi=>hte H' (k12.trans λa o _ e=>k2 a o e) i hi) hl2 hS0
  (it:=s2.heap.objs.size) I2.sz (λx c e z=>?_) (λp hp z=>?_) (Ω I2.lt) (I2.nofs (θ _)) (λob H' s' u I' k' h1 h2 ru=>?_) _ 0 none _ _ _ rfl (Ι _) I5 ⟨_,η _ (π _ rfl),rfl,rfl⟩ (λa o e=>by rw[zk (zh e hS0)]; exact e) ?_ zf (λi hi=>by simp at hi) (λb z=>nomatch z)⟩
 ·obtain⟨v',o,ho,_⟩:=I2.cell x c e;exact absurd (ν ho) (by rw[z]; exact Nat.lt_irrefl _)
 ·exact absurd (ν (I2.pin p hp).1) (by rw[z]; exact Nat.lt_irrefl _)
 ·exact⟨_,H',I',ru,hQ H' ob (k12.trans λa o _ e=>k' a o e) (hT2.same k') h1 h2⟩
 ·obtain⟨pm,c,ct,e1,e2⟩:=hf2;exact⟨pm,c,ct,by rw[zk (zh e1 hS0)]; exact e1,by rw[zk (zh e2 hS0)]; exact e2⟩
theorem max_lt{Q:Value->Shared->Prop}{E:Value->Shared->Prop}(h:Q (.bool (decide (i>j))) s):wpAny (model prog w) A (richCompare .Gt (.int i t) (.int j u)) Q E s:=
 CmpOf.ints_gt (prog:=prog) (w:=w) (A:=A) (P:=λn v=> ∃t,v= .int ([i,j].getD n 0) t) (λn=>[i,j].getD n 0) (λ_ _ z=>z) 0 1 _ _ s Q E ⟨t,rfl⟩ ⟨u,rfl⟩ h
theorem maxK_loop(hr:Room k X.A)(LS:LScope X.env.scope sc v F)(hix:ix.map (λi=>X.N[i]?)=F.map some)
  (hb: ∀pm c ct u,bindArgs (PySem.W.kla_fn "<lambda>" (lamQ X) ps body sc (cloF X.env sc.names []) pm (.ref c) ct) ⟨[u],[]⟩=pure [(v,u)])
  (he: ∀cl L f cd A s3 H3 xe,PE (cxL X (v::F) sc cl L f cd A s3 H3 xe) body te)
  (hte: ∀H',Same H0 H'-> ∀i∈ns,te (some (.int i)::sub ix σ) H' (λy H''=>H''=H'/\y= .int (kf i)))
  (hl0:H0 l=some (.lst (ns.map V.int))) (hS0:H0 S=none)
  (i1:X.s₀.heap.objs.size<=it) (i2: ∀x c,X.env.cells.lookup x=some c->c≠it) (i3: ∀p∈X.pn++pins,p.1≠it) (i4:it≠X.env.locals) (i5:it∉X.fs)
  (fin: ∀ob H' s' u,Inv X pins σ H' s'->Same H0 H'->(ob=none->ns=[])->(∀b,ob=some b->b∈ns/\ ∀i∈ns,kf i<=kf b)->RelV (ob.elim V.non V.int) u->R (.ok (.ret u)) s'):
  ∀(r j:Nat) (ob:Option Int) (H:Hp) (s:Shared) (oI:Obj),ns.length-j=r->j<=ns.length->Inv X ((it,oI)::pins) σ H s->s.heap.IsListIter it l j->Same H0 H->we X ps body sc H f->H S=some (.lst (bsK kf ob))->
   (∀i∈ns.take j,∃b,ob=some b/\kf i<=kf b)->(∀b,ob=some b->b∈ns)->
   codeAny (model X.prog X.w) X.A (.builtin "max.loop" ⟨[.ref it,.ref f,.ref S],[(Str.ofString "default",.none)]⟩) R s:=by
 have hname:(toString "max"++toString ".loop":String)="max.loop":=by decide
 intro r
 induction r with
 | zero=>
  intro j ob H s oI hr' hj I hit hs hf hS hbest hob;have J:Inv X pins σ H s:=I.pins_of λp hp=>I.pin p (ω _ (χ _ hp));obtain⟨_,p2,_⟩:=I.pin (it,oI) (ω _ υ);obtain⟨its,n,rv,eS,_⟩:=I.lst hS;obtain⟨vs,nl,rl,el,zl⟩:=I.lst (hs l _ hl0);have hL:s.heap.IsList l vs.toArray:=⟨_,el,rfl,nl,rfl⟩;have hlen:vs.length=ns.length:=by rw[<-rl.length,ε]
  have hli:l≠it:=λz=>by rw[z] at hl0; have:=hs it _ hl0; rw[p2] at this; cases this
  have W:=Walks.list (prog:=X.prog) (w:=X.w) (A:=X.A.in1) hr.hd it l hli vs.toArray;refine codeAny_builtin PySem.F.entry_max_loop ?_;rw[Around.under_plainId PySem.F.plain_max_loop _];show wpAny _ X.A.in1 (seqItems? (.ref S)>>=_) _ _ _;refine γ (wpAny_seqItems eS rfl ?_);show wpAny _ X.A.in1 (tryCatch (pyNext (.ref it)) _>>=_) _ _ _;refine γ (wpAny_tryCatch (W.done _ _ _ ⟨by rw[ψ,hlen,show ns.length=j by omega]; exact hit,hL⟩ λh' tk' hk'=>?_));have J':Inv X pins σ H {s with heap:=h',toks:=tk'}:=J.turned (λb o hb' e=>hk' b o (by simpa using hb') e) p2 i4 (.inr i1) i2 i3;have hall:ns.take j=ns:=List.take_of_length_le (by omega);rw[hall] at hbest;cases ob with
  | none=>
   cases rv
   have hnil:ns=[]:=by
    cases ns with
    | nil=>rfl
    | cons a b=>obtain⟨_,e,_⟩:=hbest a υ; cases e
   show wpAny _ X.A.in1 (do rule _; ret _) _ _ _;refine γ (wpAny_rule (ι ?_));exact fin none H _ .none J' hs (λ_=>hnil) (λb e=>nomatch e) rfl
  | some b=>
   obtain⟨u1,u2,rfl,⟨t1,rfl⟩,⟨t2,rfl⟩⟩:=wP rv;have eS':=hk' S _ (by simpa using λz:S=it=>by rw[z,p2] at hS; cases hS) eS;show wpAny _ X.A.in1 (updateSeq S (λ_=>#[])>>=_) _ _ _;refine γ (wpAny_updateSeq eS' rfl (γ (wpAny_letGo (ι ?_))));have J2:=J'.lset (f:=λ_=>#[]) (its':=[]) (ys:=[]) (t':=tk') hS eS' rfl .nil (Ι _);refine fin (some b) _ _ (.int b t1) J2 (λa o e=>?_) (λz=>nomatch z) (λb' e=>?_) ⟨t1,rfl⟩
   ·rw[zk (zh e hS0)]; exact hs a o e
   ·cases e
    refine⟨hob b rfl,λi hi=>?_⟩;obtain⟨b',e,hle⟩:=hbest i hi;cases e
    exact hle
 | succ r ih=>
  intro j ob H s oI hr' hj I hit hs hf hS hbest hob;have J:Inv X pins σ H s:=I.pins_of λp hp=>I.pin p (ω _ (χ _ hp));obtain⟨_,p2,_⟩:=I.pin (it,oI) (ω _ υ);obtain⟨its,n,rv,eS,_⟩:=I.lst hS;obtain⟨vs,nl,rl,el,zl⟩:=I.lst (hs l _ hl0);have hL:s.heap.IsList l vs.toArray:=⟨_,el,rfl,nl,rfl⟩;have hlen:vs.length=ns.length:=by rw[<-rl.length,ε]
  have hli:l≠it:=λz=>by rw[z] at hl0; have:=hs it _ hl0; rw[p2] at this; cases this
  have hSi:S≠it:=λz=>by rw[z,p2] at hS; cases hS
  have W:=Walks.list (prog:=X.prog) (w:=X.w) (A:=X.A.in1) hr.hd it l hli vs.toArray;refine codeAny_builtin PySem.F.entry_max_loop ?_;rw[Around.under_plainId PySem.F.plain_max_loop _];show wpAny _ X.A.in1 (seqItems? (.ref S)>>=_) _ _ _;refine γ (wpAny_seqItems eS rfl ?_);show wpAny _ X.A.in1 (tryCatch (pyNext (.ref it)) _>>=_) _ _ _;refine γ (wpAny_tryCatch (W.item j _ _ _ (by rw[ψ,hlen]; omega) ⟨hit,hL⟩ λx h' tk' hP hst' hk'=>?_));have hj2:j<ns.length:=by omega
  obtain⟨i,hi⟩: ∃i,ns[j]? =some i:=⟨_,δ hj2⟩;have hx:vs[j]? =some x:=by simpa using hP
  obtain⟨x',hx',rx⟩:=rl.get (i:=j) (x:= .int i) (by rw[μ,hi]; rfl);rw[hx] at hx';cases hx'
  have him:i∈ns:=ο hi;have htake:ns.take (j+1)=ns.take j++[i]:=by rw[List.take_add_one,hi]; rfl
  have J':Inv X pins σ H {s with heap:=h',toks:=tk'}:=J.turned (λb o hb' e=>hk' b o (by simpa using hb') e) p2 i4 (.inr i1) i2 i3;obtain⟨oI',hoI',hoc,hod⟩:=id hst'.1;have I':Inv X ((it,oI')::pins) σ H {s with heap:=h',toks:=tk'}:=J'.pins_of λp hp=>by
   rcases Φ.mp hp with rfl | hp
   ·exact⟨hoI',p2,i4,i5,λv z=>by rw[hod] at z; cases z⟩
   ·exact J'.pin p (ω _ hp)
  show wpAny _ X.A.in1 (tryCatch (holding [x] (call (.ref f) [x])) _>>=_) _ _ _;refine γ (wpAny_tryCatch (wpAny_holding (wpAny_mono (Yo (E:=λ_ _=>False) hr LS hix hb he I' hf rx (hte H hs i him)) (λy s2 ⟨yv,H2,I2,ry,q2⟩=>?_) λ_ _ z=>z.elim)));obtain⟨rfl,rfl⟩:=q2;obtain⟨t3,rfl⟩:=ry;obtain⟨hoI2,_⟩:=I2.pin (it,oI') (ω _ υ);have hit2:s2.heap.IsListIter it l (j+1):=⟨oI',hoI2,hoc,hod⟩;obtain⟨its2,n2,rv2,eS2,zz2⟩:=I2.lst hS;have hz2:its2.toArray.size<=sizeLine:=by rw[ψ,<-rv2.length]; exact zz2
  obtain⟨t0,rfl⟩:=rx;have grow: ∀{b':Int} {H':Hp} {s':Shared},Inv X ((it,oI')::pins) σ H' s'->s'.heap.IsListIter it l (j+1)->Same H0 H'->we X ps body sc H' f->H' S=some (.lst (bsK kf (some b')))->b'∈ns->(∀i∈ns.take (j+1),kf i<=kf b')->
    codeAny (model X.prog X.w) X.A (.builtin "max.loop" ⟨[.ref it,.ref f,.ref S],[(Str.ofString "default",.none)]⟩) R s':=λ{b' H' s'} I3 h3 hs3 hf3 hS3 hb3 hle3=>
   ih (j+1) (some b') H' s' oI' (by omega) (by omega) I3 h3 hs3 hf3 hS3 (λi hi=>⟨b',rfl,hle3 i hi⟩) λb e=>by cases e; exact hb3
  have put: ∀{tx ty:Tok},let s3:Shared:={s2 with heap:=s2.heap.update S (Obj.mapSeq λ_=>#[.int i tx,.int (kf i) ty])}
    Inv X ((it,oI')::pins) σ (upd H2 S (.lst (bsK kf (some i)))) s3/\s3.heap.IsListIter it l (j+1)/\Same H0 (upd H2 S (.lst (bsK kf (some i))))/\we X ps body sc (upd H2 S (.lst (bsK kf (some i)))) f:=λ{tx ty}=>by
   have I3:=I2.lset (f:=λ_=>#[Value.int i tx,.int (kf i) ty]) (its':=[Value.int i tx,.int (kf i) ty]) (ys:=bsK kf (some i)) (t':=s2.toks) hS eS2 rfl (.cons ⟨tx,rfl⟩ (.cons ⟨ty,rfl⟩ .nil)) (sz2);refine⟨I3,⟨oI',(Heap.get?_update_other s2.heap _ hSi).trans hoI2,hoc,hod⟩,λa o e=>?_,?_⟩
   ·rw[zk (zh e hS0)]; exact hs a o e
   ·obtain⟨pm,c,ct,e1,e2⟩:=hf;refine⟨pm,c,ct,?_,?_⟩
    ·rw[zk (λz=>by rw[z,hS] at e1; cases e1)]; exact e1
    ·rw[zk (λz=>by rw[z,hS] at e2; cases e2)]; exact e2
  cases ob with
  | none=>
   cases rv
   have hj0:ns.take j=[]:=by
    cases e:ns.take j with
    | nil=>rfl
    | cons a b=>obtain⟨_,e',_⟩:=hbest a (by rw[e]; exact υ); cases e'
   show wpAny _ X.A.in1 (updateSeq S (λ_=>#[.int i t0,.int (kf i) t3])>>=_) _ _ _;refine γ (wpAny_updateSeq eS2 rfl ?_ hz2);rw[hname];obtain⟨a1,a2,a3,a4⟩:=put (tx:=t0) (ty:=t3);refine ι ⟨plainId_quiet PySem.F.plain_max_loop _,grow a1 a2 a3 a4 zf him λi' hi'=>?_⟩;rw[htake,hj0] at hi';have e:i'=i:=by simpa using hi'
   rw[e];exact Int.le_refl _
  | some b=>
   obtain⟨u1,u2,rfl,⟨t1,rfl⟩,⟨t2,rfl⟩⟩:=wP rv;show wpAny _ X.A.in1 (tryCatch (holding [.int i t0,.int (kf i) t3] (richCompare .Gt (.int (kf i) t3) (.int (kf b) t2)>>=_)) _>>=_) _ _ _;refine γ (wpAny_tryCatch (wpAny_holding (γ (max_lt ?_))));refine γ (wpAny_holding (wpAny_truthy_bool ?_));refine γ (wpAny_letGo (ι ?_));by_cases hlt:kf i>kf b
   ·simp only[hlt,decide_true,if_true];refine γ (wpAny_updateSeq eS2 rfl (γ (wpAny_letGo ?_)) hz2);rw[hname];obtain⟨a1,a2,a3,a4⟩:=put (tx:=t0) (ty:=t3);refine ι ⟨plainId_quiet PySem.F.plain_max_loop _,grow a1 a2 a3 a4 zf him λi' hi'=>?_⟩;rw[htake] at hi';rcases List.mem_append.mp hi' with hi' | hi'
    ·obtain⟨b',e,hle⟩:=hbest i' hi';cases e
     omega
    ·have e:i'=i:=by simpa using hi'
     rw[e];exact Int.le_refl _
   ·simp only[hlt,decide_false,Bool.false_eq_true,if_false];refine γ (wpAny_letGo ?_);rw[hname];refine ι ⟨plainId_quiet PySem.F.plain_max_loop _,grow I2 hit2 hs hf hS (hob b rfl) λi' hi'=>?_⟩;rw[htake] at hi';rcases List.mem_append.mp hi' with hi' | hi'
    ·obtain⟨b',e,hle⟩:=hbest i' hi';cases e
     exact hle
    ·have e:i'=i:=by simpa using hi'
     rw[e];omega
theorem args_maxK(a v d:Value):argsOk "max" ⟨[a],[(Str.ofString "key",v),(Str.ofString "default",d)]⟩:=by unfold argsOk; kernel_rfl
def WM (X:Cx) (P:Addr) (ix:List Nat) (ta te:TE):TE:=fun σ H Q=>ta σ H λx H1=> ∃(l:Addr) (ns:List Int) (kf:Int->Int),x= .ref l/\H1 l=some (.lst (ns.map V.int))/\TabAt H1 P (lamQ X)/\
 (∀H',SameB P H1 H'-> ∀i∈ns,te (some (.int i)::sub ix σ) H' (λy H''=>H''=H'/\y= .int (kf i)))/\
 ∀H' ob,SameB P H1 H'->TabAt H' P (lamQ X)->(ob=none->ns=[])->(∀b,ob=some b->b∈ns/\ ∀i∈ns,kf i<=kf b)->Q (ob.elim V.non V.int) H'
theorem pe_maxK(hr:Room k X.A)(L:LamOk X c P)(LS:LScope X.env.scope sc v F)(hix:ix.map (λi=>X.N[i]?)=F.map some)
  (hb: ∀pm c ct u,bindArgs (PySem.W.kla_fn "<lambda>" (lamQ X) ps body sc (cloF X.env sc.names []) pm (.ref c) ct) ⟨[u],[]⟩=pure [(v,u)])
  (he: ∀cl L f cd A s3 H3 xe,PE (cxL X (v::F) sc cl L f cd A s3 H3 xe) body te) (ha:PE X e ta) (hm:X.mg "max"=none) (hg:Gl X "max":=by rfl) (hdef:defaultsOf ps X.env=([],[]):=by rfl)
  (hst:starEach [e] X.env=[(false,eval e X.env)]:=by rfl):
  PE X (.Call (.Name "max" p) [e] [⟨some "key",.Lambda ps body sc lp,kp⟩,⟨some "default",.Constant .none ck cp,kp'⟩] pos) (WM X P ix ta te):=by
 have hname:(toString "max"++toString ".loop":String)="max.loop":=by decide
 intro pins s σ H Q I h;refine wpAny_Call_Name_kw (xl I hg hm PyProof.Rows.boot_max ?_);refine PyProof.Rows.callWith_kw (e:=e) (rest:=[]) ?_ (by rw[hst]; rfl) (by rw[hst]; rfl);rw[show backTo pos (starEach [e] X.env)=(false,eval e X.env)::[] by rw[hst]; rfl];refine Calls.spliced_cons (thn (ha pins s σ H _ I h) λu s1 ⟨x,H1,I1,r1,q1⟩=>Calls.spliced_nil ?_);obtain⟨l,ns,kf,rfl,hl,hT,hte,hQ⟩:=q1;cases r1
 have hk:PK X [⟨some "key",.Lambda ps body sc lp,kp⟩,⟨some "default",.Constant .none ck cp,kp'⟩] (yn (tLam X ps body sc P) (yn (tC .non) tNil)):=vk (X7 L LS.fr hdef) (vk vD X3);refine thn (hk pos pins s1 σ H1 (λzs H2=> ∃f,zs=[.ref f,.non]/\SameB P H1 H2/\TabAt H2 P (lamQ X)/\we X ps body sc H2 f) I1 ⟨hT,λf H2 h1 h2 h3 _=>⟨f,rfl,h1,h2,h3⟩⟩) λws s2 ⟨zs,H2,I2,rz,f,ez,k12,hT2,hf2⟩=>?_;subst ez;obtain⟨w1,w2,rfl,rfl,rfl⟩:=wP rz;show wpAny _ X.A (call (.builtin "max") [.ref l] [(Str.ofString "key",.ref f),(Str.ofString "default",.none)]) _ _ s2;have hlP:l≠P:=λz=>by obtain⟨tb,e,_⟩:=hT; rw[z,e] at hl; cases hl
 have hl2:=k12 l _ hlP hl;obtain⟨its,nl,rl,el,zl⟩:=I2.lst hl2;have hL:s2.heap.IsList l its.toArray:=⟨_,el,rfl,nl,rfl⟩;refine PyProof.Rows.kmk_tree PySem.F.kind_max PySem.F.plain_max PySem.F.entry_max (args_maxK _ _ _) ?_;show wpAny _ X.A.in1 (Builtin.Builtins.bindParams "max" ["key","default"] 0 ⟨[],[(Str.ofString "key",.ref f),(Str.ofString "default",.none)]⟩>>=_) _ _ s2;refine γ (wpAny_of_eq (show Builtin.Builtins.bindParams "max" ["key","default"] 0 ⟨[],[(Str.ofString "key",.ref f),(Str.ofString "default",.none)]⟩=pure [some (.ref f),some .none] from rfl) ?_);refine γ (ι ?_);refine γ (wpAny_pyIter_list hL ?_);refine γ (wpAny_newList ?_ (Ι _));rw[hname];have I3:Inv X pins σ H2 {s2 with heap:=s2.heap.push {cls:= .type "list_iterator",data:= .fields #[.ref l,.int 0 0]}}:=I2.kept (t':=s2.toks) λb o e=>η _ e;have hn:H2 s2.heap.objs.size=none:=I2.fresh;have I4:Inv X ((s2.heap.objs.size,{cls:= .type "list_iterator",data:= .fields #[.ref l,.int 0 0]})::pins) σ H2 {s2 with heap:=s2.heap.push {cls:= .type "list_iterator",data:= .fields #[.ref l,.int 0 0]}}:=I3.pins_of λp hp=>by
  rcases Φ.mp hp with rfl | hp
  ·exact⟨π _ rfl,hn,Ω I2.lt,I2.nofs (θ _),λv z=>by cases z⟩
  ·exact I3.pin p (ω _ hp)
 have I5:=I4.lnew (t':=s2.toks) (its:=[]) (ys:=[]) .nil (Ι _);have hS0:=I3.fresh;refine ι ⟨plainId_quiet PySem.F.plain_max_loop _,maxK_loop (H0:=H2) (ns:=ns) (kf:=kf) (l:=l) (f:=f) hr LS hix hb he (λH' k2 i hi=>hte H' (k12.trans λa o _ e=>k2 a o e) i hi) hl2 hS0
  (it:=s2.heap.objs.size) I2.sz (λx c e z=>?_) (λp hp z=>?_) (Ω I2.lt) (I2.nofs (θ _)) (λob H' s' u I' k' h1 h2 ru=>?_) _ 0 none _ _ _ rfl (Ι _) I5 ⟨_,η _ (π _ rfl),rfl,rfl⟩ (λa o e=>by rw[zk (zh e hS0)]; exact e) ?_ zf (λi hi=>by simp at hi) (λb z=>nomatch z)⟩
 ·obtain⟨v',o,ho,_⟩:=I2.cell x c e;exact absurd (ν ho) (by rw[z]; exact Nat.lt_irrefl _)
 ·exact absurd (ν (I2.pin p hp).1) (by rw[z]; exact Nat.lt_irrefl _)
 ·exact⟨_,H',I',ru,hQ H' ob (k12.trans λa o _ e=>k' a o e) (hT2.same k') h1 h2⟩
 ·obtain⟨pm,c,ct,e1,e2⟩:=hf2;exact⟨pm,c,ct,by rw[zk (zh e1 hS0)]; exact e1,by rw[zk (zh e2 hS0)]; exact e2⟩
end
def Wz (tabs:List (Addr×Addr)) (H:Hp):Prop:= ∀b,H b=none\/(∃o xs,H b=some (.frz o (.lst xs)))\/(b∈tabs.map (·.2)/\H b=some (.tbl #[]))
def BmIn (mg:Str->Option Value) (base:Heap):Prop:= ∃bm ob,mg "__builtins__"=some (.ref bm)/\bm≠builtinsNs/\base.get? bm=some ob/\ob.cls= .type "module"/\ob.dict=some builtinsNs/\ob.data= .plain
theorem law_callT{K:W.Frag}{mg mb:Str->Option Value}{s₁:Shared}{vs:List Value}
  (KX:K.In s₁.heap) (hns:s₁.heap.Ns mainGlobals mg) (hb:s₁.heap.Ns builtinsNs mb) (hbb: ∀x:Str,x≠"__name__"->mb x=bootBuiltins x) (hlim:s₁.heap.NoLimit) (hN:s₁.heap.NoSeer) (hg:s₁.gens=#[])
  (hT:PySem.W.TabsAt tabs s₁.heap) (hKT:PySem.W.noTabs K=true) (hBm:BmIn mg s₁.heap)
  (ha:s₁.heap.get? a=some {cls:= .type "list",data:= .seq vs.toArray}) (hi:IntsAre vs ns) (hl:ns.length<=sizeLine) (hr:Room k callerA)
  (F: ∀base:Heap,K.In base->base.Ns mainGlobals mg->base.NoSeer->(∀q∈tabs,PySem.W.CodeHd base q.1 q.2)->BmIn mg base->FnOk P w K mg base CX k fa fd [x] sp) (hbind: ∀(s:Shared) (u:Value),BindsTo s fd ⟨[u],[]⟩ [(x,u)])
  (hsp: ∀H:Hp,Wz tabs H->(∀q∈tabs,H q.2=some (.tbl #[]))->SqL K H a (ns.map V.int)->sp [.ref a] H (λv _=>v= .bl true) λ_ _ _=>False)
  (hCX: ∀H e s',CX [] H s₁ (λ_ _ _=>False) e s'->False):
  codeAny (model P w) callerA (.call (.ref fa) ⟨[.ref a],[]⟩) (λr s'=>r= .ok (.ret (.bool true))/\OldK s₁.heap s'.heap/\s'.os=s₁.os/\AllBare s'.gens) s₁:=by
 have rv:=wO hi;have lenV:=hi.length;have tabAt: ∀{b:Addr},b∈tabs.map (·.2)->s₁.heap.get? b=some (PySem.W.tabObj #[]):=λ{b} hb=>by
  obtain⟨q,hq,rfl⟩:=Κ.mp hb;exact(hT q hq).2
 have haT:a∉tabs.map (·.2):=λz=>by have:=tabAt z; rw[ha] at this; cases this
 have core: ∀H:Hp,Wz tabs H->(∀q∈tabs,H q.2=some (.tbl #[]))->SqL K H a (ns.map V.int)->HOk P w H s₁.heap->(∀b,H b≠none->b=a\/b∈tabs.map (·.2))->(H a≠none->K.lookup a=none)->
   codeAny (model P w) callerA (.call (.ref fa) ⟨[.ref a],[]⟩) (λr s'=>r= .ok (.ret (.bool true))/\OldK s₁.heap s'.heap/\s'.os=s₁.os/\AllBare s'.gens) s₁:=by
  intro H hO hTb hS hok hA hK;have base_of: ∀{b:Addr} {o:Obj},s₁.heap.get? b=some o->H b=none->(hidT s₁.heap H).get? b=some o:=λe n=>Yp e n;have notT: ∀{b:Addr} {o:Obj},s₁.heap.get? b=some o->(o.cls≠.none)->b≠a->H b=none:=λ{b o} e hc hba=>by
   cases q:H b with
   | none=>rfl
   | some u=>
    rcases hA b (by rw[q]; simp) with e' | e'
    ·exact absurd e' hba
    ·have:=tabAt e';rw[e] at this;cases this
     exact absurd rfl hc
  have noA: ∀{b:Addr} {o:Obj} {es:Array DictEntry} {ep:Nat},s₁.heap.get? b=some o->o.data= .dict es ep->H b=none:=λ{b o es ep} e d=>by
   cases q:H b with
   | none=>rfl
   | some u=>
    rcases hA b (by rw[q]; simp) with e' | e'
    ·subst e';rw[ha] at e; cases e;have d':Data.seq vs.toArray _=Data.dict es ep:=d;cases d'
    ·have:=tabAt e';rw[e] at this;cases this
     cases d
  have nsK: ∀{b:Addr} {m:Str->Option Value},s₁.heap.Ns b m->(hidT s₁.heap H).Ns b m:=λ{b m} ⟨o,es,ep,e,d,r⟩=>⟨o,es,ep,base_of e (noA e d),d,r⟩;have hKb:K.In (hidT s₁.heap H):=λb o e=>base_of (KX b o e) (by
   cases q:H b with
   | none=>rfl
   | some u=>
    rcases hA b (by rw[q]; simp) with e' | e'
    ·subst e';rw[hK (by rw[q]; simp)] at e; cases e
    ·have h1:=tabAt e';rw[KX b o e] at h1;have h2:=List.all_eq_true.mp hKT (b,o) (PySem.W.mem_of_lookupK e);cases h1
     exact absurd (show false=true from h2) Ζ)
  have ofB: ∀{bm:Addr} {ob:Obj},s₁.heap.get? bm=some ob->ob.cls= .type "module"->(hidT s₁.heap H).get? bm=some ob:=λ{bm ob} e c=>base_of e (notT e (by rw[c]; intro z; cases z) λz=>by subst z; rw[ha] at e; cases e; simp at c);have hNb:(hidT s₁.heap H).NoSeer:=⟨let ⟨mc,a1,a2,a3⟩:=hN.statics; ⟨mc,nsK a1,a2,a3⟩,let ⟨mm,a1,a2⟩:=hN.mods; ⟨mm,nsK a1,a2⟩,let ⟨mb',a1,a2⟩:=hN.imp; ⟨mb',nsK a1,a2⟩,let ⟨mg',bm,ob,a1,a2,a3,a4,a5⟩:=hN.main; ⟨mg',bm,ob,nsK a1,a2,ofB a3 a4,a4,a5⟩⟩;have hBb:BmIn mg (hidT s₁.heap H):=let ⟨bm,ob,a1,a2,a3,a4,a5⟩:=hBm; ⟨bm,ob,a1,a2,ofB a3 a4,a4,a5⟩
  have hCb: ∀q∈tabs,PySem.W.CodeHd (hidT s₁.heap H) q.1 q.2:=λq hq=>by
   obtain⟨o,vs',file,tf,flags,tg,inF,text,tt,e1,r1,r⟩:=(hT q hq).1;refine⟨o,vs',file,tf,flags,tg,inF,text,tt,base_of e1 (notT e1 (by rw[r1]; intro z; cases z) λz=>?_),r1,r⟩;rw[z,ha] at e1;cases e1
   simp at r1
  have hM:Mod K mg (hidT s₁.heap H):=⟨hKb,nsK hns,⟨mb,nsK hb,hbb⟩,let ⟨mc,h1,h2⟩:=hlim; ⟨mc,nsK h1,h2⟩⟩;have e0:Env0 P w K mg (hidT s₁.heap H) callerA [] s₁ H:=⟨rfl,hM,λb o e=>Xi e,Nat.le_of_eq (Zk _ _),trivial,λb hb=>absurd (show b∈([]:List Addr) from hb) (by simp),hok,.of_eq hg⟩;refine codeAny_mono ((F _ hKb (nsK hns) hNb hCb hBb).run callerA [] s₁ H ⟨[.ref a],[]⟩ [.ref a] [.ref a] _ _ hr e0 (hbind s₁ (.ref a)) (.cons rfl .nil) (hsp H hO hTb hS)) λr s' h=>?_;cases r with
  | error e=>exact(hCX H e s' h).elim
  | ok fl=>
   cases fl with
   | next=>exact False.elim h
   | brk=>exact False.elim h
   | cont=>exact False.elim h
   | ret u=>
    obtain⟨v,H',os,bare,un,hok',r',q⟩:=h;have q':v= .bl true:=q;subst q';obtain rfl:u=Value.bool true:=r';have kept: ∀b o,s₁.heap.get? b=some o->s'.heap.get? b=some o\/(b∈tabs.map (·.2)/\o=PySem.W.tabObj #[]/\ ∃ps,s'.heap.get? b=some (PySem.W.tabObj ps)):=λb o e=>by
     cases q:H b with
     | none=>exact .inl (un.keep b o e q (by intro z; exact absurd (show b∈([]:List Addr) from z) (by simp)) (by simp))
     | some u=>
      rcases hO b with z | ⟨ob,xs,z⟩ | ⟨z1,z2⟩
      ·rw[q] at z; cases z
      ·have z2:=un.frzs b ob _ z;obtain⟨e1,_⟩:=hok b _ z;obtain⟨e2,_⟩:=hok' b _ z2;rw[e] at e1; cases e1;exact .inl e2
      ·obtain⟨more,z3⟩:=un.tbls b _ z2;have e2:s'.heap.get? b=some (PySem.W.tabObj (#[]++more)):=hok' b _ z3;have e1:=tabAt z1;rw[e] at e1;exact .inr ⟨z1,Γ e1,_,e2⟩
    refine⟨rfl,⟨λb o e=>?_,λb o e=>?_⟩,os,bare⟩
    ·rcases kept b o e with z | ⟨z1,rfl,ps,z⟩
     ·exact .inl z
     ·obtain⟨q,hq,rfl⟩:=Κ.mp z1;exact .inr (.inl ⟨((hT q hq).1.tab (hT q hq).2).isCodeTable,rfl,#[],ps,rfl,by simpa using z⟩)
    ·rcases kept b o e with z | ⟨_,_,ps,z⟩
     ·exact⟨o,z⟩
     ·exact⟨_,z⟩
 have tabMem: ∀q∈tabs,q.2∈tabs.map (·.2):=λq hq=>List.mem_map_of_mem hq;cases hk:K.lookup a with
 | some o=>
  have e:=KX a o hk;rw[ha] at e;cases e
  refine core (λb=>if b∈tabs.map (·.2) then some (.tbl #[]) else none) (λb=>?_) (λq hq=>if_pos (tabMem q hq)) (.inr ⟨_,vs.toArray,_,hk,rfl,rfl,rfl,by rw[ψ,lenV]; exact hl,by simpa using rv⟩) (λb u z=>?_) (λb z=>?_) λz=>absurd (if_neg haT) z
  ·by_cases hb:b∈tabs.map (·.2)
   ·exact .inr (.inr ⟨hb,if_pos hb⟩)
   ·exact .inl (if_neg hb)
  ·by_cases hb:b∈tabs.map (·.2)
   ·have z':=(if_pos hb).symm.trans z;cases z'
    exact tabAt hb
   ·have z':=(if_neg hb).symm.trans z;cases z'
  ·by_cases hb:b∈tabs.map (·.2)
   ·exact .inr hb
   ·exact absurd (if_neg hb) z
 | none=>
  refine core (λb=>if b∈tabs.map (·.2) then some (.tbl #[]) else if b=a then some (.frz {cls:= .type "list",data:= .seq vs.toArray} (.lst (ns.map V.int))) else none) (λb=>?_) (λq hq=>if_pos (tabMem q hq)) (.inl (.inr ⟨{cls:= .type "list",data:= .seq vs.toArray},(if_neg haT).trans (if_pos rfl)⟩)) (λb u z=>?_) (λb z=>?_) λ_=>hk
  ·by_cases hb:b∈tabs.map (·.2)
   ·exact .inr (.inr ⟨hb,if_pos hb⟩)
   ·by_cases hb2:b=a
    ·exact .inr (.inl ⟨_,_,(if_neg hb).trans (if_pos hb2)⟩)
    ·exact .inl ((if_neg hb).trans (if_neg hb2))
  ·by_cases hb:b∈tabs.map (·.2)
   ·have z':=(if_pos hb).symm.trans z;cases z'
    exact tabAt hb
   ·by_cases hb2:b=a
    ·have z':=((if_neg hb).trans (if_pos hb2)).symm.trans z;cases z'
     subst hb2;exact⟨ha,by rw[ε]; exact hl,vs,_,rv,ha⟩
    ·have z':=((if_neg hb).trans (if_neg hb2)).symm.trans z;cases z'
  ·by_cases hb:b∈tabs.map (·.2)
   ·exact .inr hb
   ·by_cases hb2:b=a
    ·exact .inl hb2
    ·exact absurd ((if_neg hb).trans (if_neg hb2)) z
theorem walk_ofT{l:PySem.W.OpenLaw}{XP:(Str->Option Value)->Heap->Prop}{YP:World->Heap->Prop}{d:DefRec}{K:Params->W.Frag}{CX:World->CXT}{sp:World->Sp}
  (hn:l.most=some n) (hn2:n<=sizeLine) (hdf:d.params.defaults=[]) (hr:Room k callerA) (hi:PyProof.Rows.importsNone q=true)
  (hY: ∀(w:World) (h:Heap),YP w h->(K w.params).In h) (hYT: ∀(w:World) (h:Heap),YP w h->PySem.W.TabsAt tabs h) (hKT: ∀P,PySem.W.noTabs (K P)=true)
  (F: ∀(w:World) (mg:Str->Option Value) (fa:Addr) (h:Heap),(K w.params).In h->h.Ns mainGlobals mg->mg d.name=some (.ref fa)->
   ∃fd:FuncData,(∀(s:Shared) (u:Value),BindsTo s fd ⟨[u],[]⟩ [(x,u)])/\
    ∀base:Heap,(K w.params).In base->base.Ns mainGlobals mg->base.NoSeer->(∀q∈tabs,PySem.W.CodeHd base q.1 q.2)->BmIn mg base->FnOk l.prog w (K w.params) mg base (CX w) k fa fd [x] (sp w))
  (hsp: ∀(w:World) (H:Hp) (a:Addr) (ns:List Int),ns.length<=n->Wz tabs H->(∀q∈tabs,H q.2=some (.tbl #[]))->SqL (K w.params) H a (ns.map V.int)->sp w [.ref a] H (λv _=>v= .bl true) λ_ _ _=>False)
  (hCX: ∀(w:World) (H:Hp) (s:Shared) (e:Value) (s':Shared),CX w [] H s (λ_ _ _=>False) e s'->False):
  PySem.W.WalkO q loose XP YP l.row.toRowW d [] (λf vs=>PySem.call f vs):=by
 refine Att.attach_call hn hdf λw s₀ s₁ mg mb fa o pm cd doc a vs ns G Y ho hd hcd hmg hobj hints hlen hg=>?_;have KX:=hY w _ Y;obtain⟨fd,hb,hF⟩:=F w mg fa _ KX G.T.g hmg;exact law_callT KX G.T.g G.T.b G.T.builtins G.T.nolimit (G.T.seer hi) hg (hYT w _ Y) (hKT _) G.T.bmain hobj hints (Τ hlen hn2) hr hF hb (λH hO hT hS=>hsp w H a ns hlen hO hT hS) λH e s'=>hCX w H s₁ e s'
def FnAt (K:W.Frag) (x:Str) (st:Stmt):Prop:= ∃(f:Addr) (oc:Value) (od:Option Addr) (kV doc pm:Value) (an:Option Addr) (cdv ct:Value) (osl:Array (Option Value)),PySem.W.nsIn K mainGlobals x=some (some (.ref f))/\
 K.lookup f=some ⟨oc,od,.func (PySem.W.fnOf x x (zT st) (zm st) (zd st) .none kV doc pm an cdv ct),osl⟩/\PySem.W.codeIn K cdv x=true/\PySem.W.keepIn K (.ref f)=true
theorem fnAt{K:W.Frag}{x:Str}{st:Stmt}{f:Addr}{oc:Value}{od:Option Addr}{kV doc pm:Value}{an:Option Addr}{cdv ct:Value}{osl:Array (Option Value)}(a:PySem.W.nsIn K mainGlobals x=some (some (.ref f)))
  (l:K.lookup f=some ⟨oc,od,.func (PySem.W.fnOf x x (zT st) (zm st) (zd st) .none kV doc pm an cdv ct),osl⟩) (c:PySem.W.codeIn K cdv x=true) (k:PySem.W.keepIn K (.ref f)=true):FnAt K x st:=⟨_,_,_,_,_,_,_,_,_,_,a,l,c,k⟩
def NoIn (K:W.Frag) (x:Str):Prop:=PySem.W.nsIn K mainGlobals x=some none
def IntIn (K:W.Frag) (x:Str) (i:Int):Prop:= ∃t,PySem.W.nsIn K mainGlobals x=some (some (.int i t))
theorem noIn{K:W.Frag}{x:Str}(h:PySem.W.nsIn K mainGlobals x=some none):NoIn K x:=h
theorem noAttr{K:W.Frag}{C:Addr}{x:Str}(h:PySem.W.findIn K (.ref C) x=some none):NoAttr K C x:=h
theorem intIn{K:W.Frag}{x:Str}{i:Int}{t:Tok}(h:PySem.W.nsIn K mainGlobals x=some (some (.int i t))):IntIn K x i:=⟨_,h⟩
section
variable {P:Program} {w:World} {K:W.Frag} {mg:Str->Option Value} {base h:Heap} {x:Str} {st:Stmt} {ps:List Str}
theorem NoIn.get(z:NoIn K x)(X:K.In h)(G:h.Ns mainGlobals mg):mg x=none:=PySem.W.mg_none_of X G z
theorem IntIn.get(z:IntIn K x i)(X:K.In h)(G:h.Ns mainGlobals mg): ∃t,mg x=some (.int i t):=let ⟨t,e⟩:=z; ⟨t,PySem.W.mg_of X G e⟩
theorem FnAt.has(A:FnAt K x st)(X:K.In h)(G:h.Ns mainGlobals mg)
  (b: ∀(kV doc pm:Value) (an:Option Addr) (cdv ct:Value) (us:List Value),us.length=ps.length->bindArgs (PySem.W.fnOf x x (zT st) (zm st) (zd st) .none kV doc pm an cdv ct) ⟨us,[]⟩=pure (ps.zip us))
  (ok: ∀{f fd},Fun K x x st f fd->FnOk P w K mg base CX0 k f fd ps sp):Has P w K mg base k x ps sp:=by
 obtain⟨f,oc,od,kV,doc,pm,an,cdv,ct,osl,a,l,c,k⟩:=A;have F:=ZS (st:=st) l c k;exact⟨f,_,ok F,PySem.W.mg_of X G a,k,F.binds b⟩
end
structure ClsIn (K:W.Frag) (C:Addr):Prop where
 c:Cls K C
 mks:PySem.W.makesIn K C=true
 kp:PySem.W.keepIn K (.ref C)=true
def MthAt (K:W.Frag) (C:Addr) (m q:Str) (st:Stmt):Prop:= ∃(f:Addr) (oc:Value) (od:Option Addr) (kV doc pm:Value) (an:Option Addr) (cdv ct:Value) (osl:Array (Option Value)),PySem.W.findIn K (.ref C) m=some (some (.ref f))/\
 K.lookup f=some ⟨oc,od,.func (PySem.W.fnOf m q (zT st) (zm st) (zd st) .none kV doc pm an cdv ct),osl⟩/\PySem.W.codeIn K cdv q=true/\PySem.W.isFn K (.ref f)=true/\PySem.W.keepIn K (.ref f)=true
theorem mthAt{K:W.Frag}{C:Addr}{m q:Str}{st:Stmt}{f:Addr}{oc:Value}{od:Option Addr}{kV doc pm:Value}{an:Option Addr}{cdv ct:Value}{osl:Array (Option Value)}(a:PySem.W.findIn K (.ref C) m=some (some (.ref f)))
  (l:K.lookup f=some ⟨oc,od,.func (PySem.W.fnOf m q (zT st) (zm st) (zd st) .none kV doc pm an cdv ct),osl⟩) (c:PySem.W.codeIn K cdv q=true) (i:PySem.W.isFn K (.ref f)=true) (k:PySem.W.keepIn K (.ref f)=true):MthAt K C m q st:=
 ⟨_,_,_,_,_,_,_,_,_,_,a,l,c,i,k⟩
theorem clsIn{K:W.Frag}{C:Addr}(a:PySem.W.plainGet K C Str.empty=true)(b:PySem.W.hasDictIn K C=true)(c:PySem.W.plainOver K C=true)(d:PySem.W.findIn K (.ref C) "__setattr__"=some (some (.builtin "object.__setattr__")))(e:PySem.W.makesIn K C=true)(f:PySem.W.keepIn K (.ref C)=true):ClsIn K C:=⟨⟨a,b,c,d⟩,e,f⟩
def HasM (P:Program) (w:World) (K:W.Frag) (mg:Str->Option Value) (base:Heap) (k:Nat) (C:Addr) (m:Str) (ps:List Str) (sp:Sp):Prop:=
 ∃f fd,FnOk P w K mg base CX0 k f fd ps sp/\Cls K C/\Meth K C m f/\Binds K fd ps []
def HasK (P:Program) (w:World) (K:W.Frag) (mg:Str->Option Value) (base:Heap) (k:Nat) (x:Str) (C:Addr) (ps:List Str) (sp:Sp):Prop:=
 ∃f fd,FnOk P w K mg base CX0 k f fd ps sp/\Mk K C f/\mg x=some (.ref C)/\Binds K fd ps []
section
variable {P:Program} {w:World} {K:W.Frag} {mg:Str->Option Value} {base h:Heap} {x m q:Str} {st:Stmt} {ps:List Str} {C:Addr}
theorem MthAt.has(A:MthAt K C m q st)(D:ClsIn K C)
  (b: ∀(kV doc pm:Value) (an:Option Addr) (cdv ct:Value) (us:List Value),us.length=ps.length->bindArgs (PySem.W.fnOf m q (zT st) (zm st) (zd st) .none kV doc pm an cdv ct) ⟨us,[]⟩=pure (ps.zip us))
  (ok: ∀{f fd},Fun K m q st f fd->FnOk P w K mg base CX0 k f fd ps sp):HasM P w K mg base k C m ps sp:=by
 obtain⟨f,oc,od,kV,doc,pm,an,cdv,ct,osl,a,l,c,i,k⟩:=A;have F:=ZS (st:=st) l c k;exact⟨f,_,ok F,D.c,⟨a,i,k⟩,F.binds b⟩
theorem MthAt.make(A:MthAt K C "__init__" q st)(D:ClsIn K C)(X:K.In h)(G:h.Ns mainGlobals mg)(n:PySem.W.nsIn K mainGlobals x=some (some (.ref C)))
  (b: ∀(kV doc pm:Value) (an:Option Addr) (cdv ct:Value) (us:List Value),us.length=ps.length->bindArgs (PySem.W.fnOf "__init__" q (zT st) (zm st) (zd st) .none kV doc pm an cdv ct) ⟨us,[]⟩=pure (ps.zip us))
  (ok: ∀{f fd},Fun K "__init__" q st f fd->FnOk P w K mg base CX0 k f fd ps sp):HasK P w K mg base k x C ps sp:=by
 obtain⟨f,oc,od,kV,doc,pm,an,cdv,ct,osl,a,l,c,i,k⟩:=A;have F:=ZS (st:=st) l c k;exact⟨f,_,ok F,⟨D.mks,a,i,D.kp⟩,PySem.W.mg_of X G n,F.binds b⟩
end
def wE (s:Stmt) (i:Nat):Stmt:=match s with
 | .ClassDef _ _ _ body _ _ _ _ _ _ _=>body.getD i (.Pass ⟨0,0,0,0⟩)
 | _=> .Pass ⟨0,0,0,0⟩
theorem pe_m{X:Cx}(h:HasM X.prog X.w X.K X.mg X.base k C m ps sp)(hr:Room j X.A)(hkj:k<=j)(he:PE X o ta)(ha:PA X (e::es) t)
  (hst:starEach (e::es) X.env=(false,eval e X.env)::starEach es X.env:=by rfl) (hpl:(backTo pos (starEach es X.env)).any (·.1)=false:=by rfl)
  (ht:eval (.Call (.Attribute o m apos) (e::es) [] pos) X.env=(do
   let ov<-eval o X.env
   standAt apos.atName
   let (f,first)<-holding [ov] (getMethod ov m pl)
   callWith pos f first (backTo pos (starEach (e::es) X.env)) (backToKw pos (keywordEach [] X.env))):=by rfl):PE X (.Call (.Attribute o m apos) (e::es) [] pos) (Z8 C m sp [] E0 ta t):=by
 obtain⟨f,fd,F,c,hm,hb⟩:=h;exact pe_meth he c hm F (hr.mono hkj) hb .nil Xg ha hst hpl ht
theorem X6{X:Cx}(h:HasM X.prog X.w X.K X.mg X.base k C m ps sp)(hr:Room j X.A)(hkj:k<=j)(he:PE X o ta)
  (ht:eval (.Call (.Attribute o m apos) [] [] pos) X.env=(do
   let ov<-eval o X.env
   standAt apos.atName
   let (f,first)<-holding [ov] (getMethod ov m pl)
   callWith pos f first (backTo pos (starEach [] X.env)) (backToKw pos (keywordEach [] X.env))):=by rfl):PE X (.Call (.Attribute o m apos) [] [] pos) (Z8 C m sp [] E0 ta tNil):=by
 obtain⟨f,fd,F,c,hm,hb⟩:=h;exact pe_meth0 he c hm F (hr.mono hkj) hb .nil Xg ht
theorem pe_mk{X:Cx}(h:HasK X.prog X.w X.K X.mg X.base k x C ps sp)(hr:Room j X.A)(hkj:k+1<=j)(ha:PA X (e::es) t)(hg:Gl X x:=by rfl)
  (hdb:(x==("__debug__":Str))=false:=by decide) (he:starEach (e::es) X.env=(false,eval e X.env)::starEach es X.env:=by rfl) (hpl:(backTo pos (starEach es X.env)).any (·.1)=false:=by rfl):PE X (.Call (.Name x p) (e::es) [] pos) (XW C sp [] E0 t):=by
 obtain⟨f,fd,F,M,hm,hb⟩:=h;exact pe_make M F (hr.mono hkj) hg hm hb .nil Xg ha hdb he hpl
theorem vn{X:Cx}{K:W.Frag}{e:Expr}{f:Str}{ta:TE}{pos:Pos}(hK:X.K=K)(he:PE X e ta)(hb:attributeBase e f X.env (eval e X.env)=eval e X.env:=by rfl):PE X (.Attribute e f pos) (tFld K ta f):=hK▸zG he hb
theorem w_make(h:t σ H λvs H1=> ∀x dx,H1 x=none->H1 dx=none->dx≠x->sp (.ref x::(vs++dvs)) (upd (upd H1 dx (.own x)) x (.ins C dx [])) (λv H2=>v= .non/\Q (.ref x) H2) E):XW C sp dvs E t σ H Q:=h
theorem zO{K:W.Frag}{ta:TE}{f:Str}{σ:St}{H:Hp}{Q:VK}(h:ta σ H λx H1=> ∃a C dx fs v,x= .ref a/\H1 a=some (.ins C dx fs)/\Cls K C/\NoAttr K C f/\fs.lookup f=some v/\Q v H1):tFld K ta f σ H Q:=h
theorem xT{K:W.Frag}{ta tv:TE}{f:Str}{D:Ends}{σ:St}{H:Hp}(h:tv σ H λy H1=>ta σ H1 λx H2=> ∃a C dx fs,x= .ref a/\H2 a=some (.ins C dx fs)/\Cls K C/\NoAttr K C f/\fs.length<1000/\D.nx σ (upd H2 a (.ins C dx (putF f y fs)))):sFld K ta tv f D σ H:=h
theorem w_saug{K:W.Frag}{ta tv:TE}{rd:V->V->Hp->VK->Prop}{f:Str}{D:Ends}{σ:St}{H:Hp}(h:ta σ H λx H1=> ∃a C dx fs v,x= .ref a/\H1 a=some (.ins C dx fs)/\Cls K C/\NoAttr K C f/\fs.lookup f=some v/\
 tv σ H1 λy H2=>rd v y H2 λz H3=> ∃dx' fs',H3 a=some (.ins C dx' fs')/\fs'.length<1000/\D.nx σ (upd H3 a (.ins C dx' (putF f z fs')))):Y6 K ta tv rd f D σ H:=h
theorem xu(h:ta σ H λx H1=> ∃a dx fs,x= .ref a/\H1 a=some (.ins C dx fs)/\fs.lookup m=none/\t σ H1 λvs H2=>sp (x::(vs++dvs)) H2 Q E):Z8 C m sp dvs E ta t σ H Q:=h
structure FunC (K:W.Frag) (x qual:Str) (st:Stmt) (f:Addr) (fd:FuncData) (c:Addr):Prop where
 ex: ∃(oc:Value) (od:Option Addr) (kV doc pm:Value) (an:Option Addr) (ct:Value) (osl:Array (Option Value)),
  fd=PySem.W.fnOf x qual (zT st) (zm st) (zd st) .none kV doc pm an (.ref c) ct/\K.lookup f=some ⟨oc,od,.func fd,osl⟩/\PySem.W.codeIn K (.ref c) qual=true
 kp:PySem.W.keepIn K (.ref f)=true
section
variable {P:Program} {w:World} {K:W.Frag} {mg:Str->Option Value} {base:Heap}
theorem FunC.ok{x qual:Str}{st:Stmt}{f c:Addr}{fd:FuncData}{N ps:List Str}{k:Nat}{sp:Sp}(F:FunC K x qual st f fd c)(S:FnScope N ps (zd st))(len: ∀vs H Q E,sp vs H Q E->vs.length=ps.length)
  (hbody: ∀(A:Around) (outer:List Env) (s:Shared) (H:Hp) (vs:List V) (Q:VK) (E:XK),Room k (A.deeper (envOfC qual (zd st) s.heap.objs.size f (.ref c)))->sp vs H Q E->
   ∃t,PSs (cxOf CX0 P w K mg base N qual (zd st) f (.ref c) A outer s H E).nox (zm st) t/\t {nx:=λ_ H'=>Q .non H',rt:=Q} (start N vs) H):FnOk P w K mg base CX0 (k+1) f fd ps sp:=by
 obtain⟨oc,od,kV,doc,pm,an,ct,osl,rfl,lk,hcd⟩:=F.ex;refine W2 lk hcd S len λA outer s H vs Q E hr hsp=>?_;obtain⟨t,h,q⟩:=hbody A outer s H vs Q E hr hsp;exact⟨t,h.nox,q⟩
end
def MthC (K:W.Frag) (C:Addr) (m q:Str) (st:Stmt) (c:Addr):Prop:= ∃(f:Addr) (oc:Value) (od:Option Addr) (kV doc pm:Value) (an:Option Addr) (ct:Value) (osl:Array (Option Value)),PySem.W.findIn K (.ref C) m=some (some (.ref f))/\
 K.lookup f=some ⟨oc,od,.func (PySem.W.fnOf m q (zT st) (zm st) (zd st) .none kV doc pm an (.ref c) ct),osl⟩/\PySem.W.codeIn K (.ref c) q=true/\PySem.W.isFn K (.ref f)=true/\PySem.W.keepIn K (.ref f)=true
theorem mthC{K:W.Frag}{C:Addr}{m q:Str}{st:Stmt}{f c:Addr}{oc:Value}{od:Option Addr}{kV doc pm:Value}{an:Option Addr}{ct:Value}{osl:Array (Option Value)}(a:PySem.W.findIn K (.ref C) m=some (some (.ref f)))
  (l:K.lookup f=some ⟨oc,od,.func (PySem.W.fnOf m q (zT st) (zm st) (zd st) .none kV doc pm an (.ref c) ct),osl⟩) (d:PySem.W.codeIn K (.ref c) q=true) (i:PySem.W.isFn K (.ref f)=true) (k:PySem.W.keepIn K (.ref f)=true):MthC K C m q st c:=
 ⟨_,_,_,_,_,_,_,_,_,a,l,d,i,k⟩
section
variable {P:Program} {w:World} {K:W.Frag} {mg:Str->Option Value} {base h:Heap} {x m q:Str} {st:Stmt} {ps:List Str} {C c:Addr}
theorem MthC.has(A:MthC K C m q st c)(D:ClsIn K C)
  (b: ∀(kV doc pm:Value) (an:Option Addr) (cdv ct:Value) (us:List Value),us.length=ps.length->bindArgs (PySem.W.fnOf m q (zT st) (zm st) (zd st) .none kV doc pm an cdv ct) ⟨us,[]⟩=pure (ps.zip us))
  (ok: ∀{f fd},FunC K m q st f fd c->FnOk P w K mg base CX0 k f fd ps sp):HasM P w K mg base k C m ps sp:=by
 obtain⟨f,oc,od,kV,doc,pm,an,ct,osl,a,l,d,i,k⟩:=A;exact⟨f,_,ok ⟨⟨oc,od,kV,doc,pm,an,ct,osl,rfl,l,d⟩,k⟩,D.c,⟨a,i,k⟩,.all (b kV doc pm an (.ref c) ct)⟩
end
section
variable {X:Cx} {sc o:Scope} {v x:Str} {F:List Str} {cl:List (Str×Addr)} {L f:Addr} {cd:Value} {A:Around} {s3:Shared} {H3:Hp} {xe:Value->Shared->Prop} {pos:Pos}
theorem pvl(S:LScope o sc v F)(i:Nat)(hN:(v::F)[i]? =some x:=by rfl)(hd:(x==("__debug__":Str))=false:=by decide)(hcd:(x==("__classdict__":Str))=false:=by decide):PE (cxL X (v::F) sc cl L f cd A s3 H3 xe) (.Name x pos) (tVar i):=by
 refine vC hN ?_ hd hcd;rcases Φ.mp (ο hN) with rfl | h
 ·exact .inl S.par
 ·exact .inr (.inr (S.ff x h).2)
end
section
variable {D:Addr} {te:TE} {Q:VK} {ρ:St} {H:Hp} {K:W.Frag} {a:Addr} {xs:List V}
structure NL (H:Hp) (D:Addr) (f:Nat->List V) (n:Nat) (as:List Addr) (H':Hp):Prop where
 len:as.length=n
 at_: ∀i r,as[i]? =some r->H' r=some (.lst (f i))
 nw: ∀r∈as,H r=none
 sm:Same H H'
abbrev NLP (H:Hp) (D:Addr) (f:Nat->List V) (i:Nat) (ys:List V) (H':Hp):Prop:= ∃as,ys=as.map V.ref/\NL H D f i as H'/\ ∀r∈as,r≠D
theorem NL.step{f:Nat->List V}(hD:H D=none)(g:NL H D f i as H')(gd: ∀r∈as,r≠D)(hDz:H' D=some (.lst ys))(k:Same H' H4)(hr:H' r=none)(e:H4 r=some (.lst (f i))):
  NLP H D f (i+1) (as.map V.ref++[.ref r]) (upd H4 D (.lst (as.map V.ref++[.ref r]))):=by
 have hrD:r≠D:=λz=>by rw[z,hDz] at hr; cases hr
 refine⟨as++[r],by simp,⟨by simp[g.len],λj q hq=>?_,λq hq=>?_,(g.sm.trans k).put hD⟩,λq hq=>?_⟩
 ·by_cases hj:j<as.length
  ·rw[Δ hj] at hq;rw[zk (gd q (ο hq))];exact k _ _ (g.at_ j q hq)
  ·rw[Α (by omega)] at hq;have hj0:j-as.length=0:=by
    cases h:j-as.length with
    | zero=>rfl
    | succ n=>rw[h] at hq; simp at hq
   rw[hj0] at hq;have:r=q:=by simpa using hq
   subst this;have hji:j=i:=by have:=g.len; omega
   subst hji;rw[zk hrD]; exact e
 ·rcases List.mem_append.mp hq with hq | hq
  ·exact g.nw q hq
  ·rw[Υ.mp hq];exact Same.free g.sm hr
 ·rcases List.mem_append.mp hq with hq | hq
  ·exact gd q hq
  ·rw[Υ.mp hq]; exact hrD
theorem nl_lst(f:Nat->List V)(hD:H D=none)(ha:H a=some (.lst xs))(hn:xs.length<=1000)
  (step: ∀i x H' (R:V->Hp->Prop),xs[i]? =some x->Same H H'->(∀r H4,Same H' H4->H' r=none->H4 r=some (.lst (f i))->R (.ref r) H4)->te (some x::ρ) H' R)
  (q: ∀as H',NL H D f xs.length as H'->H' D=some (.lst (as.map V.ref))->Q (.ref D) H'):CGo (Itl K a) D (zF 0) tAll te Q (none::ρ) H:=by
 refine vY (xs:=xs) (λi ys H'=>NLP H D f i ys H') ⟨[],rfl,⟨rfl,λi r h=>by simp at h,λr h=>by simp at h,Same.new (Same.refl _) hD⟩,λr h=>by simp at h⟩ (λi ys H' _ ⟨as,_,g,_⟩=>SqL.of (g.sm _ _ ha)) ?_ λys H' ⟨as,e,g,_⟩ h=>q as H' g (e▸h);rintro i x ys H' hx ⟨as,rfl,g,gd⟩ hDz R S' kR _;have hi:=(ξ.mp hx).1;refine zU (iteT (step i x H' R hx g.sm λr H4 k hr e=>kR _ H4 (k _ _ hDz) (zq (by rw[ε,g.len]; omega)) (g.step hD gd hDz k hr e)))
theorem nl_prs(f:Nat->List V){rs:List Addr}(hD:H D=none)(ha:H a=some (.lst (rs.map V.ref)))(hn:rs.length<=1000)
  (step: ∀i r H',rs[i]? =some r->Same H H'-> ∃u v,H' r=some (.tup [u,v])/\ ∀(R:V->Hp->Prop),(∀r H4,Same H' H4->H' r=none->H4 r=some (.lst (f i))->R (.ref r) H4)->te (some u::some v::ρ) H' R)
  (q: ∀as H',NL H D f rs.length as H'->H' D=some (.lst (as.map V.ref))->Q (.ref D) H'):CGo (Itl K a) D (gTup K 2 (yj (zF 0) (yj (zF 1) gNil))) tAll te Q (none::none::ρ) H:=by
 refine⟨λi m τ ys H'=>m=rs.length-i/\i<=rs.length/\(∃tv tw,τ=tv::tw::ρ)/\NLP H D f i ys H'/\H' D=some (.lst ys),⟨rs.length,by omega,Ι _,⟨_,_,rfl⟩,⟨[],rfl,⟨rfl,λi r h=>by simp at h,λr h=>by simp at h,Same.new (Same.refl _) hD⟩,λr h=>by simp at h⟩,zf⟩,?_⟩;rintro i m τ ys H' ⟨rfl,hi,⟨tv,tw,rfl⟩,⟨as,rfl,g,gd⟩,hDz⟩;refine⟨hDz,?_⟩;have sq:SqL K H' a (rs.map V.ref):=SqL.of (g.sm _ _ ha);by_cases hlt:i<rs.length
 ·refine .inr ⟨⟨_,.ref rs[i],sq,by simp[hlt]⟩,?_⟩;rintro v H'' ⟨rfl,hv⟩;have hv':=hv _ sq;rw[μ,δ hlt] at hv';cases hv'
  obtain⟨u,v,e,h⟩:=step i rs[i] _ (δ hlt) g.sm;refine⟨rs[i],[u,v],rfl,SqT.of e,rfl,u,[v],rfl,v,[],rfl,rfl,?_⟩;refine zU (iteT (h _ λr H4 k hr e=>⟨k _ _ hDz,zq (by rw[ε,g.len]; omega),rs.length-(i+1),by omega,rfl,hlt,⟨_,_,rfl⟩,g.step hD gd hDz k hr e,zf⟩))
 ·have e:i=rs.length:=by omega
  subst e;exact .inl ⟨⟨_,sq,by simp⟩,q as _ g hDz⟩
end
end L2
namespace K17
open PySem L2 G2 EL
theorem nmk{N:List Str}(h:N.Nodup/\ ∀x∈N,Loc sc x):Nm N sc:=⟨h.1,h.2⟩
theorem fsk{N:List Str}{sc:Scope}(h:N.Nodup/\(∀x∈P,sc.names.lookup x=some .local\/sc.names.lookup x=some .cell)/\ ∀y∈sc.names,y.2≠.free)(a:sc.kind= .function:=by rfl)(b:sc.isCoroutine=false:=by rfl)(c:sc.isGenerator=false:=by rfl)(d:N.take P.length=P:=by rfl):FnScope N P sc:=⟨a,b,c,h.1,d,h.2.1,h.2.2⟩
local macro_rules | `(tactic| walk_at "v") => `(tactic| repeat (with_reducible first | walk_at "c" | refine yA ?_ | refine yB ?_ | refine yC ?_ | refine w_sl ?_ | refine z0 ?_ | refine yM ?_ | refine xS ?_))
def SB (p:Addr) (H H':Hp):Prop:=SameB p H H'/\(FeedAt H p->FeedAt H' p)
theorem SB.trans(a:SB p H H1)(b:SB p H1 H2):SB p H H2:=⟨a.1.trans b.1,λf=>b.2 (a.2 f)⟩
theorem SB.same(k:Same H H'):SB p H H':=⟨λa u _ e=>k a u e,fun⟨x,y,z,e⟩=>⟨x,y,z,k _ _ e⟩⟩
theorem SB.drawn:SB p H (upd H p (.lst [.int x,.int y,.int z])):=⟨λa u n e=>by rw[zk n]; exact e,λ_=>FeedAt.here⟩
theorem FeedAt.np(F:FeedAt H p)(h:H a=none):a≠p:=λz=>by obtain⟨x,y,w,e⟩:=F; rw[z,e] at h; cases h
theorem Xo(F:FeedAt H p)(hD:H D=none):Kp (SB p) D H:=by
 have n:D≠p:=F.np hD;refine⟨SB.same (Same.new (Same.refl _) hD),λa b=>a.trans b,λ_ b e=>b.1 _ _ n e,λ{H1 o} a=>⟨λq u hq e=>?_,λf=>?_⟩⟩
 ·rw[zk (zh e hD)]; exact a.1 q u hq e
 ·obtain⟨x,y,z,e⟩:=a.2 f;exact⟨x,y,z,by rw[zk (Ne.symm n)]; exact e⟩
theorem zQ(F:FeedAt H p)(a:SB p H H'):G2.TK H H':=by
 obtain⟨x,y,z,e⟩:=F;exact⟨λq xs h=>a.1 q _ (λw=>by rw[w,e] at h; cases h) h,λq o u h=>a.1 q _ (λw=>by rw[w,e] at h; cases h) h⟩
theorem Xq{ys:List V}{P:Int->Prop}(h: ∀(j:Nat) (y:V),ys[j]? =some y-> ∃x:Int,y= .int x/\P x): ∃xs:List Int,ys=xs.map V.int/\ ∀x∈xs,P x:=by
 induction ys with
 | nil=>exact⟨[],rfl,λx hx=>by cases hx⟩
 | cons y ys ih=>
  obtain⟨x,rfl,hx⟩:=h 0 y rfl;obtain⟨xs,rfl,hxs⟩:=ih λj z e=>h (j+1) z e;exact⟨x::xs,rfl,λz hz=>by rcases Φ.mp hz with rfl | hz; exact hx; exact hxs z hz⟩
theorem FeedAt.same(k:Same H H')(F:FeedAt H p):FeedAt H' p:=let ⟨x,y,z,e⟩:=F; ⟨x,y,z,k _ _ e⟩
theorem y4(F:FeedAt H p)(h0:0<m)(h1:m<1000000)(k: ∀r H',0<=r->r<m->FeedAt H' p->SB p H H'->Q (.int r) H'):yE [.ref p,.int m] H Q E:=⟨p,m,rfl,F,h0,h1,λr x y z r0 r1=>k r _ r0 r1 FeedAt.here SB.drawn⟩
theorem SB.put(b:SB p H H')(h:H a=none):SB p H (upd H' a o):=⟨λq u n e=>by rw[zk (zh e h)]; exact b.1 q u n e,λF=>by
 obtain⟨x,y,z,e⟩:=b.2 F;exact⟨x,y,z,by rw[zk (Ne.symm (F.np h))]; exact e⟩⟩
theorem SB.free(b:SB p H H')(n:a≠p)(h:H' a=none):H a=none:=by
 cases e:H a with
 | none=>rfl
 | some u=>rw[b.1 _ _ n e] at h; cases h
theorem Nat.ofI(h:0<=r): ∃n:Nat,r=(n:Int):=⟨r.toNat,by omega⟩
def CL (c:Int) (H:Hp) (a:Addr) (m:Nat) (xs:List Int):Prop:=H a=some (.lst (xs.map V.int))/\xs.length=m/\ ∀x∈xs,0<=x/\x<=c
theorem CL.up(h:CL c H a m xs)(z:c<=d):CL d H a m xs:=⟨h.1,h.2.1,λx hx=>⟨(h.2.2 x hx).1,Int.le_trans (h.2.2 x hx).2 z⟩⟩
theorem CL.ix{c:Int}{H:Hp}{Q:VK}{a:Addr}{m:Nat}{xs:List Int}{r:Int}(h:CL c H a m xs)(r0:0<=r)(r1:r<m)(q: ∀v:Int,0<=v->v<=c->Q (.int v) H):rIxd (.ref a) (.int r) H Q:=by
 obtain⟨j,rfl⟩:=Nat.ofI r0;have hj:j<xs.length:=by have:=h.2.1; omega
 have hb:=h.2.2 xs[j] (Ο hj);exact zC h.1 (zx (by simp[hj])) (q _ hb.1 hb.2)
theorem CL.st{c:Int}{H:Hp}{a:Addr}{m:Nat}{xs:List Int}{r v:Int}{QH:Hp->Prop}(h:CL c H a m xs)(r0:0<=r)(r1:r<m)(v0:0<=v)(v1:v<=c)(q: ∀ys,CL c (upd H a (.lst (ys.map V.int))) a m ys->QH (upd H a (.lst (ys.map V.int)))):Yc (.ref a) (.int r) (.int v) H QH:=by
 obtain⟨j,rfl⟩:=Nat.ofI r0;have hj:j<xs.length:=by have:=h.2.1; omega
 refine xP h.1 (j:=j) ?_ ?_
 ·unfold ixN;rw[if_pos (by omega),if_pos (by simp; omega)];simp
 ·rw[<-List.map_set];refine q _ ⟨zf,by simp[h.2.1],λx hx=>?_⟩;rcases List.mem_or_eq_of_mem_set hx with hx | rfl
  ·exact h.2.2 x hx
  ·exact⟨v0,v1⟩
theorem CL.sb(h:CL c H a m xs)(k:SB p H H')(n:a≠p):CL c H' a m xs:=⟨k.1 _ _ n h.1,h.2⟩
theorem CL.ot(h:CL c H a m xs)(n:a≠b):CL c (upd H b o) a m xs:=⟨by rw[zk n]; exact h.1,h.2⟩
theorem CL.same(h:CL c H a m xs)(k:Same H H'):CL c H' a m xs:=⟨k _ _ h.1,h.2⟩
theorem CL.zero(e:H a=some (.lst ((List.replicate m (0:Int)).map V.int)))(h:0<=c):CL c H a m (List.replicate m 0):=⟨e,Χ,λx hx=>by rw[List.eq_of_mem_replicate hx]; exact⟨Int.le_refl _,h⟩⟩
structure TG2 (c d:Int) (m:Nat) (p ta ga:Addr) (H0 H:Hp):Prop where
 fd:FeedAt H p
 sb:SB p H0 H
 f0:FeedAt H0 p
 n1:H0 ta=none
 n2:H0 ga=none
 ne:ta≠ga
 t: ∃xs,CL c H ta m xs
 g: ∃xs,CL d H ga m xs
section
variable {c d:Int} {m:Nat} {p ta ga:Addr} {H0 H:Hp}
theorem TG2.dr(h:TG2 c d m p ta ga H0 H)(h0:0<M)(h1:M<1000000)(k: ∀r H',0<=r->r<M->TG2 c d m p ta ga H0 H'->Q (.int r) H'):yE [.ref p,.int M] H Q E:=
 y4 h.fd h0 h1 λr H' r0 r1 F b=>k r H' r0 r1 ⟨F,h.sb.trans b,h.f0,h.n1,h.n2,h.ne,let ⟨xs,e⟩:=h.t; ⟨xs,e.sb b (h.f0.np h.n1)⟩,let ⟨xs,e⟩:=h.g; ⟨xs,e.sb b (h.f0.np h.n2)⟩⟩
theorem TG2.up(h:TG2 c d m p ta ga H0 H)(h1:c<=c')(h2:d<=d'):TG2 c' d' m p ta ga H0 H:=⟨h.fd,h.sb,h.f0,h.n1,h.n2,h.ne,let ⟨xs,e⟩:=h.t; ⟨xs,e.up h1⟩,let ⟨xs,e⟩:=h.g; ⟨xs,e.up h2⟩⟩
theorem TG2.ixT{Q:VK}{r:Int}(h:TG2 c d m p ta ga H0 H)(r0:0<=r)(r1:r<m)(q: ∀v:Int,0<=v->v<=c->Q (.int v) H):rIxd (.ref ta) (.int r) H Q:=let ⟨_,e⟩:=h.t; e.ix r0 r1 q
theorem TG2.ixG{Q:VK}{r:Int}(h:TG2 c d m p ta ga H0 H)(r0:0<=r)(r1:r<m)(q: ∀v:Int,0<=v->v<=d->Q (.int v) H):rIxd (.ref ga) (.int r) H Q:=let ⟨_,e⟩:=h.g; e.ix r0 r1 q
theorem TG2.stT{r v:Int}{QH:Hp->Prop}(h:TG2 c d m p ta ga H0 H)(r0:0<=r)(r1:r<m)(v0:0<=v)(v1:v<=c)(q: ∀H',TG2 c d m p ta ga H0 H'->QH H'):Yc (.ref ta) (.int r) (.int v) H QH:=by
 obtain⟨xs,e⟩:=h.t;obtain⟨ys,g⟩:=h.g;refine e.st r0 r1 v0 v1 λzs z=>q _ ⟨?_,h.sb.put h.n1,h.f0,h.n1,h.n2,h.ne,⟨zs,z⟩,ys,g.ot (Ne.symm h.ne)⟩;exact(h.sb.put h.n1).2 h.f0
theorem TG2.stG{r v:Int}{QH:Hp->Prop}(h:TG2 c d m p ta ga H0 H)(r0:0<=r)(r1:r<m)(v0:0<=v)(v1:v<=d)(q: ∀H',TG2 c d m p ta ga H0 H'->QH H'):Yc (.ref ga) (.int r) (.int v) H QH:=by
 obtain⟨xs,e⟩:=h.t;obtain⟨ys,g⟩:=h.g;refine g.st r0 r1 v0 v1 λzs z=>q _ ⟨?_,h.sb.put h.n2,h.f0,h.n1,h.n2,h.ne,⟨xs,e.ot h.ne⟩,zs,z⟩;exact(h.sb.put h.n2).2 h.f0
theorem TG2.same(h:TG2 c d m p ta ga H0 H)(k:Same H H'):TG2 c d m p ta ga H0 H':=⟨h.fd.same k,h.sb.trans (SB.same k),h.f0,h.n1,h.n2,h.ne,let ⟨xs,e⟩:=h.t; ⟨xs,e.same k⟩,let ⟨xs,e⟩:=h.g; ⟨xs,e.same k⟩⟩
end
def RuA (H:Hp) (m:Nat) (r:Addr) (x:List Int×List Int):Prop:=x.1.length=m/\x.2.length=m/\(∀y∈x.1,0<=y/\y<=9)/\(∀y∈x.2,0<=y/\y<=30)/\ ∃a b,H r=some (.tup [.ref a,.ref b])/\H a=some (.tup (x.1.map V.int))/\H b=some (.tup (x.2.map V.int))
theorem RuA.tk(h:RuA H m r x)(k:G2.TK H H'):RuA H' m r x:=let ⟨h1,h2,h3,h4,a,b,h5,h6,h7⟩:=h; ⟨h1,h2,h3,h4,a,b,k.t _ _ h5,k.t _ _ h6,k.t _ _ h7⟩
theorem WF{σ:St}(h:TG2 9 30 m p ta ga H0 H)(hi:σ[i]? =some (some (.ref ta)))(hj:σ[j]? =some (some (.ref ga)))(k: ∀r x H',Same H H'->RuA H' m r x->Q (.ref r) H'):tTup (yn (tCB Xb (yn (tVar i) tNil)) (yn (tCB Xb (yn (tVar j) tNil)) tNil)) σ H Q:=by
 obtain⟨xs,e⟩:=h.t;obtain⟨ys,g⟩:=h.g;refine xf (zK (w_cb (zK (yg hi (yp ?_)))));refine⟨ta,_,rfl,e.1,λq1 H1 K1 g1=>?_⟩;refine zK (w_cb (zK (yg hj (yp ?_))));refine⟨ga,_,rfl,K1 _ _ g.1,λq2 H2 K2 g2=>yp ⟨sz2,λq3 h3=>?_⟩⟩;have K3:Same H2 (upd H2 q3 (.tup [.ref q1,.ref q2])):=Same.new (Same.refl _) h3;exact k q3 (xs,ys) _ ((K1.trans K2).trans K3) ⟨e.2.1,g.2.1,e.2.2,g.2.2,q1,q2,zf,K3 _ _ (K2 _ _ g1),K3 _ _ g2⟩
theorem Wx{vs:List V}{r:Int}(r0:0<=r)(r1:r<vs.length): ∃v,v∈vs/\atI vs r=some v:=by
 obtain⟨j,rfl⟩:=Nat.ofI r0;have hj:j<vs.length:=by omega
 exact⟨vs[j],Ο hj,zx (δ hj)⟩
theorem X4{i:Nat}{p:Addr}{n:Int}{σ:St}{H:Hp}{Q:VK}{vs:List V}(hi:σ[i]? =some (some (.ref p)))(F:FeedAt H p)(hn:(vs.length:Int)=n)(n0:0<n)(hl:vs.length<=100)(k: ∀v H',v∈vs->FeedAt H' p->SB p H H'->Q v H'):vs.length<=sizeLine/\ ∀z,H z=none->Zb yE [] E0 (yn (tVar i) (yn (tC (V.int n)) tNil)) σ (upd H z (.lst vs)) λy H2=>rIxd (.ref z) y H2 Q:=by
 refine⟨Nat.le_of_lt (zq (by omega)),λz hz=>?_⟩;obtain⟨H1,q,K1,e1⟩:=nob (.lst vs) hz; rw[q]; clear q;refine yD (zK (yg hi (zK (w_c (yp ?_)))));refine y4 (F.same K1) n0 (by omega) λr H2 r0 r1 F2 b2=>?_;obtain⟨v,hv,e⟩:=Wx (vs:=vs) r0 (by omega);exact zC (b2.1 _ _ (F.np hz) e1) e (k v H2 hv F2 ((SB.same K1).trans b2))
theorem Zz{σ:St}{vs:List V}(hi:σ[i]? =some (some (.ref p)))(F:FeedAt H p)(hn:(vs.length:Int)=n)(n0:0<n)(hl:vs.length<=100)(k: ∀v H',v∈vs->FeedAt H' p->SB p H H'->Q v H'):tOp rIxd (tLst (Z7 vs)) (Zb yE [] E0 (yn (tVar i) (yn (tC (V.int n)) tNil))) σ H Q:=w_op (xh (yx (X4 hi F hn n0 hl k)))
abbrev sNa:Stmt:=top 40
abbrev nNa:List Str:=["_law_feed_here","_law_many","_law_some","_law_start","_law_step"]
theorem nmNa:Nm nNa (zd sNa):=nmk (nofun)
theorem scNa:FnScope nNa ["_law_feed_here","_law_many"] (zd sNa):=fsk (nofun)
def qNaa (s:Stmt):Scope:=match s with
 | .Return (some (.ListComp _ _ sc _)) _=>sc
 | _=>nsc
abbrev cNaa:Scope:=qNaa ((zm sNa).getD 3 (.Pass ⟨0,0,0,0⟩))
theorem bsNaa:BScope (zd sNa) cNaa ["_law_k"] ["_law_some","_law_start","_law_step"] []:={}
def spNa:Sp:=λvs H Q _=> ∃(p:Addr) (m:Nat),vs=[.ref p,.int (m:Int)]/\FeedAt H p/\m<=8/\ ∀l H' ys,SB p H H'->H' l=some (.lst ys)->ys.length=m->Q (.ref l) H'
section
variable {P:Program} {w:World} {K:W.Frag} {mg:Str->Option Value} {base:Heap}
theorem ok_Na{f:Addr}{fd:FuncData}(B:Bl mg)(fD:Has P w K mg base 1 "_law_draw" ["_law_feed_here","_law_many"] yE)(F:Fun K "_law_names" "_law_names" sNa f fd):FnOk P w K mg base CX0 2 f fd ["_law_feed_here","_law_many"] spNa:=by
 refine F.ok scNa (λvs H Q E h=>?_) (λcdv A outer s H vs Q E hr h=>?_)
 ·obtain⟨p,m,rfl,_⟩:=h;rfl
 obtain⟨p,m,rfl,F0,m8,k⟩:=h;refine'⟨_,?hb,?rd⟩
 case' hb=>skip
 case' hb=>refine' ze ?g1 ?g2
 case' g2=>refine' ze ?g3 ?g4
 case' g4=>refine' ze ?g5 ?g6
 case' g6=>refine' zi ?g7
 case' g1=>refine' zj nmNa 2 ?g8
 case g8=>
  refine wy (vs:=[.str "a",.str "ab",.str "abc",.str "insort",.str "outer",.str "ruler",.str "tone",.str "begins",.str "sort",.str "b",.str "zzzzzzzz",.str "x"]) ?_;decide+kernel
 case g3=>exact zj nmNa 3 (pe_f fD hr (by decide) (pa_2 (pvd nmNa 0) zg))
 case' g5=>refine' zj nmNa 4 ?g9
 case' g9=>refine' ziq ?g10 (pe_f fD hr (by decide) (pa_2 (pvd nmNa 0) zg))
 case g10=>
  refine wy (vs:=[.int 1,.int 5,.int 7,.int 11]) ?_;decide+kernel
 case' g7=>refine' zr ?g11
 case' g11=>refine' zy (ix:=[2,3,4]) bsNaa.toCScope rfl rfl ?g12 ?g13 ?g14 ?g15
 case g12=>exact yc B.range (pa_1 (pvd nmNa 1))
 case g13=>exact λ_ _ _ _ _ _=>pgb bsNaa 0
 case g14=>exact λ_ _ _ _ _ _=>zu
 case g15=>exact λ_ _ _ _ _ _=>ziq (pvb bsNaa 1) (zo xk (zo zY (pvb bsNaa 2) (zo y3 (pvb bsNaa 3) (pvb bsNaa 0))) zg)
 nofun;refine⟨by show 12<=sizeLine; decide,λz hz=>?_⟩;obtain⟨ns,hns,hnl⟩: ∃ns:List V,ns=[.str "a",.str "ab",.str "abc",.str "insort",.str "outer",.str "ruler",.str "tone",.str "begins",.str "sort",.str "b",.str "zzzzzzzz",.str "x"]/\ns.length=12:=⟨_,rfl,rfl⟩;rw[<-hns];obtain⟨H1,q,K1,e1⟩:=nob (.lst ns) hz; rw[q]; clear q;have F1:=F0.same K1;nofun;refine y4 F1 (by decide) (by decide) λst H2 s0 s1 F2 b2=>?_;refine zN ?_;with_reducible refine yy ?_
 with_reducible refine yK ?_
 refine Zz (by rfl) F2 rfl (by decide) (by decide) λv H3 hv F3 b3=>?_;have b3:=b2.trans b3;have e3:=b3.1 _ _ (F0.np hz) e1;obtain⟨sp,rfl,p0,p1⟩: ∃sp:Int,v= .int sp/\0<=sp/\sp<=11:=by
  simp only[List.mem_cons,List.not_mem_nil,or_false] at hv;rcases hv with rfl | rfl | rfl | rfl<;>exact⟨_,rfl,by decide,by decide⟩
 nofun;refine⟨_,rfl,by omega,by omega,λD hD=>?_⟩;rw[Θ];refine ZR (S:=Same) (ρ:=[some (.ref z),some (.int st),some (.int sp)]) (λ_ _ _=>True) (Kp.same hD) (λ_ h=>h) (λ_ b=>G2.TK.same b) (by omega) (λi H' R hi K' kR=>?_) (λys H4 g e4=>?_)
 ·nofun;refine w_rI (mulL p0 (by omega)) ?_;nofun;refine⟨_,_,rfl,rfl,by show(0:Int)<12; decide,?_⟩;obtain⟨u,_,eu⟩:=Wx (vs:=ns) (r:=(st+sp*(0+(i:Int)))%12) (Int.emod_nonneg _ (by decide)) (by rw[hnl]; exact Int.emod_lt_of_pos _ (by decide));refine zC (K' _ _ e3) eu ?_;exact kR _ _ (Same.refl _) trivial
 ·exact k D H4 ys (((SB.same K1).trans b3).trans (SB.same g.1)) e4 g.2.1
abbrev sRu:Stmt:=top 41
abbrev nRu:List Str:=["_law_feed_here","_law_many","_law_takes","_law_gives","_law_j","_law_sort","_law_way"]
theorem nmRu:Nm nRu (zd sRu):=nmk (nofun)
theorem scRu:FnScope nRu ["_law_feed_here","_law_many"] (zd sRu):=fsk (nofun)
def qRua (s:Stmt):Scope:=match s with
 | .Assign _ (.ListComp _ _ sc _) _=>sc
 | _=>nsc
abbrev cRua:Scope:=qRua ((zm sRu).getD 0 (.Pass ⟨0,0,0,0⟩))
theorem bsRua:BScope (zd sRu) cRua ["_law_sort"] [] []:={}
def qRub (s:Stmt):Scope:=match s with
 | .Assign _ (.ListComp _ _ sc _) _=>sc
 | _=>nsc
abbrev cRub:Scope:=qRub ((zm sRu).getD 1 (.Pass ⟨0,0,0,0⟩))
theorem bsRub:BScope (zd sRu) cRub ["_law_sort"] [] []:={}
theorem loRu_2:(zd sRu).names.lookup ("_law_takes":Str)=some .local:=nofun
theorem loRu_3:(zd sRu).names.lookup ("_law_gives":Str)=some .local:=nofun
def spRu:Sp:=λvs H Q _=> ∃(p:Addr) (m:Nat),vs=[.ref p,.int (m:Int)]/\FeedAt H p/\0<m/\m<=8/\ ∀r x H',SB p H H'->RuA H' m r x->Q (.ref r) H'
theorem ok_Ru{f:Addr}{fd:FuncData}(B:Bl mg)(fD:Has P w K mg base 1 "_law_draw" ["_law_feed_here","_law_many"] yE)(F:Fun K "_law_rule" "_law_rule" sRu f fd):FnOk P w K mg base CX0 2 f fd ["_law_feed_here","_law_many"] spRu:=by
 refine F.ok scRu (λvs H Q E h=>?_) (λcdv A outer s H vs Q E hr h=>?_)
 ·obtain⟨p,m,rfl,_⟩:=h;rfl
 obtain⟨p,m,rfl,F0,m0,m8,k⟩:=h;refine'⟨_,?hb,?rd⟩
 case' hb=>skip
 case' hb=>refine' ze ?g1 ?g2
 case' g2=>refine' ze ?g3 ?g4
 case' g4=>refine' ze ?g5 ?g6
 case' g6=>refine' ze ?g7 ?g8
 case' g8=>refine' ze ?g9 ?g10
 case' g10=>refine' ze ?g11 ?g12
 case' g12=>refine' ze ?g13 ?g14
 case' g14=>refine' ze ?g15 ?g16
 case' g16=>refine' ze ?g17 ?g18
 case' g18=>refine' zi ?g19
 case' g1=>refine' yi (i:=2) (ix:=[]) nmRu.nd rfl loRu_2 bsRua.toCScope rfl rfl ?g20 ?g21 ?g22 ?g23
 case g20=>exact yc B.range (pa_1 (pvd nmRu 1))
 case g21=>exact λ_ _ _ _ _ _=>pgb bsRua 0
 case g22=>exact λ_ _ _ _ _ _=>zu
 case g23=>exact λ_ _ _ _ _ _=>zg
 case' g3=>refine' yi (i:=3) (ix:=[]) nmRu.nd rfl loRu_3 bsRub.toCScope rfl rfl ?g24 ?g25 ?g26 ?g27
 case g24=>exact yc B.range (pa_1 (pvd nmRu 1))
 case g25=>exact λ_ _ _ _ _ _=>pgb bsRub 0
 case g26=>exact λ_ _ _ _ _ _=>zu
 case g27=>exact λ_ _ _ _ _ _=>zg
 case' g5=>refine' ye Ψ rfl ?g28 (pgd nmRu 4) ?g29
 case g28=>exact yc B.range (pa_1 (zo zY zg (pe_f fD hr (by decide) (pa_2 (pvd nmRu 0) zg))))
 case' g29=>refine' ze ?g30 ?g31
 case' g31=>refine' zi ?g32
 case g30=>exact zj nmRu 5 (pe_f fD hr (by decide) (pa_2 (pvd nmRu 0) (pvd nmRu 1)))
 case g32=>exact zX (zo zY (zo zY (ziq (pvd nmRu 2) (pvd nmRu 5)) zg) (pe_f fD hr (by decide) (pa_2 (pvd nmRu 0) zg))) (ya (pvd nmRu 2) (pvd nmRu 5) yu)
 case' g7=>refine' ye Ψ rfl ?g33 (pgd nmRu 4) ?g34
 case g33=>exact yc B.range (pa_1 (pe_f fD hr (by decide) (pa_2 (pvd nmRu 0) zg)))
 case' g34=>refine' ze ?g35 ?g36
 case' g36=>refine' zi ?g37
 case g35=>exact zj nmRu 5 (pe_f fD hr (by decide) (pa_2 (pvd nmRu 0) (pvd nmRu 1)))
 case g37=>exact zX (zo zY (zo zY (ziq (pvd nmRu 3) (pvd nmRu 5)) zg) (pe_f fD hr (by decide) (pa_2 (pvd nmRu 0) zg))) (ya (pvd nmRu 3) (pvd nmRu 5) yu)
 case g9=>exact zj nmRu 6 (pe_f fD hr (by decide) (pa_2 (pvd nmRu 0) zg))
 case g11=>exact zj nmRu 5 (pe_f fD hr (by decide) (pa_2 (pvd nmRu 0) (pvd nmRu 1)))
 case' g13=>refine' zZ ?g38 ?g39 zB
 case g38=>exact zv wD (pvd nmRu 6) zg (zw _)
 case' g39=>refine' zi ?g41
 case g41=>exact zX (ziq (pvd nmRu 2) (pvd nmRu 5)) (ya (pvd nmRu 3) (pvd nmRu 5) yu)
 case' g15=>refine' zZ ?g42 ?g43 zB
 case g42=>exact zv vG (pvd nmRu 6) zg (zw _)
 case' g43=>refine' zi ?g45
 case g45=>exact zX zg (ya (pvd nmRu 2) (pvd nmRu 5) yu)
 case' g17=>refine' zZ ?g46 ?g47 zB
 case g46=>exact zv (op_eqD hr) (pvd nmRu 2) (pvd nmRu 3) (zw _)
 case' g47=>refine' zi ?g49
 case g49=>exact zX (ziq (zR (pa_2 (zo zY (ziq (pvd nmRu 3) (pvd nmRu 5)) zg) zg)) (zV Zq B.int PyProof.Rows.boot_int (pa_1 (y8 vG (ziq (pvd nmRu 2) (pvd nmRu 5)) zg (zw _))))) (ya (pvd nmRu 3) (pvd nmRu 5) yu)
 case g19=>exact zr (yr (pa_2 (zV zz B.tuple Η (pa_1 (pvd nmRu 2))) (zV zz B.tuple Η (pa_1 (pvd nmRu 3)))))
 have hm0:(0:Int)<(m:Int):=by omega
 have hm2:(m:Int)<1000000:=by omega
 nofun;refine⟨_,rfl,by omega,by omega,λta hta=>?_⟩;rw[Θ];refine xO (λ_=>V.int 0) (by omega) hta (λi hi H' K' R kR=>?_) (λH1 K1 e1=>?_)
 ·nofun;exact kR _ (Same.refl _)
 nofun;refine⟨_,rfl,by omega,by omega,λga hga=>?_⟩;rw[Θ];refine xO (λ_=>V.int 0) (by omega) hga (λi hi H' K' R kR=>?_) (λH2 K2 e2=>?_)
 ·nofun;exact kR _ (Same.refl _)
 have hz:(List.range m).map (λ_=>V.int 0)=(List.replicate m (0:Int)).map V.int:=List.ext_getElem (by simp) λi h1 h2=>by simp
 rw[hz] at e1 e2;have S0:TG2 0 0 m p ta ga H H2:=⟨F0.same (K1.trans K2),SB.same (K1.trans K2),F0,hta,Same.free K1 hga,zh e1 hga,⟨_,CL.zero (K2 _ _ e1) (Int.le_refl _)⟩,⟨_,CL.zero e2 (Int.le_refl _)⟩⟩;nofun;refine S0.dr (by decide) (by decide) λr H3 r0 r1 S3=>?_;nofun;refine⟨_,rfl,by omega,by omega,?_⟩;obtain⟨n,hn,n3⟩: ∃n:Nat,(1+r).toNat=n/\n<=3:=⟨_,rfl,by omega⟩;rw[hn];refine yw (λi σ H'=> ∃u4 u5 u6,σ=[some (.ref p),some (.int (m:Int)),some (.ref ta),some (.ref ga),u4,u5,u6]/\TG2 (2*i) 0 m p ta ga H H') ⟨_,_,_,rfl,S3.up (by omega) (Int.le_refl _)⟩ ?_ ?_
 ·rintro i σ H4 hi ⟨u4,u5,u6,rfl,S4⟩;nofun;refine S4.dr hm0 hm2 λso H5 s0 s1 S5=>?_;nofun;refine S5.ixT s0 s1 λv v0 v1=>?_;nofun;refine S5.dr (by decide) (by decide) λq H6 q0 q1 S6=>?_;nofun;refine(S6.up (c':=2*((i+1:Nat):Int)) (by omega) (Int.le_refl _)).stT s0 s1 (by omega) (by omega) λH7 S7=>?_;exact⟨_,_,_,rfl,S7⟩
 ·rintro σ H4 ⟨u4,u5,u6,rfl,S4⟩;nofun;refine(S4.up (c':=9) (d':=0) (by omega) (Int.le_refl _)).dr (by decide) (by decide) λr H5 r0 r1 S5=>?_;nofun;refine⟨_,rfl,by omega,by omega,?_⟩;obtain⟨n,hn,n3⟩: ∃n:Nat,r.toNat=n/\n<=3:=⟨_,rfl,by omega⟩;rw[hn];refine yw (λi σ H'=> ∃u4 u5 u6,σ=[some (.ref p),some (.int (m:Int)),some (.ref ta),some (.ref ga),u4,u5,u6]/\TG2 9 (3*i) m p ta ga H H') ⟨_,_,_,rfl,S5.up (Int.le_refl _) (by omega)⟩ ?_ ?_
  ·rintro i σ H6 hi ⟨u4,u5,u6,rfl,S6⟩;nofun;refine S6.dr hm0 hm2 λso H7 s0 s1 S7=>?_;nofun;refine S7.ixG s0 s1 λv v0 v1=>?_;nofun;refine S7.dr (by decide) (by decide) λq H8 q0 q1 S8=>?_;nofun;refine(S8.up (d':=3*((i+1:Nat):Int)) (Int.le_refl _) (by omega)).stG s0 s1 (by omega) (by omega) λH9 S9=>?_;exact⟨_,_,_,rfl,S9⟩
  ·rintro σ H6 ⟨u4,u5,u6,rfl,S6⟩;nofun;refine(S6.up (c':=9) (d':=9) (Int.le_refl _) (by omega)).dr (by decide) (by decide) λway H7 w0 w1 S7=>?_;nofun;refine S7.dr hm0 hm2 λso H8 s0 s1 S8=>?_;refine zN ?_;with_reducible refine wt (fun σ H'=>σ=[some (.ref p),some (.int (m:Int)),some (.ref ta),some (.ref ga),u4,some (.int so),some (.int way)]/\TG2 9 9 m p ta ga H H') ?_ ?_
   ·rintro σ H9 ⟨rfl,S9⟩;with_reducible refine wt (fun σ H'=>σ=[some (.ref p),some (.int (m:Int)),some (.ref ta),some (.ref ga),u4,some (.int so),some (.int way)]/\TG2 9 9 m p ta ga H H') ?_ ?_
    ·rintro σ H10 ⟨rfl,S10⟩;with_reducible refine wt (fun σ H'=>σ=[some (.ref p),some (.int (m:Int)),some (.ref ta),some (.ref ga),u4,some (.int so),some (.int way)]/\TG2 9 30 m p ta ga H H') ?_ ?_
     ·rintro σ H11 ⟨rfl,S11⟩;with_reducible refine xg ?_
      exact WF S11 (by rfl) (by rfl) λr x H12 K12 R=>k r x H12 (S11.sb.trans (SB.same K12)) R
     ·intro rest;nofun;obtain⟨xs,X⟩:=S10.t;obtain⟨ys,Y⟩:=S10.g;refine w_eqL X.1 Y.1 ?_;nofun;refine iteD (λ_=>?_) (λ_=>?_)
      ·nofun;refine S10.ixG s0 s1 λv v0 v1=>?_;nofun;refine⟨sz2,λz hz=>?_⟩;obtain⟨H11,q,K1,e1⟩:=nob (.lst [.int (v+1),.int 0]) hz; rw[q]; clear q;have S11:=S10.same K1;nofun;refine S11.ixT s0 s1 λw w0 w1=>?_;nofun;refine⟨rfl,?_⟩;nofun;refine .inr ⟨_,rfl,?_⟩;obtain⟨u,ui,u0,u1,eu⟩: ∃u:V,∃n:Int,u= .int n/\(0<=n/\n<=30)/\atI [V.int (v+1),.int 0] (if decide (V.int w=V.int 9)=true then 1 else 0)=some u:=by
        split
        ·exact⟨_,0,rfl,by decide,rfl⟩
        ·exact⟨_,v+1,rfl,by omega,rfl⟩
       subst u0;refine zC e1 eu ?_;nofun;exact(S11.up (d':=30) (Int.le_refl _) (by decide)).stG s0 s1 u1.1 u1.2 λH12 S12=>rest _ _ ⟨rfl,S12⟩
      ·with_reducible refine yo ?_
       exact rest _ _ ⟨rfl,S10.up (Int.le_refl _) (by decide)⟩
    ·intro rest;nofun;refine⟨rfl,?_⟩;nofun;refine iteD (λ_=>?_) (λ_=>?_)
     ·nofun;exact S9.stT s0 s1 (by decide) (by decide) λH10 S10=>rest _ _ ⟨rfl,S10⟩
     ·with_reducible refine yo ?_
      exact rest _ _ ⟨rfl,S9⟩
   ·intro rest;nofun;refine iteD (λ_=>?_) (λ_=>?_)
    ·nofun;refine S8.ixT s0 s1 λv v0 v1=>?_;nofun;exact S8.stG s0 s1 v0 v1 λH9 S9=>rest _ _ ⟨rfl,S9⟩
    ·with_reducible refine yo ?_
     exact rest _ _ ⟨rfl,S8⟩
abbrev Rows:=List (List Int×List Int)
def Rls (H:Hp) (rs:List Addr) (tg:Rows) (m:Nat):Prop:=rs.length=tg.length/\ ∀(i:Nat) (r:Addr) (t g:List Int),rs[i]? =some r->tg[i]? =some (t,g)->RuA H m r (t,g)
theorem Rls.tk(k:G2.TK H H')(h:Rls H rs tg m):Rls H' rs tg m:=⟨h.1,λi r t g e1 e2=>(h.2 i r t g e1 e2).tk k⟩
structure PotK (H:Hp) (p:Addr) (m:Nat) (tg:Rows):Prop where
 ex: ∃(ps pr pin pb:Addr) (ans:Int) (rs:List Addr) (us:List V),H p=some (.tup [.ref ps,.ref pr,.ref pin,.ref pb,.int ans])/\H ps=some (.tup us)/\us.length=m/\H pr=some (.tup (rs.map V.ref))/\Rls H rs tg m
 n8:tg.length<=8
 m8:m<=8
 m0:0<m
theorem PotK.tk(k:G2.TK H H')(h:PotK H p m tg):PotK H' p m tg:=let ⟨ps,pr,pin,pb,ans,rs,nm,h1,h2,h3,h4,h5⟩:=h.ex; ⟨⟨ps,pr,pin,pb,ans,rs,nm,k.t _ _ h1,k.t _ _ h2,h3,k.t _ _ h4,h5.tk k⟩,h.n8,h.m8,h.m0⟩
theorem PotK.same(k:Same H H')(h:PotK H p m tg):PotK H' p m tg:=h.tk (G2.TK.same k)
theorem rls_zip{H:Hp}{m:Nat}{zs:List (Addr×(List Int×List Int))}(h: ∀z∈zs,RuA H m z.1 z.2):Rls H (zs.map (·.1)) (zs.map (·.2)) m:=by
 refine⟨by simp,λi r t g e1 e2=>?_⟩;rw[μ] at e1 e2;cases hz:zs[i]? with
 | none=>rw[hz] at e1; cases e1
 | some z=>
  rw[hz] at e1 e2;have:=h z (ο hz);cases e1
  have e2:z.2=(t,g):=Γ e2;rw[e2] at this;exact this
theorem Xd{zs:List (Addr×(List Int×List Int))}(e1:H q=some (.tup [.ref ps,.ref q2,.ref pin,.ref pb,.int ans]))(e2:H ps=some (.tup us))(e3:us.length=m)(e4:H q2=some (.tup ((zs.map (·.1)).map V.ref)))(h: ∀z∈zs,RuA H m z.1 z.2)(n8:zs.length<=8)(m8:m<=8)(m0:0<m):PotK H q m (zs.map (·.2)):=
 ⟨⟨ps,q2,pin,pb,ans,_,us,e1,e2,e3,e4,rls_zip h⟩,by simpa using n8,m8,m0⟩
theorem Y9: ∀{ys:List V},(∀(j:Nat) (y:V),ys[j]? =some y-> ∃r x,y= .ref r/\RuA H m r x)-> ∃zs:List (Addr×(List Int×List Int)),ys=(zs.map (·.1)).map V.ref/\ ∀z∈zs,RuA H m z.1 z.2
 | [],_=>⟨[],rfl,λz hz=>by cases hz⟩
 | y::ys,h=>by
  obtain⟨r,x,rfl,hx⟩:=h 0 y rfl;obtain⟨zs,rfl,hz⟩:=Y9 (ys:=ys) λj y e=>h (j+1) y e;exact⟨(r,x)::zs,rfl,λz hm=>by rcases Φ.mp hm with rfl | hm; exact hx; exact hz z hm⟩
theorem w_neL{ns ms:List Int}(hp:H p=some (.lst (ns.map V.int)))(hq:H q=some (.lst (ms.map V.int)))(h:Q (.bl (!decide (ns=ms))) H):G2.rNeD (.ref p) (.ref q) H Q:=by
 refine⟨_,_,.lst hp (vz ns),.lst hq (vz ms),xY ns,xY ms,?_,?_⟩
 ·show PyData.depthAll _+1<=60;rw[wj];decide
 ·show Q (.bl (!PyData.eqvAll _ _)) H;rw[vR];exact h
theorem w_and2{σ:St}(hi:σ[i]? =some (some (.int a)))(hj:σ[j]? =some (some (.int b)))(hk:σ[k]? =some (some (.int c)))(hl:σ[l]? =some (some (.int d)))(q: ∀b,Q (.bl b) H):WP (tOp rNe (tVar i) (tVar j)) (tOp rNe (tVar k) (tVar l)) σ H Q:=by
 refine w_op (yg hi (yg hj ⟨rfl,_,rfl,?_⟩));split
 ·exact w_op (yg hk (yg hl ⟨rfl,q _⟩))
 ·exact q _
theorem flat0(n:Nat):(List.replicate n [V.int 0]).flatten=(List.replicate n (0:Int)).map V.int:=by
 induction n with
 | zero=>rfl
 | succ n ih=>rw[List.replicate_succ,List.flatten_cons,ih,List.replicate_succ]; rfl
theorem YG{σ:St}(hi:σ[i]? =some (some (.int (m:Int))))(m8:m<=8)(q: ∀a H',Same H H'->H a=none->CL 0 H' a m (List.replicate m 0)->Q (.ref a) H'):tOp rRep (tLst (yn (tC (V.int 0)) tNil)) (tVar i) σ H Q:=by
 refine w_op (xh (zK (w_c (yp ⟨sz1,λz1 hz1=>?_⟩))));have K9:Same H (upd H z1 (.lst [.int 0])):=Same.new (Same.refl H) hz1;have e9:upd H z1 (.lst [.int 0]) z1=some (.lst [.int 0]):=zf;generalize upd H z1 (.lst [.int 0])=H9 at K9 e9 ⊢;refine yg hi ⟨z1,_,_,rfl,rfl,e9,by omega,by omega,by rw[Θ]; exact Nat.le_of_lt (zq (by simp; omega)),λa ha=>?_⟩;rw[Θ,flat0];exact q a _ (K9.new ha) (Same.free K9 ha) (CL.zero zf (Int.le_refl _))
abbrev sPo:Stmt:=top 42
abbrev nPo:List Str:=["_law_feed_here","_law_many","_law_sorts","_law_rules","_law_left","_law_inputs","_law_k","_law_begin"]
theorem nmPo:Nm nPo (zd sPo):=nmk (nofun)
theorem scPo:FnScope nPo ["_law_feed_here"] (zd sPo):=fsk (nofun)
def qPoa (s:Stmt):Scope:=match s with
 | .Assign _ (.Call _ [(.ListComp _ _ sc _)] _ _) _=>sc
 | _=>nsc
abbrev cPoa:Scope:=qPoa ((zm sPo).getD 2 (.Pass ⟨0,0,0,0⟩))
theorem bsPoa:BScope (zd sPo) cPoa ["_law_k"] ["_law_feed_here","_law_many"] ["_law_rule"]:={}
def qPob (s:Stmt):Scope:=match s with
 | .Assign _ (.Call _ [(.ListComp _ _ sc _)] _ _) _=>sc
 | _=>nsc
abbrev cPob:Scope:=qPob ((zm sPo).getD 6 (.Pass ⟨0,0,0,0⟩))
theorem bsPob:BScope (zd sPo) cPob ["_law_sort"] ["_law_feed_here"] ["_law_draw"]:={}
def spPo:Sp:=λvs H Q _=> ∃(p:Addr),vs=[.ref p]/\FeedAt H p/\ ∀l H' m tg,SB p H H'->FeedAt H' p->PotK H' l m tg->Q (.ref l) H'
theorem ok_Po(B:Bl mg)(fD:Has P w K mg base 1 "_law_draw" ["_law_feed_here","_law_many"] yE)(fN:Has P w K mg base 2 "_law_names" ["_law_feed_here","_law_many"] spNa)(fR:Has P w K mg base 2 "_law_rule" ["_law_feed_here","_law_many"] spRu)(F:Fun K "_law_pot" "_law_pot" sPo f fd):FnOk P w K mg base CX0 3 f fd ["_law_feed_here"] spPo:=by
 refine F.ok scPo (λvs H Q E h=>?_) (λcdv A outer s H vs Q E hr h=>?_)
 ·obtain⟨p,rfl,_⟩:=h;rfl
 obtain⟨p,rfl,F0,k⟩:=h;refine'⟨_,?hb,?rd⟩
 case' hb=>skip
 case' hb=>refine' ze ?g1 ?g2
 case' g2=>refine' ze ?g3 ?g4
 case' g4=>refine' ze ?g5 ?g6
 case' g6=>refine' ze ?g7 ?g8
 case' g8=>refine' ze ?g9 ?g10
 case' g10=>refine' ze ?g11 ?g12
 case' g12=>refine' ze ?g13 ?g14
 case' g14=>refine' zi ?g15
 case' g1=>refine' zj nmPo 1 ?g16
 case' g16=>refine' ziq ?g17 (pe_f fD hr (by decide) (pa_2 (pvd nmPo 0) zg))
 case g17=>
  refine wy (vs:=[.int 1,.int 2,.int 3,.int 3,.int 4,.int 5,.int 6,.int 8]) ?_;decide+kernel
 case g3=>exact zj nmPo 2 (zV zz B.tuple Η (pa_1 (pe_f fN hr (by decide) (pa_2 (pvd nmPo 0) (pvd nmPo 1)))))
 case' g5=>refine' zj nmPo 3 ?g18
 case' g18=>refine' zV zz B.tuple Η ?g19
 case' g19=>refine' pa_1 ?g20
 case' g20=>refine' zy (ix:=[0,1]) bsPoa.toCScope rfl rfl ?g21 ?g22 ?g23 ?g24
 case' g21=>refine' yc B.range ?g25
 case' g25=>refine' pa_1 ?g26
 case' g26=>refine' ziq ?g27 (pe_f fD hr (by decide) (pa_2 (pvd nmPo 0) zg))
 case g27=>
  refine wy (vs:=[.int 0,.int 1,.int 2,.int 2,.int 3,.int 4,.int 5,.int 8]) ?_;decide+kernel
 case g22=>exact λ_ _ _ _ _ _=>pgb bsPoa 0
 case g23=>exact λ_ _ _ _ _ _=>zu
 case g24=>exact λ_ _ _ _ _ _=>pe_f fR hr (by decide) (pa_2 (pvb bsPoa 1) (pvb bsPoa 2)) (bsPoa.g 0)
 case g7=>exact zj nmPo 4 (zV (wK rfl) B.list PyProof.Rows.boot_list (pa_1 (zV ve B.range PyProof.Rows.boot_range (pa_1 (pvd nmPo 1)))))
 case g9=>exact zj nmPo 5 (zR yH)
 case' g11=>refine' ye Ψ rfl ?g28 (pgd nmPo 6) ?g29
 case' g28=>refine' yc B.range ?g30
 case' g30=>refine' pa_1 ?g31
 case' g31=>refine' zP (Zp rfl) B.min PyProof.Rows.boot_min ?g32
 case' g32=>refine' pa_2 (pvd nmPo 1) ?g33
 case' g33=>refine' ziq ?g34 (pe_f fD hr (by decide) (pa_2 (pvd nmPo 0) zg))
 case g34=>
  refine wy (vs:=[.int 0,.int 1,.int 2,.int 2,.int 3]) ?_;decide+kernel
 case' g29=>refine' zi ?g35
 case g35=>exact xq (wA PySem.F.plainAttrs_list PySem.F.slot_list_append PySem.F.type_list_append xb (pvd nmPo 5) (pa_1 (wA PySem.F.plainAttrs_list PySem.F.slot_list_pop PySem.F.type_list_pop Yj (pvd nmPo 4) (pa_1 (pe_f fD hr (by decide) (pa_2 (pvd nmPo 0) (zP zp B.len Ρ (pa_1 (pvd nmPo 4)))))))))
 case' g13=>refine' zj nmPo 7 ?g36
 case' g36=>refine' zV zz B.tuple Η ?g37
 case' g37=>refine' pa_1 ?g38
 case' g38=>refine' zy (ix:=[0]) bsPob.toCScope rfl rfl ?g39 ?g40 ?g41 ?g42
 case g39=>exact xL (pvd nmPo 2)
 case g40=>exact λ_ _ _ _ _ _=>pgb bsPob 0
 case g41=>exact λ_ _ _ _ _ _=>zu
 case g42=>exact λ_ _ _ _ _ _=>ziq (zR (pa_c zg (pa_c zg (pa_c zg (pa_c zg (pa_2 zg (pe_f fD hr (by decide) (pa_2 (pvb bsPob 1) zg) (bsPob.g 0)))))))) (pe_f fD hr (by decide) (pa_2 (pvb bsPob 1) zg) (bsPob.g 0))
 case g15=>exact zr (yr (pa_c (pvd nmPo 2) (pa_c (pvd nmPo 3) (pa_c (zV zz B.tuple Η (pa_1 (pvd nmPo 5))) (pa_2 (pvd nmPo 7) (pe_f fD hr (by decide) (pa_2 (pvd nmPo 0) (pvd nmPo 1))))))))
 with_reducible refine yy ?_
 with_reducible refine yK ?_
 refine Zz (by rfl) F0 rfl (by decide) (by decide) λv H1 hv F1 b1=>?_;obtain⟨m,rfl,m0,m8⟩: ∃m:Nat,v= .int (m:Int)/\0<m/\m<=8:=by
  simp only[List.mem_cons,List.not_mem_nil,or_false] at hv;rcases hv with rfl | rfl | rfl | rfl | rfl | rfl | rfl | rfl
  ·exact⟨1,rfl,by decide,by decide⟩
  ·exact⟨2,rfl,by decide,by decide⟩
  ·exact⟨3,rfl,by decide,by decide⟩
  ·exact⟨3,rfl,by decide,by decide⟩
  ·exact⟨4,rfl,by decide,by decide⟩
  ·exact⟨5,rfl,by decide,by decide⟩
  ·exact⟨6,rfl,by decide,by decide⟩
  ·exact⟨8,rfl,by decide,by decide⟩
 have hm0:(0:Int)<(m:Int):=by omega
 have hm2:(m:Int)<1000000:=by omega
 nofun;refine⟨p,m,rfl,F1,m8,λl H2 us b2 e2 hul=>?_⟩;have F2:=b2.2 F1;nofun;refine⟨l,us,rfl,e2,λps H3 K3 e3=>?_⟩;have F3:=F2.same K3;have b3:=(b1.trans b2).trans (SB.same K3);refine zN ?_;with_reducible refine yy ?_
 with_reducible refine yK ?_
 refine w_cb (zK (yh (zK (Zz (by rfl) F3 rfl (by decide) (by decide) λv H4 hv F4 b4=>?_))));obtain⟨n,rfl,n8⟩: ∃n:Nat,v= .int (n:Int)/\n<=8:=by
  simp only[List.mem_cons,List.not_mem_nil,or_false] at hv;rcases hv with rfl | rfl | rfl | rfl | rfl | rfl | rfl | rfl
  ·exact⟨0,rfl,by decide⟩
  ·exact⟨1,rfl,by decide⟩
  ·exact⟨2,rfl,by decide⟩
  ·exact⟨2,rfl,by decide⟩
  ·exact⟨3,rfl,by decide⟩
  ·exact⟨4,rfl,by decide⟩
  ·exact⟨5,rfl,by decide⟩
  ·exact⟨8,rfl,by decide⟩
 have e4:=(zQ F3 b4).t _ _ e3;have b4:=b3.trans b4;nofun;refine⟨_,rfl,by omega,by omega,λD hD=>?_⟩;rw[Θ];refine ZR (S:=SB p) (ρ:=[some (.ref p),some (.int (m:Int))]) (λ_ y H=> ∃r x,y= .ref r/\RuA H m r x) (Xo F4 hD) (λt ⟨r,x,e,h⟩=>⟨r,x,e,h.tk t⟩) (λa b=>zQ (a.2 F4) b) (by omega) (λi H' R hi K' kR=>?_) (λys H5 g e5=>?_)
 ·nofun;exact⟨p,m,rfl,K'.2 F4,m0,m8,λr x H'' b h=>kR _ _ b ⟨r,x,rfl,h⟩⟩
 obtain⟨zs,rfl,hzs⟩:=Y9 g.2.2;have hzl:zs.length<=8:=by have:=g.2.1; simp at this; omega
 have F5:=g.1.2 F4;have b5:=b4.trans g.1;have t5:=zQ F4 g.1;have e5':=t5.t _ _ e4;nofun;refine⟨D,_,rfl,e5,λpr H6 K6 e6=>?_⟩;have b6:=b5.trans (SB.same K6);have F6:=F5.same K6;have hz6: ∀z∈zs,RuA H6 m z.1 z.2:=λz hz=>(hzs z hz).tk (G2.TK.same K6);have e3':=K6 _ _ e5';nofun;refine⟨m,rfl,λrg hrg=>?_⟩;obtain⟨H7,q,K7,e7⟩:=nob (.rng 0 m) hrg; rw[q]; clear q;nofun;refine⟨rg,m,rfl,e7,by omega,λpl hpl=>?_⟩;obtain⟨xs,hx,hxl⟩: ∃xs:List V,xs=(List.range m).map (fun(i:Nat)=>V.int (i:Int))/\xs.length=m:=⟨_,rfl,by simp⟩;rw[<-hx];obtain⟨H8,q,K8,e8⟩:=nob (.lst xs) hpl; rw[q]; clear q;have K8:=K7.trans K8;nofun;refine⟨Ι _,λpi hpi=>?_⟩;have K9:Same H8 (upd H8 pi (.lst [])):=Same.new (Same.refl _) hpi;have e9:upd H8 pi (.lst []) pi=some (.lst []):=zf;have np:=zh e8 hpi;generalize upd H8 pi (.lst [])=H9 at K9 e9 ⊢;have e8:=K9 _ _ e8;have fl6:=Same.free K7 hpl;have fi6:=Same.free K8 hpi;have K9:=K8.trans K9;have F9:=F6.same K9;have npl:=F6.np fl6;have npi:=F6.np fi6;clear hx;refine zN ?_;with_reducible refine yy ?_
 refine yz (zK (w_cb (zK (yg (by rfl) (zK (Zz (by rfl) F9 rfl (by decide) (by decide) λv H10 hv F10 b10=>?_))))));obtain⟨c,rfl⟩: ∃c:Nat,v= .int (c:Int):=by
  simp only[List.mem_cons,List.not_mem_nil,or_false] at hv;rcases hv with rfl | rfl | rfl | rfl | rfl
  ·exact⟨0,rfl⟩
  ·exact⟨1,rfl⟩
  ·exact⟨2,rfl⟩
  ·exact⟨2,rfl⟩
  ·exact⟨3,rfl⟩
 nofun;refine⟨m,c,rfl,?_⟩;obtain⟨d,hd,dm⟩: ∃d:Nat,(if (c:Int)<(m:Int) then (c:Int) else (m:Int))=(d:Int)/\d<=m:=by
  split
  ·exact⟨c,rfl,by omega⟩
  ·exact⟨m,rfl,by omega⟩
 rw[hd];nofun;refine⟨_,rfl,by omega,by omega,?_⟩;rw[Θ];refine yw (λi σ H'=> ∃(u:Option V) (lf is:List V),σ=[some (.ref p),some (.int m),some (.ref ps),some (.ref pr),some (.ref pl),some (.ref pi),u,none]/\H' pl=some (.lst lf)/\H' pi=some (.lst is)/\lf.length+i=m/\is.length=i/\SB p H6 H') ⟨none,_,[],rfl,b10.1 _ _ npl e8,b10.1 _ _ npi e9,hxl,rfl,(SB.same K9).trans b10⟩ ?_ ?_
 ·rintro i σ H' hi ⟨u,lf,is,rfl,el,ei,hl1,hl2,b'⟩;nofun;refine⟨.inl ⟨rfl,_,SqL.of ei⟩,?_⟩;nofun;refine⟨.inl ⟨rfl,_,SqL.of el⟩,?_⟩;nofun;refine⟨pl,_,rfl,.inl (SqL.of el),?_⟩;nofun;refine y4 (b'.2 F6) (by omega) (by omega) λr H2 r0 r1 F2 b2=>?_;obtain⟨j,rfl⟩:=Nat.ofI r0;have hj:j<lf.length:=by omega
  have hix:ixN lf.length (j:Int)=some j:=by
   unfold ixN;rw[if_pos r0,if_pos r1];rfl
  nofun;refine⟨pl,_,_,j,lf[j],rfl,rfl,b2.1 _ _ npl el,by omega,by omega,(ZN hix).1,by simp[hj],?_⟩;have b3:=(b'.trans b2).put (o:= .lst (lf.eraseIdx j)) fl6;have ei3:upd H2 pl (.lst (lf.eraseIdx j)) pi=some (.lst is):=by rw[zk (Ne.symm np)]; exact b2.1 _ _ npi ei
  have el3:upd H2 pl (.lst (lf.eraseIdx j)) pl=some (.lst (lf.eraseIdx j)):=zf;generalize upd H2 pl (.lst (lf.eraseIdx j))=H3 at b3 ei3 el3 ⊢;nofun;refine⟨pi,_,_,rfl,rfl,ei3,zq (by omega),?_⟩;nofun;refine⟨_,lf.eraseIdx j,is++[lf[j]],rfl,by rw[zk np]; exact el3,zf,?_,by simp[hl2],b3.put fi6⟩;rw[List.length_eraseIdx_of_lt hj];omega
 ·rintro σ H11 ⟨u,lf,is,rfl,el,ei,hl1,hl2,b11⟩;have F11:=b11.2 F6;have t11:=zQ F6 b11;nofun;refine⟨ps,rfl,⟨_,SqT.of (t11.t _ _ e3')⟩,λD2 hD2=>?_⟩;refine YR (S:=SB p) (ρ:=[some (.ref p)]) (xs:=us) (λ_ y H=>True) (Xo F11 hD2) (λ_ h=>h) (λa b=>zQ (a.2 F11) b) (by omega) (λH' K'=>SqT.of ((t11.trans (zQ F11 K')).t _ _ e3')) (λi x H' R hx K' kR=>?_) (λys H12 g e12=>?_)
  ·nofun;refine y4 (K'.2 F11) (by decide) (by decide) λr H2 r0 r1 F2 b2=>?_;nofun;refine X4 (p:=p) (n:=6) (by rfl) F2 rfl (by decide) (by show 6<=100; decide) λv H3 hv F3 b3=>kR _ _ (b2.trans b3) trivial
  have b12:=b11.trans g.1;have F12:=g.1.2 F11;have pi12:=(zQ F11 g.1);nofun;refine⟨D2,_,rfl,e12,λpb H13 K13 e13=>?_⟩;nofun;refine⟨pi,_,rfl,K13 _ _ (g.1.1 _ _ npi ei),λpin H14 K14 e14=>?_⟩;have b14:=b12.trans (SB.same (K13.trans K14));have F14:=b14.2 F6;nofun;refine y4 F14 hm0 hm2 λan H15 a0 a1 F15 b15=>?_;nofun;refine⟨sz5,λq hq=>?_⟩;have K16:Same H15 (upd H15 q (.tup [.ref ps,.ref pr,.ref pin,.ref pb,.int an])):=Same.new (Same.refl _) hq;have b16:=(b14.trans b15).trans (SB.same K16);have t16:=zQ F6 b16;exact k _ _ m _ (b6.trans b16) (F15.same K16) (Xd zf (t16.t _ _ e3') hul (t16.t _ _ e6) (λz hz=>(hz6 z hz).tk t16) hzl m8 m0)
abbrev sKp:Stmt:=top 43
abbrev nKp:List Str:=["_law_feed_here","_law_pot_here","_law_sorts","_law_weights","_law_rules","_law_k","_law_one","_law_other","_law_takes","_law_gives","_law_third"]
theorem nmKp:Nm nKp (zd sKp):=nmk (nofun)
theorem scKp:FnScope nKp ["_law_feed_here"] (zd sKp):=fsk (nofun)
def qKpa (s:Stmt):Scope:=match s with
 | .Assign _ (.ListComp _ _ sc _) _=>sc
 | _=>nsc
abbrev cKpa:Scope:=qKpa ((zm sKp).getD 3 (.Pass ⟨0,0,0,0⟩))
theorem bsKpa:BScope (zd sKp) cKpa ["_law_sort"] ["_law_feed_here"] ["_law_draw"]:={}
theorem loKp_3:(zd sKp).names.lookup ("_law_weights":Str)=some .local:=nofun
def spKp:Sp:=spPo
theorem ok_Kp{f:Addr}{fd:FuncData}(B:Bl mg)(fD:Has P w K mg base 1 "_law_draw" ["_law_feed_here","_law_many"] yE)(fP:Has P w K mg base 3 "_law_pot" ["_law_feed_here"] spPo)(F:Fun K "_law_kept_pot" "_law_kept_pot" sKp f fd):FnOk P w K mg base CX0 4 f fd ["_law_feed_here"] spKp:=by
 refine F.ok scKp (λvs H Q E h=>?_) (λcdv A outer s H vs Q E hr h=>?_)
 ·obtain⟨p,rfl,_⟩:=h;rfl
 obtain⟨p,rfl,F0,k⟩:=h;refine'⟨_,?hb,?rd⟩
 case' hb=>skip
 case' hb=>refine' ze ?g1 ?g2
 case' g2=>refine' ze ?g3 ?g4
 case' g4=>refine' ze ?g5 ?g6
 case' g6=>refine' ze ?g7 ?g8
 case' g8=>refine' ze ?g9 ?g10
 case' g10=>refine' ze ?g11 ?g12
 case' g12=>refine' zi ?g13
 case g1=>exact zj nmKp 1 (pe_f fP hr (by decide) (pa_1 (pvd nmKp 0)))
 case g3=>exact zj nmKp 2 (zP zp B.len Ρ (pa_1 (ziq (pvd nmKp 1) zg)))
 case' g5=>refine' zZ ?g14 ?g15 zB
 case g14=>exact zv vG (pe_f fD hr (by decide) (pa_2 (pvd nmKp 0) zg)) zg (zw _)
 case' g15=>refine' zi ?g17
 case g17=>exact zr (pvd nmKp 1)
 case' g7=>refine' yi (i:=3) (ix:=[0]) nmKp.nd rfl loKp_3 bsKpa.toCScope rfl rfl ?g18 ?g19 ?g20 ?g21
 case g18=>exact yc B.range (pa_1 (pvd nmKp 2))
 case g19=>exact λ_ _ _ _ _ _=>pgb bsKpa 0
 case g20=>exact λ_ _ _ _ _ _=>zu
 case g21=>exact λ_ _ _ _ _ _=>zo zY zg (pe_f fD hr (by decide) (pa_2 (pvb bsKpa 1) zg) (bsKpa.g 0))
 case g9=>exact zj nmKp 4 (zR yH)
 case' g11=>refine' ye Ψ rfl ?g22 (pgd nmKp 5) ?g23
 case g22=>exact yc B.range (pa_1 (pe_f fD hr (by decide) (pa_2 (pvd nmKp 0) zg)))
 case' g23=>refine' ze ?g24 ?g25
 case' g25=>refine' ze ?g26 ?g27
 case' g27=>refine' zi ?g28
 case g24=>exact zj nmKp 6 (pe_f fD hr (by decide) (pa_2 (pvd nmKp 0) (pvd nmKp 2)))
 case g26=>exact zj nmKp 7 (pe_f fD hr (by decide) (pa_2 (pvd nmKp 0) (pvd nmKp 2)))
 case' g28=>refine' zZ ?g29 ?g30 zB
 case g29=>exact zv wC (pvd nmKp 6) (pvd nmKp 7) (zw _)
 case' g30=>refine' ze ?g32 ?g33
 case' g33=>refine' ze ?g34 ?g35
 case' g35=>refine' ze ?g36 ?g37
 case' g37=>refine' ze ?g38 ?g39
 case' g39=>refine' ze ?g40 ?g41
 case' g41=>refine' ze ?g42 ?g43
 case' g43=>refine' ze ?g44 ?g45
 case' g45=>refine' zi ?g46
 case g32=>exact zj nmKp 8 (zo ZH (zR (pa_1 zg)) (pvd nmKp 2))
 case g34=>exact zj nmKp 9 (zo ZH (zR (pa_1 zg)) (pvd nmKp 2))
 case g36=>exact zX (ziq (pvd nmKp 3) (pvd nmKp 7)) (ya (pvd nmKp 8) (pvd nmKp 6) yu)
 case g38=>exact zX (ziq (pvd nmKp 3) (pvd nmKp 6)) (ya (pvd nmKp 9) (pvd nmKp 7) yu)
 case g40=>exact zj nmKp 10 (pe_f fD hr (by decide) (pa_2 (pvd nmKp 0) (pvd nmKp 2)))
 case g42=>exact zX (zo zY (ziq (pvd nmKp 8) (pvd nmKp 10)) (pe_f fD hr (by decide) (pa_2 (pvd nmKp 0) zg))) (ya (pvd nmKp 8) (pvd nmKp 10) yu)
 case g44=>exact zX (zo zY (ziq (pvd nmKp 9) (pvd nmKp 10)) (zo y3 (ziq (pvd nmKp 8) (pvd nmKp 10)) (zV Zq B.int PyProof.Rows.boot_int (pa_1 (X8 (y8 wC (pvd nmKp 10) (pvd nmKp 6) (zw _)) (X5 (y8 wC (pvd nmKp 10) (pvd nmKp 7) (zw _)))))))) (ya (pvd nmKp 9) (pvd nmKp 10) yu)
 case' g46=>refine' zZ ?g47 ?g48 zB
 case g47=>exact zv (op_neD hr) (pvd nmKp 8) (pvd nmKp 9) (zw _)
 case' g48=>refine' zi ?g50
 case g50=>exact xq (wA PySem.F.plainAttrs_list PySem.F.slot_list_append PySem.F.type_list_append xb (pvd nmKp 4) (pa_1 (yr (pa_2 (zV zz B.tuple Η (pa_1 (pvd nmKp 8))) (zV zz B.tuple Η (pa_1 (pvd nmKp 9)))))))
 case g13=>exact zr (zo ZJ (zo ZJ (xW Y4 (pvd nmKp 1) wx (ww zg)) (yr (pa_1 (zV zz B.tuple Η (pa_1 (pvd nmKp 4)))))) (xW Y4 (pvd nmKp 1) (ww zg) wx))
 nofun;refine⟨p,rfl,F0,λl H1 m tg b1 F1 hp=>?_⟩;obtain⟨ps,pr,pin,pb,ans,rs,us,e1,e2,e3,e4,hR⟩:=hp.ex;have m8:=hp.m8;have m0:=hp.m0;have hm0:(0:Int)<(m:Int):=by omega
 have hm2:(m:Int)<1000000:=by omega
 nofun;refine zJ e1 rfl ?_;refine⟨ps,_,rfl,.inr (SqT.of e2),?_⟩;rw[e3];nofun;refine y4 F1 (by decide) (by decide) λr H2 r0 r1 F2 b2=>?_;have t2:=zQ F1 b2;have b12:=b1.trans b2;nofun;refine⟨rfl,?_⟩;nofun;refine iteD (λ_=>?_) (λ_=>?_)
 ·nofun;exact k l H2 m tg b12 F2 (hp.tk t2)
 nofun;refine⟨_,rfl,by omega,by omega,λW hW=>?_⟩;rw[Θ];refine ZR (S:=SB p) (λ_ y _=> ∃x:Int,y= .int x/\(0<=x/\x<=3)) (Xo F2 hW) (λ_ h=>h) (λa b=>zQ (a.2 F2) b) (by omega) (λi H' R hi K' kR=>?_) (λys H3 g eW=>?_)
 ·nofun;refine y4 (K'.2 F2) (by decide) (by decide) λr H3 r0 r1 F3 b3=>?_;nofun;exact kR _ _ b3 ⟨_,rfl,by omega⟩
 obtain⟨ws,rfl,hwb⟩:=Xq g.2.2;have hwl:ws.length=m:=by have:=g.2.1; simpa using this
 have W3:CL 3 H3 W m ws:=⟨eW,hwl,hwb⟩;have F3:=g.1.2 F2;have nW:W≠p:=F2.np hW;have t3:=t2.trans (zQ F2 g.1);have b3:=b12.trans g.1;clear eW hwb;nofun;refine⟨Ι _,λR hR0=>?_⟩;have K4:Same H3 (upd H3 R (.lst [])):=Same.new (Same.refl _) hR0;have e5:upd H3 R (.lst []) R=some (.lst []):=zf;have nWR:=zh W3.1 hR0;have nR:R≠p:=F3.np hR0;generalize upd H3 R (.lst [])=H4 at K4 e5 ⊢;have W4:=W3.same K4;have F4:=F3.same K4;have hRH:H R=none:=b3.free nR hR0;have t4:=t3.trans (G2.TK.same K4);have b4:=b3.trans (SB.same K4);nofun;refine y4 F4 (by decide) (by decide) λr H5 r0 r1 F5 b5=>?_;nofun;refine⟨_,rfl,by omega,by omega,?_⟩;obtain⟨n,hn,n3⟩: ∃n:Nat,r.toNat=n/\n<=6:=⟨_,rfl,by omega⟩;rw[hn];refine yw (λi σ H'=> ∃(zs:List (Addr×(List Int×List Int))) (u5 u6 u7 u8 u9 u10:Option V),σ=[some (.ref p),some (.ref l),some (.int (m:Int)),some (.ref W),some (.ref R),u5,u6,u7,u8,u9,u10]/\FeedAt H' p/\SB p H H'/\G2.TK H1 H'/\CL 3 H' W m ws/\H' R=some (.lst ((zs.map (·.1)).map V.ref))/\(∀z∈zs,RuA H' m z.1 z.2)/\zs.length<=i) ?_ ?_ ?_
 ·exact⟨[],none,none,none,none,none,none,rfl,F5,b4.trans b5,t4.trans (zQ F4 b5),W4.sb b5 nW,b5.1 _ _ nR e5,(λz hz=>by cases hz),by simp⟩
 ·rintro i σ H6 hi ⟨zs,u5,u6,u7,u8,u9,u10,rfl,F6,b6,t6,W6,l6,h6,c6⟩;have nx: ∀(H':Hp) (v5 v6 v7 v8 v9 v10:Option V),SB p H6 H'-> ∃(zs:List (Addr×(List Int×List Int))) (u5 u6 u7 u8 u9 u10:Option V),[some (V.ref p),some (V.ref l),some (V.int (m:Int)),some (V.ref W),some (V.ref R),v5,v6,v7,v8,v9,v10]=[some (V.ref p),some (V.ref l),some (V.int (m:Int)),some (V.ref W),some (V.ref R),u5,u6,u7,u8,u9,u10]/\FeedAt H' p/\SB p H H'/\G2.TK H1 H'/\CL 3 H' W m ws/\H' R=some (.lst ((zs.map (·.1)).map V.ref))/\(∀z∈zs,RuA H' m z.1 z.2)/\zs.length<=i+1:=
   λH' v5 v6 v7 v8 v9 v10 b=>⟨zs,_,_,_,_,_,_,rfl,b.2 F6,b6.trans b,t6.trans (zQ F6 b),W6.sb b nW,b.1 _ _ nR l6,λz hz=>(h6 z hz).tk (zQ F6 b),by omega⟩
  nofun;refine y4 F6 hm0 hm2 λon H7 o0 o1 F7 b7=>?_;nofun;refine y4 F7 hm0 hm2 λot H8 p0 p1 F8 b8=>?_;have b8:=b7.trans b8;nofun;refine⟨rfl,?_⟩;nofun;refine Zj (λ_=>?_) (λ_=>?_)
  ·refine YG (by rfl) m8 λta H9 K9 ft T9=>?_;refine zN ?_;with_reducible refine yy ?_
   with_reducible refine yK ?_
   refine YG (by rfl) m8 λga H10 K10 fg G10=>?_;have S:TG2 0 0 m p ta ga H8 H10:=⟨F8.same (K9.trans K10),SB.same (K9.trans K10),F8,ft,Same.free K9 fg,zh T9.1 fg,⟨_,T9.same K10⟩,⟨_,G10⟩⟩;have S:=S.up (c':=3) (d':=3) (by decide) (by decide);have W8:=W6.sb b8 nW;clear T9 G10 K9 K10 ft fg;nofun;refine(W8.sb S.sb nW).ix p0 p1 λv v0 v1=>?_;nofun;refine S.stT o0 o1 v0 v1 λH11 S=>?_;nofun;refine(W8.sb S.sb nW).ix o0 o1 λv v0 v1=>?_;nofun;refine S.stG p0 p1 v0 v1 λH12 S=>?_;nofun;refine S.dr hm0 hm2 λth H13 t0 t1 S=>?_;nofun;refine S.ixT t0 t1 λv v0 v1=>?_;nofun;refine S.dr (by decide) (by decide) λq H14 q0 q1 S=>?_;nofun;refine(S.up (c':=9) (d':=3) (by decide) (Int.le_refl _)).stT t0 t1 (by omega) (by omega) λH15 S=>?_;nofun;refine S.ixG t0 t1 λv v0 v1=>?_;nofun;refine S.ixT t0 t1 λu u0 u1=>?_;nofun;refine w_and2 (by rfl) (by rfl) (by rfl) (by rfl) λb=>?_;nofun;refine .inr ⟨_,rfl,?_⟩;obtain⟨y,hy,y0,y1⟩: ∃y:Int,u*(if b=true then 1 else 0)=y/\0<=y/\y<=9:=by
    split
    ·exact⟨u,by rw[Int.mul_one],u0,u1⟩
    ·exact⟨0,by rw[Int.mul_zero],by decide,by decide⟩
   refine w_rI (mulL u0 (by omega)) ?_;rw[hy];nofun;refine(S.up (c':=9) (d':=30) (Int.le_refl _) (by decide)).stG t0 t1 (by omega) (by omega) λH16 S=>?_;obtain⟨xs,X⟩:=S.t;obtain⟨ys,Y⟩:=S.g;have b16:=b8.trans S.sb;nofun;refine w_neL X.1 Y.1 ?_;nofun;refine Wl (λ_=>?_) (λ_=>?_)
   ·have l16:=b16.1 _ _ nR l6;have nd:G2.TK H6 H16:=zQ F6 b16;nofun;refine⟨.inl ⟨rfl,_,SqL.of l16⟩,?_⟩;refine zK (WF S (by rfl) (by rfl) λr x H17 K17 hx=>?_);have b17:=b16.trans (SB.same K17);have l17:=K17 _ _ l16;refine yp ⟨R,_,_,rfl,rfl,l17,zq (by simp; omega),?_⟩;have T17:G2.TK H17 (upd H17 R (.lst ((zs.map (·.1)).map V.ref++[.ref r]))):=G2.TK.lst l17;have T:=(zQ F6 b17).trans T17;have b18:=(b6.trans b17).put (o:= .lst ((zs.map (·.1)).map V.ref++[.ref r])) hRH;refine⟨zs++[(r,x)],_,_,_,_,_,_,rfl,b18.2 F0,b18,t6.trans T,(W6.sb b17 nW).ot nWR,by rw[zf]; simp,λz hz=>?_,by simp; omega⟩;rcases List.mem_append.mp hz with hz | hz
    ·exact(h6 z hz).tk T
    ·rw[Υ.mp hz];exact hx.tk T17
   ·nofun;exact nx _ _ _ _ _ _ _ b16
  ·nofun;exact nx _ _ _ _ _ _ _ b8
 ·rintro σ H6 ⟨zs,u5,u6,u7,u8,u9,u10,rfl,F6,b6,t6,W6,l6,h6,c6⟩;with_reducible refine xg ?_
  refine w_potW (by rfl) (by rfl) (t6.t _ _ e1) l6 (by simp) λq6 q2 H7 K7 g1 g2=>?_;have T7:=t6.trans (G2.TK.same K7);exact k q6 H7 m _ (b6.trans (SB.same K7)) (F6.same K7) (Xd g1 (T7.t _ _ e2) e3 g2 (λz hz=>(h6 z hz).tk (G2.TK.same K7)) (by omega) m8 m0)
end
end K17
namespace WG
def sm (n:Nat) (f:Nat->Int):Int:=match n with
 | 0=>0
 | n+1=>sm n f+f n
theorem zD{f g:Nat->Int}(h: ∀i<n,f i=g i):sm n f=sm n g:=by
 induction n with
 | zero=>rfl
 | succ n ih=>show sm n f+f n=sm n g+g n; rw[ih λi hi=>h i (by omega),h n (by omega)]
theorem xw{f g:Nat->Int}(c d:Int):sm n (λi=>c*f i+d*g i)=c*sm n f+d*sm n g:=by
 induction n with
 | zero=>simp[sm]
 | succ n ih=>show sm n _+_=c*(sm n f+f n)+d*(sm n g+g n); rw[ih]; grind
theorem yY{f:Nat->Int}(c:Int):sm n (λi=>c*f i)=c*sm n f:=by
 have:=xw (n:=n) (f:=f) (g:=f) c 0;simpa using this
theorem x4{f:Nat->Int}(h: ∀i<n,f i=0):sm n f=0:=by
 induction n with
 | zero=>rfl
 | succ n ih=>show sm n f+f n=0; rw[ih λi hi=>h i (by omega),h n (by omega)]; rfl
theorem xv{f:Nat->Int}(hk:k<n)(h: ∀i<n,i≠k->f i=0):sm n f=f k:=by
 induction n with
 | zero=>omega
 | succ n ih=>
  show sm n f+f n=f k;by_cases e:k=n
  ·subst e; rw[x4 λi hi=>h i (by omega) (by omega)]; omega
  ·rw[ih (by omega) λi hi=>h i (by omega),h n (by omega) (by omega)]; omega
theorem sm_two{f:Nat->Int}(ha:a+1<n)(h: ∀i<n,i≠a->i≠a+1->f i=0)(h2:f a+f (a+1)=0):sm n f=0:=by
 induction n with
 | zero=>omega
 | succ n ih=>
  show sm n f+f n=0;by_cases e:a+1=n
  ·subst e;rw[xv (k:=a) (by omega) λi hi hne=>h i (by omega) hne (by omega)]; exact h2
  ·rw[ih (by omega) λi hi=>h i (by omega),h n (by omega) (by omega) (by omega)]; rfl
theorem sm_nonpos{f:Nat->Int}(h: ∀i<n,f i<=0):sm n f<=0:=by
 induction n with
 | zero=>exact Int.le_refl _
 | succ n ih=>show sm n f+f n<=0; have:=ih λi hi=>h i (by omega); have:=h n (by omega); omega
theorem sm_sm{f:Nat->Nat->Int}:sm n (λi=>sm m (f i))=sm m λj=>sm n λi=>f i j:=by
 induction n with
 | zero=>exact(x4 λ_ _=>rfl).symm
 | succ n ih=>
  show sm n _+sm m (f n)=_;rw[ih];have:=xw (n:=m) (f:=λj=>sm n λi=>f i j) (g:=f n) 1 1;simpa[sm] using this.symm
def skip (i a:Nat):Nat:=if a<i then a else a+1
def sg (i:Nat):Int:=if i%2=0 then 1 else -1
theorem sg_succ(i:Nat):sg (i+1)=- sg i:=by
 unfold sg;rcases Nat.mod_two_eq_zero_or_one i with h | h
 ·rw[if_neg (by omega),if_pos h]
 ·rw[if_pos (by omega),if_neg (by omega)]; rfl
def det:Nat->(Nat->Nat->Int)->Int
 | 0,_=>1
 | n+1,w=>sm (n+1) λi=>sg i*w i 0*det n (λa b=>w (skip i a) (b+1))
def up (w:Nat->Nat->Int) (k:Nat) (v:Nat->Int):Nat->Nat->Int:=λa b=>if a=k then v b else w a b
theorem x9: ∀{n:Nat} {w w':Nat->Nat->Int},(∀a<n,∀b<n,w a b=w' a b)->det n w=det n w'
 | 0,_,_,_=>rfl
 | n+1,w,w',h=>by
  refine zD λi hi=>?_;rw[h i hi 0 (by omega),x9 (n:=n) (w':=λa b=>w' (skip i a) (b+1)) λa ha b hb=>h _ (by unfold skip; split<;>omega) _ (by omega)]
theorem x3(w:Nat->Nat->Int)(k:Nat):up w k (w k)=w:=by
 funext a b; unfold up; split
 ·rename_i h; rw[h]
 ·rfl
theorem xp{w:Nat->Nat->Int}{v:Nat->Int}:up w k v k=v:=by funext b; simp[up]
theorem y6{w:Nat->Nat->Int}{v:Nat->Int}(h:a≠k):up w k v a=w a:=by funext b; simp[up,h]
theorem yS{w:Nat->Nat->Int}{v x:Nat->Int}(h:k≠j):up (up w k v) j x=up (up w j x) k v:=by
 funext a b; unfold up
 by_cases e1:a=j
 ·subst e1; simp[Ne.symm h]
 ·simp[e1]
theorem vK{w:Nat->Nat->Int}{v:Nat->Int}:(λa b=>up w k v (skip k a) (b+1))=λa b=>w (skip k a) (b+1):=by
 funext a b
 have:skip k a≠k:=by unfold skip; split<;>omega
 rw[y6 this]
theorem vJ{w:Nat->Nat->Int}{v:Nat->Int}(h:i≠k):(λa b=>up w k v (skip i a) (b+1))=up (λa b=>w (skip i a) (b+1)) (if k<i then k else k-1) (λb=>v (b+1)):=by
 funext a b
 unfold up;have:(skip i a=k)↔a=(if k<i then k else k-1):=by unfold skip; split<;>split<;>omega
 by_cases e:skip i a=k
 ·rw[if_pos e,if_pos (this.mp e)]
 ·rw[if_neg e,if_neg (λz=>e (this.mpr z))]
theorem y9: ∀{n k:Nat} {w:Nat->Nat->Int} (x y:Nat->Int) (c d:Int),k<n->det n (up w k λb=>c*x b+d*y b)=c*det n (up w k x)+d*det n (up w k y)
 | 0,_,_,_,_,_,_,h=>by omega
 | n+1,k,w,x,y,c,d,h=>by
  show sm (n+1) _=c*sm (n+1) _+d*sm (n+1) _;rw[<-xw];refine zD λi hi=>?_;by_cases e:i=k
  ·subst e;rw[vK,vK,vK,xp,xp,xp]
   grind
  ·rw[vJ e,vJ e,vJ e,y6 e,y6 e,y6 e,y9 (n:=n) (λb=>x (b+1)) (λb=>y (b+1)) c d (by split<;>omega)]
   grind
theorem ZW: ∀{n a:Nat} {w:Nat->Nat->Int},a+1<n->w a=w (a+1)->det n w=0
 | 0,_,_,h,_=>by omega
 | n+1,a,w,h,e=>by
  refine sm_two h (λi hi h1 h2=>?_) ?_
  ·rw[ZW (n:=n) (a:=if i<a then a-1 else a) (by split<;>omega) ?_]
   ·simp
   ·funext b
    have e1:skip i (if i<a then a-1 else a)=a:=by unfold skip; split<;>split<;>omega
    have e2:skip i ((if i<a then a-1 else a)+1)=a+1:=by unfold skip; split<;>split<;>omega
    rw[e1,e2,e]
  ·have e1:(λx b=>w (skip a x) (b+1))=λx b=>w (skip (a+1) x) (b+1):=by
    funext x b
    by_cases hx:x=a
    ·subst hx;rw[show skip x x=x+1 by unfold skip; split<;>omega,show skip (x+1) x=x by unfold skip; split<;>omega,e]
    ·rw[show skip a x=skip (a+1) x by unfold skip; split<;>split<;>omega]
   rw[e1,e,sg_succ]
   grind
theorem YA{w:Nat->Nat->Int}(ha:a<n)(hb:b<n)(hab:a≠b)(h: ∀x:Nat->Int,det n (up (up w a x) b x)=0)(x y:Nat->Int):det n (up (up w a x) b y)=- det n (up (up w a y) b x):=by
 have h0:=h λj=>1*x j+1*y j;rw[y9 (k:=b) x y 1 1 hb,yS hab,yS hab,y9 (k:=a) x y 1 1 ha,y9 (k:=a) x y 1 1 ha,<-yS hab,<-yS hab,<-yS hab,<-yS hab,h x,h y] at h0;omega
theorem ZV: ∀{d n a:Nat} {w:Nat->Nat->Int},a+d+1<n->w a=w (a+d+1)->det n w=0
 | 0,n,a,w,h,e=>ZW h e
 | d+1,n,a,w,h,e=>by
  have hs:=YA (n:=n) (a:=a+d+1) (b:=a+d+1+1) (w:=w) (by omega) (by omega) (by omega) (λx=>ZW (a:=a+d+1) (by omega) (by rw[y6 (by omega),xp,xp])) (w (a+d+1)) (w (a+d+1+1));rw[x3] at hs;have e2:up w (a+d+1+1) (w (a+d+1+1))=w:=x3 _ _;rw[e2] at hs;have hz:det n (up (up w (a+d+1) (w (a+d+1+1))) (a+d+1+1) (w (a+d+1)))=0:=by
   refine ZV (d:=d) (a:=a) (by omega) ?_;rw[y6 (by omega),y6 (by omega),y6 (by omega),xp,e];rfl
  omega
theorem vU{w:Nat->Nat->Int}(ha:a<n)(hb:b<n)(hab:a≠b)(e:w a=w b):det n w=0:=by
 rcases Nat.lt_or_gt_of_ne hab with h | h
 ·obtain⟨d,rfl⟩: ∃d,b=a+d+1:=⟨b-a-1,by omega⟩;exact ZV hb e
 ·obtain⟨d,rfl⟩: ∃d,a=b+d+1:=⟨a-b-1,by omega⟩;exact ZV ha e.symm
theorem det_swap{w:Nat->Nat->Int}(ha:a<n)(hb:b<n)(hab:a≠b):det n (up (up w a (w b)) b (w a))=- det n w:=by
 have hs:=YA (n:=n) (w:=w) ha hb hab (λx=>vU ha hb hab (by rw[y6 hab,xp,xp])) (w b) (w a);rw[hs,x3,x3]
theorem ZU{w:Nat->Nat->Int}(q:Nat->Int)(z:Nat->Nat->Int)(hk:k<n):det n (up w k λb=>sm N λj=>q j*z j b)=sm N λj=>q j*det n (up w k (z j)):=by
 induction N with
 | zero=>
  have:=y9 (n:=n) (k:=k) (w:=w) (λ_=>0) (λ_=>0) 0 0 hk;simpa[sm] using this
 | succ N ih=>
  show det n (up w k λb=>sm N (λj=>q j*z j b)+q N*z N b)=sm N _+_;rw[<-ih];have:=y9 (n:=n) (k:=k) (w:=w) (λb=>sm N λj=>q j*z j b) (z N) 1 (q N) hk;simpa using this
theorem Yz{w:Nat->Nat->Int}(q:Nat->Int)(hk:k<n):det n (up w k λb=>sm n λj=>q j*w j b)=q k*det n w:=by
 rw[ZU q w hk,xv hk λi hi hne=>?_,x3];rw[vU hi hk hne (by rw[y6 hne,xp])];simp
theorem det_slots{w:Nat->Nat->Int}(p q:Nat->Int)(hc:c<n)(hk:k<n)(hck:c≠k):det n (up (up w c λb=>sm n λj=>p j*w j b) k λb=>sm n λj=>q j*w j b)=(p c*q k-p k*q c)*det n w:=by
 rw[ZU q w hk];have h1: ∀j<n,q j*det n (up (up w c λb=>sm n λj=>p j*w j b) k (w j))=(if j=k then q k*(p c*det n w) else 0)+(if j=c then-q c*(p k*det n w) else 0):=by
  intro j hj;by_cases e1:j=k
  ·subst e1;rw[if_pos rfl,if_neg (Ne.symm hck),yS hck,x3,Yz p hc];omega
  ·by_cases e2:j=c
   ·subst e2;rw[if_neg e1,if_pos rfl,yS hck,ZU p w hc,xv hk λi hi hne=>?_]
    ·rw[<-yS hck];have:=det_swap (n:=n) (w:=w) hc hk hck;rw[this]
     grind
    ·by_cases e3:i=j
     ·subst e3;rw[vU hc hk hck (by rw[xp,y6 (Ne.symm hck),xp])]; simp
     ·rw[vU hi hc e3 (by rw[y6 e3,y6 hne,xp])]; simp
   ·rw[if_neg e1,if_neg e2,vU hj hk e1 (by rw[y6 e1,y6 e2,xp])]; simp
 rw[zD h1];have:=xw (n:=n) (f:=λj=>if j=k then q k*(p c*det n w) else 0) (g:=λj=>if j=c then-q c*(p k*det n w) else 0) 1 1;simp only[Int.one_mul] at this;rw[this,xv hk λi hi hne=>if_neg hne,xv hc λi hi hne=>if_neg hne,if_pos rfl,if_pos rfl]
 grind
def fac:Nat->Nat
 | 0=>1
 | n+1=>(n+1)*fac n
theorem sm_abs{f:Nat->Int}(h: ∀i<n,(f i).natAbs<=B):(sm n f).natAbs<=n*B:=by
 induction n with
 | zero=>simp[sm]
 | succ n ih=>
  show(sm n f+f n).natAbs<=_;have h1:=ih λi hi=>h i (by omega);have h2:=h n (by omega);have h3:=Int.natAbs_add_le (sm n f) (f n);rw[Nat.succ_mul];omega
theorem sg_abs(i:Nat):(sg i).natAbs=1:=by unfold sg; split<;>rfl
theorem ZX: ∀{n B:Nat} {w:Nat->Nat->Int},(∀a<n,∀b<n,(w a b).natAbs<=B)->(det n w).natAbs<=fac n*B^n
 | 0,_,_,_=>by simp[det,fac]
 | n+1,B,w,h=>by
  have:=sm_abs (n:=n+1) (B:=B*(fac n*B^n)) (f:=λi=>sg i*w i 0*det n (λa b=>w (skip i a) (b+1))) λi hi=>by
   rw[Int.natAbs_mul,Int.natAbs_mul,sg_abs,Nat.one_mul];exact Nat.mul_le_mul (h i hi 0 (by omega)) (ZX λa ha b hb=>h _ (by unfold skip; split<;>omega) _ (by omega))
  refine Τ this (Nat.le_of_eq ?_);show(n+1)*(B*(fac n*B^n))=(n+1)*fac n*B^(n+1);rw[Nat.pow_succ]
  grind
end WG
namespace WG
structure Tb where
 D:Int
 M:Nat->Nat->Int
 ru:Nat->Nat
 cu:Nat->Nat
def un (n b:Nat):Int:=if b=n then 1 else 0
def wv (n:Nat) (v:Nat->Nat->Int) (cu:Nat->Nat):Nat->Nat->Int:=λc=>if c<n then v (cu c) else un n
structure Inv (n m:Nat) (v:Nat->Nat->Int) (S:Tb):Prop where
 D0:0<S.D
 rl: ∀r<m,S.ru r<n+m
 cl: ∀c<n,S.cu c<n+m
 al: ∀u<n+m,(∃r,r<m/\S.ru r=u)\/ ∃c,c<n/\S.cu c=u
 ri: ∀r<m,∀q<m,S.ru r=S.ru q->r=q
 ci: ∀c<n,∀d<n,S.cu c=S.cu d->c=d
 rc: ∀r<m,∀c<n,S.ru r≠S.cu c
 mc: ∀c<n,∀k≤n,S.M (S.cu c) k=if k=c then S.D else 0
 A: ∀u<n+m,∀j≤n,S.D*v u j=sm (n+1) λc=>S.M u c*wv n v S.cu c j
 B: ∀u<n+m,∀k≤n,S.M u k=(sm n λj=>v u j*S.M j k)+v u n*(if k=n then S.D else 0)
 dt: ∃g:Int,g*g=1/\S.D=g*det (n+1) (wv n v S.cu)
def sgn (p:Int):Int:=if p>0 then 1 else -1
theorem sgn_sq(p:Int):sgn p*sgn p=1:=by unfold sgn; split<;>rfl
theorem sgn_pos(h:p≠0):0<sgn p*p:=by unfold sgn; split<;>omega
def updN (f:Nat->Nat) (k x:Nat):Nat->Nat:=λi=>if i=k then x else f i
def yV (S:Tb) (r c:Nat):Nat->Nat->Int:=λu k=>
 if k=c then sgn (S.M (S.ru r) c)*S.M u c else (sgn (S.M (S.ru r) c)*S.M (S.ru r) c*S.M u k-sgn (S.M (S.ru r) c)*S.M u c*S.M (S.ru r) k) / S.D
def turn (S:Tb) (r c:Nat):Tb:=⟨sgn (S.M (S.ru r) c)*S.M (S.ru r) c,yV S r c,updN S.ru r (S.cu c),updN S.cu c (S.ru r)⟩
section
variable {n m:Nat} {v:Nat->Nat->Int} {S:Tb}
theorem Inv.cramer(I:Inv n m v S){g:Int}(hg:g*g=1)(hd:S.D=g*det (n+1) (wv n v S.cu)){u k:Nat}(hu:u<n+m)(hk:k<=n):det (n+1) (up (wv n v S.cu) k (v u))=g*S.M u k:=by
 have h1:=y9 (n:=n+1) (k:=k) (w:=wv n v S.cu) (v u) (v u) S.D 0 (by omega);have h2:det (n+1) (up (wv n v S.cu) k λb=>S.D*v u b+0*v u b)=det (n+1) (up (wv n v S.cu) k λb=>sm (n+1) λj=>S.M u j*wv n v S.cu j b):=x9 λa ha b hb=>by
  unfold up; split
  ·show S.D*v u b+0*v u b=sm (n+1) λj=>S.M u j*wv n v S.cu j b;rw[I.A u hu b (by omega)]; omega
  ·rfl
 rw[h2,Yz (S.M u) (by omega)] at h1;have h3:S.D*det (n+1) (up (wv n v S.cu) k (v u))=S.D*(g*S.M u k):=by
  have:det (n+1) (wv n v S.cu)=g*S.D:=by rw[hd,<-Int.mul_assoc,hg,Int.one_mul]
  rw[this] at h1
  grind
 exact Int.eq_of_mul_eq_mul_left (by have:=I.D0; omega) h3
theorem Inv.bound(I:Inv n m v S){Bd:Nat}(hb: ∀u<n+m,∀j≤n,(v u j).natAbs<=Bd)(h1:1<=Bd){u k:Nat}(hu:u<n+m)(hk:k<=n):(S.M u k).natAbs<=fac (n+1)*Bd^(n+1):=by
 obtain⟨g,hg,hd⟩:=I.dt;have:=I.cramer hg hd hu hk;have e:S.M u k=g*det (n+1) (up (wv n v S.cu) k (v u)):=by rw[this,<-Int.mul_assoc,hg,Int.one_mul]
 have hg1:g.natAbs=1:=by
  have:(g*g).natAbs=1:=by rw[hg]; rfl
  rw[Int.natAbs_mul] at this;exact Nat.eq_one_of_mul_eq_one_left this
 rw[e,Int.natAbs_mul,hg1,Nat.one_mul];refine ZX λa ha b hb'=>?_;unfold up wv un;split
 ·exact hb u hu b (by omega)
 ·split
  ·exact hb _ (I.cl _ (by omega)) b (by omega)
  ·dsimp only;split<;>simp<;>omega
theorem Inv.D_bound(I:Inv n m v S){Bd:Nat}(hb: ∀u<n+m,∀j≤n,(v u j).natAbs<=Bd)(h1:1<=Bd):S.D.natAbs<=fac (n+1)*Bd^(n+1):=by
 obtain⟨g,hg,hd⟩:=I.dt;have hg1:g.natAbs=1:=by
  have:(g*g).natAbs=1:=by rw[hg]; rfl
  rw[Int.natAbs_mul] at this;exact Nat.eq_one_of_mul_eq_one_left this
 rw[hd,Int.natAbs_mul,hg1,Nat.one_mul];refine ZX λa ha b hb'=>?_;unfold wv un;split
 ·exact hb _ (I.cl _ (by omega)) b (by omega)
 ·dsimp only;split<;>simp<;>omega
theorem Inv.exact(I:Inv n m v S){r c u k:Nat}(hr:r<m)(hc:c<n)(hu:u<n+m)(hk:k<=n)(hkc:k≠c):
  S.D ∣ (sgn (S.M (S.ru r) c)*S.M (S.ru r) c*S.M u k-sgn (S.M (S.ru r) c)*S.M u c*S.M (S.ru r) k):=by
 obtain⟨g,hg,hd⟩:=I.dt;have hl:=I.rl r hr;generalize S.ru r=l at hl ⊢;have hw:det (n+1) (wv n v S.cu)=g*S.D:=by rw[hd,<-Int.mul_assoc,hg,Int.one_mul]
 have h1:=det_slots (n:=n+1) (w:=wv n v S.cu) (S.M l) (S.M u) (c:=c) (k:=k) (by omega) (by omega) (Ne.symm hkc);have h2:det (n+1) (up (up (wv n v S.cu) c λb=>sm (n+1) λj=>S.M l j*wv n v S.cu j b) k λb=>sm (n+1) λj=>S.M u j*wv n v S.cu j b)=det (n+1) (up (up (wv n v S.cu) c λb=>S.D*v l b+0*v l b) k λb=>S.D*v u b+0*v u b):=x9 λa ha b hb=>by
  unfold up; split
  ·show(sm (n+1) λj=>S.M u j*wv n v S.cu j b)=S.D*v u b+0*v u b;rw[<-I.A u hu b (by omega)]; omega
  ·split
   ·show(sm (n+1) λj=>S.M l j*wv n v S.cu j b)=S.D*v l b+0*v l b;rw[<-I.A l hl b (by omega)]; omega
   ·rfl
 rw[h2,y9 (v u) (v u) S.D 0 (by omega),yS (Ne.symm hkc),y9 (v l) (v l) S.D 0 (by omega),hw] at h1;generalize det (n+1) (up (up (wv n v S.cu) k (v u)) c (v l))=d at h1;have h3:S.D*(S.D*d)=S.D*(g*(S.M l c*S.M u k-S.M l k*S.M u c)):=by grind
 have h4:=Int.eq_of_mul_eq_mul_left (by have:=I.D0; omega) h3;refine⟨sgn (S.M l c)*g*d,?_⟩;have:S.D*(sgn (S.M l c)*g*d)=sgn (S.M l c)*g*(S.D*d):=by grind
 rw[this,h4]
 grind
theorem Inv.turn_mul(I:Inv n m v S){r c u k:Nat}(hr:r<m)(hc:c<n)(hu:u<n+m)(hk:k<=n)(hkc:k≠c):
  S.D*yV S r c u k=sgn (S.M (S.ru r) c)*S.M (S.ru r) c*S.M u k-sgn (S.M (S.ru r) c)*S.M u c*S.M (S.ru r) k:=by
 unfold yV;rw[if_neg hkc];exact Int.mul_ediv_cancel' (I.exact hr hc hu hk hkc)
theorem xC:yV S r c u c=sgn (S.M (S.ru r) c)*S.M u c:=by unfold yV; rw[if_pos rfl]
theorem wI{d a b:Int}(h:0<d)(e:d*a=d*b):a=b:=Int.eq_of_mul_eq_mul_left (by omega) e
theorem YX(hc:c<n):wv n v (updN S.cu c (S.ru r)) a=up (wv n v S.cu) c (v (S.ru r)) a:=by
 unfold wv up updN
 funext b
 by_cases e:a=c
 ·subst e; simp[hc]
 ·simp[e]
theorem Inv.turn(I:Inv n m v S){r c:Nat}(hr:r<m)(hc:c<n)(hp:S.M (S.ru r) c≠0):Inv n m v (turn S r c):=by
 have hl:=I.rl r hr;have ht:=I.cl c hc;have hne:=I.rc r hr c hc;have hD:=I.D0;refine⟨sgn_pos hp,λq hq=>?_,λd hd=>?_,λu hu=>?_,λa ha b hb e=>?_,λa ha b hb e=>?_,λa ha b hb e=>?_,λd hd k hk=>?_,λu hu j hj=>?_,λu hu k hk=>?_,?_⟩
 ·show updN S.ru r (S.cu c) q<n+m;unfold updN; split
  ·exact ht
  ·exact I.rl q hq
 ·show updN S.cu c (S.ru r) d<n+m;unfold updN; split
  ·exact hl
  ·exact I.cl d hd
 ·by_cases e1:u=S.cu c
  ·exact .inl ⟨r,hr,by simp[WG.turn,updN,e1]⟩
  ·by_cases e2:u=S.ru r
   ·exact .inr ⟨c,hc,by simp[WG.turn,updN,e2]⟩
   ·rcases I.al u hu with ⟨q,hq,rfl⟩ | ⟨d,hd,rfl⟩
    ·refine .inl ⟨q,hq,?_⟩;show updN S.ru r (S.cu c) q=_;unfold updN; rw[if_neg]; intro z; subst z; exact e2 rfl
    ·refine .inr ⟨d,hd,?_⟩;show updN S.cu c (S.ru r) d=_;unfold updN; rw[if_neg]; intro z; subst z; exact e1 rfl
 ·have e:updN S.ru r (S.cu c) a=updN S.ru r (S.cu c) b:=e;unfold updN at e;split at e<;>split at e
  ·omega
  ·exact absurd e.symm (I.rc b hb c hc)
  ·exact absurd e (I.rc a ha c hc)
  ·exact I.ri a ha b hb e
 ·have e:updN S.cu c (S.ru r) a=updN S.cu c (S.ru r) b:=e;unfold updN at e;split at e<;>split at e
  ·omega
  ·exact absurd e (I.rc r hr b hb)
  ·exact absurd e.symm (I.rc r hr a ha)
  ·exact I.ci a ha b hb e
 ·have e:updN S.ru r (S.cu c) a=updN S.cu c (S.ru r) b:=e;unfold updN at e;split at e<;>split at e
  ·exact hne e.symm
  ·rename_i h1 h2; exact h2 (I.ci c hc b hb e).symm
  ·rename_i h1 h2; exact h1 (I.ri a ha r hr e)
  ·exact I.rc a ha b hb e
 ·show yV S r c (updN S.cu c (S.ru r) d) k=if k=d then sgn (S.M (S.ru r) c)*S.M (S.ru r) c else 0
  unfold updN;by_cases e:d=c
  ·subst e;rw[if_pos rfl];by_cases ek:k=d
   ·subst ek; rw[xC,if_pos rfl]
   ·rw[if_neg ek];refine wI hD ?_;rw[I.turn_mul hr hc hl hk ek]; grind
  ·rw[if_neg e];have h1:=I.mc d hd;by_cases ek:k=c
   ·subst ek;rw[xC,h1 k hk,if_neg (Ne.symm e),if_neg (Ne.symm e)]; simp
   ·refine wI hD ?_;rw[I.turn_mul hr hc (I.cl d hd) hk ek,h1 k hk,h1 c (by omega),if_neg (Ne.symm e)];split<;>grind
 ·show sgn (S.M (S.ru r) c)*S.M (S.ru r) c*v u j=sm (n+1) λa=>yV S r c u a*wv n v (updN S.cu c (S.ru r)) a j;refine wI hD ?_;rw[<-yY];have h1: ∀a<n+1,S.D*(yV S r c u a*wv n v (updN S.cu c (S.ru r)) a j)=(sgn (S.M (S.ru r) c)*S.M (S.ru r) c)*(S.M u a*wv n v S.cu a j)+(- sgn (S.M (S.ru r) c)*S.M u c)*(S.M (S.ru r) a*wv n v S.cu a j)+(if a=c then sgn (S.M (S.ru r) c)*S.M u c*(S.D*v (S.ru r) j) else 0):=by
   intro a ha;rw[YX hc];by_cases e:a=c
   ·subst e;rw[xp,xC,if_pos rfl]; grind
   ·rw[y6 e,if_neg e,<-Int.mul_assoc,I.turn_mul hr hc hu (by omega) e]; grind
  rw[zD h1];have h2:=xw (n:=n+1) (f:=λa=>(sgn (S.M (S.ru r) c)*S.M (S.ru r) c)*(S.M u a*wv n v S.cu a j)+(- sgn (S.M (S.ru r) c)*S.M u c)*(S.M (S.ru r) a*wv n v S.cu a j)) (g:=λa=>if a=c then sgn (S.M (S.ru r) c)*S.M u c*(S.D*v (S.ru r) j) else 0) 1 1;simp only[Int.one_mul] at h2;rw[h2,xw,<-I.A u hu j hj,<-I.A _ hl j hj,xv (k:=c) (by omega) λi hi hne=>if_neg hne,if_pos rfl]
  grind
 ·show yV S r c u k=(sm n λj=>v u j*yV S r c j k)+v u n*(if k=n then sgn (S.M (S.ru r) c)*S.M (S.ru r) c else 0);have hB:=I.B u hu;by_cases ek:k=c
  ·subst ek;rw[xC,if_neg (by omega)];have h1:=hB k hk;rw[if_neg (by omega)] at h1;rw[zD (f:=λj=>v u j*yV S r k j k) (g:=λj=>sgn (S.M (S.ru r) k)*(v u j*S.M j k)) λj _=>by rw[xC]; grind,yY,h1]
   grind
  ·refine wI hD ?_;rw[I.turn_mul hr hc hu hk ek,Int.mul_add,<-yY];rw[zD (g:=λj=>(sgn (S.M (S.ru r) c)*S.M (S.ru r) c)*(v u j*S.M j k)+(- sgn (S.M (S.ru r) c)*S.M (S.ru r) k)*(v u j*S.M j c)) λj hj=>by
    have:=I.turn_mul hr hc (u:=j) (by omega) hk ek;have e2:S.D*(v u j*yV S r c j k)=v u j*(S.D*yV S r c j k):=by grind
    rw[e2,this]; grind]
   rw[xw];have h1:=hB k hk;have h2:=hB c (by omega);rw[if_neg (by omega: ¬c=n)] at h2;have e1:(sm n λj=>v u j*S.M j k)=S.M u k-v u n*(if k=n then S.D else 0):=by omega
   have e2:(sm n λj=>v u j*S.M j c)=S.M u c:=by omega
   rw[e1,e2];split<;>grind
 ·obtain⟨g,hg,hd⟩:=I.dt;refine⟨sgn (S.M (S.ru r) c)*g,?_,?_⟩
  ·have:=sgn_sq (S.M (S.ru r) c); grind
  ·show sgn (S.M (S.ru r) c)*S.M (S.ru r) c=_*det (n+1) (wv n v (updN S.cu c (S.ru r)));have e:wv n v (updN S.cu c (S.ru r))=up (wv n v S.cu) c (v (S.ru r)):=by funext a; exact YX hc
   rw[e,I.cramer hg hd hl (by omega)]
   grind
end
end WG
namespace WG
section
variable {n m:Nat} {v:Nat->Nat->Int}
def low (n m:Nat) (S:Tb) (r:Nat):Prop:=r<m/\n<=S.ru r/\S.M (S.ru r) n<0
structure BStep (n m:Nat) (S:Tb) (r c:Nat):Prop where
 lo:low n m S r
 lm: ∀q,low n m S q->S.ru r<=S.ru q
 hc:c<n
 nz:S.M (S.ru r) c≠0
 cm:S.cu c<n\/(0<S.M (S.ru r) c/\(∀d<n,S.cu d<n->S.M (S.ru r) d=0)/\ ∀d<n,n<=S.cu d->0<S.M (S.ru r) d->S.cu c<=S.cu d)
def isC (n:Nat) (S:Tb) (u:Nat):Prop:= ∃c,c<n/\S.cu c=u
theorem WT(S R:Tb)(I:Inv n m v S)(J:Inv n m v R){u:Nat}(hu:u<n+m):S.D*R.M u n=(sm n λc=>S.M u c*R.M (S.cu c) n)+S.M u n*R.D:=by
 have hB: ∀w<n+m,R.M w n=(sm n λj=>v w j*R.M j n)+v w n*R.D:=λw hw=>by
  have:=J.B w hw n (θ _)
  rwa [if_pos rfl] at this
 rw[hB u hu,Int.mul_add,<-yY];have hA: ∀j≤n,S.D*v u j=(sm n λc=>S.M u c*v (S.cu c) j)+S.M u n*un n j:=λj hj=>by
  rw[I.A u hu j hj];show(sm n λc=>S.M u c*wv n v S.cu c j)+S.M u n*wv n v S.cu n j=_;congr 1
  ·exact zD λc hc=>by unfold wv; rw[if_pos hc]
  ·unfold wv; rw[if_neg (by omega)]
 have h1:(sm n λj=>S.D*(v u j*R.M j n))=sm n λc=>S.M u c*sm n λj=>v (S.cu c) j*R.M j n:=by
  have: ∀j<n,S.D*(v u j*R.M j n)=sm n λc=>S.M u c*(v (S.cu c) j*R.M j n):=λj hj=>by
   have e:=hA j (by omega);unfold un at e;rw[if_neg (by omega)] at e;have e2:S.D*(v u j*R.M j n)=R.M j n*(S.D*v u j):=by grind
   rw[e2,e,Int.mul_zero,Int.add_zero,<-yY];exact zD λc _=>by grind
  rw[zD this,sm_sm];exact zD λc _=>yY _
 have h2:S.D*(v u n*R.D)=(sm n λc=>S.M u c*(v (S.cu c) n*R.D))+S.M u n*R.D:=by
  have e:=hA n (θ _);unfold un at e;rw[if_pos rfl] at e;have e2:S.D*(v u n*R.D)=R.D*(S.D*v u n):=by grind
  rw[e2,e,Int.mul_add,<-yY];congr 1
  ·exact zD λc _=>by grind
  ·grind
 rw[h1,h2];have h3:=xw (n:=n) (f:=λc=>S.M u c*sm n λj=>v (S.cu c) j*R.M j n) (g:=λc=>S.M u c*(v (S.cu c) n*R.D)) 1 1;have h4:(sm n λc=>S.M u c*R.M (S.cu c) n)=sm n λc=>1*(S.M u c*sm n λj=>v (S.cu c) j*R.M j n)+1*(S.M u c*(v (S.cu c) n*R.D)):=zD λc hc=>by
  rw[hB _ (I.cl c hc)]; grind
 rw[h4,h3]
 grind
theorem bland{S R:Tb}(I:Inv n m v S)(J:Inv n m v R){r c q d t:Nat}(a:BStep n m S r c)(b:BStep n m R q d)(e1:S.cu c=t)(e2:R.ru q=t)(hl:S.ru r<=t)(hs: ∀u,t<u->isC n S u->isC n R u):False:=by
 have hr:=a.lo.1;have hq:=b.lo.1;have hlu:=I.rl r hr;have htn:n<=t:=e2▸b.lo.2.1;obtain⟨hp,hz,hm⟩:0<S.M (S.ru r) c/\(∀d<n,S.cu d<n->S.M (S.ru r) d=0)/\ ∀d<n,n<=S.cu d->0<S.M (S.ru r) d->S.cu c<=S.cu d:=by
  rcases a.cm with h | h
  ·omega
  ·exact h
 -- how the other table's WT stands
 have hlow: ∀u,n<=u->u<n+m->u<t->0<=R.M u n:=λu h1 h2 h3=>by
  rcases J.al u h2 with ⟨r',hr',rfl⟩ | ⟨c',hc',rfl⟩
  ·rcases Int.lt_or_le (R.M (R.ru r') n) 0 with h | h
   ·have:=b.lm r' ⟨hr',h1,h⟩;omega
   ·exact h
  ·rw[J.mc c' hc' n (θ _),if_neg (by omega)]; exact Int.le_refl _
 have hP:=WT S R I J hlu;have hlt:S.ru r<t:=by
  have:=I.rc r hr c a.hc;omega
 have h0:=hlow _ a.lo.2.1 hlu hlt;have hsum:(sm n λx=>S.M (S.ru r) x*R.M (S.cu x) n)<=0:=sm_nonpos λx hx=>by
  by_cases hx1:S.cu x<n
  ·rw[hz x hx hx1]; simp
  ·by_cases hx2:S.cu x=t
   ·have:x=c:=I.ci x hx c a.hc (by omega);subst this;have h5:R.M (S.cu x) n<0:=by rw[hx2,<-e2]; exact b.lo.2.2
    have:=Int.mul_pos hp (Int.neg_pos.mpr h5);have e:S.M (S.ru r) x*-R.M (S.cu x) n=-(S.M (S.ru r) x*R.M (S.cu x) n):=by grind
    omega
   ·by_cases hx3:t<S.cu x
    ·obtain⟨c',hc',e'⟩:=hs _ hx3 ⟨x,hx,rfl⟩;rw[<-e',J.mc c' hc' n (θ _),if_neg (by omega)]; simp
    ·have h5:=hlow (S.cu x) (by omega) (I.cl x hx) (by omega);have h6:S.M (S.ru r) x<=0:=by
      rcases Int.lt_or_le 0 (S.M (S.ru r) x) with h | h
      ·have:=hm x hx (by omega) h;omega
      ·exact h
     have:=Int.mul_nonneg (Int.neg_nonneg.mpr h6) h5;have e: -S.M (S.ru r) x*R.M (S.cu x) n=-(S.M (S.ru r) x*R.M (S.cu x) n):=by grind
     omega
 have h7:S.M (S.ru r) n*R.D<0:=by
  have:=Int.mul_pos (Int.neg_pos.mpr a.lo.2.2) J.D0;have e: -S.M (S.ru r) n*R.D=-(S.M (S.ru r) n*R.D):=by grind
  omega
 have h8:=Int.mul_nonneg (Int.le_of_lt I.D0) h0;omega
structure Way (n m:Nat) (v:Nat->Nat->Int) (k:Nat) (h:Nat->Tb) (rw cw:Nat->Nat):Prop where
 iv: ∀i≤k,Inv n m v (h i)
 st: ∀i<k,BStep n m (h i) (rw i) (cw i)
 nx: ∀i<k,h (i+1)=turn (h i) (rw i) (cw i)
theorem vO{S:Tb}(I:Inv n m v S){r c u:Nat}(hr:r<m)(hc:c<n)(h1:u≠S.cu c)(h2:u≠S.ru r):isC n (turn S r c) u↔isC n S u:=by
 constructor
 ·rintro⟨d,hd,e⟩;have e:updN S.cu c (S.ru r) d=u:=e;unfold updN at e;split at e
  ·exact absurd e.symm h2
  ·exact⟨d,hd,e⟩
 ·rintro⟨d,hd,e⟩;refine⟨d,hd,?_⟩;show updN S.cu c (S.ru r) d=u;unfold updN;split
  ·rename_i z; subst z; exact absurd e.symm h1
  ·exact e
theorem isC_in(hc:c<n):isC n (turn S r c) (S.ru r):=⟨c,hc,by simp[turn,updN]⟩
theorem isC_out{S:Tb}(I:Inv n m v S){r c:Nat}(hr:r<m)(hc:c<n): ¬isC n (turn S r c) (S.cu c):=by
 rintro⟨d,hd,e⟩;have e:updN S.cu c (S.ru r) d=S.cu c:=e;unfold updN at e;split at e
 ·exact I.rc r hr c hc e
 ·rename_i z; exact z (I.ci d hd c hc e)
theorem Xp{S:Tb}(I:Inv n m v S){r:Nat}(hr:r<m): ¬isC n S (S.ru r):=by
 rintro⟨d,hd,e⟩;exact I.rc r hr d hd e.symm
variable {k:Nat} {h:Nat->Tb} {rw_ cw:Nat->Nat}
theorem Way.stays(W:Way n m v k h rw_ cw){u a b:Nat}(hab:a<=b)(hb:b<=k)(hn: ∀i,a<=i->i<b->u≠(h i).cu (cw i)/\u≠(h i).ru (rw_ i)):isC n (h a) u↔isC n (h b) u:=by
 induction b with
 | zero=>rw[show a=0 by omega]
 | succ b ih=>
  by_cases e:a=b+1
  ·rw[e]
  ·have h1:=ih (by omega) (by omega) λi h1 h2=>hn i h1 (by omega);have s:=W.st b (by omega);obtain⟨h2,h3⟩:=hn b (by omega) (by omega);rw[h1,W.nx b (by omega),vO (W.iv b (by omega)) s.lo.1 s.hc h2 h3]
theorem Way.once(W:Way n m v k h rw_ cw){t a b i j:Nat}(hb:b<=k)(hi: ∀x,a<=x->x<b->(h x).cu (cw x)<=t/\(h x).ru (rw_ x)<=t)(ha:a<=i)(hij:i<j)(hj:j<b)(m1:(h i).cu (cw i)=t\/(h i).ru (rw_ i)=t)(m2:(h j).cu (cw j)=t\/(h j).ru (rw_ j)=t):False:=by
 have up_: ∀u,t<u-> ∀x y,a<=x->x<=b->a<=y->y<=b->(isC n (h x) u↔isC n (h y) u):=λu hu x y h1 h2 h3 h4=>by
  have g: ∀z,a<=z->z<=b->(isC n (h a) u↔isC n (h z) u):=λz hz1 hz2=>W.stays hz1 (by omega) λw hw1 hw2=>by
   have:=hi w hw1 (by omega);omega
  rw[<-g x h1 h2,<-g y h3 h4]
 -- some turn brings it in,some other one takes it out
 have hin: ∃x,a<=x/\x<b/\(h x).cu (cw x)=t:=by
  apply Classical.byContradiction
  intro z;have z: ∀x,a<=x->x<b->(h x).cu (cw x)≠t:=λx h1 h2 e=>z ⟨x,h1,h2,e⟩;have m1:(h i).ru (rw_ i)=t:=m1.resolve_left (z i ha (by omega));have m2:(h j).ru (rw_ j)=t:=m2.resolve_left (z j (by omega) hj)
  -- a column from i+1 on
  have hcol: ∀x,i+1<=x->x<=b->isC n (h x) t:=by
   intro x hx
   induction x with
   | zero=>omega
   | succ x ih=>
    intro hxb;have s:=W.st x (by omega);rw[W.nx x (by omega)];by_cases e:x=i
    ·subst e; rw[<-m1]; exact isC_in s.hc
    ·have h1:=ih (by omega) (by omega);have h2:(h x).ru (rw_ x)≠t:=λe=>Xp (W.iv x (by omega)) s.lo.1 (e▸h1);exact(vO (W.iv x (by omega)) s.lo.1 s.hc (Ne.symm (z x (by omega) (by omega))) (Ne.symm h2)).mpr h1
  exact Xp (W.iv j (by omega)) (W.st j (by omega)).lo.1 (m2▸hcol j (by omega) (by omega))
 have hout: ∃x,a<=x/\x<b/\(h x).ru (rw_ x)=t:=by
  apply Classical.byContradiction
  intro z;have z: ∀x,a<=x->x<b->(h x).ru (rw_ x)≠t:=λx h1 h2 e=>z ⟨x,h1,h2,e⟩;have m1:(h i).cu (cw i)=t:=m1.resolve_right (z i ha (by omega));have m2:(h j).cu (cw j)=t:=m2.resolve_right (z j (by omega) hj);have hrow: ∀x,i+1<=x->x<=b-> ¬isC n (h x) t:=by
   intro x hx
   induction x with
   | zero=>omega
   | succ x ih=>
    intro hxb;have s:=W.st x (by omega);rw[W.nx x (by omega)];by_cases e:x=i
    ·subst e; rw[<-m1]; exact isC_out (W.iv x (by omega)) s.lo.1 s.hc
    ·have h1:=ih (by omega) (by omega);have h2:(h x).cu (cw x)≠t:=λe=>h1 ⟨cw x,s.hc,e⟩;exact λq=>h1 ((vO (W.iv x (by omega)) s.lo.1 s.hc (Ne.symm h2) (Ne.symm (z x (by omega) (by omega)))).mp q)
  exact hrow j (by omega) (by omega) ⟨cw j,(W.st j (by omega)).hc,m2⟩
 obtain⟨x,x1,x2,ex⟩:=hin;obtain⟨y,y1,y2,ey⟩:=hout;exact bland (W.iv x (by omega)) (W.iv y (by omega)) (W.st x (by omega)) (W.st y (by omega)) ex ey (hi x x1 x2).2 λu hu q=>(up_ u hu x y x1 (by omega) y1 (by omega)).mp q
theorem Way.short(W:Way n m v k h rw_ cw): ∀(t a b:Nat),a<=b->b<=k->(∀x,a<=x->x<b->(h x).cu (cw x)<t/\(h x).ru (rw_ x)<t)->b-a<2^t
 | 0,a,b,hab,hb,hi=>by
  by_cases e:a=b
  ·subst e; simp
  ·have:=hi a (θ _) (by omega);omega
 | t+1,a,b,hab,hb,hi=>by
  have h2:2^(t+1)=2^t+2^t:=by rw[Nat.pow_succ]; omega
  by_cases hex: ∃i,a<=i/\i<b/\((h i).cu (cw i)=t\/(h i).ru (rw_ i)=t)
  ·obtain⟨i,i1,i2,i3⟩:=hex;have hi': ∀x,a<=x->x<b->(h x).cu (cw x)<=t/\(h x).ru (rw_ x)<=t:=λx h1 h2=>by have:=hi x h1 h2; omega
   have p1:=W.short t a i i1 (by omega) λx h1 h2=>by
    have q:=hi x h1 (by omega);have n1: ¬((h x).cu (cw x)=t\/(h x).ru (rw_ x)=t):=λz=>W.once hb hi' h1 h2 i2 z i3;omega
   have p2:=W.short t (i+1) b (by omega) hb λx h1 h2=>by
    have q:=hi x (by omega) h2;have n1: ¬((h x).cu (cw x)=t\/(h x).ru (rw_ x)=t):=λz=>W.once hb hi' i1 (by omega) h2 i3 z;omega
   omega
  ·have:=W.short t a b hab hb λx h1 h2=>by
    have q:=hi x h1 h2;have n1: ¬((h x).cu (cw x)=t\/(h x).ru (rw_ x)=t):=λz=>hex ⟨x,h1,h2,z⟩;omega
   omega
theorem Way.few(W:Way n m v k h rw_ cw):k<2^(n+m):=by
 have:=W.short (n+m) 0 k (by omega) (θ _) λx _ hx=>⟨(W.iv x (by omega)).cl _ (W.st x hx).hc,(W.iv x (by omega)).rl _ (W.st x hx).lo.1⟩;omega
theorem Way.one{S:Tb}(I:Inv n m v S):Way n m v 0 (λ_=>S) (λ_=>0) λ_=>0:=⟨λ_ _=>I,λi hi=>absurd hi (by omega),λi hi=>absurd hi (by omega)⟩
theorem Way.more(W:Way n m v k h rw_ cw){r c:Nat}(s:BStep n m (h k) r c): ∃h' r' c',Way n m v (k+1) h' r' c'/\h' (k+1)=turn (h k) r c:=by
 refine⟨λi=>if i<=k then h i else turn (h k) r c,λi=>if i<k then rw_ i else r,λi=>if i<k then cw i else c,⟨λi hi=>?_,λi hi=>?_,λi hi=>?_⟩,if_neg (by omega)⟩
 ·show Inv n m v (if i<=k then h i else turn (h k) r c);split
  ·exact W.iv i (by assumption)
  ·exact(W.iv k (θ _)).turn s.lo.1 s.hc s.nz
 ·show BStep n m (if i<=k then h i else turn (h k) r c) (if i<k then rw_ i else r) (if i<k then cw i else c);rw[if_pos (by omega)];by_cases e:i<k
  ·rw[if_pos e,if_pos e]; exact W.st i e
  ·rw[if_neg e,if_neg e,show i=k by omega]; exact s
 ·show(if i+1<=k then h (i+1) else turn (h k) r c)=turn (if i<=k then h i else turn (h k) r c) (if i<k then rw_ i else r) (if i<k then cw i else c);by_cases e:i<k
  ·rw[if_pos (by omega),if_pos (by omega),if_pos e,if_pos e]; exact W.nx i e
  ·rw[if_neg (by omega),if_pos (by omega),if_neg e,if_neg e,show i=k by omega]
end
end WG
namespace L2
open PySem PySem.Spec PyProof.Rows
end L2
namespace G2
open PySem L2
end G2
namespace K17
open PySem L2 G2
local macro_rules | `(tactic| walk_at "v") => `(tactic| repeat (with_reducible first | walk_at "c" | refine yA ?_ | refine yB ?_ | refine yC ?_ | refine w_sl ?_ | refine z0 ?_ | refine yM ?_ | refine xS ?_))
open WG
theorem SameB.at_(k:SameB x H H'):SameB x H (upd H' x o):=λa u n e=>by rw[zk n]; exact k a u n e
theorem SameB.same(k:SameB x H H')(b:Same H' H2):SameB x H H2:=λa u n e=>b _ _ (k a u n e)
theorem SameB.free(k:SameB x H H')(n:a≠x)(h:H' a=none):H a=none:=by
 cases e:H a with
 | none=>rfl
 | some u=>rw[k a u n e] at h; cases h
abbrev tFs (n:Nat) (D:Int) (pr pu pc:Addr) (t:Nat):List (Str×V):=[("many",.int (n:Int)),("bottom",.int D),("rows",.ref pr),("row_unknowns",.ref pu),("column_unknowns",.ref pc),("turns",.int (t:Int))]
def rowV (n:Nat) (f:Nat->Int):List V:=(List.range (n+1)).map λk=>V.int (f k)
def natV (m:Nat) (f:Nat->Nat):List V:=(List.range m).map λr=>V.int ((f r:Nat):Int)
theorem yF{f:Nat->Int}:(rowV n f).length=n+1:=by simp[rowV]
theorem yb{f:Nat->Nat}:(natV n f).length=n:=by simp[natV]
theorem ym{f:Nat->Int}(h:k<=n):(rowV n f)[k]? =some (.int (f k)):=by
 unfold rowV;rw[μ,List.getElem?_range (by omega)];rfl
theorem yq{f:Nat->Nat}(h:k<n):(natV n f)[k]? =some (.int ((f k:Nat):Int)):=by
 unfold natV;rw[μ,List.getElem?_range h];rfl
theorem wQ{f:Nat->Int}:atI (rowV n f) (-1)=some (.int (f n)):=by
 unfold atI ixN;rw[if_neg (by omega),yF,if_pos (by omega),Option.bind_some,show((-1:Int)+((n+1:Nat):Int)).toNat=n by omega];exact ym (θ _)
theorem vi{f:Nat->Int}{ys:List V}(hl:ys.length=n+1)(h: ∀k,k<=n->ys[k]? =some (.int (f k))):ys=rowV n f:=by
 refine List.ext_getElem? λk=>?_;by_cases hk:k<=n
 ·rw[h k hk,ym hk]
 ·rw[List.getElem?_eq_none (by omega),List.getElem?_eq_none (by rw[yF]; omega)]
theorem Xk{f:Nat->Nat}{ys:List V}(hl:ys.length=n)(h: ∀k,k<n->ys[k]? =some (.int ((f k:Nat):Int))):ys=natV n f:=by
 refine List.ext_getElem? λk=>?_;by_cases hk:k<n
 ·rw[h k hk,yq hk]
 ·rw[List.getElem?_eq_none (by omega),List.getElem?_eq_none (by rw[yb]; omega)]
structure TC (K:W.Frag) (C:Addr):Prop where
 c:Cls K C
 n1:NoAttr K C "many"
 n2:NoAttr K C "bottom"
 n3:NoAttr K C "rows"
 n4:NoAttr K C "row_unknowns"
 n5:NoAttr K C "column_unknowns"
 n6:NoAttr K C "turns"
structure TbA (H:Hp) (C o:Addr) (n m:Nat) (S:Tb) (t:Nat) (dx pr pu pc:Addr) (ras:List Addr):Prop where
 ob:H o=some (.ins C dx (tFs n S.D pr pu pc t))
 rs:H pr=some (.lst (ras.map V.ref))
 rl:ras.length=m
 ra: ∀r a,ras[r]? =some a->H a=some (.lst (rowV n (S.M (S.ru r))))
 ru:H pu=some (.lst (natV m S.ru))
 cu:H pc=some (.lst (natV n S.cu))
 ne:pu≠pc
def TbAt (H:Hp) (C o:Addr) (n m:Nat) (S:Tb) (t:Nat):Prop:= ∃dx pr pu pc ras,TbA H C o n m S t dx pr pu pc ras
theorem TbA.same(h:TbA H C o n m S t dx pr pu pc ras)(k: ∀a u,H a=some u->(∀ps,u≠.tbl ps)->H' a=some u):TbA H' C o n m S t dx pr pu pc ras:=
 ⟨k _ _ h.ob (λ_ z=>by cases z),k _ _ h.rs (λ_ z=>by cases z),h.rl,λr a e=>k _ _ (h.ra r a e) (λ_ z=>by cases z),k _ _ h.ru (λ_ z=>by cases z),k _ _ h.cu (λ_ z=>by cases z),h.ne⟩
theorem TbA.row(h:TbA H C o n m S t dx pr pu pc ras)(hr:r<m): ∃a,ras[r]? =some a/\H a=some (.lst (rowV n (S.M (S.ru r)))):=by
 have hl:=h.rl;exact⟨ras[r],δ (by omega),h.ra r _ (δ (by omega))⟩
abbrev sLo:Stmt:=wE (top 10) 2
abbrev nLo:List Str:=["self","row"]
theorem nmLo:Nm nLo (zd sLo):=nmk (nofun)
theorem scLo:FnScope nLo ["self","row"] (zd sLo):=fsk (nofun)
def spLo (C:Addr):Sp:=λvs H Q _=> ∃(o:Addr) (r n m:Nat) (S:Tb) (t:Nat),vs=[.ref o,.int (r:Int)]/\TbAt H C o n m S t/\r<m/\Q (.bl (decide (n<=S.ru r)&&decide (S.M (S.ru r) n<0))) H
section
variable {P:Program} {w:World} {K:W.Frag} {mg:Str->Option Value} {base:Heap}
theorem ok_Lo(R:TC K C)(F:Fun K "is_low" "Tableau.is_low" sLo f fd):FnOk P w K mg base CX0 1 f fd ["self","row"] (spLo C):=by
 refine F.ok scLo (λvs H Q E h=>?_) (λcdv A outer s H vs Q E hr h=>?_)
 ·obtain⟨o,r,n,m,S,t,rfl,_⟩:=h;rfl
 obtain⟨o,r,n,m,S,t,rfl,⟨dx,pr,pu,pc,ras,T⟩,hr',k⟩:=h;refine'⟨_,?hb,?rd⟩
 case' hb=>skip
 case' hb=>refine' zi ?g1
 case g1=>exact zr (X8 (y8 Yg (ziq (zG (pvd nmLo 0) rfl) (pvd nmLo 1)) (zG (pvd nmLo 0) rfl) (zw _)) (X5 (y8 wD (ziq (ziq (zG (pvd nmLo 0) rfl) (pvd nmLo 1)) (xQ yX zg)) zg (zw _))))
 obtain⟨a,e1,e2⟩:=T.row hr';nofun;refine zO ?_;nofun;refine⟨o,C,_,_,_,rfl,T.ob,R.c,R.n4,rfl,?_⟩;nofun;refine zC (v:= .int ((S.ru r:Nat):Int)) T.ru (zx (yq hr')) ?_;nofun;refine zO ?_;nofun;refine⟨o,C,_,_,_,rfl,T.ob,R.c,R.n1,rfl,?_⟩;nofun;refine iteD (λh1=>?_) (λh1=>?_)
 ·nofun;refine zO ?_;nofun;refine⟨o,C,_,_,_,rfl,T.ob,R.c,R.n3,rfl,?_⟩;nofun;refine zC (v:= .ref a) T.rs (zx (by rw[μ,e1]; rfl)) ?_;nofun;refine⟨_,rfl,?_⟩;refine zC e2 wQ ?_;nofun;rw[decide_eq_true (show n<=S.ru r by omega),Bool.true_and] at k;exact k
 ·rw[decide_eq_false (show¬n<=S.ru r by omega),Bool.false_and] at k;exact k
abbrev sSo:Stmt:=wE (top 10) 4
abbrev nSo:List Str:=["self","column"]
theorem nmSo:Nm nSo (zd sSo):=nmk (nofun)
theorem scSo:FnScope nSo ["self","column"] (zd sSo):=fsk (nofun)
def spSo (C:Addr):Sp:=λvs H Q _=> ∃(o:Addr) (c n m:Nat) (S:Tb) (t:Nat),vs=[.ref o,.int (c:Int)]/\TbAt H C o n m S t/\c<n/\Q (.bl (decide (S.cu c<n))) H
theorem ok_So(R:TC K C)(F:Fun K "is_sought" "Tableau.is_sought" sSo f fd):FnOk P w K mg base CX0 1 f fd ["self","column"] (spSo C):=by
 refine F.ok scSo (λvs H Q E h=>?_) (λcdv A outer s H vs Q E hr h=>?_)
 ·obtain⟨o,c,n,m,S,t,rfl,_⟩:=h;rfl
 obtain⟨o,c,n,m,S,t,rfl,⟨dx,pr,pu,pc,ras,T⟩,hc,k⟩:=h;refine'⟨_,?hb,?rd⟩
 case' hb=>skip
 case' hb=>refine' zi ?g1
 case g1=>exact zr (y8 wD (ziq (zG (pvd nmSo 0) rfl) (pvd nmSo 1)) (zG (pvd nmSo 0) rfl) (zw _))
 nofun;refine zO ?_;nofun;refine⟨o,C,_,_,_,rfl,T.ob,R.c,R.n5,rfl,?_⟩;nofun;refine zC (v:= .int ((S.cu c:Nat):Int)) T.cu (zx (yq hc)) ?_;nofun;refine zO ?_;nofun;refine⟨o,C,_,_,_,rfl,T.ob,R.c,R.n1,rfl,?_⟩;nofun;rw[show decide (((S.cu c:Nat):Int)<(n:Int))=decide (S.cu c<n) by simp];exact k
abbrev sTi:Stmt:=wE (top 10) 0
abbrev nTi:List Str:=["self","many","problem"]
theorem nmTi:Nm nTi (zd sTi):=nmk (nofun)
theorem scTi:FnScope nTi ["self","many","problem"] (zd sTi):=fsk (nofun)
def qTia (s:Stmt):Scope:=match s with
 | .Assign _ (.ListComp _ _ sc _) _=>sc
 | _=>nsc
abbrev cTia:Scope:=qTia ((zm sTi).getD 2 (.Pass ⟨0,0,0,0⟩))
theorem bsTia:BScope (zd sTi) cTia ["by","plus"] [] ["list"]:={}
def qTib (s:Stmt):Scope:=match s with
 | .Assign _ (.ListComp _ _ sc _) _=>sc
 | _=>nsc
abbrev cTib:Scope:=qTib ((zm sTi).getD 3 (.Pass ⟨0,0,0,0⟩))
theorem bsTib:BScope (zd sTi) cTib ["number"] ["many"] []:={}
structure PrA (H:Hp) (n:Nat) (rows:List (List Int×Int)) (l:Addr) (ras bas:List Addr):Prop where
 ob:H l=some (.lst (ras.map V.ref))
 rl:ras.length=rows.length
 bl:bas.length=rows.length
 at_: ∀(i:Nat) (by_:List Int) (p:Int),rows[i]? =some (by_,p)-> ∃a b,ras[i]? =some a/\bas[i]? =some b/\H a=some (.tup [.ref b,.int p])/\H b=some (.tup (by_.map V.int))
 wd: ∀r∈rows,r.1.length=n
def PrAt (H:Hp) (n:Nat) (rows:List (List Int×Int)) (l:Addr):Prop:= ∃ras bas,PrA H n rows l ras bas
theorem PrA.same(h:PrA H n rows l ras bas)(k: ∀a u,H a=some u->(∀ps,u≠.tbl ps)->H' a=some u):PrA H' n rows l ras bas:=
 ⟨k _ _ h.ob (λ_ z=>by cases z),h.rl,h.bl,λi b p e=>let ⟨a,c,e1,e2,e3,e4⟩:=h.at_ i b p e; ⟨a,c,e1,e2,k _ _ e3 (λ_ z=>by cases z),k _ _ e4 (λ_ z=>by cases z)⟩,h.wd⟩
theorem YO{H:Hp}{x C dx:Addr}{fs:List (Str×V)}(h:H x=some (.ins C dx fs)): ∀a u,H a=some u->(∀C dx fs,u≠.ins C dx fs)->a≠x:=λa u e n z=>by rw[z,h] at e; cases e; exact n _ _ _ rfl
theorem PrA.bp(h:PrA H n rows l ras bas)(hx: ∀a u,H a=some u->(∀C dx fs,u≠.ins C dx fs)->a≠x)(k:SameB x H H'):PrA H' n rows l ras bas:=
 ⟨k _ _ (hx _ _ h.ob λ_ _ _ z=>by cases z) h.ob,h.rl,h.bl,λi b p e=>let ⟨a,c,e1,e2,e3,e4⟩:=h.at_ i b p e; ⟨a,c,e1,e2,k _ _ (hx _ _ e3 λ_ _ _ z=>by cases z) e3,k _ _ (hx _ _ e4 λ_ _ _ z=>by cases z) e4⟩,h.wd⟩
def vec (n:Nat) (rows:List (List Int×Int)) (u j:Nat):Int:=if u<n then (if j=u then 1 else 0) else match rows[u-n]? with
 | some (b,p)=>if j<n then b.getD j 0 else if j=n then p else 0
 | none=>0
def tb0 (n:Nat) (rows:List (List Int×Int)):Tb:=⟨1,vec n rows,λr=>n+r,λc=>c⟩
def spTi (C:Addr):Sp:=λvs H Q _=> ∃(x dx l:Addr) (n:Nat) (rows:List (List Int×Int)),vs=[.ref x,.int (n:Int),.ref l]/\H x=some (.ins C dx [])/\PrAt H n rows l/\n<=40/\rows.length<=60/\ ∀H' dx pr pu pc ras,(∀a u,a≠x->H a=some u->H' a=some u)->TbA H' C x n rows.length (tb0 n rows) 0 dx pr pu pc ras->H pu=none->H pc=none->Q .non H'
theorem ok_Ti(R:TC K C)(B:Bl mg)(F:Fun K "__init__" "Tableau.__init__" sTi f fd):FnOk P w K mg base CX0 1 f fd ["self","many","problem"] (spTi C):=by
 refine F.ok scTi (λvs H Q E h=>?_) (λcdv A outer s H vs Q E hr h=>?_)
 ·obtain⟨x,dx,l,n,rows,rfl,_⟩:=h;rfl
 obtain⟨x,dx,l,n,rows,rfl,hx,⟨ras,bas,P0⟩,hn,hm,k⟩:=h;refine'⟨_,?hb,?rd⟩
 case' hb=>skip
 case' hb=>refine' ze ?g1 ?g2
 case' g2=>refine' ze ?g3 ?g4
 case' g4=>refine' ze ?g5 ?g6
 case' g6=>refine' ze ?g7 ?g8
 case' g8=>refine' ze ?g9 ?g10
 case' g10=>refine' zi ?g11
 case g1=>exact xV (pvd nmTi 0) (pvd nmTi 1) rfl
 case g3=>exact xV (pvd nmTi 0) zg rfl
 case' g5=>refine' xV (pvd nmTi 0) ?g12 rfl
 case' g12=>refine' zy (ix:=[]) bsTia.toCScope rfl rfl ?g13 ?g14 ?g15 ?g16
 case g13=>exact yf (pvd nmTi 2)
 case g14=>
  intro _ _ _ _ _ _;refine' yT (n:=2) rfl ?g17
  case' g17=>refine' zt ?g21 ?g20
  case g21=>exact pgb bsTia 0
  case' g20=>refine' zt ?g23 zS
  case g23=>exact pgb bsTia 1
 case g15=>exact λ_ _ _ _ _ _=>zu
 case g16=>exact λ_ _ _ _ _ _=>zo wV (zV EL.call_listS B.list PyProof.Rows.boot_list (pa_1 (pvb bsTia 0)) (bsTia.g 0)) (zR (pa_1 (pvb bsTia 1)))
 case' g7=>refine' xV (pvd nmTi 0) ?g24 rfl
 case' g24=>refine' zy (ix:=[1]) bsTib.toCScope rfl rfl ?g25 ?g26 ?g27 ?g28
 case g25=>exact yc B.range (pa_1 (zP zp B.len Ρ (pa_1 (pvd nmTi 2))))
 case g26=>exact λ_ _ _ _ _ _=>pgb bsTib 0
 case g27=>exact λ_ _ _ _ _ _=>zu
 case g28=>exact λ_ _ _ _ _ _=>zo zY (pvb bsTib 1) (pvb bsTib 0)
 case g9=>exact xV (pvd nmTi 0) (zV (wK rfl) B.list PyProof.Rows.boot_list (pa_1 (zV ve B.range PyProof.Rows.boot_range (pa_1 (pvd nmTi 1))))) rfl
 case g11=>exact xV (pvd nmTi 0) zg rfl
 nofun;refine xT ?_;nofun;refine⟨x,C,dx,_,rfl,hx,R.c,R.n1,by show 0<1000; decide,?_⟩;nofun;refine xT ?_;nofun;refine⟨x,C,dx,_,rfl,zf,R.c,R.n2,by show 1<1000; decide,?_⟩;nofun;rw[ZA];have b1:SameB x H (upd H x (.ins C dx (putF "bottom" (.int 1) (putF "many" (.int (n:Int)) [])))):=SameB.at_ SameB.refl;have e1:upd H x (.ins C dx (putF "bottom" (.int 1) (putF "many" (.int (n:Int)) []))) x=some (.ins C dx (putF "bottom" (.int 1) (putF "many" (.int (n:Int)) []))):=zf;generalize upd H x (.ins C dx (putF "bottom" (.int 1) (putF "many" (.int (n:Int)) [])))=H1 at b1 e1 ⊢;have P1:=P0.bp (YO hx) b1;refine xT ?_;nofun;refine⟨l,rfl,⟨_,SqL.of P1.ob⟩,λD1 hD1=>?_⟩;refine nl_prs (λi=>rowV n (vec n rows (n+i))) hD1 P1.ob (by have:=P1.rl; omega) (λi r H' hri K'=>?_) (λas2 H2 N2 e2=>?_)
 ·obtain⟨by_,p,hrow⟩: ∃b p,rows[i]? =some (b,p):=by
   have h1:=(ξ.mp hri).1;have h2:=P1.rl;exact⟨rows[i].1,rows[i].2,δ (by omega)⟩
  obtain⟨a,b,f1,f2,f3,f4⟩:=P1.at_ i by_ p hrow;rw[f1] at hri;cases hri
  refine⟨.ref b,.int p,K' _ _ f3,λR' kR=>?_⟩;nofun;refine⟨b,_,rfl,.inl (K' _ _ f4),λl1 hl1=>?_⟩;nofun;refine⟨sz1,λl2 hl2=>?_⟩;have n12:l1≠l2:=λz=>by rw[<-z,zf] at hl2; cases hl2
  have hbl:by_.length=n:=P1.wd _ (ο hrow);refine⟨l1,l2,_,_,rfl,rfl,by rw[zk n12,zf],zf,by rw[ε]; show _+1<=sizeLine; exact Τ (show by_.length+1<=1000 by omega) (by decide),λl3 hl3=>?_⟩;have q2:Same H' (upd (upd H' l1 (.lst (by_.map V.int))) l2 (.lst [.int p])):=(Same.new (Same.refl _) hl1).new hl2;refine kR l3 _ (q2.new hl3) (Same.free q2 hl3) ?_;rw[zf];congr 2;refine vi (by simp[hbl]) λk hk=>?_;have hv: ∀j,vec n rows (n+i) j=if j<n then by_.getD j 0 else if j=n then p else 0:=λj=>by
   unfold vec;rw[if_neg (by omega),show n+i-n=i by omega,hrow]
  rw[hv];by_cases hk2:k<n
  ·rw[if_pos hk2,Δ (by simp[hbl,hk2]),μ,δ (by omega),ζ,δ (by omega)];rfl
  ·rw[if_neg hk2,if_pos (by omega),Α (by simp[hbl]; omega),show k-(by_.map V.int).length=0 by simp[hbl]; omega];rfl
 ·have nD1:D1≠x:=λz=>by rw[z,e1] at hD1; cases hD1
  nofun;refine⟨x,C,dx,_,rfl,N2.sm _ _ e1,R.c,R.n3,by show 2<1000; decide,?_⟩;have b3:SameB x H (upd H2 x (.ins C dx (putF "rows" (.ref D1) (putF "bottom" (.int 1) (putF "many" (.int (n:Int)) []))))):=SameB.at_ (SameB.same b1 N2.sm);have g3: ∀a u,a≠x->H2 a=some u->upd H2 x (.ins C dx (putF "rows" (.ref D1) (putF "bottom" (.int 1) (putF "many" (.int (n:Int)) [])))) a=some u:=λa u n e=>by rw[zk n]; exact e
  have e3:upd H2 x (.ins C dx (putF "rows" (.ref D1) (putF "bottom" (.int 1) (putF "many" (.int (n:Int)) [])))) x=some (.ins C dx (putF "rows" (.ref D1) (putF "bottom" (.int 1) (putF "many" (.int (n:Int)) [])))):=zf;generalize upd H2 x (.ins C dx (putF "rows" (.ref D1) (putF "bottom" (.int 1) (putF "many" (.int (n:Int)) []))))=H3 at b3 g3 e3 ⊢;have P3:=P0.bp (YO hx) b3;nofun;refine xT ?_;nofun;refine⟨l,_,rfl,.inl (SqL.of P3.ob),?_⟩;nofun;refine⟨_,rfl,by rw[ε]; have:=P3.rl; omega,by rw[ε]; have:=P3.rl; omega,λD2 hD2=>?_⟩;rw[ε,P3.rl,Θ];refine xO (λi=>V.int ((n+i:Nat):Int)) (by omega) hD2 (λi hi H' K' R' kR=>?_) (λH4 K4 e4=>?_)
  ·nofun;have:=kR H' (Same.refl _);rw[show((n+i:Nat):Int)=(n:Int)+(0+(i:Int)) by omega] at this;exact this
  have nD2:D2≠x:=λz=>by rw[z,e3] at hD2; cases hD2
  nofun;refine⟨x,C,dx,_,rfl,K4 _ _ e3,R.c,R.n4,by show 3<1000; decide,?_⟩;have b5:SameB x H (upd H4 x (.ins C dx (putF "row_unknowns" (.ref D2) (putF "rows" (.ref D1) (putF "bottom" (.int 1) (putF "many" (.int (n:Int)) [])))))):=SameB.at_ (SameB.same b3 K4);have g5: ∀a u,a≠x->H4 a=some u->upd H4 x (.ins C dx (putF "row_unknowns" (.ref D2) (putF "rows" (.ref D1) (putF "bottom" (.int 1) (putF "many" (.int (n:Int)) []))))) a=some u:=λa u n e=>by rw[zk n]; exact e
  have e5:upd H4 x (.ins C dx (putF "row_unknowns" (.ref D2) (putF "rows" (.ref D1) (putF "bottom" (.int 1) (putF "many" (.int (n:Int)) []))))) x=some (.ins C dx (putF "row_unknowns" (.ref D2) (putF "rows" (.ref D1) (putF "bottom" (.int 1) (putF "many" (.int (n:Int)) []))))):=zf;generalize upd H4 x (.ins C dx (putF "row_unknowns" (.ref D2) (putF "rows" (.ref D1) (putF "bottom" (.int 1) (putF "many" (.int (n:Int)) [])))))=H5 at b5 g5 e5 ⊢;nofun;refine xT ?_;nofun;refine⟨_,rfl,λrg hrg=>?_⟩;nofun;refine⟨rg,n,rfl,zf,by omega,λD3 hD3=>?_⟩;have K6:Same H5 (upd (upd H5 rg (.rng 0 (n:Int))) D3 (.lst ((List.range n).map fun(i:Nat)=>V.int (i:Int)))):=(Same.new (Same.refl _) hrg).new hD3;have e6:upd (upd H5 rg (.rng 0 (n:Int))) D3 (.lst ((List.range n).map fun(i:Nat)=>V.int (i:Int))) D3=some (.lst ((List.range n).map fun(i:Nat)=>V.int (i:Int))):=zf;have hD3':H5 D3=none:=Same.free (Same.new (Same.refl _) hrg) hD3;generalize upd (upd H5 rg (.rng 0 (n:Int))) D3 (.lst ((List.range n).map fun(i:Nat)=>V.int (i:Int)))=H6 at K6 e6 ⊢;have nD3:D3≠x:=λz=>by rw[z,e5] at hD3'; cases hD3'
  nofun;refine⟨x,C,dx,_,rfl,K6 _ _ e5,R.c,R.n5,by show 4<1000; decide,?_⟩;dsimp only;refine xT ?_;nofun;refine⟨x,C,dx,_,rfl,zf,R.c,R.n6,by show 5<1000; decide,?_⟩;rw[ZA];have f6: ∀a u,a≠x->H6 a=some u-> ∀o:HO,upd H6 x o a=some u:=λa u n e o=>by rw[zk n]; exact e
  refine k _ dx D1 D2 D3 as2 (λa u na e=>f6 a u na (K6 _ _ (b5 a u na e)) _) ⟨zf,?_,by rw[N2.len,P1.rl],λr a ha=>?_,?_,?_,?_⟩ (SameB.free b3 nD2 hD2) (SameB.free b5 nD3 hD3')
  ·exact f6 _ _ nD1 (K6 _ _ (g5 _ _ nD1 (K4 _ _ (g3 _ _ nD1 e2)))) _
  ·have na:a≠x:=λz=>by
    have:=N2.nw a (ο ha);rw[z,e1] at this; cases this
   exact f6 _ _ na (K6 _ _ (g5 _ _ na (K4 _ _ (g3 _ _ na (N2.at_ r a ha))))) _
  ·exact f6 _ _ nD2 (K6 _ _ (g5 _ _ nD2 e4)) _
  ·exact f6 _ _ nD3 e6 _
  ·intro z;have h4:=g5 D2 _ nD2 e4;rw[z,hD3'] at h4;cases h4
end
end K17
namespace K17
open PySem L2 G2 WG
local macro_rules | `(tactic| walk_at "v") => `(tactic| repeat (with_reducible first | walk_at "c" | refine yA ?_ | refine yB ?_ | refine yC ?_ | refine w_sl ?_ | refine z0 ?_ | refine yM ?_ | refine xS ?_))
section
variable {D:Addr} {tc:TT} {Q:VK} {ρ:St} {H:Hp}
theorem YS(p:Nat->Bool)(hn:n<=1000)(hD:H D=none)
  (h: ∀i,i<n-> ∀H',Same H H'-> ∀R:Bool->Hp->Prop,(∀H'',Same H' H''->R (p i) H'')->tc (some (.int (0+(i:Int)))::ρ) H' R)
  (q: ∀H',Same H H'->H' D=some (.lst ((((List.range n).filter p).map fun(i:Nat)=>(i:Int)).map V.int))->Q (.ref D) H'):CGo (Itr 0 n) D (zF 0) tc (tVar 0) Q (none::ρ) H:=by
 refine xH (λi ys H'=>ys=(((List.range i).filter p).map fun(i:Nat)=>(i:Int)).map V.int/\Same H H') ⟨rfl,Same.new (Same.refl _) hD⟩ ?_ ?_
 ·rintro i ys H' hi ⟨rfl,K'⟩ hDz R S kR kS;refine h i hi H' K' _ λH'' K''=>?_;have hl:((((List.range i).filter p).map fun(i:Nat)=>(i:Int)).map V.int).length<=i:=by
   rw[ε,ε];exact Τ (List.length_filter_le _ _) (by simp)
  by_cases hp:p i=true
  ·rw[if_pos hp];refine⟨_,rfl,kR _ _ (K'' _ _ hDz) (zq (by omega)) ⟨?_,((K'.trans K'').put hD)⟩⟩;rw[List.range_succ,List.filter_append,Μ,Μ,List.filter_cons_of_pos hp];simp
  ·rw[if_neg hp];refine kS _ (K'' _ _ hDz) ⟨?_,K'.trans K''⟩;rw[List.range_succ,List.filter_append,Μ,Μ,List.filter_cons_of_neg hp];simp
 ·rintro ys H' ⟨rfl,K'⟩ hD';exact q H' K' hD'
end
theorem YH(h:ta σ H λx H1=> ∃(l:Addr) (ns:List Int) (kf:Int->Int),x= .ref l/\H1 l=some (.lst (ns.map V.int))/\TabAt H1 P (lamQ X)/\
 (∀H',SameB P H1 H'-> ∀i∈ns,te (some (.int i)::sub ix σ) H' (λy H''=>H''=H'/\y= .int (kf i)))/\
 ∀H' ob,SameB P H1 H'->TabAt H' P (lamQ X)->(ob=none->ns=[])->(∀b,ob=some b->b∈ns/\ ∀i∈ns,kf b<=kf i)->Q (ob.elim V.non V.int) H'):WL X P ix ta te σ H Q:=h
theorem w_maxK(h:ta σ H λx H1=> ∃(l:Addr) (ns:List Int) (kf:Int->Int),x= .ref l/\H1 l=some (.lst (ns.map V.int))/\TabAt H1 P (lamQ X)/\
 (∀H',SameB P H1 H'-> ∀i∈ns,te (some (.int i)::sub ix σ) H' (λy H''=>H''=H'/\y= .int (kf i)))/\
 ∀H' ob,SameB P H1 H'->TabAt H' P (lamQ X)->(ob=none->ns=[])->(∀b,ob=some b->b∈ns/\ ∀i∈ns,kf i<=kf b)->Q (ob.elim V.non V.int) H'):WM X P ix ta te σ H Q:=h
abbrev qLr:Str:=("Tableau.low_row":Str)++".<locals>."++"<lambda>"
abbrev qCf:Str:=("Tableau.column_for":Str)++".<locals>."++"<lambda>"
theorem TbA.tab(h:TbA H C o n m S t dx pr pu pc ras)(hT:TabAt H pt q)(k:SameB pt H H'):TbA H' C o n m S t dx pr pu pc ras:=
 h.same λa u e n=>k a u (λz=>by obtain⟨tb,e',_⟩:=hT; rw[z,e'] at e; cases e; exact n _ rfl) e
abbrev sLr:Stmt:=wE (top 10) 1
abbrev nLr:List Str:=["self","low"]
theorem nmLr:Nm nLr (zd sLr):=nmk (nofun)
theorem scLr:FnScope nLr ["self"] (zd sLr):=fsk (nofun)
def qLra (s:Stmt):Scope:=match s with
 | .Assign _ (.ListComp _ _ sc _) _=>sc
 | _=>nsc
abbrev cLra:Scope:=qLra ((zm sLr).getD 0 (.Pass ⟨0,0,0,0⟩))
theorem bsLra:BScope (zd sLr) cLra ["row"] ["self"] []:={}
theorem loLr_1:(zd sLr).names.lookup ("low":Str)=some .local:=nofun
def qLrp (s:Stmt):Scope:=match s with
 | .If _ [.Return (some (.Call _ _ [⟨_,(.Lambda _ _ sc _),_⟩,_] _)) _] _ _=>sc
 | _=>nsc
abbrev cLrp:Scope:=qLrp ((zm sLr).getD 1 (.Pass ⟨0,0,0,0⟩))
theorem Wf:LScope (zd sLr) cLrp "row" ["self"]:=⟨rfl,rfl,rfl,nofun,nofun,nofun,nofun,nofun⟩
def qLrq (s:Stmt):Scope:=match s with
 | .Return (some (.Call _ _ [⟨_,(.Lambda _ _ sc _),_⟩,_] _)) _=>sc
 | _=>nsc
abbrev cLrq:Scope:=qLrq ((zm sLr).getD 2 (.Pass ⟨0,0,0,0⟩))
theorem We:LScope (zd sLr) cLrq "row" ["self"]:=⟨rfl,rfl,rfl,nofun,nofun,nofun,nofun,nofun⟩
def spLr (C pt:Addr):Sp:=λvs H Q _=> ∃(o:Addr) (n m:Nat) (S:Tb) (t:Nat),vs=[.ref o]/\TbAt H C o n m S t/\m<=60/\TabAt H pt qLr/\ ∀H' (ob:Option Nat),SameB pt H H'->TabAt H' pt qLr->(ob=none-> ∀r,¬low n m S r)->(∀r,ob=some r->low n m S r/\(200<=t-> ∀q,low n m S q->S.ru r<=S.ru q))->Q (ob.elim .non λr=> .int (r:Int)) H'
def lowB (n:Nat) (S:Tb) (r:Nat):Bool:=decide (n<=S.ru r)&&decide (S.M (S.ru r) n<0)
theorem lowB_iff:r∈(List.range m).filter (lowB n S)↔low n m S r:=by
 rw[List.mem_filter,Λ];unfold lowB low;simp
theorem YN{xs:List Nat}(h: ∀b,ob=some b->b∈xs.map fun(i:Nat)=>(i:Int)): ∃on:Option Nat,ob=on.map (fun(i:Nat)=>(i:Int))/\ ∀r,on=some r->r∈xs:=by
 cases ob with
 | none=>exact⟨none,rfl,λr z=>nomatch z⟩
 | some b=>
  obtain⟨r,hr,rfl⟩:=Κ.mp (h b rfl);exact⟨some r,rfl,λr' z=>by cases z; exact hr⟩
section
variable {P:Program} {w:World} {K:W.Frag} {mg:Str->Option Value} {base:Heap}
theorem ok_Lr(R:TC K C)(B:Bl mg)(hC:PySem.W.CodeHd base c pt)(hB:BmIn mg base)(qk:Kn mg "QUICK_TURNS" 200)(hL:HasM P w K mg base 1 C "is_low" ["self","row"] (spLo C))(F:FunC K "low_row" "Tableau.low_row" sLr f fd c):FnOk P w K mg base CX0 3 f fd ["self"] (spLr C pt):=by
 refine F.ok scLr (λvs H Q E h=>?_) (λA outer s H vs Q E hr h=>?_)
 ·obtain⟨o,n,m,S,t,rfl,_⟩:=h;rfl
 obtain⟨o,n,m,S,t,rfl,⟨dx,pr,pu,pc,ras,T⟩,hm,hT,k⟩:=h;have LK:LamOk (cxOf CX0 P w K mg base nLr "Tableau.low_row" (zd sLr) f (.ref c) A outer s H E).nox c pt:=⟨rfl,hC,hB⟩;refine'⟨_,?hb,?rd⟩
 case' hb=>skip
 case' hb=>refine' ze ?g1 ?g2
 case' g2=>refine' ze ?g3 ?g4
 case' g4=>refine' zi ?g5
 case' g1=>refine' yi (i:=1) (ix:=[0]) nmLr.nd rfl loLr_1 bsLra.toCScope rfl rfl ?g6 ?g7 ?g8 ?g9
 case g6=>exact yc B.range (pa_1 (zP zp B.len Ρ (pa_1 (zG (pvd nmLr 0) rfl))))
 case g7=>exact λ_ _ _ _ _ _=>pgb bsLra 0
 case g8=>exact λ_ _ _ _ _ _=>xK (wR (pe_m hL hr (by omega) (pvb bsLra 1) (pa_1 (pvb bsLra 0))))
 case g9=>exact λ_ _ _ _ _ _=>pvb bsLra 0
 case' g3=>refine' zZ ?g10 ?g11 zB
 case g10=>exact zv wD (zG (pvd nmLr 0) rfl) (pe_k qk) (zw _)
 case' g11=>refine' zi ?g13
 case' g13=>refine' zr ?g14
 case g14=>
  refine' ZF (ix:=[0]) (F:=["self"]) (v:="row") hr LK Wf rfl ?m1p ?m2p ?m3p B.min
  case m1p=>exact λ_ _ _ _=>rfl
  case m2p=>exact λ_ _ _ _ _ _ _ _=>ziq (ziq (vn rfl (pvl Wf 1)) (pvl Wf 0)) (xQ yX zg)
  case m3p=>exact pvd nmLr 1
 case' g5=>refine' zr ?g15
 case g15=>
  refine' ZF (ix:=[0]) (F:=["self"]) (v:="row") hr LK We rfl ?m1q ?m2q ?m3q B.min
  case m1q=>exact λ_ _ _ _=>rfl
  case m2q=>exact λ_ _ _ _ _ _ _ _=>ziq (vn rfl (pvl We 1)) (pvl We 0)
  case m3q=>exact pvd nmLr 1
 nofun;refine zO ?_;nofun;refine⟨o,C,_,_,_,rfl,T.ob,R.c,R.n3,rfl,?_⟩;nofun;refine⟨pr,_,rfl,.inl (SqL.of T.rs),?_⟩;rw[ε,T.rl];refine⟨_,rfl,by omega,by omega,λD1 hD1=>?_⟩;rw[Θ];refine YS (lowB n S) (by omega) hD1 (λi hi H' K' R' kR=>?_) (λH1 K1 e1=>?_)
 ·nofun;refine xu ?_;nofun;refine⟨o,dx,_,rfl,K' _ _ T.ob,rfl,?_⟩;nofun;refine⟨o,i,n,m,S,t,by rw[Int.zero_add]; rfl,⟨dx,pr,pu,pc,ras,T.same λa u e _=>K' a u e⟩,hi,?_⟩;nofun;exact kR _ (Same.refl _)
 have T1:=T.same λa u e _=>K1 a u e;have hT1:=hT.same K1;nofun;refine zO ?_;nofun;refine⟨o,C,_,_,_,rfl,T1.ob,R.c,R.n6,rfl,?_⟩;nofun;have hmem: ∀i∈((List.range m).filter (lowB n S)).map (fun(i:Nat)=>(i:Int)),∃r:Nat,i=(r:Int)/\low n m S r:=λi hi=>by
  obtain⟨r,hr1,rfl⟩:=Κ.mp hi;exact⟨r,rfl,lowB_iff.mp hr1⟩
 have fin: ∀(kf:Int->Int),(200<=t-> ∀r:Nat,kf (r:Int)=((S.ru r:Nat):Int))-> ∀H' ob,SameB pt H1 H'->TabAt H' pt qLr->(ob=none->((List.range m).filter (lowB n S)).map (fun(i:Nat)=>(i:Int))=[])->
   (∀b,ob=some b->b∈((List.range m).filter (lowB n S)).map (fun(i:Nat)=>(i:Int))/\ ∀i∈((List.range m).filter (lowB n S)).map (fun(i:Nat)=>(i:Int)),kf b<=kf i)->Q (ob.elim V.non V.int) H':=λkf hkf H' ob k1 hT' h0 h1=>by
  obtain⟨on,rfl,hon⟩:=YN λb e=>(h1 b e).1;have hq:=k H' on (λa u na e=>k1 a u na (K1 _ _ e)) hT' (λz r hr1=>?_) (λr z=>⟨lowB_iff.mp (hon r z),λht q hq=>?_⟩)
  ·cases on with
   | none=>exact hq
   | some r=>exact hq
  ·have e:=h0 (by rw[z]; rfl);have:=List.mem_map_of_mem (f:=fun(i:Nat)=>(i:Int)) (lowB_iff.mpr hr1);rw[e] at this;cases this
  ·have:=(h1 (r:Int) (by rw[z]; rfl)).2 (q:Int) (List.mem_map_of_mem (f:=fun(i:Nat)=>(i:Int)) (lowB_iff.mpr hq));rw[hkf ht,hkf ht] at this;omega
 refine iteD (λht=>?_) (λht=>?_)
 ·nofun;refine YH ?_;nofun;refine⟨D1,_,λi=>S.M (S.ru i.toNat) n,rfl,e1,hT1,λH' k1 i hi=>?_,fin _ λz=>absurd z (by omega)⟩;obtain⟨r,rfl,hr1⟩:=hmem i hi;have T2:=T1.tab hT1 k1;obtain⟨a,g1,g2⟩:=T2.row hr1.1;nofun;refine zO ?_;nofun;refine⟨o,C,_,_,_,rfl,T2.ob,R.c,R.n3,rfl,?_⟩;nofun;refine zC (v:= .ref a) T2.rs (zx (by rw[μ,g1]; rfl)) ?_;nofun;refine⟨_,rfl,?_⟩;refine zC g2 wQ ?_;exact⟨rfl,by simp⟩
 ·nofun;refine YH ?_;nofun;refine⟨D1,_,λi=>((S.ru i.toNat:Nat):Int),rfl,e1,hT1,λH' k1 i hi=>?_,fin _ λ_ r=>by simp⟩;obtain⟨r,rfl,hr1⟩:=hmem i hi;have T2:=T1.tab hT1 k1;nofun;refine zO ?_;nofun;refine⟨o,C,_,_,_,rfl,T2.ob,R.c,R.n4,rfl,?_⟩;nofun;refine zC (v:= .int ((S.ru r:Nat):Int)) T2.ru (zx (yq hr1.1)) ?_;exact⟨rfl,by simp⟩
abbrev sCf:Stmt:=wE (top 10) 3
abbrev nCf:List Str:=["self","row","numbers","raising"]
theorem nmCf:Nm nCf (zd sCf):=nmk (nofun)
theorem scCf:FnScope nCf ["self","row"] (zd sCf):=fsk (nofun)
def qCfa (s:Stmt):Scope:=match s with
 | .Assign _ (.ListComp _ _ sc _) _=>sc
 | _=>nsc
abbrev cCfa:Scope:=qCfa ((zm sCf).getD 1 (.Pass ⟨0,0,0,0⟩))
theorem bsCfa:BScope (zd sCf) cCfa ["column"] ["numbers","self"] []:={}
def qCfb (s:Stmt):Scope:=match s with
 | .If _ [(.Assign _ (.ListComp _ _ sc _) _)] _ _=>sc
 | _=>nsc
abbrev cCfb:Scope:=qCfb ((zm sCf).getD 2 (.Pass ⟨0,0,0,0⟩))
theorem bsCfb:BScope (zd sCf) cCfb ["column"] ["numbers","self"] []:={}
theorem Wk:(zd sCf).names.lookup ("raising":Str)=some .local:=nofun
def qCfp (s:Stmt):Scope:=match s with
 | .If _ [.Return (some (.Call _ _ [⟨_,(.Lambda _ _ sc _),_⟩,_] _)) _] _ _=>sc
 | _=>nsc
abbrev cCfp:Scope:=qCfp ((zm sCf).getD 3 (.Pass ⟨0,0,0,0⟩))
theorem Wh:LScope (zd sCf) cCfp "column" ["numbers"]:=⟨rfl,rfl,rfl,nofun,nofun,nofun,nofun,nofun⟩
def qCfq (s:Stmt):Scope:=match s with
 | .Return (some (.Call _ _ [⟨_,(.Lambda _ _ sc _),_⟩,_] _)) _=>sc
 | _=>nsc
abbrev cCfq:Scope:=qCfq ((zm sCf).getD 4 (.Pass ⟨0,0,0,0⟩))
theorem Wg:LScope (zd sCf) cCfq "column" ["self"]:=⟨rfl,rfl,rfl,nofun,nofun,nofun,nofun,nofun⟩
theorem glCfp{X:Cx}{N:List Str}{cl:List (Str×Addr)}{L f:Addr}{cd:Value}{A:Around}{s3:Shared}{H3:Hp}{xe:Value->Shared->Prop}:Gl (cxL X N cCfp cl L f cd A s3 H3 xe) "abs":=show cCfp.names.lookup ("abs":Str)=some NameKind.globalImplicit by decide+kernel
def solB (n:Nat) (S:Tb) (r c:Nat):Bool:=decide (S.cu c<n)&&decide (S.M (S.ru r) c≠0)
def gthB (n:Nat) (S:Tb) (r c:Nat):Bool:= !decide (S.cu c<n)&&decide (0<S.M (S.ru r) c)
def may (n:Nat) (S:Tb) (r c:Nat):Prop:=c<n/\((S.cu c<n/\S.M (S.ru r) c≠0)\/(n<=S.cu c/\0<S.M (S.ru r) c/\ ∀d<n,S.cu d<n->S.M (S.ru r) d=0))
structure Cand (n:Nat) (S:Tb) (r:Nat) (cs:List Nat):Prop where
 my: ∀c∈cs,may n S r c
 al: ∀c∈cs,S.cu c<n\/ ∀d<n,n<=S.cu d->0<S.M (S.ru r) d->d∈cs
 no:cs=[]-> ∀c<n,(S.cu c<n->S.M (S.ru r) c=0)/\(n<=S.cu c->S.M (S.ru r) c<=0)
theorem cand_sol(h:((List.range n).filter (solB n S r))≠[]):Cand n S r ((List.range n).filter (solB n S r)):=by
 have hm: ∀c,c∈(List.range n).filter (solB n S r)->c<n/\S.cu c<n/\S.M (S.ru r) c≠0:=λc hc=>by
  rw[List.mem_filter,Λ] at hc;unfold solB at hc;simpa using hc
 exact⟨λc hc=>⟨(hm c hc).1,.inl (hm c hc).2⟩,λc hc=> .inl (hm c hc).2.1,λz=>absurd z h⟩
theorem cand_gth(h:((List.range n).filter (solB n S r))=[]):Cand n S r ((List.range n).filter (gthB n S r)):=by
 have h0: ∀d<n,S.cu d<n->S.M (S.ru r) d=0:=λd hd hc=>by
  apply Classical.byContradiction
  intro z;have:d∈(List.range n).filter (solB n S r):=by
   rw[List.mem_filter,Λ];unfold solB;simp[hd,hc,z]
  rw[h] at this;cases this
 have hm: ∀c,c∈(List.range n).filter (gthB n S r)↔c<n/\n<=S.cu c/\0<S.M (S.ru r) c:=λc=>by
  rw[List.mem_filter,Λ];unfold gthB;simp
 refine⟨λc hc=>⟨((hm c).mp hc).1,.inr ⟨((hm c).mp hc).2.1,((hm c).mp hc).2.2,h0⟩⟩,λc hc=> .inr λd hd h1 h2=>(hm d).mpr ⟨hd,h1,h2⟩,λz c hc=>⟨h0 c hc,λh1=>?_⟩⟩
 apply Classical.byContradiction
 intro h2;have:=(hm c).mpr ⟨hc,h1,by omega⟩;rw[z] at this;cases this
def spCf (C pt:Addr):Sp:=λvs H Q _=> ∃(o:Addr) (n m r:Nat) (S:Tb) (t:Nat),vs=[.ref o,.int (r:Int)]/\TbAt H C o n m S t/\r<m/\n<=40/\TabAt H pt qCf/\ ∀H' (ob:Option Nat),SameB pt H H'->TabAt H' pt qCf->(ob=none-> ∀c<n,(S.cu c<n->S.M (S.ru r) c=0)/\(n<=S.cu c->S.M (S.ru r) c<=0))->(∀c,ob=some c->may n S r c/\(200<=t->S.cu c<n\/ ∀d<n,n<=S.cu d->0<S.M (S.ru r) d->S.cu c<=S.cu d))->Q (ob.elim .non λr=> .int (r:Int)) H'
theorem ok_Cf(R:TC K C)(B:Bl mg)(hC:PySem.W.CodeHd base c pt)(hB:BmIn mg base)(qk:Kn mg "QUICK_TURNS" 200)(hS:HasM P w K mg base 1 C "is_sought" ["self","column"] (spSo C))(F:FunC K "column_for" "Tableau.column_for" sCf f fd c):FnOk P w K mg base CX0 3 f fd ["self","row"] (spCf C pt):=by
 refine F.ok scCf (λvs H Q E h=>?_) (λA outer s H vs Q E hr h=>?_)
 ·obtain⟨o,n,m,r,S,t,rfl,_⟩:=h;rfl
 obtain⟨o,n,m,r,S,t,rfl,⟨dx,pr,pu,pc,ras,T⟩,hrm,hn,hT,k⟩:=h;have LK:LamOk (cxOf CX0 P w K mg base nCf "Tableau.column_for" (zd sCf) f (.ref c) A outer s H E).nox c pt:=⟨rfl,hC,hB⟩;refine'⟨_,?hb,?rd⟩
 case' hb=>skip
 case' hb=>refine' ze ?g1 ?g2
 case' g2=>refine' ze ?g3 ?g4
 case' g4=>refine' ze ?g5 ?g6
 case' g6=>refine' ze ?g7 ?g8
 case' g8=>refine' zi ?g9
 case g1=>exact zj nmCf 2 (ziq (zG (pvd nmCf 0) rfl) (pvd nmCf 1))
 case' g3=>refine' yi (i:=3) (ix:=[2,0]) nmCf.nd rfl Wk bsCfa.toCScope rfl rfl ?g10 ?g11 ?g12 ?g13
 case g10=>exact yc B.range (pa_1 (zG (pvd nmCf 0) rfl))
 case g11=>exact λ_ _ _ _ _ _=>pgb bsCfa 0
 case g12=>exact λ_ _ _ _ _ _=>xK (PW.pt (X2 (wR (pe_m hS hr (by omega) (pvb bsCfa 2) (pa_1 (pvb bsCfa 0)))) (Xc (zv wC (ziq (pvb bsCfa 1) (pvb bsCfa 0)) zg (zw _)))))
 case g13=>exact λ_ _ _ _ _ _=>pvb bsCfa 0
 case' g5=>refine' zZ ?g14 ?g15 zB
 case g14=>exact zv vG (zP zp B.len Ρ (pa_1 (pvd nmCf 3))) zg (zw _)
 case' g15=>refine' zi ?g17
 case' g17=>refine' yi (i:=3) (ix:=[2,0]) nmCf.nd rfl Wk bsCfb.toCScope rfl rfl ?g18 ?g19 ?g20 ?g21
 case g18=>exact yc B.range (pa_1 (zG (pvd nmCf 0) rfl))
 case g19=>exact λ_ _ _ _ _ _=>pgb bsCfb 0
 case g20=>exact λ_ _ _ _ _ _=>xK (PW.pt (X2 (vA (wR (pe_m hS hr (by omega) (pvb bsCfb 2) (pa_1 (pvb bsCfb 0))))) (Xc (zv vF (ziq (pvb bsCfb 1) (pvb bsCfb 0)) zg (zw _)))))
 case g21=>exact λ_ _ _ _ _ _=>pvb bsCfb 0
 case' g7=>refine' zZ ?g22 ?g23 zB
 case g22=>exact zv wD (zG (pvd nmCf 0) rfl) (pe_k qk) (zw _)
 case' g23=>refine' zi ?g25
 case' g25=>refine' zr ?g26
 case g26=>
  refine' pe_maxK (ix:=[2]) (F:=["numbers"]) (v:="column") hr LK Wh rfl ?m1p ?m2p ?m3p B.max
  case m1p=>exact λ_ _ _ _=>rfl
  case m2p=>exact λ_ _ _ _ _ _ _ _=>zP wL B.abs PyProof.Rows.boot_abs (pa_1 (ziq (pvl Wh 1) (pvl Wh 0))) glCfp
  case m3p=>exact pvd nmCf 3
 case' g9=>refine' zr ?g27
 case g27=>
  refine' ZF (ix:=[0]) (F:=["self"]) (v:="column") hr LK Wg rfl ?m1q ?m2q ?m3q B.min
  case m1q=>exact λ_ _ _ _=>rfl
  case m2q=>exact λ_ _ _ _ _ _ _ _=>ziq (vn rfl (pvl Wg 1)) (pvl Wg 0)
  case m3q=>exact pvd nmCf 3
 obtain⟨ra,g1,g2⟩:=T.row hrm;nofun;refine zO ?_;nofun;refine⟨o,C,_,_,_,rfl,T.ob,R.c,R.n3,rfl,?_⟩;nofun;refine zC (v:= .ref ra) T.rs (zx (by rw[μ,g1]; rfl)) ?_;nofun;refine zO ?_;nofun;refine⟨o,C,_,_,_,rfl,T.ob,R.c,R.n1,rfl,?_⟩;nofun;refine⟨_,rfl,by omega,by omega,λD1 hD1=>?_⟩;rw[Θ];refine YS (solB n S r) (by omega) hD1 (λi hi H' K' R' kR=>?_) (λH1 K1 e1=>?_)
 ·nofun;refine xu ?_;nofun;refine⟨o,dx,_,rfl,K' _ _ T.ob,rfl,?_⟩;nofun;refine⟨o,i,n,m,S,t,by rw[Int.zero_add]; rfl,⟨dx,pr,pu,pc,ras,T.same λa u e _=>K' a u e⟩,hi,?_⟩;nofun;have kR:=kR _ (Same.refl _);unfold solB at kR;refine iteD (λh1=>?_) (λh1=>?_)
  ·nofun;rw[Int.zero_add];refine zC (v:= .int (S.M (S.ru r) i)) (K' _ _ g2) (zx (ym (by omega))) ?_;nofun;rw[decide_eq_true h1,Bool.true_and] at kR;refine⟨rfl,?_⟩;rw[show(!decide (V.int (S.M (S.ru r) i)=V.int 0))=decide (S.M (S.ru r) i≠0) by simp];nofun;exact kR
  ·rw[decide_eq_false h1,Bool.false_and] at kR;exact kR
 have T1:=T.same λa u e _=>K1 a u e;refine zN ?_;with_reducible refine wt (fun σ' H2=> ∃(D2:Addr) (cs:List Nat),σ'=[some (.ref o),some (.int (r:Int)),some (.ref ra),some (.ref D2)]/\Same H H2/\H2 D2=some (.lst ((cs.map fun(i:Nat)=>(i:Int)).map V.int))/\Cand n S r cs) ?_ λrest=>?_
 ·rintro σ' H2 ⟨D2,cs,rfl,K2,e2,hcs⟩;have T2:=T.same λa u e _=>K2 a u e;have hT2:=hT.same K2;nofun;refine zO ?_;nofun;refine⟨o,C,_,_,_,rfl,T2.ob,R.c,R.n6,rfl,?_⟩;nofun;have hmem: ∀i∈cs.map (fun(i:Nat)=>(i:Int)),∃c:Nat,i=(c:Int)/\c∈cs/\may n S r c:=λi hi=>by
   obtain⟨c,hc1,rfl⟩:=Κ.mp hi;exact⟨c,rfl,hc1,hcs.my c hc1⟩
  refine iteD (λht=>?_) (λht=>?_)
  ·nofun;refine w_maxK ?_;nofun;refine⟨D2,_,λi=>if S.M (S.ru r) i.toNat<0 then - S.M (S.ru r) i.toNat else S.M (S.ru r) i.toNat,rfl,e2,hT2,λH' k1 i hi=>?_,λH' ob k1 hT' h0 h1=>?_⟩
   ·obtain⟨c,rfl,hc1,hc2⟩:=hmem i hi;have g3:=k1 ra _ (λz=>by obtain⟨tb,e',_⟩:=hT2; rw[z] at g2; have:=K2 _ _ g2; rw[e'] at this; cases this) (K2 _ _ g2);nofun;refine zC (v:= .int (S.M (S.ru r) c)) g3 (zx (ym (by have:=hc2.1; omega))) ?_;nofun;exact⟨_,rfl,rfl,by simp⟩
   ·obtain⟨on,rfl,hon⟩:=YN λb e=>(h1 b e).1;have hq:=k H' on (λa u na e=>k1 a u na (K2 _ _ e)) hT' (λz=>hcs.no (by have:=h0 (by rw[z]; rfl); simpa using this)) (λc z=>⟨hcs.my c (hon c z),λz=>absurd z (by omega)⟩);cases on with
    | none=>exact hq
    | some r=>exact hq
  ·nofun;refine YH ?_;nofun;refine⟨D2,_,λi=>((S.cu i.toNat:Nat):Int),rfl,e2,hT2,λH' k1 i hi=>?_,λH' ob k1 hT' h0 h1=>?_⟩
   ·obtain⟨c,rfl,hc1,hc2⟩:=hmem i hi;have T3:=T2.tab hT2 k1;nofun;refine zO ?_;nofun;refine⟨o,C,_,_,_,rfl,T3.ob,R.c,R.n5,rfl,?_⟩;nofun;refine zC (v:= .int ((S.cu c:Nat):Int)) T3.cu (zx (yq hc2.1)) ?_;exact⟨rfl,by simp⟩
   ·obtain⟨on,rfl,hon⟩:=YN λb e=>(h1 b e).1;have hq:=k H' on (λa u na e=>k1 a u na (K2 _ _ e)) hT' (λz=>hcs.no (by have:=h0 (by rw[z]; rfl); simpa using this)) (λc z=>⟨hcs.my c (hon c z),λ_=>(hcs.al c (hon c z)).imp id λq d hd h2 h3=>?_⟩)
    ·cases on with
     | none=>exact hq
     | some r=>exact hq
    ·have:=(h1 (c:Int) (by rw[z]; rfl)).2 (d:Int) (List.mem_map_of_mem (f:=fun(i:Nat)=>(i:Int)) (q d hd h2 h3));simp at this;exact this
 nofun;refine⟨D1,_,rfl,.inl (SqL.of e1),?_⟩;nofun;refine⟨rfl,?_⟩;nofun;rw[ε,ε];refine iteD (λh0=>?_) (λh0=>?_)
 ·have hs0:(List.range n).filter (solB n S r)=[]:=by
   have:(((List.range n).filter (solB n S r)).length:Int)=0:=by injection h0
   exact List.eq_nil_of_length_eq_zero (by omega)
  nofun;refine zO ?_;nofun;refine⟨o,C,_,_,_,rfl,T1.ob,R.c,R.n1,rfl,?_⟩;nofun;refine⟨_,rfl,by omega,by omega,λD2 hD2=>?_⟩;rw[Θ];refine YS (gthB n S r) (by omega) hD2 (λi hi H' K' R' kR=>?_) (λH2 K2 e2=>?_)
  ·nofun;refine xu ?_;nofun;refine⟨o,dx,_,rfl,K' _ _ T1.ob,rfl,?_⟩;nofun;refine⟨o,i,n,m,S,t,by rw[Int.zero_add]; rfl,⟨dx,pr,pu,pc,ras,T1.same λa u e _=>K' a u e⟩,hi,?_⟩;nofun;have kR:=kR _ (Same.refl _);unfold gthB at kR;by_cases h1:S.cu i<n
   ·rw[decide_eq_true h1] at kR ⊢;exact iteF kR
   ·rw[decide_eq_false h1] at kR ⊢;refine iteT ?_;nofun;rw[Int.zero_add];refine zC (v:= .int (S.M (S.ru r) i)) (K' _ _ (K1 _ _ g2)) (zx (ym (by omega))) ?_;nofun;exact kR
  ·refine zN ?_;exact rest _ _ ⟨D2,_,rfl,K1.trans K2,e2,cand_gth hs0⟩
 ·exact rest _ _ ⟨D1,_,rfl,K1,e1,cand_sol λz=>h0 (by rw[z]; rfl)⟩
abbrev sTd:Stmt:=wE (top 10) 6
abbrev nTd:List Str:=["self","numbers","pivot","column","sign","size","times","row"]
theorem nmTd:Nm nTd (zd sTd):=nmk (nofun)
theorem scTd:FnScope nTd ["self","numbers","pivot","column","sign"] (zd sTd):=fsk (nofun)
def qTda (s:Stmt):Scope:=match s with
 | .Assign _ (.ListComp _ _ sc _) _=>sc
 | _=>nsc
abbrev cTda:Scope:=qTda ((zm sTd).getD 2 (.Pass ⟨0,0,0,0⟩))
theorem bsTda:BScope (zd sTd) cTda ["one","other"] ["self","size","times"] []:={}
theorem loTd_7:(zd sTd).names.lookup ("row":Str)=some .local:=nofun
theorem Z3(h:ta σ H λvs H1=> ∃a b,vs=[.ref a,.ref b]/\(∃xs,SqL K H1 a xs)/\(∃xs,SqL K H1 b xs)/\ ∀D,H1 D=none->CGo (Itzl K a b) D g tc te Q (List.replicate n none++sub ix σ) H1):xU (iZpl K ta) n ix g tc te σ H Q:=h
def Sm (x:Int):Prop:=x.natAbs<2^4000
theorem wq(h:Sm x):EL.Bb x:=EL.bb_of h (by decide)
theorem Y3(h:Sm x):x.natAbs.log2<9000:=by
 by_cases z:x.natAbs=0
 ·rw[z]; decide
 ·exact(Nat.log2_lt z).mpr (Ε h (Nat.pow_le_pow_right (by decide) (by decide)))
theorem WQ(hs:s=1\/s=-1)(h:Sm x):Sm (s*x):=by
 unfold Sm;rcases hs with rfl | rfl
 ·rw[Int.one_mul]; exact h
 ·rw[Int.neg_one_mul,Int.natAbs_neg]; exact h
theorem x6(h:i<n):ixN n (i:Int)=some i:=by
 unfold ixN;rw[if_pos (by omega),if_pos (by omega),Θ]
def spTd (C:Addr):Sp:=λvs H Q _=> ∃(o a b dx:Addr) (c n:Nat) (s D:Int) (x y:Nat->Int) (fs:List (Str×V)),vs=[.ref o,.ref a,.ref b,.int (c:Int),.int s]/\H o=some (.ins C dx fs)/\fs.lookup ("bottom":Str)=some (V.int D)/\H a=some (.lst (rowV n x))/\H b=some (.lst (rowV n y))/\c<n/\n<=40/\0<D/\Sm D/\(s=1\/s=-1)/\(∀k,k<=n->Sm (x k)/\Sm (y k))/\
 ∀q H',Same H H'->H q=none->H' q=some (.lst (rowV n λk=>if k=c then s*x c else (s*y c*x k-s*x c*y k) / D))->Q (.ref q) H'
theorem ok_Td(R:TC K C)(B:Bl mg)(F:Fun K "turned" "Tableau.turned" sTd f fd):FnOk P w K mg base CX0 1 f fd ["self","numbers","pivot","column","sign"] (spTd C):=by
 refine F.ok scTd (λvs H Q E h=>?_) (λcdv A outer s H vs Q E hr h=>?_)
 ·obtain⟨o,a,b,dx,c,n,s',D,x,y,fs,rfl,_⟩:=h;rfl
 obtain⟨o,a,b,dx,c,n,s',D,x,y,fs,rfl,ho,hfs,ha,hb,hc,hn,hD,hDs,hs,hsm,k⟩:=h;refine'⟨_,?hb,?rd⟩
 case' hb=>skip
 case' hb=>refine' ze ?g1 ?g2
 case' g2=>refine' ze ?g3 ?g4
 case' g4=>refine' ze ?g5 ?g6
 case' g6=>refine' ze ?g7 ?g8
 case' g8=>refine' zi ?g9
 case g1=>exact zj nmTd 5 (zo yI (pvd nmTd 4) (ziq (pvd nmTd 2) (pvd nmTd 3)))
 case g3=>exact zj nmTd 6 (zo yI (pvd nmTd 4) (ziq (pvd nmTd 1) (pvd nmTd 3)))
 case' g5=>refine' yi (i:=7) (ix:=[0,5,6]) nmTd.nd rfl loTd_7 bsTda.toCScope rfl rfl ?g10 ?g11 ?g12 ?g13
 case g10=>exact wU B.zip (pa_2 (pvd nmTd 1) (pvd nmTd 2))
 case g11=>
  intro _ _ _ _ _ _;refine' yT (n:=2) rfl ?g14
  case' g14=>refine' zt ?g18 ?g17
  case g18=>exact pgb bsTda 0
  case' g17=>refine' zt ?g20 zS
  case g20=>exact pgb bsTda 1
 case g12=>exact λ_ _ _ _ _ _=>zu
 case g13=>exact λ_ _ _ _ _ _=>zo EL.op_fdivL (zo yZ (zo yI (pvb bsTda 3) (pvb bsTda 0)) (zo yI (pvb bsTda 4) (pvb bsTda 1))) (vn rfl (pvb bsTda 2))
 case g7=>exact zX (pvd nmTd 6) (ya (pvd nmTd 7) (pvd nmTd 3) yu)
 case g9=>exact zr (pvd nmTd 7)
 nofun;refine zC (v:= .int (y c)) hb (zx (ym (by omega))) ?_;nofun;refine⟨_,_,rfl,rfl,EL.mulBb (EL.bb_of (m:=2) (by rcases hs with rfl | rfl<;>decide) (by decide)) (wq (hsm c (by omega)).2),?_⟩;nofun;refine zC (v:= .int (x c)) ha (zx (ym (by omega))) ?_;nofun;refine⟨_,_,rfl,rfl,EL.mulBb (EL.bb_of (m:=2) (by rcases hs with rfl | rfl<;>decide) (by decide)) (wq (hsm c (by omega)).1),?_⟩;nofun;refine Z3 ?_;nofun;refine⟨a,b,rfl,⟨_,SqL.of ha⟩,⟨_,SqL.of hb⟩,λD1 hD1=>?_⟩;refine gm_zpl (xs:=rowV n x) (zs:=rowV n y) (n:=n+1) (λk v _=>v= .int ((s'*y c*x k - s'*x c*y k) / D)) (by rw[yF]; exact θ _) (by rw[yF]; exact θ _) (.inl (by rw[yF]; exact θ _)) hD1 (λ_ h=>h) (by omega) ha hb (λi u v H' R' hi hu hv K' kR=>?_) (λys H1 g e1=>?_)
 ·rw[ym (by omega)] at hu hv;cases hu
  cases hv
  have s1:=WQ hs (hsm c (by omega)).2;have s2:=WQ hs (hsm c (by omega)).1;nofun;refine⟨_,_,rfl,rfl,EL.mulBb (wq s1) (wq (hsm i (by omega)).1),?_⟩;nofun;refine⟨_,_,rfl,rfl,EL.mulBb (wq s2) (wq (hsm i (by omega)).2),?_⟩;nofun;refine zO ?_;nofun;refine⟨o,C,dx,fs,_,rfl,K' _ _ ho,R.c,R.n2,hfs,?_⟩;refine⟨_,_,rfl,rfl,⟨hD,Y3 hDs⟩,?_⟩;exact kR _ _ (Same.refl _) rfl
 ·obtain⟨K1,hl,hy⟩:=g;have ey:ys=rowV n λk=>(s'*y c*x k-s'*x c*y k) / D:=vi hl λk hk=>by
   rw[δ (by omega)];exact congrArg some (hy k _ (δ (by omega)))
  subst ey;nofun;refine xP e1 (j:=c) (by rw[yF]; exact x6 (by omega)) ?_;nofun;have eset:(rowV n λk=>(s'*y c*x k - s'*x c*y k) / D).set c (.int (s'*x c))=rowV n λk=>if k=c then s'*x c else (s'*y c*x k - s'*x c*y k) / D:=by
   refine vi (by rw[List.length_set,yF]) λk hk=>?_;by_cases e:k=c
   ·subst e; rw[if_pos rfl,List.getElem?_set_self (by rw[yF]; omega)]
   ·rw[if_neg e,List.getElem?_set_ne (Ne.symm e),ym hk]
  show Q (.ref D1) (upd H1 D1 (.lst ((rowV n λk=>(s'*y c*x k-s'*x c*y k) / D).set c (.int (s'*x c)))));rw[eset];exact k D1 _ (K1.put hD1) hD1 zf
abbrev sTn:Stmt:=wE (top 10) 5
abbrev nTn:List Str:=["self","row","column","pivot","sign","rows","unknown"]
theorem nmTn:Nm nTn (zd sTn):=nmk (nofun)
theorem scTn:FnScope nTn ["self","row","column"] (zd sTn):=fsk (nofun)
def qTna (s:Stmt):Scope:=match s with
 | .Assign _ (.ListComp _ _ sc _) _=>sc
 | _=>nsc
abbrev cTna:Scope:=qTna ((zm sTn).getD 2 (.Pass ⟨0,0,0,0⟩))
theorem bsTna:BScope (zd sTn) cTna ["numbers"] ["column","pivot","self","sign"] []:={}
def qTnb (s:Stmt):Scope:=match s with
 | .Assign _ (.ListComp _ _ sc _) _=>sc
 | _=>nsc
abbrev cTnb:Scope:=qTnb ((zm sTn).getD 3 (.Pass ⟨0,0,0,0⟩))
theorem bsTnb:BScope (zd sTn) cTnb ["number"] ["sign"] []:={}
theorem loTn_5:(zd sTn).names.lookup ("rows":Str)=some .local:=nofun
theorem ite_k{p:Prop}[Decidable p]{te1 te2:TE}{σ:St}{H:Hp}{Q:VK}(v:V)(h1:p-> ∀Q:VK,Q v H->te1 σ H Q)(h2: ¬p-> ∀Q:VK,Q v H->te2 σ H Q)(h:Q v H):if decide p=true then te1 σ H Q else te2 σ H Q:=iteD (λz=>h1 z Q h) λz=>h2 z Q h
theorem sgn_or(p:Int):sgn p=1\/sgn p=-1:=by unfold sgn; split<;>simp
theorem updK(H:Hp)(x:Addr)(o:HO): ∃H',upd H x o=H'/\H' x=some o/\ ∀a u,a≠x->H a=some u->H' a=some u:=⟨_,rfl,zf,λa u n e=>by rw[zk n]; exact e⟩
theorem rowV_ne{f:Nat->Int}{as:List Addr}:rowV n f≠as.map V.ref:=λz=>by
 have h1:=ym (n:=n) (f:=f) (Ι _);rw[z,μ] at h1;cases e:as[0]? with
 | none=>rw[e] at h1; cases h1
 | some a=>rw[e] at h1; cases h1
def spTn (C:Addr):Sp:=λvs H Q _=> ∃(o:Addr) (n m r c:Nat) (v:Nat->Nat->Int) (S:Tb) (t:Nat) (dx pr pu pc:Addr) (ras:List Addr),vs=[.ref o,.int (r:Int),.int (c:Int)]/\TbA H C o n m S t dx pr pu pc ras/\Inv n m v S/\r<m/\c<n/\S.M (S.ru r) c≠0/\n<=40/\m<=60/\(∀q k,q<m->k<=n->Sm (S.M (S.ru q) k))/\Sm S.D/\
 ∀H' pr' ras',(∀a u,a≠o->a≠pu->a≠pc->H a=some u->H' a=some u)->TbA H' C o n m (turn S r c) (t+1) dx pr' pu pc ras'->Q .non H'
theorem ok_Tn{f:Addr}{fd:FuncData}{C:Addr}(R:TC K C)(B:Bl mg)(hT:HasM P w K mg base 1 C "turned" ["self","numbers","pivot","column","sign"] (spTd C))(F:Fun K "turn" "Tableau.turn" sTn f fd):FnOk P w K mg base CX0 2 f fd ["self","row","column"] (spTn C):=by
 refine F.ok scTn (λvs H Q E h=>?_) (λcdv A outer s H vs Q E hr h=>?_)
 ·obtain⟨o,n,m,r,c,v,S,t,dx,pr,pu,pc,ras,rfl,_⟩:=h;rfl
 obtain⟨o,n,m,r,c,v,S,t,dx,pr,pu,pc,ras,rfl,T,I,hrm,hcn,hp,hn,hm,hsm,hsd,k⟩:=h;refine'⟨_,?hb,?rd⟩
 case' hb=>skip
 case' hb=>refine' ze ?g1 ?g2
 case' g2=>refine' ze ?g3 ?g4
 case' g4=>refine' ze ?g5 ?g6
 case' g6=>refine' ze ?g7 ?g8
 case' g8=>refine' ze ?g9 ?g10
 case' g10=>refine' ze ?g11 ?g12
 case' g12=>refine' ze ?g13 ?g14
 case' g14=>refine' ze ?g15 ?g16
 case' g16=>refine' ze ?g17 ?g18
 case' g18=>refine' ze ?g19 ?g20
 case' g20=>refine' zi ?g21
 case g1=>exact zj nmTn 3 (ziq (zG (pvd nmTn 0) rfl) (pvd nmTn 1))
 case g3=>exact zj nmTn 4 (xX (zv vF (ziq (pvd nmTn 3) (pvd nmTn 2)) zg (zw _)) zg (xQ yX zg))
 case' g5=>refine' yi (i:=5) (ix:=[2,3,0,4]) nmTn.nd rfl loTn_5 bsTna.toCScope rfl rfl ?g22 ?g23 ?g24 ?g25
 case g22=>exact yf (zG (pvd nmTn 0) rfl)
 case g23=>exact λ_ _ _ _ _ _=>pgb bsTna 0
 case g24=>exact λ_ _ _ _ _ _=>zu
 case g25=>exact λ_ _ _ _ _ _=>pe_m hT hr (by omega) (pvb bsTna 3) (pa_c (pvb bsTna 0) (pa_c (pvb bsTna 2) (pa_2 (pvb bsTna 1) (pvb bsTna 4))))
 case' g7=>refine' zX ?g26 (ya (pvd nmTn 5) (pvd nmTn 1) yu)
 case' g26=>refine' zy (ix:=[4]) bsTnb.toCScope rfl rfl ?g27 ?g28 ?g29 ?g30
 case g27=>exact yf (pvd nmTn 3)
 case g28=>exact λ_ _ _ _ _ _=>pgb bsTnb 0
 case g29=>exact λ_ _ _ _ _ _=>zu
 case g30=>exact λ_ _ _ _ _ _=>zo yI (xQ yX (pvb bsTnb 1)) (pvb bsTnb 0)
 case g9=>exact zX (zo yI (pvd nmTn 4) (zG (pvd nmTn 0) rfl)) (ya (ziq (pvd nmTn 5) (pvd nmTn 1)) (pvd nmTn 2) yu)
 case g11=>exact xV (pvd nmTn 0) (pvd nmTn 5) rfl
 case g13=>exact xV (pvd nmTn 0) (zo yI (pvd nmTn 4) (ziq (pvd nmTn 3) (pvd nmTn 2))) rfl
 case g15=>exact zj nmTn 6 (ziq (zG (pvd nmTn 0) rfl) (pvd nmTn 1))
 case g17=>exact zX (ziq (zG (pvd nmTn 0) rfl) (pvd nmTn 2)) (ya (zG (pvd nmTn 0) rfl) (pvd nmTn 1) yu)
 case g19=>exact zX (pvd nmTn 6) (ya (zG (pvd nmTn 0) rfl) (pvd nmTn 2) yu)
 case g21=>exact ps_fldaug (pvd nmTn 0) zg in_add
 obtain⟨ra,g1,g2⟩:=T.row hrm;nofun;refine zO ?_;nofun;refine⟨o,C,_,_,_,rfl,T.ob,R.c,R.n3,rfl,?_⟩;nofun;refine zC (v:= .ref ra) T.rs (zx (by rw[μ,g1]; rfl)) ?_;nofun;refine zC (v:= .int (S.M (S.ru r) c)) g2 (zx (ym (by omega))) ?_;nofun;refine ite_k (.int (sgn (S.M (S.ru r) c))) (λh Q q=>?_) (λh Q q=>?_) ?_
 ·have e:sgn (S.M (S.ru r) c)=1:=by unfold sgn; rw[if_pos h]
  rw[e] at q;exact q
 ·have e:sgn (S.M (S.ru r) c)=-1:=by unfold sgn; rw[if_neg h]
  rw[e] at q;exact⟨_,rfl,q⟩
 have hsg:=sgn_or (S.M (S.ru r) c);generalize hsv:sgn (S.M (S.ru r) c)=sv at hsg ⊢;nofun;refine zO ?_;nofun;refine⟨o,C,_,_,_,rfl,T.ob,R.c,R.n3,rfl,?_⟩;refine⟨pr,rfl,⟨_,SqL.of T.rs⟩,λD1 hD1=>?_⟩;have hrl:=T.rl;refine nl_lst (xs:=ras.map V.ref) (λq=>rowV n (yV S r c (S.ru q))) hD1 T.rs (by rw[ε]; omega) (λi x H' R' hx K' kR=>?_) (λas1 H1 N1 e1=>?_)
 ·have hi:i<m:=by have:=(ξ.mp hx).1; rw[ε] at this; omega
  obtain⟨rb,f1,f2⟩:=T.row hi;rw[μ,f1] at hx;cases hx
  nofun;refine xu ?_;nofun;refine⟨o,dx,_,rfl,K' _ _ T.ob,rfl,?_⟩;nofun;refine⟨o,rb,ra,dx,c,n,sv,S.D,_,_,_,rfl,K' _ _ T.ob,rfl,K' _ _ f2,K' _ _ g2,hcn,hn,I.D0,hsd,hsg,λk hk=>⟨hsm i k hi hk,hsm r k hrm hk⟩,λq H4 K4 hq e4=>kR q H4 K4 hq ?_⟩;rw[e4];congr 3
  funext k
  unfold yV;rw[hsv]
 have g21:=N1.sm _ _ g2;nofun;refine⟨ra,rfl,⟨_,SqL.of g21⟩,λD2 hD2=>?_⟩;refine vZ (ws:=List.range (n+1)) (λk=>V.int (S.M (S.ru r) k)) (λk=>V.int (-sv*S.M (S.ru r) k)) g21 (by rw[Ξ]; omega) hD2 (λk hk H' K' R' kR=>?_) (λH2 K2 e2=>?_)
 ·have hk:=Λ.mp hk;nofun;refine⟨_,rfl,?_⟩;nofun;refine⟨_,_,rfl,rfl,EL.mulBb (EL.bb_of (m:=2) (by rcases hsg with rfl | rfl<;>decide) (by decide)) (wq (hsm r k hrm (by omega))),?_⟩;exact kR _ (Same.refl _)
 have K02:=N1.sm.trans K2;have T2:=T.same λa u e _=>K02 a u e;have n12:D1≠D2:=zh e1 hD2;have e12:=K2 _ _ e1;have hal:=N1.len;rw[ε,hrl] at hal;nofun;refine xP e12 (j:=r) (by rw[ε]; exact x6 (by omega)) ?_;obtain⟨H3,q3,e3,k3⟩:=updK H2 D1 (.lst ((as1.map V.ref).set r (.ref D2)));rw[q3]; clear q3;have eD3:=k3 _ _ (Ne.symm n12) e2;have f1: ∀a u,H a=some u->H3 a=some u:=λa u e=>k3 a u (zh e hD1) (K02 _ _ e);nofun;refine zO ?_;nofun;refine⟨o,C,_,_,_,rfl,(f1 _ _ T.ob),R.c,R.n2,rfl,?_⟩;refine⟨_,_,rfl,rfl,EL.mulBb (EL.bb_of (m:=2) (by rcases hsg with rfl | rfl<;>decide) (by decide)) (wq hsd),?_⟩;nofun;refine zC (v:= .ref D2) e3 (zx (by rw[List.getElem?_set_self (by rw[ε]; omega)])) ?_;nofun;refine xP eD3 (j:=c) (by rw[ε,Ξ]; exact x6 (by omega)) ?_;obtain⟨H4,q4,e4,k4⟩:=updK H3 D2 (.lst (((List.range (n+1)).map λk=>V.int (-sv*S.M (S.ru r) k)).set c (.int (sv*S.D))));rw[q4]; clear q4;have nD2: ∀a u,H a=some u->a≠D2:=λa u e=>zh (N1.sm _ _ e) hD2;have f2: ∀a u,H a=some u->H4 a=some u:=λa u e=>k4 a u (nD2 a u e) (f1 a u e);have e34:=k4 _ _ n12 e3;nofun;refine xT ?_;nofun;refine⟨o,C,dx,_,rfl,f2 _ _ T.ob,R.c,R.n3,by show 6<1000; decide,?_⟩;obtain⟨H5,q5,e5,k5⟩:=updK H4 o (.ins C dx (putF "rows" (.ref D1) (tFs n S.D pr pu pc t)));rw[q5]; clear q5;have nOf: ∀a u,H a=some u->(∀C dx fs,u≠.ins C dx fs)->a≠o:=YO T.ob;have f3: ∀a u,a≠o->H a=some u->H5 a=some u:=λa u n e=>k5 a u n (f2 a u e);nofun;refine xT ?_;nofun;refine zC (v:= .int (S.M (S.ru r) c)) (f3 _ _ (nOf _ _ g2 λ_ _ _ z=>by cases z) g2) (zx (ym (by omega))) ?_;refine⟨_,_,rfl,rfl,EL.mulBb (EL.bb_of (m:=2) (by rcases hsg with rfl | rfl<;>decide) (by decide)) (wq (hsm r c hrm (by omega))),?_⟩;nofun;refine⟨o,C,dx,_,rfl,e5,R.c,R.n2,by show 6<1000; decide,?_⟩;obtain⟨H6,q6,e6,k6⟩:=updK H5 o (.ins C dx (putF "bottom" (.int (sv*S.M (S.ru r) c)) (putF "rows" (.ref D1) (tFs n S.D pr pu pc t))));dsimp only;rw[q6]; clear q6;have f4: ∀a u,a≠o->H a=some u->H6 a=some u:=λa u n e=>k6 a u n (f3 a u n e);have npu:=nOf _ _ T.ru λ_ _ _ z=>by cases z
 have npc:=nOf _ _ T.cu λ_ _ _ z=>by cases z
 nofun;refine zO ?_;nofun;refine⟨o,C,_,_,_,rfl,e6,R.c,R.n4,rfl,?_⟩;nofun;refine zC (v:= .int ((S.ru r:Nat):Int)) (f4 _ _ npu T.ru) (zx (yq hrm)) ?_;nofun;refine zO ?_;nofun;refine⟨o,C,_,_,_,rfl,e6,R.c,R.n5,rfl,?_⟩;nofun;refine zC (v:= .int ((S.cu c:Nat):Int)) (f4 _ _ npc T.cu) (zx (yq hcn)) ?_;nofun;refine zO ?_;nofun;refine⟨o,C,_,_,_,rfl,e6,R.c,R.n4,rfl,?_⟩;nofun;refine xP (f4 _ _ npu T.ru) (j:=r) (by rw[yb]; exact x6 hrm) ?_;obtain⟨H7,q7,e7,k7⟩:=updK H6 pu (.lst ((natV m S.ru).set r (.int ((S.cu c:Nat):Int))));rw[q7]; clear q7;have e67:=k7 _ _ (Ne.symm npu) e6;nofun;refine zO ?_;nofun;refine⟨o,C,_,_,_,rfl,e67,R.c,R.n5,rfl,?_⟩;nofun;have c7:=k7 _ _ (Ne.symm T.ne) (f4 _ _ npc T.cu);refine xP c7 (j:=c) (by rw[yb]; exact x6 hcn) ?_;obtain⟨H8,q8,e8,k8⟩:=updK H7 pc (.lst ((natV n S.cu).set c (.int ((S.ru r:Nat):Int))));rw[q8]; clear q8;have e68:=k8 _ _ (Ne.symm npc) e67;dsimp only;refine w_saug ?_;nofun;refine⟨o,C,dx,_,_,rfl,e68,R.c,R.n6,rfl,?_⟩;nofun;refine⟨_,_,rfl,rfl,dx,_,e68,by show 6<1000; decide,?_⟩;obtain⟨H9,q9,e9,k9⟩:=updK H8 o (.ins C dx (tFs n (sv*S.M (S.ru r) c) D1 pu pc (t+1)));show Q .non (upd H8 o (.ins C dx (tFs n (sv*S.M (S.ru r) c) D1 pu pc (t+1))));rw[q9]; clear q9;have keep: ∀a u,a≠o->a≠pu->a≠pc->H4 a=some u->H9 a=some u:=λa u n1 n2 n3 e=>k9 a u n1 (k8 a u n3 (k7 a u n2 (k6 a u n1 (k5 a u n1 e))))
 -- the new objects stand apart from the old ones
 have ap: ∀a,H a=none->a≠o/\a≠pu/\a≠pc:=λa e=>⟨(λz=>by rw[z,T.ob] at e; cases e),(λz=>by rw[z,T.ru] at e; cases e),(λz=>by rw[z,T.cu] at e; cases e)⟩;have hD2':H D2=none:=Same.free N1.sm hD2;obtain⟨d1,d2,d3⟩:=ap D1 hD1;obtain⟨b1,b2,b3⟩:=ap D2 hD2';refine k H9 D1 (as1.set r D2) (λa u n1 n2 n3 e=>keep a u n1 n2 n3 (f2 a u e)) ⟨?_,?_,by rw[List.length_set]; exact hal,λq a hq=>?_,?_,?_,T.ne⟩
 ·rw[e9,show(turn S r c).D=sv*S.M (S.ru r) c by rw[<-hsv]; rfl]
 ·have:=keep _ _ d1 d2 d3 e34;rw[this,List.map_set]
 ·by_cases hqr:q=r
  ·subst hqr;rw[List.getElem?_set_self (by omega)] at hq;cases hq
   rw[keep _ _ b1 b2 b3 e4];congr 2;refine vi (by simp) λkk hk=>?_;have eru:(turn S q c).ru q=S.cu c:=by show updN S.ru q (S.cu c) q=_; unfold updN; rw[if_pos rfl]
   rw[eru];show _=some (V.int (yV S q c (S.cu c) kk));by_cases ek:kk=c
   ·rw[ek,List.getElem?_set_self (by simp; omega),xC,hsv,I.mc c hcn c (by omega),if_pos rfl]
   ·rw[List.getElem?_set_ne (Ne.symm ek),μ,List.getElem?_range (by omega)];have h1:=I.turn_mul hrm hcn (I.cl c hcn) hk ek;rw[I.mc c hcn kk hk,I.mc c hcn c (by omega),if_neg ek,if_pos rfl,hsv] at h1;have h2:yV S q c (S.cu c) kk=-sv*S.M (S.ru q) kk:=wI I.D0 (by rw[h1]; grind);rw[h2];rfl
  ·rw[List.getElem?_set_ne (Ne.symm hqr)] at hq;have hq0:=N1.nw a (ο hq);obtain⟨z1,z2,z3⟩:=ap a hq0;have h1:=N1.at_ q a hq;have na1:a≠D1:=λz=>by
    rw[z,e1] at h1;injection h1 with h1
    injection h1 with h1
    exact rowV_ne h1.symm
   have na2:a≠D2:=zh h1 hD2;have eru:(turn S r c).ru q=S.ru q:=by show updN S.ru r (S.cu c) q=_; unfold updN; rw[if_neg hqr]
   rw[eru];exact keep _ _ z1 z2 z3 (k4 _ _ na2 (k3 _ _ na1 (K2 _ _ h1)))
 ·rw[k9 _ _ npu (k8 _ _ T.ne e7)];congr 2;refine Xk (by rw[List.length_set,yb]) λq hq=>?_;show _=some (V.int ((updN S.ru r (S.cu c) q:Nat):Int));unfold updN;by_cases e:q=r
  ·subst e; rw[if_pos rfl,List.getElem?_set_self (by rw[yb]; exact hq)]
  ·rw[if_neg e,List.getElem?_set_ne (Ne.symm e),yq hq]
 ·rw[k9 _ _ npc e8];congr 2;refine Xk (by rw[List.length_set,yb]) λq hq=>?_;show _=some (V.int ((updN S.cu c (S.ru r) q:Nat):Int));unfold updN;by_cases e:q=c
  ·subst e; rw[if_pos rfl,List.getElem?_set_self (by rw[yb]; exact hq)]
  ·rw[if_neg e,List.getElem?_set_ne (Ne.symm e),yq hq]
end
end K17
namespace WG
def wsum (ws:List (Int×Int)) (f:Int->Int):Int:=(ws.map λw=>w.2*f w.1).sum
theorem zI{f:Int->Int}:wsum (w::ws) f=w.2*f w.1+wsum ws f:=by simp[wsum]
theorem wsum_perm{ws:List (Int×Int)}(h:ws.Perm us)(f:Int->Int):wsum ws f=wsum us f:=by
 induction h with
 | nil=>rfl
 | cons x _ ih=>rw[zI,zI,ih]
 | swap x y l=>rw[zI,zI,zI,zI]; omega
 | trans _ _ a b=>rw[a,b]
theorem vv{f g:Int->Int}(h: ∀w∈ws,f w.1=g w.1):wsum ws f=wsum ws g:=by
 induction ws with
 | nil=>rfl
 | cons w ws ih=>rw[zI,zI,h w υ,ih λx hx=>h x (χ _ hx)]
theorem wsum_div(h: ∀w∈ws,g ∣ w.2)(f:Int->Int):g*wsum (ws.map λw=>(w.1,w.2 / g)) f=wsum ws f:=by
 induction ws with
 | nil=>simp[wsum]
 | cons w ws ih=>
  rw[List.map_cons,zI,zI,Int.mul_add,ih λx hx=>h x (χ _ hx),<-Int.mul_assoc,Int.mul_ediv_cancel' (h w υ)]
theorem wsum_nonneg{f:Int->Int}(h: ∀w∈ws,0<=w.2/\0<=f w.1):0<=wsum ws f:=by
 induction ws with
 | nil=>exact Int.le_refl _
 | cons w ws ih=>
  rw[zI];have h1:=h w υ;have h2:=ih λx hx=>h x (χ _ hx);have:=Int.mul_nonneg h1.1 h1.2;omega
structure Bw (n m:Nat) (v:Nat->Nat->Int) (ws:List (Int×Int)):Prop where
 rise:ws.Pairwise λa b=>a.1<b.1
 rng: ∀w∈ws,0<=w.1/\w.1<m
 pos: ∀w∈ws,1<=w.2
 ne:ws≠[]
 zer: ∀j<n,wsum ws (λi=>v (n+i.toNat) j)=0
 neg:wsum ws (λi=>v (n+i.toNat) n)<= -1
def Met (n m:Nat) (v:Nat->Nat->Int) (x:Nat->Int) (d:Int):Prop:= ∀i<m,0<=(sm n λj=>v (n+i) j*x j)+v (n+i) n*d
section
variable {n m:Nat} {v:Nat->Nat->Int} {S:Tb}
theorem vw(p:Nat->Bool)(f:Nat->Int): ∀n,(((List.range n).filter p).map f).sum=sm n λc=>if p c=true then f c else 0
 | 0=>rfl
 | n+1=>by
  rw[List.range_succ,List.filter_append,Μ,List.sum_append,vw p f n];show _=sm n _+_;by_cases h:p n=true
  ·rw[List.filter_cons_of_pos h]; simp[h]
  ·rw[List.filter_cons_of_neg h]; simp[h]
def prs0 (n:Nat) (S:Tb) (r:Nat):List (Int×Int):=((S.ru r:Int)-n,S.D)::((List.range n).filter λc=>decide (S.M (S.ru r) c≠0)).map λc=>((S.cu c:Int)-n,- S.M (S.ru r) c)
structure Stuck (n m:Nat) (S:Tb) (r:Nat):Prop where
 lo:low n m S r
 no: ∀c<n,(S.cu c<n->S.M (S.ru r) c=0)/\(n<=S.cu c->S.M (S.ru r) c<=0)
theorem Stuck.col(I:Inv n m v S){r:Nat}(K:Stuck n m S r){c:Nat}(hc:c<n)(h:S.M (S.ru r) c≠0):n<=S.cu c/\S.M (S.ru r) c<0/\S.cu c<n+m:=by
 have h1:=K.no c hc;have h2:=I.cl c hc;by_cases z:S.cu c<n
 ·exact absurd (h1.1 z) h
 ·have:=h1.2 (by omega);omega
theorem prs_sum(I:Inv n m v S){r:Nat}(K:Stuck n m S r){j:Nat}(hj:j<=n):wsum (prs0 n S r) (λi=>v (n+i.toNat) j)=S.M (S.ru r) n*un n j:=by
 unfold prs0;rw[zI];have hr:=K.lo;have e0:n+((S.ru r:Int)-n).toNat=S.ru r:=by have:=hr.2.1; omega
 dsimp only;rw[e0];unfold wsum;rw[List.map_map];have e1:(((List.range n).filter λc=>decide (S.M (S.ru r) c≠0)).map ((λw:Int×Int=>w.2*v (n+w.1.toNat) j) ∘ λc=>((S.cu c:Int)-n,- S.M (S.ru r) c)))=((List.range n).filter λc=>decide (S.M (S.ru r) c≠0)).map λc=> - S.M (S.ru r) c*v (S.cu c) j:=List.map_congr_left λc hc=>by
  rw[List.mem_filter,Λ] at hc;have h1:=K.col I hc.1 (by simpa using hc.2);show-S.M (S.ru r) c*v (n+((S.cu c:Int)-n).toNat) j=_;rw[show n+((S.cu c:Int)-n).toNat=S.cu c by omega]
 rw[e1,vw];have hA:=I.A _ (I.rl r hr.1) j hj;rw[hA];show sm n _+S.M (S.ru r) n*wv n v S.cu n j+_=_;have e2:(sm n λc=>if decide (S.M (S.ru r) c≠0)=true then-S.M (S.ru r) c*v (S.cu c) j else 0)=sm n λc=>(-1)*(S.M (S.ru r) c*wv n v S.cu c j):=zD λc hc=>by
  unfold wv;rw[if_pos hc];by_cases z:S.M (S.ru r) c=0
  ·rw[if_neg (by simp[z]),z]; simp
  ·rw[if_pos (by simp[z])]; grind
 rw[e2,yY];have e3:wv n v S.cu n j=un n j:=by unfold wv; rw[if_neg (by omega)]
 rw[e3]
 grind
theorem ZE(I:Inv n m v S){r:Nat}(K:Stuck n m S r){w:Int×Int}(h:w∈prs0 n S r):(0<=w.1/\w.1<m)/\1<=w.2/\((w.2=S.D)\/ ∃c<n,w.2=- S.M (S.ru r) c):=by
 unfold prs0 at h;rcases Φ.mp h with rfl | h
 ·have h1:=K.lo.2.1;have h2:=I.rl r K.lo.1;have:=I.D0;exact⟨⟨by dsimp only; omega,by dsimp only; omega⟩,by dsimp only; omega,.inl rfl⟩
 ·obtain⟨c,hc,rfl⟩:=Κ.mp h;rw[List.mem_filter,Λ] at hc;have h1:=K.col I hc.1 (by simpa using hc.2);exact⟨⟨by dsimp only; omega,by dsimp only; omega⟩,by dsimp only; omega,.inr ⟨c,hc.1,rfl⟩⟩
theorem prs_nodup(I:Inv n m v S){r:Nat}(hr:r<m):((prs0 n S r).map (·.1)).Nodup:=by
 unfold prs0;rw[List.map_cons,List.map_map,List.nodup_cons];refine⟨λh=>?_,?_⟩
 ·obtain⟨c,hc,e⟩:=Κ.mp h;rw[List.mem_filter,Λ] at hc;have e:(S.cu c:Int)-n=(S.ru r:Int)-n:=e;exact I.rc r hr c hc.1 (by omega)
 ·have h0:=(List.nodup_range (n:=n)).filter λc=>decide (S.M (S.ru r) c≠0);refine List.pairwise_map.mpr (List.Pairwise.imp_of_mem (λ{a b} ha hb hne e=>?_) h0);rw[List.mem_filter,Λ] at ha hb;have e:(S.cu a:Int)-n=(S.cu b:Int)-n:=e;exact hne (I.ci a ha.1 b hb.1 (by omega))
theorem bears(I:Inv n m v S){r:Nat}(K:Stuck n m S r){g:Int}(hg:0<g)(hd: ∀w∈prs0 n S r,g ∣ w.2){us:List (Int×Int)}(hp:us.Perm (prs0 n S r))(hs:us.Pairwise λa b=>a.1<b.1):Bw n m v (us.map λw=>(w.1,w.2 / g)):=by
 have hm: ∀w∈us,w∈prs0 n S r:=λw hw=>hp.mem_iff.mp hw;have hsum: ∀j≤n,g*wsum (us.map λw=>(w.1,w.2 / g)) (λi=>v (n+i.toNat) j)=S.M (S.ru r) n*un n j:=λj hj=>by
  rw[wsum_div λw hw=>hd w (hm w hw),wsum_perm hp,prs_sum I K hj]
 refine⟨?_,λw hw=>?_,λw hw=>?_,?_,λj hj=>?_,?_⟩
 ·rw[List.pairwise_map]; exact hs
 ·obtain⟨u,hu,rfl⟩:=Κ.mp hw;exact(ZE I K (hm u hu)).1
 ·obtain⟨u,hu,rfl⟩:=Κ.mp hw;have h1:=(ZE I K (hm u hu)).2.1;obtain⟨q,hq⟩:=hd u (hm u hu);show 1<=u.2 / g;rw[hq,Int.mul_ediv_cancel_left _ (by omega)];rcases Int.lt_or_le 0 q with z | z
  ·omega
  ·have:g*q<=0:=Int.mul_nonpos_of_nonneg_of_nonpos (by omega) z;omega
 ·intro z;have e:us=[]:=List.map_eq_nil_iff.mp z;rw[e] at hp;have:=hp.length_eq;simp[prs0] at this
 ·have:=hsum j (by omega);unfold un at this;rw[if_neg (by omega),Int.mul_zero] at this;rcases Int.mul_eq_zero.mp this with z | z
  ·omega
  ·exact z
 ·have:=hsum n (θ _);unfold un at this;rw[if_pos rfl,Int.mul_one] at this;have h1:=K.lo.2.2;rw[<-this] at h1;rcases Int.lt_or_le (wsum (us.map λw=>(w.1,w.2 / g)) (λi=>v (n+i.toNat) n)) 0 with z | z
  ·omega
  ·have:=Int.mul_nonneg (Int.le_of_lt hg) z;omega
theorem meets(I:Inv n m v S)(h: ∀r,¬low n m S r){g:Int}(hg:0<g)(hD:g ∣ S.D)(hx: ∀j<n,g ∣ S.M j n):1<=S.D / g/\Met n m v (λj=>S.M j n / g) (S.D / g):=by
 have hD0:=I.D0;refine⟨?_,λi hi=>?_⟩
 ·obtain⟨q,hq⟩:=hD;rw[hq,Int.mul_ediv_cancel_left _ (by omega)];rcases Int.lt_or_le 0 q with z | z
  ·omega
  ·have:g*q<=0:=Int.mul_nonpos_of_nonneg_of_nonpos (by omega) z;omega
 ·have h0:0<=S.M (n+i) n:=by
   rcases I.al (n+i) (by omega) with ⟨r,hr,e⟩ | ⟨c,hc,e⟩
   ·have:=h r;unfold low at this;rw[e] at this;omega
   ·rw[<-e,I.mc c hc n (θ _),if_neg (by omega)]; exact Int.le_refl _
  have hB:=I.B (n+i) (by omega) n (θ _);rw[if_pos rfl] at hB;have e1:g*((sm n λj=>v (n+i) j*(S.M j n / g))+v (n+i) n*(S.D / g))=S.M (n+i) n:=by
   rw[Int.mul_add,<-yY,hB];congr 1
   ·refine zD λj hj=>?_;have:=Int.mul_ediv_cancel' (hx j hj)
    grind
   ·have:=Int.mul_ediv_cancel' hD
    grind
  rcases Int.lt_or_le ((sm n λj=>v (n+i) j*(S.M j n / g))+v (n+i) n*(S.D / g)) 0 with z | z
  ·have:=Int.mul_neg_of_pos_of_neg hg z;omega
  ·exact z
end
end WG
namespace PySem.W
open PySem PySem.Calls PyProof.Rows
def Sat {α:Type} (lt:Nat->Nat->Bool) (n:Nat):KasT α->(α->Prop)->Prop
 | .ret a,P=>P a
 | .ask i j k,P=>i<n/\j<n/\Sat lt n (k (lt i j)) P
theorem Sat.bind{lt:Nat->Nat->Bool}{P:α->Prop}{Q:β->Prop}{f:α->KasT β}(hf: ∀a,P a->Sat lt n (f a) Q): ∀{t:KasT α},Sat lt n t P->Sat lt n (t.bind f) Q
 | .ret a,h=>hf a h
 | .ask i j k,h=>⟨h.1,h.2.1,Sat.bind hf h.2.2⟩
theorem Sat.ok{lt:Nat->Nat->Bool}{P:α->Prop}: ∀{t:KasT α},Sat lt n t P->t.okFor lt n=true/\P (t.eval lt)
 | .ret a,h=>⟨rfl,h⟩
 | .ask i j k,h=>by
  obtain⟨h1,h2⟩:=Sat.ok h.2.2;refine⟨?_,h2⟩;unfold KasT.okFor;rw[decide_eq_true h.1,decide_eq_true h.2.1,h1];rfl
structure Lin (lt:Nat->Nat->Bool) (n:Nat):Prop where
 irr: ∀i,i<n->lt i i=false
 tr: ∀i j k,i<n->j<n->k<n->lt i j=true->lt j k=true->lt i k=true
 tot: ∀i j,i<n->j<n->i≠j->lt i j=false->lt j i=true
structure Pm (n:Nat) (p:Array Nat):Prop where
 pm:p.toList.Perm (List.range n)
section
variable {lt:Nat->Nat->Bool} {n:Nat} {p:Array Nat}
theorem Pm.size(h:Pm n p):p.size=n:=by have:=h.pm.length_eq; simpa using this
theorem Pm.bd(h:Pm n p)(hi:i<n):p.getD i 0<n:=by
 have hs:=h.size;have hi':i<p.toList.length:=by simpa[hs] using hi
 have:p.getD i 0=p.toList[i]:=by simp[Array.getD_eq_getD_getElem?,hs,hi]
 rw[this];exact Λ.mp (h.pm.mem_iff.mp (Ο hi'))
theorem Pm.ne(h:Pm n p)(hi:i<n)(hj:j<n)(hne:i≠j):p.getD i 0≠p.getD j 0:=by
 have hs:=h.size;have nd:p.toList.Nodup:=h.pm.nodup_iff.mpr List.nodup_range;have hi':i<p.toList.length:=by simpa[hs] using hi
 have hj':j<p.toList.length:=by simpa[hs] using hj
 have e1:p.getD i 0=p.toList[i]:=by simp[Array.getD_eq_getD_getElem?,hs,hi]
 have e2:p.getD j 0=p.toList[j]:=by simp[Array.getD_eq_getD_getElem?,hs,hj]
 rw[e1,e2];exact λe=>hne ((List.getElem_inj nd).mp e)
def So (lt:Nat->Nat->Bool) (p:Array Nat) (k:Nat):Prop:= ∀i j,i<j->j<k->lt (p.getD i 0) (p.getD j 0)=true
def De (lt:Nat->Nat->Bool) (p:Array Nat) (k:Nat):Prop:= ∀i j,i<j->j<k->lt (p.getD j 0) (p.getD i 0)=true
theorem So.one:So lt p 1:=λi j h1 h2=>by omega
theorem So.step(L:Lin lt n)(h:Pm n p)(h1:1<=k)(hk:k<n)(s:So lt p k)(e:lt (p.getD k 0) (p.getD (k-1) 0)=false):So lt p (k+1):=λi j hij hj=>by
 rcases Nat.lt_or_ge j k with w | w
 ·exact s i j hij w
 ·obtain rfl:j=k:=by omega
  have t:lt (p.getD (j-1) 0) (p.getD j 0)=true:=L.tot _ _ (h.bd hk) (h.bd (by omega)) (h.ne hk (by omega) (by omega)) e;by_cases hi:i=j-1
  ·rw[hi]; exact t
  ·exact L.tr _ _ _ (h.bd (by omega)) (h.bd (by omega)) (h.bd hk) (s i (j-1) (by omega) (by omega)) t
theorem De.step(L:Lin lt n)(h:Pm n p)(h1:1<=k)(hk:k<n)(s:De lt p k)(t:lt (p.getD k 0) (p.getD (k-1) 0)=true):De lt p (k+1):=λi j hij hj=>by
 rcases Nat.lt_or_ge j k with w | w
 ·exact s i j hij w
 ·obtain rfl:j=k:=by omega
  by_cases hi:i=j-1
  ·rw[hi]; exact t
  ·exact L.tr _ _ _ (h.bd hk) (h.bd (by omega)) (h.bd (by omega)) t (s i (j-1) (by omega) (by omega))
theorem Z1(L:Lin lt n)(h:Pm n p): ∀(f k:Nat),1<=k->k+f<=n->So lt p k->Sat lt n (kas_asc p f k) λm=>k<=m/\m<=k+f/\So lt p m/\(m=k+f\/lt (p.getD m 0) (p.getD (m-1) 0)=true)
 | 0,k,_,_,s=>⟨θ _,θ _,s,.inl rfl⟩
 | f+1,k,h1,h2,s=>by
  refine⟨h.bd (by omega),h.bd (by omega),?_⟩;cases hc:lt (p.getD k 0) (p.getD (k-1) 0) with
  | true=>exact⟨θ _,by omega,s,.inr hc⟩
  | false=>
   have:=Z1 L h f (k+1) (by omega) (by omega) (So.step L h h1 (by omega) s hc);show Sat lt n (kas_asc p f (k+1)) _;have key: ∀{t:KasT Nat} {P Q:Nat->Prop},Sat lt n t P->(∀a,P a->Q a)->Sat lt n t Q:=by
    intro t P Q
    induction t with
    | ret a=>exact λx y=>y a x
    | ask i j k ih=>exact λx y=>⟨x.1,x.2.1,ih _ x.2.2 y⟩
   exact key this λm ⟨a1,a2,a3,a4⟩=>⟨by omega,by omega,a3,a4.imp (λe=>by omega) id⟩
theorem Sat.mono{P Q:α->Prop}: ∀{t:KasT α},Sat lt n t P->(∀a,P a->Q a)->Sat lt n t Q
 | .ret a,x,y=>y a x
 | .ask i j k,x,y=>⟨x.1,x.2.1,Sat.mono x.2.2 y⟩
theorem YB(L:Lin lt n)(h:Pm n p): ∀(f k:Nat),2<=k->k+f<=n->De lt p k->Sat lt n (kas_desc f p k 0) λr=>r.1=p/\r.2.2=0/\k<=r.2.1/\r.2.1<=n/\De lt p r.2.1
 | 0,k,_,h2,s=>⟨rfl,rfl,θ _,by show k<=n; omega,s⟩
 | f+1,k,h1,h2,s=>by
  refine⟨h.bd (by omega),h.bd (by omega),?_⟩;cases hc:lt (p.getD k 0) (p.getD (k-1) 0) with
  | true=>
   exact(YB L h f (k+1) (by omega) (by omega) (De.step L h (by omega) (by omega) s hc)).mono λr ⟨a1,a2,a3,a4,a5⟩=>⟨a1,a2,by omega,a4,a5⟩
  | false=>
   refine⟨h.bd (by omega),h.bd (by omega),?_⟩;have t:lt (p.getD (k-1) 0) (p.getD k 0)=true:=L.tot _ _ (h.bd (by omega)) (h.bd (by omega)) (h.ne (by omega) (by omega) (by omega)) hc;rw[t];exact⟨rfl,rfl,θ _,by show k<=n; omega,s⟩
theorem rev_pm(h:Pm n p)(i j:Nat):Pm n (kas_rev p i j):=⟨(Array.perm_iff_toList_perm.mp (mirror_perm p i j ((j-i) / 2))).trans h.pm⟩
theorem XZ(h:Pm n p)(hm:m<=n)(hk:k<m):(kas_rev p 0 m).getD k 0=p.getD (m-1-k) 0:=by
 have hs:=h.size;have:=getElem?_mirror_all (xs:=p) (i:=0) (j:=m) (by omega) k;unfold kas_rev;rw[Array.getD_eq_getD_getElem?,this,if_pos (by omega),Array.getD_eq_getD_getElem?,show 0+m-1-k=m-1-k by omega]
theorem De.rev(h:Pm n p)(hm:m<=n)(d:De lt p m):So lt (kas_rev p 0 m) m:=λi j hij hj=>by
 rw[XZ h hm (by omega),XZ h hm hj];exact d _ _ (by omega) (by omega)
theorem count_sat(L:Lin lt n)(h:Pm n p)(h2:2<=n):Sat lt n (kas_count n p) λr=>1<=r.1/\r.1<=n/\Pm n r.2/\So lt r.2 r.1:=by
 unfold kas_count;refine Sat.bind (λm ⟨a1,a2,a3,a4⟩=>?_) (Z1 L h (n-1) 1 (θ _) (by omega) So.one);by_cases e:m=n
 ·rw[if_pos (by simpa using e)];exact⟨a1,by show m<=n; omega,h,a3⟩
 rw[if_neg (by simpa using e)];by_cases e1:m>1
 ·rw[if_pos e1];refine⟨h.bd (by omega),h.bd (by omega),?_⟩;rw[a3 0 (m-1) (by omega) (by omega)];exact⟨a1,by show m<=n; omega,h,a3⟩
 rw[if_neg e1];obtain rfl:m=1:=by omega
 have t:lt (p.getD 1 0) (p.getD 0 0)=true:=a4.resolve_left (by omega);unfold kas_descPart;refine Sat.bind (λr ⟨b1,b2,b3,b4,b5⟩=>?_) (YB L h (n-(1+1)) 2 (θ _) (by omega) λi j hij hj=>by
  obtain⟨rfl,rfl⟩:i=0/\j=1:=by omega
  exact t)
 rw[if_neg (by omega),b1];unfold kas_tail3;have hr:=rev_pm h 0 r.2.1;refine Sat.bind (λm' ⟨c1,c2,c3,_⟩=>?_) (Z1 L hr (n-r.2.1) r.2.1 (by omega) (by omega) (De.rev h b4 b5));exact⟨by show 1<=m'; omega,by show m'<=n; omega,hr,c3⟩
theorem wS(L:Lin lt n)(h:Pm n p)(hk:k<n)(s:So lt p k): ∀(f l r:Nat),l<=r->r<=k->r-l<=f->(∀i,i<l->lt (p.getD i 0) (p.getD k 0)=true)->(∀i,r<=i->i<k->lt (p.getD k 0) (p.getD i 0)=true)->
  Sat lt n (kas_place p k f l r) λm=>m<=k/\(∀i,i<m->lt (p.getD i 0) (p.getD k 0)=true)/\ ∀i,m<=i->i<k->lt (p.getD k 0) (p.getD i 0)=true
 | 0,l,r,h1,h2,h3,a,b=>⟨by show l<=k; omega,a,λi hi hk'=>b i (by omega) hk'⟩
 | f+1,l,r,h1,h2,h3,a,b=>by
  unfold kas_place;by_cases e:l>=r
  ·rw[if_pos e];exact⟨by omega,a,λi hi hk'=>b i (by omega) hk'⟩
  rw[if_neg e];have hm:(l+r) / 2<r:=by omega
  refine⟨h.bd hk,h.bd (by omega),?_⟩;cases hc:lt (p.getD k 0) (p.getD ((l+r) / 2) 0) with
  | true=>
   refine wS L h hk s f l ((l+r) / 2) (by omega) (by omega) (by omega) a λi hi hk'=>?_;by_cases ei:i=(l+r) / 2
   ·rw[ei]; exact hc
   ·exact L.tr _ _ _ (h.bd hk) (h.bd (by omega)) (h.bd (by omega)) hc (s _ i (by omega) hk')
  | false=>
   have t:=L.tot _ _ (h.bd hk) (h.bd (by omega)) (h.ne hk (by omega) (by omega)) hc;refine wS L h hk s f ((l+r) / 2+1) r (by omega) h2 (by omega) (λi hi=>?_) b;by_cases ei:i=(l+r) / 2
   ·rw[ei]; exact t
   ·exact L.tr _ _ _ (h.bd (by omega)) (h.bd (by omega)) (h.bd hk) (s i _ (by omega) (by omega)) t
theorem bub_pm(h:Pm n p)(k d:Nat):Pm n (bubble p k d):=⟨(Array.perm_iff_toList_perm.mp (bubble_perm p k d)).trans h.pm⟩
theorem Ww(h:Pm n p)(hk:k<n)(hl:l<=k):(bubble p k (k-l)).getD i 0=if i=l then p.getD k 0 else if l<i/\i<=k then p.getD (i-1) 0 else p.getD i 0:=by
 have hs:=h.size;have:=getElem?_bubble (xs:=p) (src:=k) (by omega) (k-l) (by omega) i;rw[Array.getD_eq_getD_getElem?,this,show k-(k-l)=l by omega];split
 ·rw[Array.getD_eq_getD_getElem?]
 ·split
  ·rw[Array.getD_eq_getD_getElem?]
  ·rw[Array.getD_eq_getD_getElem?]
theorem XM(L:Lin lt n): ∀(f k:Nat) (p:Array Nat),Pm n p->k+f=n->So lt p k->Sat lt n (kas_bin f p k) λq=>Pm n q/\So lt q n
 | 0,k,p,h,e,s=>⟨h,by rw[<-e]; exact s⟩
 | f+1,k,p,h,e,s=>by
  unfold kas_bin;refine Sat.bind (λl ⟨a1,a2,a3⟩=>?_) (wS L h (by omega) s k 0 k (Ι _) (θ _) (by omega) (λi hi=>by omega) λi h1 h2=>by omega);refine XM L f (k+1) _ (bub_pm h _ _) (by omega) λi j hij hj=>?_;rw[Ww h (by omega) a1,Ww h (by omega) a1];by_cases ei:i=l
  ·subst ei;rw[if_pos rfl,if_neg (by omega),if_pos (by omega)];exact a3 _ (by omega) (by omega)
  ·rw[if_neg ei];by_cases ej:j=l
   ·subst ej;rw[if_pos rfl,if_neg (by omega)];exact a2 i hij
   ·rw[if_neg ej];by_cases hi:l<i/\i<=k
    ·rw[if_pos hi,if_pos (by omega)];exact s _ _ (by omega) (by omega)
    ·rw[if_neg hi];by_cases hj':l<j/\j<=k
     ·rw[if_pos hj'];exact s _ _ (by omega) (by omega)
     ·rw[if_neg hj'];exact s _ _ hij (by omega)
theorem rng_pm(n:Nat):Pm n (List.toArray (List.range n)):=⟨by simp⟩
theorem sort_sat(L:Lin lt n)(h2:2<=n):Sat lt n (kas_sort n) λq=>Pm n q/\So lt q n:=by
 unfold kas_sort;refine Sat.bind (λr ⟨a1,a2,a3,a4⟩=>?_) (count_sat L (rng_pm n) h2);by_cases e:r.1<n
 ·rw[if_pos e];exact XM L _ _ _ a3 (by omega) (by rw[Nat.max_eq_left a1]; exact a4)
 ·rw[if_neg e];exact⟨a3,by rw[show n=r.1 by omega]; exact a4⟩
end
end PySem.W
namespace L2
open PySem PySem.Spec PyProof.Rows
end L2
namespace PySem
open Sem (wp)
section
variable {prog:Program} {w:World} {A:Around} {E:Value->Shared->Prop} {s:Shared}
open PySem.W in
open PySem.W in
end
end PySem
namespace L2
open PySem PySem.Spec PyProof.Rows
end L2
namespace PySem.W
open PySem PySem.Calls PyProof.Rows
section
variable {prog:Program} {w:World} {A:Around} {E:Value->Shared->Prop} {s:Shared}
abbrev ltR (keys:List (List Int)):Nat->Nat->Bool:=λi j=>lexI (decide ((keys.getD i []).length<(keys.getD j []).length)) (keys.getD i []) (keys.getD j [])
theorem sorted_col{C:Shared->Prop}{keys:List (List Int)}{Q:Value->Shared->Prop}(hcol: ∀(A':Around) (E':Value->Shared->Prop) (R:List Value->Shared->Prop),A'.handled=A.handled->(∀s1,C s1->R vs s1)->wpAny (model prog w) A' (collect u) R E' s)
  (hk:vs.length=keys.length) (h64:vs.length<64) (hlin:2<=vs.length->Lin (ltR keys) vs.length)
  (hrow: ∀s1,C s1-> ∀(i:Nat) (v:Value) (ks:List Int),vs[i]? =some v->keys[i]? =some ks->ks≠[]/\ ∃a o its n,v= .ref a/\s1.heap.get? a=some o/\o.cls= .type "tuple"/\o.data= .seq its n/\Nums its.toList ks)
  (h: ∀s1,C s1-> ∀D h' c (p:List Nat),s1.heap.objs.size<=D->(∀b o,s1.heap.get? b=some o->h'.get? b=some o)->p.Perm (List.range vs.length)->(∀i j,i<j->j<vs.length->ltR keys (p.getD i 0) (p.getD j 0)=true)->h'.get? D=some (seqObj "list" (p.map λi=>vs.getD i Value.none).toArray c)->Q (.ref D) {s1 with heap:=h'}):
  wpAny (model prog w) A (call (.builtin "sorted") [u]) Q E s:=by
 refine Calls.call_function_entry kind_sorted plain_sorted entry_sorted (args_sorted1 _) ?_;unfold Builtin.«sorted»;refine γ (m:=checkCount "sorted" 1 1 _) (ι ?_);refine γ (hcol _ _ _ rfl λs1 hs1=>?_);replace hrow:=hrow s1 hs1;replace h:=h s1 hs1;refine γ (wpAny_newList ?_ (by rw[sizeLine_eq]; omega));have keep1: ∀b o,s1.heap.get? b=some o->(s1.heap.push (seqObj "list" vs.toArray 0)).get? b=some o:=λb o q=>η _ q;have hoL:(s1.heap.push (seqObj "list" vs.toArray 0)).get? s1.heap.objs.size=some (seqObj "list" vs.toArray 0):=π _ rfl;show wpAny _ _ _ _ _ {s1 with heap:=s1.heap.push (seqObj "list" vs.toArray 0)};generalize s1.heap.push (seqObj "list" vs.toArray 0)=g1 at keep1 hoL ⊢;have hDlt:s1.heap.objs.size<g1.objs.size:=ν hoL;refine γ (wpAny_holding (wpAny_call_entry slot_list_sort ⟨_,hoL,rfl⟩ entry_list_sort ?body (args_list_sort _)))
 case body=>
  rw[list_sort_plain];refine γ (listItems_at hoL rfl ?_);refine γ (listUpdate_at hoL rfl ?_ (by rw[ψ,sizeLine_eq]; omega) (Ι _));obtain⟨e1,ho1⟩: ∃e1,(g1.update s1.heap.objs.size (Obj.mapSeq λ_=>(#[]:Array Value))).get? s1.heap.objs.size=some (seqObj "list" #[] e1):=⟨_,get?_update_seq hoL λ_=>#[]⟩;have keep2: ∀b o,s1.heap.get? b=some o->(g1.update s1.heap.objs.size (Obj.mapSeq λ_=>(#[]:Array Value))).get? b=some o:=λb o q=>by
   rw[Heap.get?_update_ne _ _ _ _ (Ν (ν q))];exact keep1 b o q
  show wpAny _ _ _ _ _ {s1 with heap:=g1.update s1.heap.objs.size (Obj.mapSeq λ_=>(#[]:Array Value))};generalize g1.update s1.heap.objs.size (Obj.mapSeq λ_=>(#[]:Array Value))=g2 at keep2 ho1 ⊢;refine γ (seqEpoch_at ho1 rfl ?_);refine γ (wpAny_newTuple ?_ (by show vs.length<=_; rw[sizeLine_eq]; omega));refine γ (wpAny_newList ?_ (Ι _));refine wpAny_holding ?_;show wpAny (model prog w) _ _ _ _ {s1 with heap:=(g2.push (seqObj "tuple" vs.toArray 0)).push (seqObj "list" #[] 0)};dsimp only;by_cases hn2:vs.toArray.size<2
  ·have ho3:((g2.push (seqObj "tuple" vs.toArray 0)).push (seqObj "list" #[] 0)).get? s1.heap.objs.size=some (seqObj "list" #[] e1):=η _ (η _ ho1);have keep3: ∀b o,s1.heap.get? b=some o->((g2.push (seqObj "tuple" vs.toArray 0)).push (seqObj "list" #[] 0)).get? b=some o:=λb o q=>η _ (η _ (keep2 b o q));generalize (g2.push (seqObj "tuple" vs.toArray 0)).push (seqObj "list" #[] 0)=g3 at keep3 ho3 ⊢;rw[if_pos hn2,if_pos hn2];refine γ (ι ?_);refine γ (ι (a:=((),SortSt.mk' general' (vs.toArray.zip vs.toArray) #[] 7 none)) ?_);dsimp only;have hl2:vs.length<2:=by rw[ψ] at hn2; exact hn2
   have hout:Array.map (λx=>x.snd) (arrOf (SortSt.mk' general' (vs.toArray.zip vs.toArray) #[] 7 none))=(List.toArray ((List.range vs.length).map λi=>vs.getD i Value.none)):=by
    show Array.map (λx=>x.snd) (vs.toArray.zip vs.toArray)=_
    match vs,hl2 with
    | [],_=>simp
    | [v],_=>simp
   rw[hout];obtain⟨c2,hc2⟩: ∃c2,(g3.update s1.heap.objs.size (Obj.mapSeq λ_=>List.toArray ((List.range vs.length).map λi=>vs.getD i Value.none))).get? s1.heap.objs.size=some (seqObj "list" (List.toArray ((List.range vs.length).map λi=>vs.getD i Value.none)) c2):=⟨_,get?_update_seq ho3 λ_=>List.toArray ((List.range vs.length).map λi=>vs.getD i Value.none)⟩;refine γ (seqEpoch_at ho3 rfl ?_);refine γ (listUpdate_at ho3 rfl ?_ (Ι _) (by rw[ψ,ε,Ξ,sizeLine_eq]; omega));simp only[bne_self_eq_false,Bool.false_eq_true,if_false];refine ι ⟨_,rfl,ι ⟨_,rfl,h _ _ c2 (List.range vs.length) (θ _) (λb o q=>?_) (List.Perm.refl _) (λi j hij hj=>by omega) hc2⟩⟩;rw[Heap.get?_update_ne _ _ _ _ (Ν (ν q))];exact keep3 b o q
  rw[if_neg hn2,if_neg hn2];have h2:2<=vs.length:=by rw[ψ] at hn2; omega
  have L2:=sort_sat (hlin h2) h2;have hok:=L2.ok.1;have hso:=L2.ok.2;have ho3:((g2.push (seqObj "tuple" vs.toArray 0)).push (seqObj "list" #[] 0)).get? s1.heap.objs.size=some (seqObj "list" #[] e1):=η _ (η _ ho1);have keep3: ∀b o,s1.heap.get? b=some o->((g2.push (seqObj "tuple" vs.toArray 0)).push (seqObj "list" #[] 0)).get? b=some o:=λb o q=>η _ (η _ (keep2 b o q));generalize (g2.push (seqObj "tuple" vs.toArray 0)).push (seqObj "list" #[] 0)=g3 at keep3 ho3 ⊢;have rows: ∀(i:Nat),i<vs.length-> ∃a o its n,vs.getD i Value.none= .ref a/\g3.get? a=some o/\o.cls= .type "tuple"/\o.data= .seq its n/\Nums its.toList (keys.getD i [])/\keys.getD i []≠[]:=λi hi=>by
   have hi':i<keys.length:=by omega
   obtain⟨h0,a,o,its,n,e1,e2,e3,e4,e5⟩:=hrow i vs[i] keys[i] (by simp[hi]) (by simp[hi']);refine⟨a,o,its,n,by simp[hi,e1],keep3 _ _ e2,e3,e4,by simpa[hi'] using e5,by simpa[hi'] using h0⟩
  have firsts: ∀(us:List Value),(∀v∈us,v∈vs)-> ∃fs,KatTups g3 us fs/\fs.length=us.length/\ ∀f∈fs,∃i t,f=Value.int i t:=by
   intro us
   induction us with
   | nil=>exact λ_=>⟨[],trivial,rfl,λf h=>nomatch h⟩
   | cons v us ih=>
    intro hm;obtain⟨fs,t1,t2,t3⟩:=ih λx hx=>hm x (χ _ hx);obtain⟨i,hi,rfl⟩:=List.getElem_of_mem (hm v υ);obtain⟨a,o,its,n,e1,e2,e3,e4,e5,e6⟩:=rows i hi;have ev:vs[i]= .ref a:=by simpa[hi] using e1
    rw[ev];generalize keys.getD i []=kk at e5 e6;cases its with | mk il=>
    cases e5 with
    | nil=>exact absurd rfl e6
    | @cons j t us' ns' hh=>exact⟨.int j t::fs,KatTups.cons e2 e3 e4 rfl t1,by rw[List.length_cons,t2]; rfl,λf hf=>by
      rcases Φ.mp hf with rfl | hf
      ·exact⟨_,_,rfl⟩
      ·exact t3 f hf⟩
  obtain⟨fs,t1,t2,t3⟩:=firsts vs λ_ h=>h;refine γ (kat_kind (T:= .type "int") t1 (by omega) (λf hf=>by
   obtain⟨i,t,rfl⟩:=t3 f hf;exact Looks.of_pure rfl) (by decide) ?_)
  have hcmp: ∀i j C,C (lexI (decide ((keys.getD i []).length<(keys.getD j []).length)) (keys.getD i []) (keys.getD j [])) ({s1 with heap:=g3}:Shared)->i<vs.length->j<vs.length->kas_ask prog w A.in1.in1 (tuples' (Value.type "int" !=Value.type "tuple")) vs i j C {s1 with heap:=g3}:=λi j C hC hi hj=>by
   unfold kas_ask;obtain⟨a,o,its,n,e1,e2,e3,e4,e5,e6⟩:=rows i hi;obtain⟨a',o',its',n',e1',e2',e3',e4',e5',e6'⟩:=rows j hj;rw[e1,e1'];refine kat_lt e2 e4 e2' e4' ?_;have hs1:its.size=(keys.getD i []).length:=by rw[<-Array.length_toList]; exact e5.len
   have hs2:its'.size=(keys.getD j []).length:=by rw[<-Array.length_toList]; exact e5'.len
   rw[hs1,hs2];exact Yl 0 e5 e5' hC
  refine γ (wpAny_mono (kat_run (κ:=tuples' (Value.type "int" !=Value.type "tuple")) (Q:=λst' s'=> ∃p:Array Nat,p.size=vs.length/\arrOf st'=p.map (kas_item (vs.toArray.zip vs.toArray))/\failedOf st'=none/\p=(kas_sort vs.length).eval (λi j=>lexI (decide ((keys.getD i []).length<(keys.getD j []).length)) (keys.getD i []) (keys.getD j []))/\s'={s1 with heap:=g3}) rfl h2 h64 (λp' st' s' a1 a2 a3 a4=>⟨p',a1,a2,a3,a4⟩) (KasT.eval_wp (n:=vs.length) hcmp _ hok ⟨rfl,rfl⟩)) ?_ λ_ _ e=>e);rintro⟨⟨⟩,st'⟩ s' ⟨p,hp,har,hf,rfl,rfl⟩;dsimp only;have hout:=kat_snds rfl har;generalize (kas_sort vs.length).eval (λi j=>lexI (decide ((keys.getD i []).length<(keys.getD j []).length)) (keys.getD i []) (keys.getD j []))=p at hp hout hso;have ppm:p.toList.Perm (List.range vs.length):=hso.1.pm;have pso: ∀i j,i<j->j<vs.length->ltR keys (p.toList.getD i 0) (p.toList.getD j 0)=true:=λi j hij hj=>by
   have e:=hso.2 i j hij hj
   rwa [show p.getD i 0=p.toList.getD i 0 by simp[Array.getD_eq_getD_getElem?,List.getD_eq_getElem?_getD],show p.getD j 0=p.toList.getD j 0 by simp[Array.getD_eq_getD_getElem?,List.getD_eq_getElem?_getD]] at e
  have hsz':(List.toArray (p.toList.map λi=>vs.getD i Value.none)).size=vs.length:=by rw[ψ,ε,Array.length_toList,hp]
  rw[hout];obtain⟨c2,hc2⟩: ∃c2,(g3.update s1.heap.objs.size (Obj.mapSeq λ_=>List.toArray (p.toList.map λi=>vs.getD i Value.none))).get? s1.heap.objs.size=some (seqObj "list" (List.toArray (p.toList.map λi=>vs.getD i Value.none)) c2):=⟨_,get?_update_seq ho3 λ_=>List.toArray (p.toList.map λi=>vs.getD i Value.none)⟩;refine γ (seqEpoch_at ho3 rfl ?_);refine γ (listUpdate_at ho3 rfl ?_ (Ι _) (Τ (Nat.le_of_eq hsz') (by rw[sizeLine_eq]; omega)));rw[hf];simp only[bne_self_eq_false,Bool.false_eq_true,if_false];refine ι ⟨_,rfl,ι ⟨_,rfl,h _ _ c2 p.toList (θ _) (λb o q=>?_) ppm pso hc2⟩⟩;rw[Heap.get?_update_ne _ _ _ _ (Ν (ν q))];exact keep3 b o q
end
theorem Yn: ∀xs:List Int,lexI false xs xs=false
 | []=>rfl
 | x::xs=>by unfold lexI; rw[if_pos rfl]; exact Yn xs
theorem Xn: ∀{xs ys zs:List Int},lexI false xs ys=true->lexI false ys zs=true->lexI false xs zs=true
 | [],_,_,h,_=>by cases h
 | _::_,[],_,h,_=>by cases h
 | _::_,_::_,[],_,h=>by cases h
 | x::xs,y::ys,z::zs,h1,h2=>by
  unfold lexI at h1 h2 ⊢;by_cases e1:x=y
  ·rw[if_pos e1] at h1;by_cases e2:y=z
   ·rw[if_pos e2] at h2;rw[if_pos (e1.trans e2)];exact Xn h1 h2
   ·rw[if_neg e2] at h2;have:=of_decide_eq_true h2;rw[if_neg (by omega)];exact decide_eq_true (by omega)
  ·rw[if_neg e1] at h1;have a:=of_decide_eq_true h1;by_cases e2:y=z
   ·rw[if_neg (by omega)];exact decide_eq_true (by omega)
   ·rw[if_neg e2] at h2;have b:=of_decide_eq_true h2;rw[if_neg (by omega)];exact decide_eq_true (by omega)
theorem Ym: ∀{xs ys:List Int},xs.length=ys.length->xs≠ys->lexI false xs ys=false->lexI false ys xs=true
 | [],[],_,h,_=>absurd rfl h
 | [],_::_,h,_,_=>by simp at h
 | _::_,[],h,_,_=>by simp at h
 | x::xs,y::ys,hl,hne,h=>by
  unfold lexI at h ⊢;by_cases e:x=y
  ·subst e;rw[if_pos rfl] at h ⊢;exact Ym (by simpa using hl) (λz=>hne (by rw[z])) h
  ·rw[if_neg e] at h;have:=of_decide_eq_false h;rw[if_neg (Ne.symm e)];exact decide_eq_true (by omega)
theorem lin_rows(hl: ∀k∈keys,k.length=m)(nd:keys.Nodup):Lin (ltR keys) keys.length:=by
 have at': ∀i,i<keys.length->(keys.getD i []).length=m:=λi hi=>hl _ (by rw[ζ,δ hi]; exact Ο hi);have e: ∀i j,i<keys.length->j<keys.length->ltR keys i j=lexI false (keys.getD i []) (keys.getD j []):=λi j hi hj=>by
  unfold ltR;rw[at' i hi,at' j hj,decide_eq_false (Nat.lt_irrefl _)]
 refine⟨λi hi=>by rw[e i i hi hi]; exact Yn _,λi j k hi hj hk h1 h2=>?_,λi j hi hj hne h=>?_⟩
 ·rw[e _ _ hi hj] at h1;rw[e _ _ hj hk] at h2;rw[e _ _ hi hk];exact Xn h1 h2
 ·rw[e _ _ hi hj] at h;rw[e _ _ hj hi];refine Ym (by rw[at' i hi,at' j hj]) (λz=>hne ?_) h;rw[ζ,ζ,δ hi,δ hj] at z;exact(List.getElem_inj nd).mp z
end PySem.W
namespace L2
open PySem PySem.Spec PyProof.Rows
section
variable {X:Cx} {k:Nat}
theorem RowsAt.perm(h:RowsAt H as keys): ∀p:List Nat,(∀i∈p,i<keys.length)->RowsAt H (p.map λi=>as.getD i 0) (p.map λi=>keys.getD i [])
 | [],_=>trivial
 | i::p,hp=>by
  have hi:=hp i υ;have hi':i<as.length:=by rw[h.len]; exact hi
  refine⟨?_,RowsAt.perm h p λj hj=>hp j (χ _ hj)⟩;show H (as.getD i 0)=some (.tup ((keys.getD i []).map V.int));obtain⟨ks,e1,e2⟩:=h.at (i:=i) (a:=as[i]) (by simp[hi']);rw[show as.getD i 0=as[i] by simp[hi'],e2,show keys.getD i []=ks by rw[ζ,e1]; rfl]
theorem perm_rows{keys:List (List Int)}{p:List Nat}(hp:p.Perm (List.range keys.length)):(p.map λi=>keys.getD i []).Perm keys:=by
 refine(hp.map _).trans (List.Perm.of_eq ?_);refine List.ext_getElem (by simp) λi h1 h2=>?_;have:i<keys.length:=h2;simp[List.getD_eq_getElem?_getD,this]
theorem pair_rows{keys:List (List Int)}{p:List Nat}(hl:p.length=keys.length)(h: ∀i j,i<j->j<keys.length->PySem.W.lexI false (keys.getD (p.getD i 0) []) (keys.getD (p.getD j 0) [])=true):(p.map λi=>keys.getD i []).Pairwise λa b=>PySem.W.lexI false a b=true:=by
 rw[List.pairwise_iff_getElem];intro i j hi hj hij;have hi':i<p.length:=by simpa using hi
 have hj':j<p.length:=by simpa using hj
 have:=h i j hij (by omega);rw[List.getElem_map,List.getElem_map]
 rwa [show p.getD i 0=p[i] by simp[hi'],show p.getD j 0=p[j] by simp[hj']] at this
def XN (H:Hp) (Q:VK) (keys:List (List Int)):Prop:= ∀(D:Addr) (as':List Addr) (ks':List (List Int)),H D=none->RowsAt H as' ks'->ks'.Perm keys->(ks'.Pairwise λa b=>PySem.W.lexI false a b=true)->Q (.ref D) (upd H D (.lst (as'.map V.ref)))
theorem sort_end(hr:RowsAt H as keys)(hl: ∀ks∈keys,ks.length=m)(q:XN H Q keys){p:List Nat}(hp:p.Perm (List.range keys.length))
  (hs: ∀i j,i<j->j<keys.length->PySem.W.ltR keys (p.getD i 0) (p.getD j 0)=true) (hD:H D=none):Q (.ref D) (upd H D (.lst ((p.map λi=>as.getD i 0).map V.ref))):=by
 have hpl:p.length=keys.length:=by rw[hp.length_eq,Ξ]
 have hlt: ∀i∈p,i<keys.length:=λi hi=>Λ.mp (hp.mem_iff.mp hi);have at': ∀i,i<keys.length->(keys.getD i []).length=m:=λi hi=>hl _ (by rw[ζ,δ hi]; exact Ο hi);refine q D _ _ hD (hr.perm p hlt) (perm_rows hp) (pair_rows hpl λi j hij hj=>?_);have e:=hs i j hij hj;have b1:p.getD i 0<keys.length:=hlt _ (by rw[ζ,δ (by omega)]; exact Ο _);have b2:p.getD j 0<keys.length:=hlt _ (by rw[ζ,δ (by omega)]; exact Ο _);unfold PySem.W.ltR at e
 rwa [at' _ b1,at' _ b2,decide_eq_false (Nat.lt_irrefl _)] at e
def rSortL:List V->Hp->VK->Prop:=λxs H Q=> ∃(l:Addr) (as:List Addr) (keys:List (List Int)) (m:Nat),xs=[.ref l]/\H l=some (.lst (as.map V.ref))/\RowsAt H as keys/\0<m/\(∀ks∈keys,ks.length=m)/\keys.Nodup/\keys.length<64/\XN H Q keys
theorem refs_perm{as:List Addr}{n:Nat}(hn:as.length=n){p:List Nat}(hp: ∀i∈p,i<n):(p.map λi=>(as.map V.ref).getD i .non)=(p.map λi=>as.getD i 0).map V.ref:=by
 rw[List.map_map];refine List.map_congr_left λi hi=>?_;have:i<as.length:=by rw[hn]; exact hp i hi
 simp[this]
theorem call_sortL:yk X (.builtin "sorted") rSortL:=by
 intro pins s σ H xs us Q I r h;obtain⟨l,as,keys,m,rfl,hl,hrows,m0,hlen,nd,h64,q⟩:=h;obtain⟨u,rfl,ru⟩:=r.one;cases ru
 obtain⟨its,rv,pl,hz⟩:=I.list (SqL.of hl);have hlen':its.length=keys.length:=by rw[<-rv.length,ε,hrows.len]
 have hsz:((s.heap.push (seqObj "list" #[] 0)).update s.heap.objs.size (Obj.mapSeq (· ++its.toArray))).objs.size=s.heap.objs.size+1:=by rw[Heap.size_update,size_push']
 have keep1: ∀b o,s.heap.get? b=some o->((s.heap.push (seqObj "list" #[] 0)).update s.heap.objs.size (Obj.mapSeq (· ++its.toArray))).get? b=some o:=λb o e=>by
  have hlt:b<s.heap.objs.size:=ν e;rw[Heap.get?_update_ne _ _ _ _ (Ν hlt),Heap.get?_push_ne _ _ _ (Ν hlt)];exact e
 refine PySem.W.sorted_col (u:= .ref l) (C:=λs1=>s1={s with heap:=(s.heap.push (seqObj "list" #[] 0)).update s.heap.objs.size (Obj.mapSeq (· ++its.toArray))}) (vs:=its) (keys:=keys) (λA' E' R hh hR=>collect_list pl.isList (hR _ rfl) (by rw[sizeLine_eq]; omega)) hlen' (by omega) (λ_=>by rw[hlen']; exact PySem.W.lin_rows hlen nd) ?_ ?_
 ·rintro _ rfl i v ks hv hk;have hi:i<as.length:=by
   have:=(ξ.mp hv).1;rw[hlen',<-hrows.len] at this;exact this
  obtain⟨ks',e1,e2⟩:=hrows.at (i:=i) (a:=as[i]) (by simp[hi]);rw[hk] at e1;cases e1
  obtain⟨jts,r2,pt,_⟩:=I.tuple (SqT.of e2);obtain⟨o,ho,hc,n,hd⟩:=pt;refine⟨λz=>by have:=hlen ks (ο hk); rw[z] at this; simp at this; omega,as[i],o,jts.toArray,n,?_,keep1 _ _ ho,hc,hd,by simpa using Xj r2⟩;have:=Vals.getD rv i;rw[show(as.map V.ref).getD i .non=V.ref as[i] by simp[hi]] at this;have hv':its.getD i .none=v:=by rw[ζ,hv]; rfl
  rw[hv'] at this;exact this
 ·rintro _ rfl D h' c p hD hk hp hs hd;rw[hlen'] at hp hs;have hpl:p.length=keys.length:=by rw[hp.length_eq,Ξ]
  have hDs:s.heap.objs.size<=D:=Nat.le_of_succ_le (Τ (Nat.le_of_eq hsz.symm) hD);refine⟨.ref D,_,I.laid (t':=s.toks) (λb o e=>hk b o (keep1 b o e)) hDs ?_,rfl,sort_end hrows hlen q hp hs (I.hok.fresh hDs)⟩;refine⟨by rw[ε,ε,hpl]; exact Nat.le_of_lt (zq (by omega)),_,c,?_,hd⟩;rw[<-refs_perm hrows.len λi hi=>Λ.mp (hp.mem_iff.mp hi)];exact Vals.perm rv p
end
end L2
namespace K17
open PySem L2 G2 WG EL
local macro_rules | `(tactic| walk_at "v") => `(tactic| repeat (with_reducible first | walk_at "c" | refine yA ?_ | refine yB ?_ | refine yC ?_ | refine w_sl ?_ | refine z0 ?_ | refine yM ?_ | refine xS ?_))
abbrev sCd:Stmt:=top 1
abbrev nCd:List Str:=["numbers","divisor","number","other","rest"]
theorem nmCd:Nm nCd (zd sCd):=nmk (nofun)
theorem scCd:FnScope nCd ["numbers"] (zd sCd):=fsk (nofun)
def spCd:Sp:=λvs H Q _=> ∃(p:Addr) (xs:List Int),vs=[.ref p]/\H p=some (.lst (xs.map V.int))/\Q (.int ((gcdL xs:Nat):Int)) H
section
variable {P:Program} {w:World} {K:W.Frag} {mg:Str->Option Value} {base:Heap}
theorem ok_Cd(B:Bl mg)(F:Fun K "common_divisor" "common_divisor" sCd f fd):FnOk P w K mg base CX0 1 f fd ["numbers"] spCd:=by
 refine F.ok scCd (λvs H Q E h=>?_) (λcdv A outer s H vs Q E hr h=>?_)
 ·obtain⟨p,xs,rfl,_⟩:=h;rfl
 obtain⟨p,xs,rfl,hp,k⟩:=h;refine'⟨_,?hb,?rd⟩
 case' hb=>skip
 case' hb=>refine' ze ?g1 ?g2
 case' g2=>refine' ze ?g3 ?g4
 case' g4=>refine' zi ?g5
 case g1=>exact zj nmCd 1 zg
 case' g3=>refine' ye Ψ rfl ?g6 (pgd nmCd 2) ?g7
 case g6=>exact yf (pvd nmCd 0)
 case' g7=>refine' ze ?g8 ?g9
 case' g9=>refine' zi ?g10
 case g8=>exact zj nmCd 3 (zP wL B.abs PyProof.Rows.boot_abs (pa_1 (pvd nmCd 2)))
 case' g10=>refine' vB Ψ ?g11 ?g12
 case g11=>exact zv wC (pvd nmCd 3) zg (zw _)
 case' g12=>refine' ze ?g13 ?g14
 case' g14=>refine' ze ?g15 ?g16
 case' g16=>refine' zi ?g17
 case g13=>exact zj nmCd 4 (zo xk (pvd nmCd 1) (pvd nmCd 3))
 case g15=>exact zj nmCd 1 (pvd nmCd 3)
 case g17=>exact zj nmCd 3 (pvd nmCd 4)
 case g5=>exact zr (pvd nmCd 1)
 nofun;refine⟨p,rfl,⟨_,SqL.of hp⟩,?_⟩;refine wF (xs:=xs.map V.int) (λi σ H'=> ∃u2 u3 u4,σ=[some (.ref p),some (.int ((gcdL (xs.take i):Nat):Int)),u2,u3,u4]/\H=H') ⟨none,none,none,rfl,rfl⟩ (λi σ H' _ ⟨_,_,_,_,e⟩=>e▸SqL.of hp) ?_ ?_
 ·rintro i x σ H' hx ⟨u2,u3,u4,rfl,rfl⟩;obtain⟨hi,rfl⟩:=itI hx;nofun;refine⟨_,rfl,?_⟩;rw[absN];nofun;refine Zy ⟨λn σ H'=> ∃(d o:Nat) (u4:Option V),σ=[some (.ref p),some (.int (d:Int)),some (.int (xs.getD i 0)),some (.int (o:Int)),u4]/\H=H'/\n=o/\Nat.gcd d o=Nat.gcd (gcdL (xs.take i)) (xs.getD i 0).natAbs,⟨_,_,_,u4,rfl,rfl,rfl,rfl⟩,?_⟩;rintro n σ H' ⟨d,o,u4',rfl,rfl,rfl,hg⟩;nofun;refine⟨rfl,?_⟩;nofun;refine Zj (λh=>?_) (λh=>?_)
  ·have ho:n≠0:=λz=>h (by rw[z]; rfl);refine⟨_,fun σ' H' w=>⟨d%n,Nat.mod_lt _ (by omega),w⟩,?_⟩;nofun;refine⟨_,_,rfl,rfl,by omega,?_⟩;nofun;refine⟨n,d%n,_,rfl,rfl,rfl,?_⟩;rw[<-hg,Nat.gcd_comm,<-Nat.gcd_rec,Nat.gcd_comm]
  ·have ho:n=0:=by injection h with h; omega
   subst ho;rw[Nat.gcd_zero_right] at hg;rw[hg,<-Yr xs i hi];exact⟨_,_,_,rfl,rfl⟩
 ·rintro σ H' ⟨u2,u3,u4,rfl,rfl⟩;rw[ε,List.take_length];nofun;exact k
abbrev sMe:Stmt:=wE (top 10) 7
abbrev nMe:List Str:=["self","tops","unknown","numbers","divisor"]
theorem nmMe:Nm nMe (zd sMe):=nmk (nofun)
theorem scMe:FnScope nMe ["self"] (zd sMe):=fsk (nofun)
def qMea (s:Stmt):Scope:=match s with
 | .Assign _ (.ListComp _ _ sc _) _=>sc
 | _=>nsc
abbrev cMea:Scope:=qMea ((zm sMe).getD 0 (.Pass ⟨0,0,0,0⟩))
theorem bsMea:BScope (zd sMe) cMea ["column"] [] []:={}
def qMeb (s:Stmt):Scope:=match s with
 | .Return (some (.Tuple [(.Call _ [(.ListComp _ _ sc _)] _ _),_] _ _)) _=>sc
 | _=>nsc
abbrev cMeb:Scope:=qMeb ((zm sMe).getD 3 (.Pass ⟨0,0,0,0⟩))
theorem bsMeb:BScope (zd sMe) cMeb ["top"] ["divisor"] []:={}
theorem loMe_1:(zd sMe).names.lookup ("tops":Str)=some .local:=nofun
def topF (S:Tb) (n:Nat):Nat->Nat->Int
 | 0,_=>0
 | i+1,j=>if S.ru i=j then S.M j n else topF S n i j
theorem Y0{S:Tb}: ∀{i j:Nat},(∃r,r<i/\S.ru r=j)->topF S n i j=S.M j n
 | 0,_,⟨_,h,_⟩=>by omega
 | i+1,j,⟨r,h,e⟩=>by
  unfold topF;by_cases z:S.ru i=j
  ·rw[if_pos z]
  ·rw[if_neg z];exact Y0 ⟨r,by have:r≠i:=λq=>z (q▸e); omega,e⟩
theorem Z6{S:Tb}: ∀{i j:Nat},(∀r,r<i->S.ru r≠j)->topF S n i j=0
 | 0,_,_=>rfl
 | i+1,j,h=>by
  unfold topF;rw[if_neg (h i (by omega))];exact Z6 λr hr=>h r (by omega)
theorem topF_all{n m:Nat}{v:Nat->Nat->Int}{S:Tb}(I:Inv n m v S){j:Nat}(hj:j<n):topF S n m j=S.M j n:=by
 rcases I.al j (by omega) with ⟨r,hr,e⟩ | ⟨c,hc,e⟩
 ·exact Y0 ⟨r,hr,e⟩
 ·rw[Z6 λr hr z=>I.rc r hr c hc (z.trans e.symm),<-e,I.mc c hc n (θ _),if_neg (by omega)]
def spMe (C:Addr):Sp:=λvs H Q _=> ∃(o:Addr) (n m:Nat) (v:Nat->Nat->Int) (S:Tb) (t:Nat) (dx pr pu pc:Addr) (ras:List Addr),vs=[.ref o]/\TbA H C o n m S t dx pr pu pc ras/\Inv n m v S/\n<=40/\m<=60/\Sm S.D/\
 ∀H' q p (g:Int),Same H H'->0<g->g ∣ S.D->(∀j<n,g ∣ S.M j n)->H' q=some (.tup [.ref p,.int (S.D / g)])->H' p=some (.tup ((List.range n).map λj=>V.int (S.M j n / g)))->Q (.ref q) H'
theorem ok_Me{f:Addr}{fd:FuncData}{C:Addr}(R:TC K C)(B:Bl mg)(fC:Has P w K mg base 1 "common_divisor" ["numbers"] spCd)(F:Fun K "met" "Tableau.met" sMe f fd):FnOk P w K mg base CX0 2 f fd ["self"] (spMe C):=by
 refine F.ok scMe (λvs H Q E h=>?_) (λcdv A outer s H vs Q E hr h=>?_)
 ·obtain⟨o,n,m,v,S,t,dx,pr,pu,pc,ras,rfl,_⟩:=h;rfl
 obtain⟨o,n,m,v,S,t,dx,pr,pu,pc,ras,rfl,T,I,hn,hm,hsd,k⟩:=h;refine'⟨_,?hb,?rd⟩
 case' hb=>skip
 case' hb=>refine' ze ?g1 ?g2
 case' g2=>refine' ze ?g3 ?g4
 case' g4=>refine' ze ?g5 ?g6
 case' g6=>refine' zi ?g7
 case' g1=>refine' yi (i:=1) (ix:=[]) nmMe.nd rfl loMe_1 bsMea.toCScope rfl rfl ?g8 ?g9 ?g10 ?g11
 case g8=>exact yc B.range (pa_1 (zG (pvd nmMe 0) rfl))
 case g9=>exact λ_ _ _ _ _ _=>pgb bsMea 0
 case g10=>exact λ_ _ _ _ _ _=>zu
 case g11=>exact λ_ _ _ _ _ _=>zg
 case' g3=>refine' ye Ψ rfl ?g12 (xM rfl (zt (pgd nmMe 2) (zt (pgd nmMe 3) zS))) ?g13
 case g12=>exact wU B.zip (pa_2 (zG (pvd nmMe 0) rfl) (zG (pvd nmMe 0) rfl))
 case' g13=>refine' zi ?g14
 case' g14=>refine' zZ ?g15 ?g16 zB
 case g15=>exact zv wD (pvd nmMe 2) (zG (pvd nmMe 0) rfl) (zw _)
 case' g16=>refine' zi ?g18
 case g18=>exact zX (ziq (pvd nmMe 3) (xQ yX zg)) (ya (pvd nmMe 1) (pvd nmMe 2) yu)
 case g5=>exact zj nmMe 4 (pe_f fC hr (by decide) (pa_1 (zo wV (zR (pa_1 (zG (pvd nmMe 0) rfl))) (pvd nmMe 1))))
 case' g7=>refine' zr ?g19
 case' g19=>refine' yr ?g20
 case' g20=>refine' pa_2 ?g21 (zo EL.op_fdivL (zG (pvd nmMe 0) rfl) (pvd nmMe 4))
 case' g21=>refine' zV zz B.tuple Η ?g22
 case' g22=>refine' pa_1 ?g23
 case' g23=>refine' zy (ix:=[4]) bsMeb.toCScope rfl rfl ?g24 ?g25 ?g26 ?g27
 case g24=>exact yf (pvd nmMe 1)
 case g25=>exact λ_ _ _ _ _ _=>pgb bsMeb 0
 case g26=>exact λ_ _ _ _ _ _=>zu
 case g27=>exact λ_ _ _ _ _ _=>zo EL.op_fdivL (pvb bsMeb 0) (pvb bsMeb 1)
 nofun;refine zO ?_;nofun;refine⟨o,C,_,_,_,rfl,T.ob,R.c,R.n1,rfl,?_⟩;nofun;refine⟨_,rfl,by omega,by omega,λD1 hD1=>?_⟩;rw[Θ];refine xO (λi=>V.int 0) (by omega) hD1 (λi hi H' K' R' kR=>?_) (λH1 K1 e1=>?_)
 ·nofun;exact kR _ (Same.refl _)
 have T1:=T.same λa u e _=>K1 a u e;nofun;refine vg ?_;nofun;refine zO ?_;nofun;refine⟨o,C,_,_,_,rfl,T1.ob,R.c,R.n4,rfl,?_⟩;nofun;refine zO ?_;nofun;refine⟨o,C,_,_,_,rfl,T1.ob,R.c,R.n3,rfl,?_⟩;refine⟨pu,pr,rfl,⟨_,SqL.of T1.ru⟩,⟨_,SqL.of T1.rs⟩,?_⟩;have hrl:=T.rl;refine Yt (xs:=natV m S.ru) (zs:=ras.map V.ref) (by rw[yb,ε]; omega) (λi σ H'=> ∃u2 u3 u4,σ=[some (.ref o),some (.ref D1),u2,u3,u4]/\Same H H'/\H' D1=some (.lst ((List.range n).map λj=>V.int (topF S n i j)))) ⟨_,_,_,rfl,K1,e1⟩ (λi σ H' ⟨_,_,_,_,K',_⟩=>⟨SqL.of (K' _ _ T.ru),SqL.of (K' _ _ T.rs)⟩) ?_ ?_
 ·rintro i x y σ H' p hx hy ⟨u2,u3,u4,rfl,K',e'⟩ hp;have hi:i<m:=by have:=(ξ.mp hx).1; rw[yb] at this; exact this
  obtain⟨a,f1,f2⟩:=T.row hi;rw[yq hi] at hx;cases hx
  rw[μ,f1] at hy;cases hy
  have kp:Same H' (upd H' p (.tup [.int ((S.ru i:Nat):Int),.ref a])):=Same.new (Same.refl _) hp;have ep:upd H' p (.tup [.int ((S.ru i:Nat):Int),.ref a]) p=some (.tup [.int ((S.ru i:Nat):Int),.ref a]):=zf;generalize upd H' p (.tup [.int ((S.ru i:Nat):Int),.ref a])=H2 at kp ep ⊢;refine⟨p,[.int ((S.ru i:Nat):Int),.ref a],rfl,SqT.of ep,rfl,.int ((S.ru i:Nat):Int),[.ref a],rfl,?_⟩;nofun;refine⟨.ref a,[],rfl,?_⟩;nofun;refine⟨rfl,?_⟩;have K2:=K'.trans kp;nofun;refine zO ?_;nofun;refine⟨o,C,_,_,_,rfl,(K2 _ _ T.ob),R.c,R.n1,rfl,?_⟩;nofun;refine iteD (λh1=>?_) (λh1=>?_)
  ·nofun;refine⟨_,rfl,?_⟩;refine zC (K2 _ _ f2) wQ ?_;nofun;refine xP (kp _ _ e') (j:=S.ru i) (by rw[ε,Ξ]; exact x6 (by omega)) ?_;refine⟨_,_,_,rfl,K2.put hD1,?_⟩;rw[zf];congr 2;refine List.ext_getElem? λj=>?_;by_cases hj:j<n
   ·rw[μ,List.getElem?_range hj];by_cases e:S.ru i=j
    ·rw[e,List.getElem?_set_self (by simp[hj])];simp[topF,e]
    ·rw[List.getElem?_set_ne e,μ,List.getElem?_range hj];simp[topF,e]
   ·rw[List.getElem?_eq_none (by simp; omega),List.getElem?_eq_none (by simp; omega)]
  ·refine⟨_,_,_,rfl,K2,?_⟩;rw[kp _ _ e'];congr 2;refine List.map_congr_left λj hj=>?_;have hj:=Λ.mp hj;have:S.ru i≠j:=by omega
   simp[topF,this]
 ·rintro σ H2 ⟨u2,u3,u4,rfl,K2,e2⟩;rw[yb] at e2;have e2':H2 D1=some (.lst (((List.range n).map λj=>S.M j n).map V.int)):=by
   rw[e2,List.map_map];congr 2;exact List.map_congr_left λj hj=>by rw[topF_all I (Λ.mp hj)]; rfl
  have T2:=T.same λa u e _=>K2 a u e;nofun;refine zO ?_;nofun;refine⟨o,C,_,_,_,rfl,T2.ob,R.c,R.n2,rfl,?_⟩;refine⟨sz1,λl2 hl2=>?_⟩;obtain⟨H3,q,k3,e3⟩:=nob (.lst [.int S.D]) hl2; rw[q]; clear q;nofun;refine⟨l2,D1,_,_,rfl,rfl,e3,k3 _ _ e2',by rw[ε,ε,Ξ]; show 1+n<=sizeLine; exact Τ (show 1+n<=1000 by omega) (by decide),λl4 hl4=>?_⟩;have k4:Same H3 (upd H3 l4 (.lst ([.int S.D]++((List.range n).map λj=>S.M j n).map V.int))):=Same.new (Same.refl _) hl4;have e4:upd H3 l4 (.lst ([.int S.D]++((List.range n).map λj=>S.M j n).map V.int)) l4=some (.lst ((S.D::(List.range n).map λj=>S.M j n).map V.int)):=zf;generalize upd H3 l4 (.lst ([.int S.D]++((List.range n).map λj=>S.M j n).map V.int))=H4 at k4 e4 ⊢;have K04:=(K2.trans k3).trans k4;refine⟨l4,_,rfl,e4,?_⟩;have hgd: ∀x∈S.D::(List.range n).map (λj=>S.M j n),((gcdL (S.D::(List.range n).map λj=>S.M j n):Nat):Int) ∣ x:=λx hx=>by
   have:=xG hx;exact Int.ofNat_dvd_left.mpr this
  have hg0:(0:Int)<((gcdL (S.D::(List.range n).map λj=>S.M j n):Nat):Int):=by
   rcases Nat.eq_zero_or_pos (gcdL (S.D::(List.range n).map λj=>S.M j n)) with z | z
   ·have:=xc z S.D υ;have:=I.D0;omega
   ·omega
  have hgs:Sm ((gcdL (S.D::(List.range n).map λj=>S.M j n):Nat):Int):=by
   have h1:=x8 (xs:=S.D::(List.range n).map λj=>S.M j n) υ (by have:=I.D0; omega);have h2:S.D.natAbs<2^4000:=hsd;show(Int.natAbs ((gcdL _:Nat):Int))<2^4000;rw[Int.natAbs_natCast];exact Nat.lt_of_le_of_lt h1 h2
  generalize ((gcdL (S.D::(List.range n).map λj=>S.M j n):Nat):Int)=g at hgd hg0 hgs ⊢;nofun;have e42:=k4 _ _ (k3 _ _ e2');refine⟨D1,rfl,⟨_,SqL.of e42⟩,λD5 hD5=>?_⟩;rw[List.map_map] at e42;refine vZ (ws:=List.range n) (V.int ∘ λj=>S.M j n) (λj=>V.int (S.M j n / g)) e42 (by rw[Ξ]; omega) hD5 (λj hj H' K' R' kR=>?_) (λH5 K5 e5=>?_)
  ·nofun;refine⟨_,_,rfl,rfl,⟨hg0,Y3 hgs⟩,?_⟩;exact kR _ (Same.refl _)
  nofun;refine⟨D5,_,rfl,e5,λl6 H6 K6 e6=>?_⟩;have K06:=(K04.trans K5).trans K6;nofun;refine zO ?_;nofun;refine⟨o,C,_,_,_,rfl,(K06 _ _ T.ob),R.c,R.n2,rfl,?_⟩;nofun;refine⟨_,_,rfl,rfl,⟨hg0,Y3 hgs⟩,?_⟩;refine⟨sz2,λl7 hl7=>?_⟩;have k7:Same H6 (upd H6 l7 (.tup [.ref l6,.int (S.D / g)])):=Same.new (Same.refl _) hl7;exact k _ l7 l6 g (K06.trans k7) hg0 (hgd _ υ) (λj hj=>hgd _ (χ _ (List.mem_map_of_mem (f:=λj=>S.M j n) (Λ.mpr hj)))) zf (k7 _ _ e6)
abbrev sBo:Stmt:=wE (top 10) 8
abbrev nBo:List Str:=["self","row","pairs","unknown","number","divisor"]
theorem nmBo:Nm nBo (zd sBo):=nmk (nofun)
theorem scBo:FnScope nBo ["self","row"] (zd sBo):=fsk (nofun)
def qBoa (s:Stmt):Scope:=match s with
 | .Assign _ (.Call _ [(.ListComp _ _ sc _)] _ _) _=>sc
 | _=>nsc
abbrev cBoa:Scope:=qBoa ((zm sBo).getD 2 (.Pass ⟨0,0,0,0⟩))
theorem bsBoa:BScope (zd sBo) cBoa ["number","times"] [] []:={}
def qBob (s:Stmt):Scope:=match s with
 | .Return (some (.Call _ [(.ListComp _ _ sc _)] _ _)) _=>sc
 | _=>nsc
abbrev cBob:Scope:=qBob ((zm sBo).getD 3 (.Pass ⟨0,0,0,0⟩))
theorem bsBob:BScope (zd sBo) cBob ["number","times"] ["divisor"] []:={}
def PsA (H:Hp) (qs:List Addr) (ws:List (Int×Int)):Prop:=qs.length=ws.length/\ ∀(i:Nat) (q:Addr) (w:Int×Int),qs[i]? =some q->ws[i]? =some w->H q=some (.tup [.int w.1,.int w.2])
theorem PsA.same(h:PsA H qs ws)(k:Same H H'):PsA H' qs ws:=⟨h.1,λi q w e1 e2=>k _ _ (h.2 i q w e1 e2)⟩
theorem PsA.snoc{w:Int×Int}(h:PsA H qs ws)(e:H q=some (.tup [.int w.1,.int w.2])):PsA H (qs++[q]) (ws++[w]):=by
 refine⟨by simp[h.1],λi q' w' e1 e2=>?_⟩;by_cases hi:i<qs.length
 ·rw[Δ hi] at e1;rw[Δ (by rw[<-h.1]; exact hi)] at e2;exact h.2 i q' w' e1 e2
 ·have hl:i=qs.length:=by
   have:=(ξ.mp e1).1;simp at this;omega
  subst hl;rw[Α (θ _)] at e1;rw[h.1,Α (θ _)] at e2;simp at e1 e2;subst e1; subst e2;exact e
theorem Xa: ∀{ys:List V},(∀y∈ys,∃q,y= .ref q)-> ∃qs:List Addr,ys=qs.map V.ref
 | [],_=>⟨[],rfl⟩
 | y::ys,h=>by
  obtain⟨q,rfl⟩:=h y υ;obtain⟨qs,rfl⟩:=Xa λz hz=>h z (χ _ hz);exact⟨q::qs,rfl⟩
theorem YL(hg:0<g)(h:Sm x):Sm (x / g):=by
 unfold Sm at h ⊢;refine Nat.lt_of_le_of_lt ?_ h;exact Int.natAbs_ediv_le_natAbs x g
abbrev pk (w:Int×Int):List Int:=[w.1,w.2]
theorem Yd: ∀{qs:List Addr} {ws:List (Int×Int)},PsA H qs ws->RowsAt H qs (ws.map pk)
 | [],[],_=>trivial
 | [],_::_,h=>by have:=h.1; simp at this
 | _::_,[],h=>by have:=h.1; simp at this
 | q::qs,w::ws,h=>⟨h.2 0 q w rfl rfl,Yd ⟨by have:=h.1; simpa using this,λi q' w' e1 e2=>h.2 (i+1) q' w' e1 e2⟩⟩
theorem rows_psa{ws:List (Int×Int)}(h:RowsAt H qs (ws.map pk)):PsA H qs ws:=by
 refine⟨by have:=h.len; simpa using this,λi q w e1 e2=>?_⟩;obtain⟨ks,f1,f2⟩:=h.at e1;rw[μ,e2] at f1;cases f1
 exact f2
theorem perm_pk{ks:List (List Int)}{ws:List (Int×Int)}(h:ks.Perm (ws.map pk)): ∃us:List (Int×Int),ks=us.map pk/\us.Perm ws:=by
 refine⟨ks.map λk=>(k.getD 0 0,k.getD 1 0),?_,?_⟩
 ·rw[List.map_map];have: ∀k∈ks,k=(pk ∘ λk:List Int=>(k.getD 0 0,k.getD 1 0)) k:=λk hk=>by
   obtain⟨w,_,rfl⟩:=Κ.mp (h.mem_iff.mp hk);rfl
  exact(List.map_id ks).symm.trans (List.map_congr_left this)
 ·have:=h.map λk=>(k.getD 0 0,k.getD 1 0);rw[List.map_map] at this;have e:ws.map ((λk:List Int=>(k.getD 0 0,k.getD 1 0)) ∘ pk)=ws:=(List.map_congr_left λw _=>rfl).trans (List.map_id ws)
  rwa [e] at this
theorem rise_pk{us:List (Int×Int)}(h:(us.map pk).Pairwise λa b=>PySem.W.lexI false a b=true)(nd:(us.map (·.1)).Nodup):us.Pairwise λa b=>a.1<b.1:=by
 rw[List.pairwise_map] at h;have nd':us.Pairwise λa b=>a.1≠b.1:=by
  have:=nd;unfold List.Nodup at this
  rwa [List.pairwise_map] at this
 refine List.Pairwise.imp₂ ?_ h nd';intro a b h1 h2;unfold pk PySem.W.lexI at h1;rw[if_neg h2] at h1;exact of_decide_eq_true h1
def prsI (n:Nat) (S:Tb) (r i:Nat):List (Int×Int):=((S.ru r:Int)-n,S.D)::((List.range i).filter λc=>decide (S.M (S.ru r) c≠0)).map λc=>((S.cu c:Int)-n,- S.M (S.ru r) c)
def spBo (C:Addr):Sp:=λvs H Q _=> ∃(o:Addr) (n m r:Nat) (v:Nat->Nat->Int) (S:Tb) (t:Nat) (dx pr pu pc:Addr) (ras:List Addr),vs=[.ref o,.int (r:Int)]/\TbA H C o n m S t dx pr pu pc ras/\Inv n m v S/\Stuck n m S r/\n<=40/\m<=60/\Sm S.D/\(∀c≤n,Sm (S.M (S.ru r) c))/\
 ∀H' p qs ws,Same H H'->Bw n m v ws->(∀w∈ws,Sm w.2)->H' p=some (.tup (qs.map V.ref))->PsA H' qs ws->Q (.ref p) H'
theorem ok_Bo(R:TC K C)(B:Bl mg)(fC:Has P w K mg base 1 "common_divisor" ["numbers"] spCd)(F:Fun K "borne" "Tableau.borne" sBo f fd):FnOk P w K mg base CX0 2 f fd ["self","row"] (spBo C):=by
 refine F.ok scBo (λvs H Q E h=>?_) (λcdv A outer s H vs Q E hr h=>?_)
 ·obtain⟨o,n,m,r,v,S,t,dx,pr,pu,pc,ras,rfl,_⟩:=h;rfl
 obtain⟨o,n,m,r,v,S,t,dx,pr,pu,pc,ras,rfl,T,I,Kk,hn,hm,hsd,hsm,k⟩:=h;refine'⟨_,?hb,?rd⟩
 case' hb=>skip
 case' hb=>refine' ze ?g1 ?g2
 case' g2=>refine' ze ?g3 ?g4
 case' g4=>refine' ze ?g5 ?g6
 case' g6=>refine' zi ?g7
 case g1=>exact zj nmBo 2 (zR (pa_1 (yr (pa_2 (zo yZ (ziq (zG (pvd nmBo 0) rfl) (pvd nmBo 1)) (zG (pvd nmBo 0) rfl)) (zG (pvd nmBo 0) rfl)))))
 case' g3=>refine' ye Ψ rfl ?g8 (xM rfl (zt (pgd nmBo 3) (zt (pgd nmBo 4) zS))) ?g9
 case g8=>exact wU B.zip (pa_2 (zG (pvd nmBo 0) rfl) (ziq (zG (pvd nmBo 0) rfl) (pvd nmBo 1)))
 case' g9=>refine' zi ?g10
 case' g10=>refine' zZ ?g11 ?g12 zB
 case g11=>exact zv wC (pvd nmBo 4) zg (zw _)
 case' g12=>refine' zi ?g14
 case g14=>exact xq (wA PySem.F.plainAttrs_list PySem.F.slot_list_append PySem.F.type_list_append xb (pvd nmBo 2) (pa_1 (yr (pa_2 (zo yZ (pvd nmBo 3) (zG (pvd nmBo 0) rfl)) (xQ yX (pvd nmBo 4))))))
 case' g5=>refine' zj nmBo 5 ?g15
 case' g15=>refine' pe_f fC hr (by decide) ?g16
 case' g16=>refine' pa_1 ?g17
 case' g17=>refine' zy (ix:=[]) bsBoa.toCScope rfl rfl ?g18 ?g19 ?g20 ?g21
 case g18=>exact yf (pvd nmBo 2)
 case g19=>
  intro _ _ _ _ _ _;refine' yT (n:=2) rfl ?g22
  case' g22=>refine' zt ?g26 ?g25
  case g26=>exact pgb bsBoa 0
  case' g25=>refine' zt ?g28 zS
  case g28=>exact pgb bsBoa 1
 case g20=>exact λ_ _ _ _ _ _=>zu
 case g21=>exact λ_ _ _ _ _ _=>pvb bsBoa 1
 case' g7=>refine' zr ?g29
 case' g29=>refine' zV zz B.tuple Η ?g30
 case' g30=>refine' pa_1 ?g31
 case' g31=>refine' zy (ix:=[5]) bsBob.toCScope rfl rfl ?g32 ?g33 ?g34 ?g35
 case g32=>exact yf (zP call_sortL B.sorted PyProof.Rows.boot_sorted (pa_1 (pvd nmBo 2)))
 case g33=>
  intro _ _ _ _ _ _;refine' yT (n:=2) rfl ?g36
  case' g36=>refine' zt ?g40 ?g39
  case g40=>exact pgb bsBob 0
  case' g39=>refine' zt ?g42 zS
  case g42=>exact pgb bsBob 1
 case g34=>exact λ_ _ _ _ _ _=>zu
 case g35=>exact λ_ _ _ _ _ _=>yr (pa_2 (pvb bsBob 0) (zo EL.op_fdivL (pvb bsBob 1) (pvb bsBob 2)))
 have hrm:=Kk.lo.1;obtain⟨ra,g1,g2⟩:=T.row hrm;nofun;refine zO ?_;nofun;refine⟨o,C,_,_,_,rfl,T.ob,R.c,R.n4,rfl,?_⟩;nofun;refine zC (v:= .int ((S.ru r:Nat):Int)) T.ru (zx (yq hrm)) ?_;nofun;refine zO ?_;nofun;refine⟨o,C,_,_,_,rfl,T.ob,R.c,R.n1,rfl,?_⟩;nofun;refine zO ?_;nofun;refine⟨o,C,_,_,_,rfl,T.ob,R.c,R.n2,rfl,?_⟩;nofun;refine⟨sz2,λp1 hp1=>?_⟩;obtain⟨H1,q,k1,e1⟩:=nob (.tup [.int ((S.ru r:Int) - n),.int S.D]) hp1; rw[q]; clear q;nofun;refine⟨sz1,λD1 hD1=>?_⟩;obtain⟨H2,q,k2,e2⟩:=nob (.lst [.ref p1]) hD1; rw[q]; clear q;have K02:=k1.trans k2;have hD0:H D1=none:=Same.free k1 hD1;have T2:=T.same λa u e _=>K02 a u e;nofun;refine vg ?_;nofun;refine zO ?_;nofun;refine⟨o,C,_,_,_,rfl,T2.ob,R.c,R.n5,rfl,?_⟩;nofun;refine zO ?_;nofun;refine⟨o,C,_,_,_,rfl,T2.ob,R.c,R.n3,rfl,?_⟩;nofun;refine zC (v:= .ref ra) T2.rs (zx (by rw[μ,g1]; rfl)) ?_;refine⟨pc,ra,rfl,⟨_,SqL.of T2.cu⟩,⟨_,SqL.of (K02 _ _ g2)⟩,?_⟩;refine Yt (xs:=natV n S.cu) (zs:=rowV n (S.M (S.ru r))) (by rw[yb,yF]; omega) (λi σ H'=> ∃u3 u4 u5 qs,σ=[some (.ref o),some (.int (r:Int)),some (.ref D1),u3,u4,u5]/\Same H H'/\H' D1=some (.lst (qs.map V.ref))/\PsA H' qs (prsI n S r i)) ⟨_,_,_,[p1],rfl,K02,e2,rfl,λi q w h1 h2=>?_⟩ (λi σ H' ⟨_,_,_,_,_,K',_⟩=>⟨SqL.of (K' _ _ T.cu),SqL.of (K' _ _ g2)⟩) ?_ ?_
 ·cases i with
  | zero=>
   have z1:p1=q:=Γ h1;have z2:((S.ru r:Int)-n,S.D)=w:=Γ h2;subst z1; subst z2;exact k2 _ _ e1
  | succ i=>simp at h1
 ·rintro i x y σ H' p hx hy ⟨u3,u4,u5,qs,rfl,K',e',hP⟩ hp;have hi:i<n:=by have:=(ξ.mp hx).1; rw[yb] at this; exact this
  rw[yq hi] at hx;cases hx
  rw[ym (by omega)] at hy;cases hy
  have kp:Same H' (upd H' p (.tup [.int ((S.cu i:Nat):Int),.int (S.M (S.ru r) i)])):=Same.new (Same.refl _) hp;have ep:upd H' p (.tup [.int ((S.cu i:Nat):Int),.int (S.M (S.ru r) i)]) p=some (.tup [.int ((S.cu i:Nat):Int),.int (S.M (S.ru r) i)]):=zf;generalize upd H' p (.tup [.int ((S.cu i:Nat):Int),.int (S.M (S.ru r) i)])=H3 at kp ep ⊢;refine⟨p,[.int ((S.cu i:Nat):Int),.int (S.M (S.ru r) i)],rfl,SqT.of ep,rfl,.int ((S.cu i:Nat):Int),[.int (S.M (S.ru r) i)],rfl,?_⟩;nofun;refine⟨.int (S.M (S.ru r) i),[],rfl,?_⟩;nofun;refine⟨rfl,?_⟩;have K3:=K'.trans kp;nofun;refine⟨rfl,?_⟩;nofun;have e3:=kp _ _ e';have hql:qs.length<=i+1:=by
   rw[hP.1];unfold prsI;rw[List.length_cons,ε];have:=List.length_filter_le (λc=>decide (S.M (S.ru r) c≠0)) (List.range i);rw[Ξ] at this;omega
  refine Zj (λh1=>?_) (λh1=>?_)
  ·have hne:S.M (S.ru r) i≠0:=λz=>h1 (by rw[z]);nofun;refine⟨.inl ⟨rfl,_,SqL.of e3⟩,?_⟩;nofun;refine zO ?_;nofun;refine⟨o,C,_,_,_,rfl,(K3 _ _ T.ob),R.c,R.n1,rfl,?_⟩;nofun;refine⟨_,rfl,?_⟩;refine⟨sz2,λp4 hp4=>?_⟩;obtain⟨H4,q,k4,e4⟩:=nob (.tup [.int ((S.cu i:Int) - n),.int (- S.M (S.ru r) i)]) hp4; rw[q]; clear q;nofun;refine⟨D1,_,_,rfl,rfl,k4 _ _ e3,zq (by rw[ε]; omega),?_⟩;have nq: ∀q w,H4 q=some (.tup w)->q≠D1:=λq w e z=>by rw[z,k4 _ _ e3] at e; cases e
   have hP4:=(hP.same (kp.trans k4)).snoc (w:=((S.cu i:Int)-n,- S.M (S.ru r) i)) e4;refine⟨_,_,_,qs++[p4],rfl,(K3.trans k4).put hD0,by rw[zf]; simp,?_⟩;have:prsI n S r (i+1)=prsI n S r i++[((S.cu i:Int)-n,- S.M (S.ru r) i)]:=by
    unfold prsI;rw[List.range_succ,List.filter_append,List.filter_cons_of_pos (by simp[hne])];simp
   rw[this];exact⟨hP4.1,λi q w e1 e2=>by rw[zk (nq _ _ (hP4.2 i q w e1 e2))]; exact hP4.2 i q w e1 e2⟩
  ·have hz:S.M (S.ru r) i=0:=by injection h1
   refine⟨_,_,_,qs,rfl,K3,e3,?_⟩;have:prsI n S r (i+1)=prsI n S r i:=by
    unfold prsI;rw[List.range_succ,List.filter_append,List.filter_cons_of_neg (by simp[hz])];simp
   rw[this];exact hP.same kp
 ·rintro σ H3 ⟨u3,u4,u5,qs,rfl,K3,e3,hP⟩;rw[yb] at hP;nofun;have hP:PsA H3 qs (prs0 n S r):=hP;have hlen:(prs0 n S r).length<=41:=by
   unfold prs0;rw[List.length_cons,ε];have:=List.length_filter_le (λc=>decide (S.M (S.ru r) c≠0)) (List.range n);rw[Ξ] at this;omega
  refine⟨D1,rfl,⟨_,SqL.of e3⟩,λD4 hD4=>?_⟩;refine prs_mapL (xs:=prs0 n S r) (λw=>V.int w.1) (λw=>V.int w.2) (λw=>V.int w.2) e3 hP.1 (by omega) (λi q w h1 h2=>hP.2 i q w h1 h2) (λi w H' hw K' R' kR=>?_) (λH4 K4 e4=>?_) hD4
  ·nofun;exact kR _ (Same.refl _)
  nofun;have e4':H4 D4=some (.lst (((prs0 n S r).map (·.2)).map V.int)):=by rw[e4,List.map_map]; rfl
  refine⟨D4,_,rfl,e4',?_⟩;have hgd: ∀w∈prs0 n S r,((gcdL ((prs0 n S r).map (·.2)):Nat):Int) ∣ w.2:=λw hw=>Int.ofNat_dvd_left.mpr (xG (List.mem_map_of_mem hw));have hDm:S.D∈(prs0 n S r).map (·.2):=by unfold prs0; simp
  have hg0:(0:Int)<((gcdL ((prs0 n S r).map (·.2)):Nat):Int):=by
   rcases Nat.eq_zero_or_pos (gcdL ((prs0 n S r).map (·.2))) with z | z
   ·have:=xc z S.D hDm;have:=I.D0;omega
   ·omega
  have hgs:Sm ((gcdL ((prs0 n S r).map (·.2)):Nat):Int):=by
   have h1:=x8 hDm (by have:=I.D0; omega);have h2:S.D.natAbs<2^4000:=hsd;show(Int.natAbs ((gcdL _:Nat):Int))<2^4000;rw[Int.natAbs_natCast];exact Nat.lt_of_le_of_lt h1 h2
  generalize ((gcdL ((prs0 n S r).map (·.2)):Nat):Int)=g at hgd hg0 hgs ⊢;have K04:=K3.trans K4;have hP4:=hP.same K4;nofun;have hnd:=prs_nodup I hrm;refine⟨D1,qs,(prs0 n S r).map pk,2,rfl,K4 _ _ e3,Yd hP4,by decide,λks hk=>?_,?_,by rw[ε]; omega,?_⟩
  ·obtain⟨w,_,rfl⟩:=Κ.mp hk;rfl
  ·refine List.pairwise_map.mpr ?_;have nd':(prs0 n S r).Pairwise λa b=>a.1≠b.1:=by
    have:=hnd;unfold List.Nodup at this
    rwa [List.pairwise_map] at this
   exact nd'.imp λh z=>h (by injection z)
  intro D5 qs5 ks5 hD5 hr5 hp5 hs5;obtain⟨us,rfl,hpu⟩:=perm_pk hp5;have hP5:=rows_psa hr5;have hrise:=rise_pk hs5 ((hpu.map (·.1)).nodup_iff.mpr hnd);have hul:=hpu.length_eq;obtain⟨H5,q,k5,e5⟩:=nob (.lst (qs5.map V.ref)) hD5; rw[q]; clear q;have hP6:=hP5.same k5;refine⟨D5,rfl,⟨_,SqL.of e5⟩,λD6 hD6=>?_⟩;refine gm_lst2 (S:=Same) (rs:=qs5) (λi y H'=> ∃q w,us[i]? =some w/\y= .ref q/\H' q=some (.tup [.int w.1,.int (w.2 / g)])) (Kp.same hD6) (λt ⟨q,w,a,b,e⟩=>⟨q,w,a,b,t.t _ _ e⟩) (λ_ b=>G2.TK.same b) (by have:=hP5.1; omega) (λH' K'=>SqL.of (K' _ _ e5)) (λi q H' hq K'=>?_) (λys H6 gp e6=>?_)
  ·have hi:i<us.length:=by have:=(ξ.mp hq).1; have:=hP5.1; omega
   have hw:us[i]? =some us[i]:=δ hi;refine⟨.int us[i].1,.int us[i].2,K' _ _ (hP6.2 i q _ hq hw),λR' kR=>?_⟩;nofun;refine⟨_,_,rfl,rfl,⟨hg0,Y3 hgs⟩,?_⟩;nofun;refine⟨sz2,λp7 hp7=>?_⟩;exact kR _ _ (Same.new (Same.refl _) hp7) ⟨p7,_,hw,rfl,zf⟩
  obtain⟨K6,hl6,hy6⟩:=gp;obtain⟨qs7,rfl,hq7⟩: ∃qs7:List Addr,ys=qs7.map V.ref/\PsA H6 qs7 (us.map λw=>(w.1,w.2 / g)):=by
   have hall: ∀y∈ys,∃q,y= .ref q:=λy hy=>by
    obtain⟨i,hi⟩:=List.getElem?_of_mem hy;obtain⟨q,w,_,e,_⟩:=hy6 i y hi;exact⟨q,e⟩
   obtain⟨qs7,rfl⟩:=Xa hall;refine⟨qs7,rfl,by rw[ε] at hl6 ⊢; rw[hl6,hP5.1],λi q w e1 e2=>?_⟩;obtain⟨q',w',f1,f2,f3⟩:=hy6 i (.ref q) (by rw[μ,e1]; rfl);injection f2 with f2
   subst f2;rw[μ,f1] at e2;cases e2
   exact f3
  nofun;refine⟨D6,_,rfl,e6,λl8 H8 K8 e8=>?_⟩;have hB:=bears I Kk hg0 hgd hpu hrise;refine k H8 l8 qs7 _ (((K04.trans k5).trans K6).trans K8) hB (λw hw=>?_) e8 (hq7.same K8);obtain⟨u,hu,rfl⟩:=Κ.mp hw;have hu':=hpu.mem_iff.mp hu;have hsu:Sm u.2:=by
   rcases(ZE I Kk hu').2.2 with e | ⟨c,hc,e⟩
   ·rw[e]; exact hsd
   ·rw[e];unfold Sm;rw[Int.natAbs_neg];exact hsm c (by omega)
  exact YL hg0 hsu
end
end K17
namespace WG
theorem Wq: ∀n,det n (λa b=>if a=b then 1 else 0)=1
 | 0=>rfl
 | n+1=>by
  show sm (n+1) _=1;rw[xv (k:=0) (by omega) λi hi hne=>by simp[hne]];have e:(λa b=>(if skip 0 a=b+1 then (1:Int) else 0))=λa b=>if a=b then 1 else 0:=by
   funext a b
   unfold skip;by_cases h:a=b
   ·simp[h]
   ·simp[h]
  show sg 0*1*det n (λa b=>(if skip 0 a=b+1 then (1:Int) else 0))=1;rw[e,Wq n];rfl
theorem inv0{n m:Nat}{v:Nat->Nat->Int}(hv: ∀u<n,∀j,v u j=if j=u then 1 else 0):Inv n m v ⟨1,v,λr=>n+r,λc=>c⟩:=by
 have hw: ∀a<n+1,∀b<n+1,wv n v (λc=>c) a b=if a=b then 1 else 0:=λa ha b hb=>by
  unfold wv un;by_cases h:a<n
  ·rw[if_pos h,hv a h];by_cases e:a=b
   ·rw[if_pos e,if_pos e.symm]
   ·rw[if_neg e,if_neg (Ne.symm e)]
  ·rw[if_neg h];by_cases e:a=b
   ·rw[if_pos e,if_pos (by omega)]
   ·rw[if_neg e,if_neg (by omega)]
 refine⟨Int.one_pos,λr hr=>by dsimp only; omega,λc hc=>by dsimp only; omega,λu hu=>?_,λa _ b _ e=>by dsimp only at e; omega,λa _ b _ e=>e,λa _ b hb e=>by dsimp only at e; omega,λc hc k hk=>?_,λu hu j hj=>?_,λu hu k hk=>?_,⟨1,rfl,?_⟩⟩
 ·by_cases h:u<n
  ·exact .inr ⟨u,h,rfl⟩
  ·exact .inl ⟨u-n,by omega,by dsimp only; omega⟩
 ·exact hv c hc k
 ·show 1*v u j=sm (n+1) λc=>v u c*wv n v (λc=>c) c j;rw[xv (k:=j) (by omega) λi hi hne=>by rw[hw i hi j (by omega),if_neg hne]; simp,hw j (by omega) j (by omega),if_pos rfl];omega
 ·show v u k=(sm n λj=>v u j*v j k)+v u n*(if k=n then 1 else 0);by_cases h:k=n
  ·subst h;rw[if_pos rfl,x4 λj hj=>by rw[hv j hj,if_neg (by omega)]; simp];omega
  ·rw[if_neg h,xv (k:=k) (by omega) λi hi hne=>by rw[hv i hi,if_neg (Ne.symm hne)]; simp,hv k (by omega),if_pos rfl];omega
 ·show(1:Int)=1*det (n+1) (wv n v λc=>c);rw[x9 (w':=λa b=>if a=b then 1 else 0) λa ha b hb=>hw a ha b hb,Wq];rfl
end WG
namespace K17
open PySem L2 G2 WG EL
local macro_rules | `(tactic| walk_at "v") => `(tactic| repeat (with_reducible first | walk_at "c" | refine yA ?_ | refine yB ?_ | refine yC ?_ | refine w_sl ?_ | refine z0 ?_ | refine yM ?_ | refine xS ?_))
abbrev sWg:Stmt:=top 12
abbrev nWg:List Str:=["many","problem","table","row","column"]
theorem nmWg:Nm nWg (zd sWg):=nmk (nofun)
theorem scWg:FnScope nWg ["many","problem"] (zd sWg):=fsk (nofun)
theorem XT(h:ta σ H λx H1=>Q (.bl (!decide (x= .non))) H1):WJ ta σ H Q:=h
theorem WH(h:ta σ H λx H1=>Q (.bl (decide (x= .non))) H1):tIsN ta σ H Q:=h
def Tbs (H:Hp) (p1 p2:Addr):Prop:=TabAt H p1 qLr/\TabAt H p2 qCf
def SameT (p1 p2:Addr) (H H':Hp):Prop:= ∀a u,a≠p1->a≠p2->H a=some u->H' a=some u
theorem _root_.L2.TabAt.keep(h:TabAt H P q)(k1: ∀ps,H P=some (.tbl ps)->H' P=some (.tbl ps))(k2: ∀a φ,H a=some (.ext φ)->H' a=some (.ext φ)):TabAt H' P q:=by
 obtain⟨ps,h1,h2,h3⟩:=h;refine⟨ps,k1 _ h1,h2,λpos cv e'=>?_⟩;obtain⟨c,rfl,hc⟩:=h3 pos cv e';exact⟨c,rfl,k2 _ _ hc⟩
theorem _root_.L2.TabAt.tbl(h:TabAt H P q): ∃ps,H P=some (.tbl ps):=let ⟨ps,e,_⟩:=h; ⟨ps,e⟩
theorem _root_.L2.TabAt.other(h:TabAt H P q)(h':TabAt H P' q')(hne:P≠P')(k:SameB P' H H'):TabAt H' P q:=by
 obtain⟨ps,e⟩:=h'.tbl;exact h.keep (λqs e1=>k _ _ hne e1) λa φ e1=>k _ _ (λz=>by rw[z,e] at e1; cases e1) e1
structure PrS (n:Nat) (rows:List (List Int×Int)) (Bd:Nat):Prop where
 n40:n<=40
 m60:rows.length<=60
 b1:1<=Bd
 bd: ∀r∈rows,(∀x∈r.1,x.natAbs<=Bd)/\r.2.natAbs<=Bd
 big:fac (n+1)*Bd^(n+1)<2^4000
theorem PrS.vec(h:PrS n rows Bd)(u j:Nat):(vec n rows u j).natAbs<=Bd:=by
 have h1:=h.b1;unfold K17.vec;split
 ·split<;>simp<;>omega
 ·split
  ·rename_i b p e
   have hb:=h.bd (b,p) (ο e);split
   ·rw[ζ];cases e2:b[j]? with
    | none=>simp
    | some x=>exact hb.1 x (ο e2)
   ·split
    ·exact hb.2
    ·simp
  ·simp
theorem PrS.sm{n:Nat}{rows:List (List Int×Int)}{Bd:Nat}(h:PrS n rows Bd){S:Tb}(I:Inv n rows.length (K17.vec n rows) S){u k:Nat}(hu:u<n+rows.length)(hk:k<=n):Sm (S.M u k):=Nat.lt_of_le_of_lt (I.bound (λu _ j _=>h.vec u j) h.b1 hu hk) h.big
theorem PrS.smD{n:Nat}{rows:List (List Int×Int)}{Bd:Nat}(h:PrS n rows Bd){S:Tb}(I:Inv n rows.length (K17.vec n rows) S):Sm S.D:=Nat.lt_of_le_of_lt (I.D_bound (λu _ j _=>h.vec u j) h.b1) h.big
def spWg (p1 p2:Addr):Sp:=λvs H Q _=> ∃(l:Addr) (n:Nat) (rows:List (List Int×Int)) (Bd:Nat),vs=[.int (n:Int),.ref l]/\PrAt H n rows l/\PrS n rows Bd/\Tbs H p1 p2/\
 (∀H' q p (x:Nat->Int) (d:Int),SameT p1 p2 H H'->Tbs H' p1 p2->1<=d->Met n rows.length (vec n rows) x d->Sm d->(∀j<n,Sm (x j))->H' q=some (.tup [.str "numbers",.ref p,.int d])->H' p=some (.tup ((List.range n).map λj=>V.int (x j)))->Q (.ref q) H')/\
 (∀H' q p qs ws,SameT p1 p2 H H'->Tbs H' p1 p2->Bw n rows.length (vec n rows) ws->(∀w∈ws,Sm w.2)->H' q=some (.tup [.str "weights",.ref p])->H' p=some (.tup (qs.map V.ref))->PsA H' qs ws->Q (.ref q) H')
section
variable {P:Program} {w:World} {K:W.Frag} {mg:Str->Option Value} {base:Heap}
theorem ok_Wg{f:Addr}{fd:FuncData}{C p1 p2:Addr}(h12:p1≠p2)(B:Bl mg)(hK:HasK P w K mg base 1 "Tableau" C ["self","many","problem"] (spTi C))(hL:HasM P w K mg base 3 C "low_row" ["self"] (spLr C p1))(hF:HasM P w K mg base 3 C "column_for" ["self","row"] (spCf C p2))(hT:HasM P w K mg base 2 C "turn" ["self","row","column"] (spTn C))(hM:HasM P w K mg base 2 C "met" ["self"] (spMe C))(hO:HasM P w K mg base 2 C "borne" ["self","row"] (spBo C))(F:Fun K "weighed" "weighed" sWg f fd):FnOk P w K mg base CX0 5 f fd ["many","problem"] (spWg p1 p2):=by
 refine F.ok scWg (λvs H Q E h=>?_) (λcdv A outer s H vs Q E hr h=>?_)
 ·obtain⟨l,n,rows,Bd,rfl,_⟩:=h;rfl
 obtain⟨l,n,rows,Bd,rfl,hP,hS,hT0,kN,kW⟩:=h;refine'⟨_,?hb,?rd⟩
 case' hb=>skip
 case' hb=>refine' ze ?g1 ?g2
 case' g2=>refine' ze ?g3 ?g4
 case' g4=>refine' ze ?g5 ?g6
 case' g6=>refine' zi ?g7
 case g1=>exact zj nmWg 2 (pe_mk hK hr (by decide) (pa_2 (pvd nmWg 0) (pvd nmWg 1)))
 case g3=>exact zj nmWg 3 (X6 hL hr (by decide) (pvd nmWg 2))
 case' g5=>refine' vB Ψ ?g8 ?g9
 case g8=>exact ZD (Xf (pvd nmWg 3))
 case' g9=>refine' ze ?g10 ?g11
 case' g11=>refine' ze ?g12 ?g13
 case' g13=>refine' ze ?g14 ?g15
 case' g15=>refine' zi ?g16
 case g10=>exact zj nmWg 4 (pe_m hF hr (by omega) (pvd nmWg 2) (pa_1 (pvd nmWg 3)))
 case' g12=>refine' zZ ?g17 ?g18 zB
 case g17=>exact ZD (X9 (pvd nmWg 4))
 case' g18=>refine' zi ?g20
 case g20=>exact zr (yr (pa_2 wg (pe_m hO hr (by omega) (pvd nmWg 2) (pa_1 (pvd nmWg 3)))))
 case g14=>exact xq (pe_m hT hr (by omega) (pvd nmWg 2) (pa_2 (pvd nmWg 3) (pvd nmWg 4)))
 case g16=>exact zj nmWg 3 (X6 hL hr (by decide) (pvd nmWg 2))
 case g7=>exact zr (zo ZJ (yr (pa_1 wg)) (X6 hM hr (by decide) (pvd nmWg 2)))
 have hT1:=hT0.1;have hT2:=hT0.2;obtain⟨tb1,et1⟩:=hT1.tbl;obtain⟨tb2,et2⟩:=hT2.tbl;nofun;refine w_make ?_;nofun;rintro o dx0 ho hdx hne;have k1:Same H (upd (upd H dx0 (.own o)) o (.ins C dx0 [])):=(Same.new (Same.refl _) hdx).new (by rw[zk (Ne.symm hne)]; exact ho);have e1:upd (upd H dx0 (.own o)) o (.ins C dx0 []) o=some (.ins C dx0 []):=zf;generalize upd (upd H dx0 (.own o)) o (.ins C dx0 [])=H1 at k1 e1 ⊢;obtain⟨ras0,bas0,hP0⟩:=hP;refine⟨o,dx0,l,n,rows,rfl,e1,⟨ras0,bas0,hP0.same λa u e _=>k1 a u e⟩,hS.n40,hS.m60,λH2 dx pr0 pu pc ras2 b2 T2 hpu hpc=>⟨rfl,?_⟩⟩;have hpu:H pu=none:=Same.free k1 hpu;have hpc:H pc=none:=Same.free k1 hpc;have K2:Same H H2:=λa u e=>b2 a u (zh e ho) (k1 a u e);have hn40:=hS.n40;have hm60:=hS.m60;have I0:Inv n rows.length (vec n rows) (tb0 n rows):=inv0 λu hu j=>by unfold vec; rw[if_pos hu]
 let LI:Hp->Tb->Nat->Addr->List Addr->Prop:=λH' S t pr ras=>TbA H' C o n rows.length S t dx pr pu pc ras/\Inv n rows.length (vec n rows) S/\SameT p1 p2 H H'/\Tbs H' p1 p2
 have L2':LI H2 (tb0 n rows) 0 pr0 ras2:=⟨T2,I0,λa u _ _ e=>K2 a u e,hT1.same K2,hT2.same K2⟩
 -- low_row
 have lowr: ∀{H':Hp} {S:Tb} {t:Nat} {pr:Addr} {ras:List Addr} {Q':VK},LI H' S t pr ras->(∀H'' (ob:Option Nat),LI H'' S t pr ras->(ob=none-> ∀r,¬low n rows.length S r)->(∀r,ob=some r->low n rows.length S r/\(200<=t-> ∀q,low n rows.length S q->S.ru r<=S.ru q))->Q' (ob.elim .non λr=> .int (r:Int)) H'')->spLr C p1 [.ref o] H' Q' E0:=λ{H' S t pr ras Q'} ⟨T,I,sT,tT⟩ q=>by
  refine⟨o,n,rows.length,S,t,rfl,⟨dx,pr,pu,pc,ras,T⟩,hm60,tT.1,λH'' ob k3 hT3 h0 h1=>q H'' ob ⟨T.tab tT.1 k3,I,λa u n1 n2 e=>k3 a u n1 (sT a u n1 n2 e),hT3,tT.2.other tT.1 (Ne.symm h12) k3⟩ h0 h1⟩
 nofun;refine xu ?_;nofun;refine⟨o,dx,_,rfl,T2.ob,rfl,?_⟩;nofun;refine lowr L2' λH3 ob3 L3 h30 h31=>?_;nofun;refine Zy ⟨λmm σ H'=> ∃(S:Tb) (t:Nat) (pr:Addr) (ras:List Addr) (k:Nat) (h:Nat->Tb) (rw_ cw:Nat->Nat) (ob:Option Nat) (u4:Option V),σ=[some (.int (n:Int)),some (.ref l),some (.ref o),some (ob.elim .non λr=> .int (r:Int)),u4]/\LI H' S t pr ras/\Way n rows.length (vec n rows) k h rw_ cw/\h k=S/\mm=(200 - t)*(2^(n+rows.length)+1)+(2^(n+rows.length) - k)/\(ob=none-> ∀r,¬low n rows.length S r)/\(∀r,ob=some r->low n rows.length S r/\(200<=t-> ∀q,low n rows.length S q->S.ru r<=S.ru q)),
  ⟨_,_,_,_,_,_,_,_,_,_,_,rfl,L3,Way.one I0,rfl,rfl,h30,h31⟩,?_⟩
 rintro mm σ H' ⟨S,t,pr,ras,k,h,rw_,cw,ob,u4,rfl,⟨T,I,sT,tT⟩,Wy,hk,rfl,h0,h1⟩;nofun;refine XT ?_;nofun;have hsmD:=hS.smD I;have hsm: ∀q k,q<rows.length->k<=n->Sm (S.M (S.ru q) k):=λq k hq hk=>hS.sm I (I.rl q hq) hk;cases ob with
 | none=>
  refine iteF ?_;nofun;refine⟨sz1,λp5 hp5=>?_⟩;have k5:Same H' (upd H' p5 (.tup [.str "numbers"])):=Same.new (Same.refl _) hp5;have e5:upd H' p5 (.tup [.str "numbers"]) p5=some (.tup [.str "numbers"]):=zf;generalize upd H' p5 (.tup [.str "numbers"])=H5 at k5 e5 ⊢;nofun;refine xu ?_;nofun;refine⟨o,dx,_,rfl,k5 _ _ T.ob,rfl,?_⟩;nofun;refine⟨o,n,rows.length,vec n rows,S,t,dx,pr,pu,pc,ras,rfl,T.same λa u e _=>k5 a u e,I,hn40,hm60,hsmD,λH6 q6 p6 g K6 hg hgD hgM e6 f6=>?_⟩;obtain⟨hd,hM⟩:=meets I (h0 rfl) hg hgD hgM;refine⟨p5,q6,_,_,rfl,rfl,K6 _ _ e5,e6,by show 1+2<=1000; decide,λq7 H7 K7 e7=>?_⟩;have hK:=(k5.trans K6).trans K7;exact kN H7 q7 p6 (λj=>S.M j n / g) (S.D / g) (λa u n1 n2 e=>hK _ _ (sT a u n1 n2 e)) ⟨tT.1.same hK,tT.2.same hK⟩ hd hM (YL hg hsmD) (λj hj=>YL hg (hS.sm I (by omega) (θ _))) e7 (K7 _ _ f6)
 | some r=>
  obtain⟨hlo,hlm⟩:=h1 r rfl;have hrm:=hlo.1;refine iteT ?_;refine⟨_,fun σ' H' z=>z,?_⟩;nofun;refine xu ?_;nofun;refine⟨o,dx,_,rfl,T.ob,rfl,?_⟩;nofun;refine⟨o,n,rows.length,r,S,t,rfl,⟨dx,pr,pu,pc,ras,T⟩,hrm,hn40,tT.2,λH4 oc k4 hT4 g0 g1=>?_⟩;have T4:=T.tab tT.2 k4;have sT4:SameT p1 p2 H H4:=λa u n1 n2 e=>k4 a u n2 (sT a u n1 n2 e);have tT4:Tbs H4 p1 p2:=⟨tT.1.other tT.2 h12 k4,hT4⟩;nofun;refine WH ?_;nofun;cases oc with
  | none=>
   refine iteT ?_;nofun;refine xu ?_;nofun;refine⟨o,dx,_,rfl,T4.ob,rfl,?_⟩;nofun;refine⟨o,n,rows.length,r,vec n rows,S,t,dx,pr,pu,pc,ras,rfl,T4,I,⟨hlo,g0 rfl⟩,hn40,hm60,hsmD,λc hc=>hsm r c hrm hc,λH6 p6 qs ws K6 hB hws e6 f6=>?_⟩;nofun;refine⟨sz2,λq7 hq7=>?_⟩;have k7:Same H6 (upd H6 q7 (.tup [.str "weights",.ref p6])):=Same.new (Same.refl _) hq7;exact kW _ q7 p6 qs ws (λa u n1 n2 e=>k7 _ _ (K6 _ _ (sT4 a u n1 n2 e))) ⟨tT4.1.same (K6.trans k7),tT4.2.same (K6.trans k7)⟩ hB hws zf (k7 _ _ e6) (f6.same k7)
  | some c=>
   obtain⟨hmy,hml⟩:=g1 c rfl;refine iteF ?_;have hcn:=hmy.1;have hnz:S.M (S.ru r) c≠0:=by
    rcases hmy.2 with z | z
    ·exact z.2
    ·have:=z.2.1;omega
   nofun;refine xu ?_;nofun;refine⟨o,dx,_,rfl,T4.ob,rfl,?_⟩;nofun;refine⟨o,n,rows.length,r,c,vec n rows,S,t,dx,pr,pu,pc,ras,rfl,T4,I,hrm,hcn,hnz,hn40,hm60,hsm,hsmD,λH6 pr6 ras6 k6 T6=>?_⟩;have nT: ∀{a:Addr} {u:HO},H4 a=some u->(∀C dx fs,u≠.ins C dx fs)->(∀xs,u≠.lst xs)->H6 a=some u:=λ{a u} e n1 n2=>k6 a u (λz=>by rw[z,T4.ob] at e; cases e; exact n1 _ _ _ rfl) (λz=>by rw[z,T4.ru] at e; cases e; exact n2 _ rfl) (λz=>by rw[z,T4.cu] at e; cases e; exact n2 _ rfl) e;have I6:=I.turn hrm hcn hnz;have L6:LI H6 (turn S r c) (t+1) pr6 ras6:=⟨T6,I6,λa u n1 n2 e=>k6 a u (zh e ho) (zh e hpu) (zh e hpc) (sT4 a u n1 n2 e),tT4.1.keep (λps e=>nT e (λ_ _ _ z=>by cases z) (λ_ z=>by cases z)) (λa φ e=>nT e (λ_ _ _ z=>by cases z) (λ_ z=>by cases z)),tT4.2.keep (λps e=>nT e (λ_ _ _ z=>by cases z) (λ_ z=>by cases z)) (λa φ e=>nT e (λ_ _ _ z=>by cases z) (λ_ z=>by cases z))⟩;nofun;refine xu ?_;nofun;refine⟨o,dx,_,rfl,T6.ob,rfl,?_⟩;nofun;refine lowr L6 λH8 ob8 L8 h80 h81=>?_;nofun;have hfew:=Wy.few;by_cases ht:200<=t
   ·have bs:BStep n rows.length (h k) r c:=by
     rw[hk];exact⟨hlo,hlm ht,hcn,hnz,hmy.2.elim (λz=> .inl z.1) λz=>(hml ht).imp id λq=>⟨z.2.1,z.2.2,q⟩⟩
    obtain⟨h',r',c',Wy',hk'⟩:=Wy.more bs;have hfew':=Wy'.few;rw[hk] at hk';refine⟨_,?_,_,_,_,_,k+1,h',r',c',ob8,_,rfl,L8,Wy',hk',rfl,h80,h81⟩;rw[show 200-(t+1)=0 by omega,show 200-t=0 by omega];omega
   ·refine⟨_,?_,_,_,_,_,0,_,_,_,ob8,_,rfl,L8,Way.one I6,rfl,rfl,h80,h81⟩;rw[show 200-t=(200-(t+1))+1 by omega,Nat.succ_mul];omega
structure KZ (mg:Str->Option Value):Prop where
 s:Kn mg "SORTS" 0
 r:Kn mg "RULES" 1
 t:Kn mg "TAKES" 0
 g:Kn mg "GIVES" 1
abbrev sCq:Stmt:=top 1
abbrev nCq:List Str:=["numbers","divisor","number","other","rest"]
theorem nmCq:Nm nCq (zd sCq):=nmk (nofun)
theorem scCq:FnScope nCq ["numbers"] (zd sCq):=fsk (nofun)
def spCq:Sp:=λvs H Q _=> ∃(p:Addr) (xs:List Int),vs=[.ref p]/\H p=some (.tup (xs.map V.int))/\Q (.int ((gcdL xs:Nat):Int)) H
theorem ok_Cq(B:Bl mg)(F:Fun K "common_divisor" "common_divisor" sCq f fd):FnOk P w K mg base CX0 1 f fd ["numbers"] spCq:=by
 refine F.ok scCq (λvs H Q E h=>?_) (λcdv A outer s H vs Q E hr h=>?_)
 ·obtain⟨p,xs,rfl,_⟩:=h;rfl
 obtain⟨p,xs,rfl,hp,k⟩:=h;refine'⟨_,?hb,?rd⟩
 case' hb=>skip
 case' hb=>refine' ze ?g1 ?g2
 case' g2=>refine' ze ?g3 ?g4
 case' g4=>refine' zi ?g5
 case g1=>exact zj nmCq 1 zg
 case' g3=>refine' ye Ψ rfl ?g6 (pgd nmCq 2) ?g7
 case g6=>exact xL (pvd nmCq 0)
 case' g7=>refine' ze ?g8 ?g9
 case' g9=>refine' zi ?g10
 case g8=>exact zj nmCq 3 (zP wL B.abs PyProof.Rows.boot_abs (pa_1 (pvd nmCq 2)))
 case' g10=>refine' vB Ψ ?g11 ?g12
 case g11=>exact zv wC (pvd nmCq 3) zg (zw _)
 case' g12=>refine' ze ?g13 ?g14
 case' g14=>refine' ze ?g15 ?g16
 case' g16=>refine' zi ?g17
 case g13=>exact zj nmCq 4 (zo xk (pvd nmCq 1) (pvd nmCq 3))
 case g15=>exact zj nmCq 1 (pvd nmCq 3)
 case g17=>exact zj nmCq 3 (pvd nmCq 4)
 case g5=>exact zr (pvd nmCq 1)
 nofun;refine⟨p,rfl,⟨_,SqT.of hp⟩,?_⟩;refine Xx (xs:=xs.map V.int) (λi σ H'=> ∃u2 u3 u4,σ=[some (.ref p),some (.int ((gcdL (xs.take i):Nat):Int)),u2,u3,u4]/\H=H') ⟨none,none,none,rfl,rfl⟩ (λi σ H' _ ⟨_,_,_,_,e⟩=>e▸SqT.of hp) ?_ ?_
 ·rintro i x σ H' hx ⟨u2,u3,u4,rfl,rfl⟩;obtain⟨hi,rfl⟩:=itI hx;nofun;refine⟨_,rfl,?_⟩;rw[absN];nofun;refine Zy ⟨λn σ H'=> ∃(d o:Nat) (u4:Option V),σ=[some (.ref p),some (.int (d:Int)),some (.int (xs.getD i 0)),some (.int (o:Int)),u4]/\H=H'/\n=o/\Nat.gcd d o=Nat.gcd (gcdL (xs.take i)) (xs.getD i 0).natAbs,⟨_,_,_,u4,rfl,rfl,rfl,rfl⟩,?_⟩;rintro n σ H' ⟨d,o,u4',rfl,rfl,rfl,hg⟩;nofun;refine⟨rfl,?_⟩;nofun;refine Zj (λh=>?_) (λh=>?_)
  ·have ho:n≠0:=λz=>h (by rw[z]; rfl);refine⟨_,fun σ' H' w=>⟨d%n,Nat.mod_lt _ (by omega),w⟩,?_⟩;nofun;refine⟨_,_,rfl,rfl,by omega,?_⟩;nofun;refine⟨n,d%n,_,rfl,rfl,rfl,?_⟩;rw[<-hg,Nat.gcd_comm,<-Nat.gcd_rec,Nat.gcd_comm]
  ·have ho:n=0:=by injection h with h; omega
   subst ho;rw[Nat.gcd_zero_right] at hg;rw[hg,<-Yr xs i hi];exact⟨_,_,_,rfl,rfl⟩
 ·rintro σ H' ⟨u2,u3,u4,rfl,rfl⟩;rw[ε,List.take_length];nofun;exact k
abbrev sWd:Stmt:=top 2
abbrev nWd:List Str:=["numbers","divisor"]
theorem nmWd:Nm nWd (zd sWd):=nmk (nofun)
theorem scWd:FnScope nWd ["numbers"] (zd sWd):=fsk (nofun)
def qWda (s:Stmt):Scope:=match s with
 | .Return (some (.ListComp _ _ sc _)) _=>sc
 | _=>nsc
abbrev cWda:Scope:=qWda ((zm sWd).getD 1 (.Pass ⟨0,0,0,0⟩))
theorem bsWda:BScope (zd sWd) cWda ["number"] ["divisor"] []:={}
def spWd:Sp:=λvs H Q _=> ∃(p:Addr) (xs:List Int),vs=[.ref p]/\H p=some (.tup (xs.map V.int))/\xs.length<=1000/\(gcdL xs).log2<9000/\ ∀q H',Same H H'->H q=none->H' q=some (.lst ((wd xs).map V.int))->Q (.ref q) H'
theorem ok_Wd(B:Bl mg)(fC:Has P w K mg base 1 "common_divisor" ["numbers"] spCq)(F:Fun K "without_divisor" "without_divisor" sWd f fd):FnOk P w K mg base CX0 2 f fd ["numbers"] spWd:=by
 refine F.ok scWd (λvs H Q E h=>?_) (λcdv A outer s H vs Q E hr h=>?_)
 ·obtain⟨p,xs,rfl,_⟩:=h;rfl
 obtain⟨p,xs,rfl,hp,hl,hg,k⟩:=h;refine'⟨_,?hb,?rd⟩
 case' hb=>skip
 case' hb=>refine' ze ?g1 ?g2
 case' g2=>refine' zi ?g3
 case g1=>exact zj nmWd 1 (pe_f fC hr (by decide) (pa_1 (pvd nmWd 0)))
 case' g3=>refine' zr ?g4
 case' g4=>refine' zy (ix:=[1]) bsWda.toCScope rfl rfl ?g5 ?g6 ?g7 ?g8
 case g5=>exact xL (pvd nmWd 0)
 case g6=>exact λ_ _ _ _ _ _=>pgb bsWda 0
 case g7=>exact λ_ _ _ _ _ _=>zu
 case g8=>exact λ_ _ _ _ _ _=>xX (zv vF (pvb bsWda 1) zg (zw _)) (zo op_fdivL (pvb bsWda 0) (pvb bsWda 1)) zg
 nofun;refine⟨p,xs,rfl,hp,?_⟩;nofun;refine⟨p,rfl,⟨_,SqT.of hp⟩,λD hD=>?_⟩;refine YV (ws:=xs) V.int (λx=>V.int (if 0<gcdL xs then x / (gcdL xs:Int) else 0)) (SqT.of hp) hl hD (λx hx H' K' R kR=>?_) (λH2 K2 e2=>?_)
 ·nofun;have kR:=kR _ (Same.refl _);refine iteD (λh=>?_) (λh=>?_)
  ·rw[if_pos (by omega)] at kR;nofun;exact⟨_,_,rfl,rfl,⟨by omega,by rw[Int.natAbs_natCast]; exact hg⟩,kR⟩
  ·rw[if_neg (by omega)] at kR;nofun;exact kR
 exact k D H2 K2 hD (by rw[e2]; unfold wd; rw[List.map_map]; rfl)
def PrY (rows:List (List Int×Int)) (i:Nat) (y:V) (H:Hp):Prop:= ∃r,rows[i]? =some r/\ ∃a b,y= .ref a/\H a=some (.tup [.ref b,.int r.2])/\H b=some (.tup (r.1.map V.int))
theorem PrY.tk(t:G2.TK H H')(h:PrY rows i y H):PrY rows i y H':=let ⟨r,h1,a,b,h2,h3,h4⟩:=h; ⟨r,h1,a,b,h2,t.t _ _ h3,t.t _ _ h4⟩
theorem pr_gp{rows:List (List Int×Int)}{n:Nat}: ∀{ys:List V},ys.length=rows.length->(∀(j:Nat) (y:V),ys[j]? =some y->PrY rows j y H)-> ∃ras bas:List Addr,ys=ras.map V.ref/\ras.length=rows.length/\bas.length=rows.length/\ ∀(i:Nat) (b:List Int) (p:Int),rows[i]? =some (b,p)-> ∃a c,ras[i]? =some a/\bas[i]? =some c/\H a=some (.tup [.ref c,.int p])/\H c=some (.tup (b.map V.int)):=by
 induction rows with
 | nil=>intro ys hl _; exact⟨[],[],by cases ys with | nil=>rfl | cons y ys=>simp at hl,rfl,rfl,λi b p e=>by simp at e⟩
 | cons r rows ih=>
  intro ys hl h;cases ys with
  | nil=>simp at hl
  | cons y ys=>
   obtain⟨ras,bas,h1,h2,h3,h4⟩:=ih (ys:=ys) (by simpa using hl) λj y e=>h (j+1) y e;obtain⟨r',e0,a,b,rfl,e1,e2⟩:=h 0 y rfl;cases e0
   refine⟨a::ras,b::bas,by rw[h1]; rfl,by simp[h2],by simp[h3],λi bb p e=>?_⟩;cases i with
   | zero=>cases e; exact⟨a,b,rfl,rfl,e1,e2⟩
   | succ i=>exact h4 i bb p e
theorem WS{rows:List (List Int×Int)}{ys:List V}(hl:ys.length=rows.length)(h: ∀(j:Nat) (y:V),ys[j]? =some y->PrY rows j y H)(wd: ∀r∈rows,r.1.length=n)(e:H D=some (.lst ys)):PrAt H n rows D:=by
 obtain⟨ras,bas,rfl,h2,h3,h4⟩:=pr_gp (n:=n) hl h;exact⟨ras,bas,e,h2,h3,h4,wd⟩
theorem PrAt.app(h1:PrAt H n r1 a)(h2:PrAt H n r2 b): ∃xs ys,H a=some (.lst xs)/\H b=some (.lst ys)/\xs.length=r1.length/\ys.length=r2.length/\ ∀H',Same H H'->H' D=some (.lst (xs++ys))->PrAt H' n (r1++r2) D:=by
 obtain⟨ra,ba,p1⟩:=h1;obtain⟨rb,bb,p2⟩:=h2;refine⟨_,_,p1.ob,p2.ob,by rw[ε,p1.rl],by rw[ε,p2.rl],λH' k e=>⟨ra++rb,ba++bb,by rw[e,Μ],by rw[Β,Β,p1.rl,p2.rl],by rw[Β,Β,p1.bl,p2.bl],λi x p ei=>?_,λr hr=>(List.mem_append.mp hr).elim (p1.wd r) (p2.wd r)⟩⟩;by_cases hi:i<r1.length
 ·rw[Δ hi] at ei;obtain⟨c,d,f1,f2,f3,f4⟩:=p1.at_ i x p ei;exact⟨c,d,by rw[Δ (by rw[p1.rl]; exact hi)]; exact f1,by rw[Δ (by rw[p1.bl]; exact hi)]; exact f2,k _ _ f3,k _ _ f4⟩
 ·rw[Α (by omega)] at ei;obtain⟨c,d,f1,f2,f3,f4⟩:=p2.at_ _ x p ei;exact⟨c,d,by rw[Α (by rw[p1.rl]; omega),p1.rl]; exact f1,by rw[Α (by rw[p1.bl]; omega),p1.bl]; exact f2,k _ _ f3,k _ _ f4⟩
def zE (m:Nat):List (List Int×Int):=(List.range m).map λs=>((List.range m).map λp=>if p=s then (1:Int) else 0,0)
def zL (tg:Rows):List (List Int×Int):=tg.map λx=>(List.zipWith (λt g=>t-g) x.1 x.2,-1)
abbrev sSr:Stmt:=top 16
abbrev nSr:List Str:=["many"]
theorem nmSr:Nm nSr (zd sSr):=nmk (nofun)
theorem scSr:FnScope nSr ["many"] (zd sSr):=fsk (nofun)
def qSra (s:Stmt):Scope:=match s with
 | .Return (some (.ListComp _ _ sc _)) _=>sc
 | _=>nsc
abbrev cSra:Scope:=qSra ((zm sSr).getD 0 (.Pass ⟨0,0,0,0⟩))
theorem bsSra:NBScope (zd sSr) cSra ["sort"] ["many"] ["tuple","range"]:={}
def qSrb (s:Stmt):Scope:=match s with
 | .Return (some (.ListComp (.Tuple [(.Call _ [(.ListComp _ _ sc _)] _ _),_] _ _) _ _ _)) _=>sc
 | _=>nsc
abbrev cSrb:Scope:=qSrb ((zm sSr).getD 0 (.Pass ⟨0,0,0,0⟩))
theorem bsSrb:BScope (yG cSra (zd sSr)) cSrb ["place"] ["sort"] []:={}
def spSr:Sp:=λvs H Q _=> ∃(m:Nat),vs=[.int (m:Int)]/\m<=8/\ ∀l H',Same H H'->H l=none->PrAt H' m (zE m) l->Q (.ref l) H'
theorem ok_Sr(B:Bl mg)(F:Fun K "sorts_rows" "sorts_rows" sSr f fd):FnOk P w K mg base CX0 1 f fd ["many"] spSr:=by
 refine F.ok scSr (λvs H Q E h=>?_) (λcdv A outer s H vs Q E hr h=>?_)
 ·obtain⟨m,rfl,_⟩:=h;rfl
 obtain⟨m,rfl,hm,k⟩:=h;refine'⟨_,?hb,?rd⟩
 case' hb=>skip
 case' hb=>refine' zi ?g1
 case' g1=>refine' zr ?g2
 case' g2=>refine' Ye (ix:=[0]) bsSra.toNScope rfl rfl ?g3 ?g4 ?g5 ?g6
 case g3=>exact yc B.range (pa_1 (pvd nmSr 0))
 case g4=>exact λ_ _ _ _ _ _=>pgbN bsSra 0
 case g5=>exact λ_ _ _ _ _ _=>zu
 case g6=>
  intro _ _ _ _ _ _;refine' yr ?g7
  case' g7=>refine' pa_2 ?g8 zg
  case' g8=>refine' zV zz B.tuple Η ?g9 (bsSra.g 0)
  case' g9=>refine' pa_1 ?g10
  case' g10=>refine' zy (ix:=[0]) bsSrb.toCScope rfl rfl ?g11 ?g12 ?g13 ?g14
  case g11=>exact yc B.range (pa_1 (pvbN bsSra 1)) (bsSra.g 1)
  case g12=>exact λ_ _ _ _ _ _=>pgb bsSrb 0
  case g13=>exact λ_ _ _ _ _ _=>zu
  case g14=>exact λ_ _ _ _ _ _=>xX (zv vG (pvb bsSrb 0) (pvb bsSrb 1) (zw _)) zg zg
 nofun;refine⟨_,rfl,by omega,by omega,λD hD=>?_⟩;rw[Θ];refine ZR (S:=Same) (ρ:=[some (.int (m:Int))]) (PrY (zE m)) (Kp.same hD) PrY.tk (λ_ b=>G2.TK.same b) (by omega) (λi H' R hi K' kR=>?_) (λys H' g e=>?_)
 ·nofun;refine⟨_,rfl,by omega,by omega,λD2 hD2=>?_⟩;rw[Θ];refine xO (λp=>V.int (if p=i then 1 else 0)) (by omega) hD2 (λj hj H2 K2 R2 kR2=>?_) (λH2 K2 e2=>?_)
  ·have q:=kR2 _ (Same.refl _);nofun;refine⟨rfl,?_⟩;nofun;refine iteD (λh=>?_) (λh=>?_)
   ·rw[if_pos (by injection h with h; omega)] at q;exact q
   ·rw[if_neg λz=>h (by rw[z])] at q;exact q
  ·nofun;refine⟨D2,_,rfl,e2,λb H3 K3 e3=>?_⟩;nofun;refine⟨sz2,λa ha=>kR _ _ ((K2.trans K3).trans (Same.new (Same.refl _) ha)) ⟨((List.range m).map λp=>if p=i then (1:Int) else 0,0),?_,a,b,rfl,zf,?_⟩⟩
   ·unfold zE;simp[hi]
   ·rw[zk (zh e3 ha),e3,List.map_map];rfl
 ·refine k D H' g.1 hD (WS (by rw[g.2.1]; simp[zE]) g.2.2 (λr hr=>?_) e);unfold zE at hr;obtain⟨s,_,rfl⟩:=Κ.mp hr;simp
abbrev sRr:Stmt:=top 17
abbrev nRr:List Str:=["pot"]
theorem nmRr:Nm nRr (zd sRr):=nmk (nofun)
theorem scRr:FnScope nRr ["pot"] (zd sRr):=fsk (nofun)
def qRra (s:Stmt):Scope:=match s with
 | .Return (some (.ListComp _ _ sc _)) _=>sc
 | _=>nsc
abbrev cRra:Scope:=qRra ((zm sRr).getD 0 (.Pass ⟨0,0,0,0⟩))
theorem bsRra:NBScope (zd sRr) cRra ["rule"] [] ["tuple","zip","TAKES","GIVES"]:={}
def qRrb (s:Stmt):Scope:=match s with
 | .Return (some (.ListComp (.Tuple [(.Call _ [(.ListComp _ _ sc _)] _ _),_] _ _) _ _ _)) _=>sc
 | _=>nsc
abbrev cRrb:Scope:=qRrb ((zm sRr).getD 0 (.Pass ⟨0,0,0,0⟩))
theorem bsRrb:BScope (yG cRra (zd sRr)) cRrb ["taken","given"] [] []:={}
def spRr:Sp:=λvs H Q _=> ∃(p:Addr) (m:Nat) (tg:Rows),vs=[.ref p]/\PotK H p m tg/\ ∀l H',Same H H'->H l=none->PrAt H' m (zL tg) l->Q (.ref l) H'
theorem ok_Rr(B:Bl mg)(Z:KZ mg)(F:Fun K "rules_rows" "rules_rows" sRr f fd):FnOk P w K mg base CX0 1 f fd ["pot"] spRr:=by
 refine F.ok scRr (λvs H Q E h=>?_) (λcdv A outer s H vs Q E hr h=>?_)
 ·obtain⟨p,m,tg,rfl,_⟩:=h;rfl
 obtain⟨p,m,tg,rfl,hp,k⟩:=h;refine'⟨_,?hb,?rd⟩
 case' hb=>skip
 case' hb=>refine' zi ?g1
 case' g1=>refine' zr ?g2
 case' g2=>refine' Ye (ix:=[]) bsRra.toNScope rfl rfl ?g3 ?g4 ?g5 ?g6
 case g3=>exact xL (ziq (pvd nmRr 0) (pe_k Z.r))
 case g4=>exact λ_ _ _ _ _ _=>pgbN bsRra 0
 case g5=>exact λ_ _ _ _ _ _=>zu
 case g6=>
  intro _ _ _ _ _ _;refine' yr ?g7
  case' g7=>refine' pa_2 ?g8 (xQ yX zg)
  case' g8=>refine' zV zz B.tuple Η ?g9 (bsRra.g 0)
  case' g9=>refine' pa_1 ?g10
  case' g10=>refine' zy (ix:=[]) bsRrb.toCScope rfl rfl ?g11 ?g12 ?g13 ?g14
  case g11=>exact pi_zpB (K:=K) B.zip (pa_2 (ziq (pvbN bsRra 0) (pe_k Z.t (bsRra.g 2))) (ziq (pvbN bsRra 0) (pe_k Z.g (bsRra.g 3)))) rfl (bsRra.g 1)
  case g12=>
   intro _ _ _ _ _ _;refine' pg_tupK (K:=K) (n:=2) rfl rfl rfl rfl ?g15
   case' g15=>refine' zt ?g19 ?g18
   case g19=>exact pgb bsRrb 0
   case' g18=>refine' zt ?g21 zS
   case g21=>exact pgb bsRrb 1
  case g13=>exact λ_ _ _ _ _ _=>zu
  case g14=>exact λ_ _ _ _ _ _=>zo yZ (pvb bsRrb 0) (pvb bsRrb 1)
 obtain⟨ps,pr,pin,pb,ans,rs,nmz,e1,e2,e3,e4,hR⟩:=hp.ex;have m8:=hp.m8;have n8:=hp.n8;have hrl:=hR.1;nofun;refine zJ e1 rfl ?_;refine⟨pr,rfl,⟨_,SqT.of e4⟩,λD hD=>?_⟩;refine YR (S:=Same) (ρ:=[]) (xs:=rs.map V.ref) (PrY (zL tg)) (Kp.same hD) PrY.tk (λ_ b=>G2.TK.same b) (by simp; omega) (λH' K'=>SqT.of (K' _ _ e4)) (λi x H' R hx K' kR=>?_) (λys H' g e=>?_)
 ·have hi:i<rs.length:=by simpa using (ξ.mp hx).1
  have hx':V.ref rs[i]=x:=by simpa[hi] using hx
  subst hx';obtain⟨h1,h2,h3,h4,a,b,f1,f2,f3⟩:=hR.2 i rs[i] tg[i].1 tg[i].2 (by simp[hi]) (δ _);nofun;refine zJ (K' _ _ f1) rfl ?_;nofun;refine zJ (K' _ _ f1) rfl ?_;nofun;refine⟨a,b,rfl,⟨_,SqT.of (K' _ _ f2)⟩,⟨_,SqT.of (K' _ _ f3)⟩,λD2 hD2=>?_⟩;refine zip_map (λx y=>x - y) (K' _ _ f2) (K' _ _ f3) (by omega) (by omega) (λj x y H2 hx hy K2 R2 kR2=>?_) (λH2 K2 e2=>?_) hD2
  ·nofun;exact kR2 _ (Same.refl _)
  ·nofun;refine⟨D2,_,rfl,e2,λc H3 K3 e3=>?_⟩;nofun;refine⟨_,rfl,?_⟩;nofun;refine⟨sz2,λq hq=>kR _ _ ((K2.trans K3).trans (Same.new (Same.refl _) hq)) ⟨(List.zipWith (λt g=>t - g) tg[i].1 tg[i].2,-1),?_,q,c,rfl,zf,?_⟩⟩
   ·unfold zL;rw[μ,δ (by omega)];rfl
   ·rw[zk (zh e3 hq),e3]
 ·refine k D H' g.1 hD (WS (by rw[g.2.1]; simp[zL,hrl]) g.2.2 (λr hr=>?_) e);unfold zL at hr;obtain⟨x,hx,rfl⟩:=Κ.mp hr;obtain⟨i,hi,rfl⟩:=List.getElem_of_mem hx;obtain⟨h1,h2,_⟩:=hR.2 i (rs[i]'(by omega)) tg[i].1 tg[i].2 (by simp) (by simp[hi]);simp[h1,h2]
end
end K17
namespace WG
theorem sm_nn{f:Nat->Int}(h: ∀i<n,0<=f i):0<=sm n f:=by
 induction n with
 | zero=>exact Int.le_refl _
 | succ n ih=>show 0<=sm n f+f n; have:=ih λi hi=>h i (by omega); have:=h n (by omega); omega
theorem sm_set{f:Nat->Int}(hp:p<n)(h0:f p=0)(F:Nat->Int):(sm n λi=>(if i=p then v else f i)*F i)=(sm n λi=>f i*F i)+v*F p:=by
 induction n with
 | zero=>omega
 | succ n ih=>
  show(sm n λi=>(if i=p then v else f i)*F i)+(if n=p then v else f n)*F n=(sm n λi=>f i*F i)+f n*F n+v*F p;by_cases z:n=p
  ·subst z;rw[if_pos rfl,h0,zD (g:=λi=>f i*F i) λi hi=>by rw[if_neg (by omega)]];omega
  ·rw[if_neg z,ih (by omega)];omega
def tsOf (m:Nat):List (Int×Int)->(Nat->Int)->Nat->Int
 | [],f=>f
 | w::ws,f=>tsOf m ws λi=>if (m:Int)<=w.1/\i=(w.1-m).toNat then w.2 else f i
theorem Z5(F:Nat->Int): ∀(ws:List (Int×Int)) (f:Nat->Int),(ws.Pairwise λa b=>a.1<b.1)->(∀w∈ws,w.1<((m+k:Nat):Int))->(∀w∈ws,(m:Int)<=w.1->f (w.1-m).toNat=0)->
  (sm k λr=>tsOf m ws f r*F r)=(sm k λr=>f r*F r)+wsum (ws.filter λw=>decide ((m:Int)<=w.1)) λi=>F (i-m).toNat
 | [],f,_,_,_=>by simp[tsOf,wsum]
 | w::ws,f,hp,hb,h0=>by
  obtain⟨p1,p2⟩:=List.pairwise_cons.mp hp;unfold tsOf;rw[Z5 F ws _ p2 (λu hu=>hb u (χ _ hu)) λu hu hm=>by
   have:=p1 u hu;rw[if_neg λz=>by have:=z.1; have:=z.2; omega];exact h0 u (χ _ hu) hm]
  by_cases hm:(m:Int)<=w.1
  ·have e:(sm k λr=>(if (m:Int)<=w.1/\r=(w.1-m).toNat then w.2 else f r)*F r)=sm k λr=>(if r=(w.1-m).toNat then w.2 else f r)*F r:=zD λr _=>by simp only[hm,true_and]
   have hb':=hb w υ;rw[e,sm_set (by omega) (h0 w υ hm) F,List.filter_cons_of_pos (by simpa using hm),zI];omega
  ·rw[List.filter_cons_of_neg (by simpa using hm),zD (g:=λr=>f r*F r) λr _=>by rw[if_neg λz=>hm z.1]]
theorem YZ: ∀(ws:List (Int×Int)) (f:Nat->Int),(∀w∈ws,0<=w.2)->(∀r,0<=f r)-> ∀r,0<=tsOf m ws f r
 | [],f,_,h,r=>h r
 | w::ws,f,hw,h,r=>YZ ws _ (λu hu=>hw u (χ _ hu)) (λi=>by split; exact hw w υ; exact h i) r
theorem vt(p:Int×Int->Bool)(f:Int->Int):wsum ws f=wsum (ws.filter p) f+wsum (ws.filter λw=> !p w) f:=by
 induction ws with
 | nil=>rfl
 | cons w ws ih=>
  rw[zI,ih];cases h:p w
  ·rw[List.filter_cons_of_neg (by simp[h]),List.filter_cons_of_pos (by simp[h]),zI]; omega
  ·rw[List.filter_cons_of_pos h,List.filter_cons_of_neg (by simp[h]),zI]; omega
theorem Za: ∀(ws:List (Int×Int)) (f:Nat->Int) (i:Nat) (w:Int×Int),ws[i]? =some w->tsOf m (ws.take (i+1)) f=λr=>if (m:Int)<=w.1/\r=(w.1-m).toNat then w.2 else tsOf m (ws.take i) f r
 | [],f,i,w,h=>by simp at h
 | u::ws,f,0,w,h=>by simp at h; subst h; rfl
 | u::ws,f,i+1,w,h=>by
  simp only[List.getElem?_cons_succ] at h;rw[List.take_succ_cons,List.take_succ_cons];unfold tsOf;exact Za ws _ i w h
end WG
namespace K17
open PySem L2 G2 WG EL
local macro_rules | `(tactic| walk_at "v") => `(tactic| repeat (with_reducible first | walk_at "c" | refine yA ?_ | refine yB ?_ | refine yC ?_ | refine w_sl ?_ | refine z0 ?_ | refine yM ?_ | refine xS ?_))
def cg (tg:Rows) (r j:Nat):Int:=((tg.getD r ([],[])).2.getD j 0)-((tg.getD r ([],[])).1.getD j 0)
structure Fl (m:Nat) (tg:Rows) (hs:List Int):Prop where
 len:hs.length=m
 nn: ∀h∈hs,0<=h
 lo: ∀r<tg.length,(sm m λj=>hs.getD j 0*cg tg r j)<= -1
structure Rn (m:Nat) (tg:Rows) (ts:List Int):Prop where
 len:ts.length=tg.length
 nn: ∀t∈ts,0<=t
 ne: ∃r<tg.length,ts.getD r 0≠0
 up: ∀j<m,0<=sm tg.length λr=>ts.getD r 0*cg tg r j
theorem Yq{xs:List Int}(h: ∀x∈xs,0<=x)(j:Nat):0<=xs.getD j 0:=by
 rw[ζ];cases e:xs[j]? with
 | none=>exact Int.le_refl _
 | some x=>exact h x (ο e)
theorem vecS(hi:i<m):vec m (zE m++zL tg) (m+i) j=if j<m then (if j=i then 1 else 0) else 0:=by
 unfold vec;rw[if_neg (by omega),Δ (by simp[zE]; omega),show m+i-m=i by omega];unfold zE;rw[μ,List.getElem?_range hi];dsimp only[Option.map];by_cases hj:j<m
 ·rw[if_pos hj,if_pos hj];simp[List.getD_eq_getElem?_getD,hj]
 ·rw[if_neg hj,if_neg hj];split<;>rfl
theorem vecR(hw: ∀x∈tg,x.1.length=m/\x.2.length=m)(hr:r<tg.length):vec m (zE m++zL tg) (m+(m+r)) j=if j<m then-cg tg r j else if j=m then -1 else 0:=by
 unfold vec;rw[if_neg (by omega),Α (by simp[zE])];have e:m+(m+r)-m-(zE m).length=r:=by simp[zE]
 rw[e];unfold zL;rw[μ,δ hr];dsimp only[Option.map];obtain⟨w1,w2⟩:=hw tg[r] (Ο hr);by_cases hj:j<m
 ·rw[if_pos hj,if_pos hj];have e1:j<tg[r].1.length:=by omega
  have e2:j<tg[r].2.length:=by omega
  simp[List.getD_eq_getElem?_getD,cg,hr,e1,e2,List.getElem?_zipWith];omega
 ·rw[if_neg hj,if_neg hj]
theorem num_fl(hw: ∀x∈tg,x.1.length=m/\x.2.length=m){x:Nat->Int}(hd:1<=d)(M:Met m (zE m++zL tg).length (vec m (zE m++zL tg)) x d):Fl m tg (wd ((List.range m).map x)):=by
 have hl:(zE m++zL tg).length=m+tg.length:=by simp[zE,zL]
 rw[hl] at M;have x0: ∀j<m,0<=x j:=λj hj=>by
  have:=M j (by omega);rw[vecS hj,if_neg (by omega),xv hj λi hi hne=>by rw[vecS hj,if_pos hi,if_neg hne,Int.zero_mul],vecS hj,if_pos hj,if_pos rfl] at this;omega
 refine⟨by rw[Zx]; simp,λh hh=>?_,λr hr=>?_⟩
 ·unfold wd at hh;obtain⟨y,hy,rfl⟩:=Κ.mp hh;obtain⟨j,hj,rfl⟩:=Κ.mp hy;have:=x0 j (Λ.mp hj);split
  ·exact Int.ediv_nonneg this (by omega)
  ·exact Int.le_refl _
 ·have a:=M (m+r) (by omega);rw[vecR hw hr,if_neg (by omega),if_pos rfl,zD (g:=λj=> -1*(x j*cg tg r j)) λj hj=>by rw[vecR hw hr,if_pos hj,Int.neg_mul,Int.mul_comm]; omega,yY] at a;have e: ∀j<m,x j=dv ((List.range m).map x)*(wd ((List.range m).map x)).getD j 0:=λj hj=>by
   have:=XS ((List.range m).map x) j;unfold cf at this;rw[this];simp[List.getD_eq_getElem?_getD,hj]
  rw[zD (g:=λj=>dv ((List.range m).map x)*((wd ((List.range m).map x)).getD j 0*cg tg r j)) λj hj=>by rw[<-Int.mul_assoc,<-e j hj],yY] at a;have h0:0<=dv ((List.range m).map x):=by unfold dv; split<;>omega
  generalize (sm m λj=>(wd ((List.range m).map x)).getD j 0*cg tg r j)=S at a ⊢;rcases Int.lt_or_le S 0 with h | h
  ·omega
  ·have:=Int.mul_nonneg h0 h;omega
theorem wt_rn{m:Nat}{tg:Rows}(hw: ∀x∈tg,x.1.length=m/\x.2.length=m){ws:List (Int×Int)}(W:Bw m (zE m++zL tg).length (vec m (zE m++zL tg)) ws):Rn m tg ((List.range tg.length).map (tsOf m ws λ_=>0)):=by
 have hl:(zE m++zL tg).length=m+tg.length:=by simp[zE,zL]
 obtain⟨rise,rng,pos,ne,zer,neg⟩:=W;rw[hl] at rng;have gd: ∀r,r<tg.length->((List.range tg.length).map (tsOf m ws λ_=>0)).getD r 0=tsOf m ws (λ_=>0) r:=λr hr=>by simp[List.getD_eq_getElem?_getD,hr]
 have key: ∀j≤m,(sm tg.length λr=>tsOf m ws (λ_=>0) r*(if j<m then-cg tg r j else -1))=wsum (ws.filter λw=>decide ((m:Int)<=w.1)) λi=>vec m (zE m++zL tg) (m+i.toNat) j:=λj hj=>by
  rw[Z5 (m:=m) (k:=tg.length) _ ws (λ_=>0) rise (λw hw'=>(rng w hw').2) λ_ _ _=>rfl,x4 λr _=>Int.zero_mul _,Int.zero_add];refine vv λw hw'=>?_;obtain⟨h1,h2⟩:=List.mem_filter.mp hw';have h2:(m:Int)<=w.1:=by simpa using h2
  have h3:=rng w h1;have e:m+w.1.toNat=m+(m+(w.1-m).toNat):=by omega
  rw[e,vecR hw (by omega)];by_cases z:j<m
  ·rw[if_pos z,if_pos z]
  ·rw[if_neg z,if_neg z,if_pos (by omega)]
 have low: ∀j≤m,0<=wsum (ws.filter λw=> !decide ((m:Int)<=w.1)) (λi=>vec m (zE m++zL tg) (m+i.toNat) j)/\(j=m->wsum (ws.filter λw=> !decide ((m:Int)<=w.1)) (λi=>vec m (zE m++zL tg) (m+i.toNat) j)=0):=λj hj=>by
  have at_: ∀w∈ws.filter λw=> !decide ((m:Int)<=w.1),vec m (zE m++zL tg) (m+w.1.toNat) j=if j<m then (if j=w.1.toNat then 1 else 0) else 0:=λw hw'=>by
   obtain⟨h1,h2⟩:=List.mem_filter.mp hw';have h2: ¬(m:Int)<=w.1:=by simpa using h2
   have h3:=rng w h1;exact vecS (by omega)
  refine⟨wsum_nonneg λw hw'=>⟨by have:=pos w (List.mem_filter.mp hw').1; omega,?_⟩,λz=>?_⟩
  ·rw[at_ w hw'];split
   ·split<;>decide
   ·decide
  ·rw[vv (g:=λ_=>0) λw hw'=>by rw[at_ w hw',if_neg (by omega)]];unfold wsum;generalize ws.filter (λw=> !decide ((m:Int)<=w.1))=l
   induction l with
   | nil=>rfl
   | cons a l ih=>simpa using ih
 refine⟨by simp,λt ht=>?_,?_,λj hj=>?_⟩
 ·obtain⟨r,_,rfl⟩:=Κ.mp ht;exact YZ ws _ (λw hw'=>by have:=pos w hw'; omega) (λ_=>Int.le_refl _) r
 ·have a:=key m (θ _);rw[vt λw=>decide ((m:Int)<=w.1),(low m (θ _)).2 rfl,<-a,Int.add_zero] at neg;refine Classical.byContradiction λz=>?_;rw[x4 λr hr=>by
   have:tsOf m ws (λ_=>0) r=0:=Classical.byContradiction λy=>z ⟨r,hr,by rw[gd r hr]; exact y⟩;rw[this,Int.zero_mul]] at neg
  omega
 ·have a:=key j (by omega);have b:=zer j hj;rw[vt λw=>decide ((m:Int)<=w.1),<-a] at b;have c:=(low j (by omega)).1;rw[zD (g:=λr=> -1*(((List.range tg.length).map (tsOf m ws λ_=>0)).getD r 0*cg tg r j)) λr hr=>by rw[if_pos hj,gd r hr,Int.mul_neg]; omega,yY] at b;omega
theorem SameT.k(T:Tbs H p1 p2)(s:SameT p1 p2 H H'): ∀a u,H a=some u->(∀ps,u≠.tbl ps)->H' a=some u:=λa u e h=>by
 obtain⟨t1,e1⟩:=T.1.tbl;obtain⟨t2,e2⟩:=T.2.tbl;exact s a u (λz=>by rw[z,e1] at e; cases e; exact h _ rfl) (λz=>by rw[z,e2] at e; cases e; exact h _ rfl) e
theorem SameT.tk(T:Tbs H p1 p2)(s:SameT p1 p2 H H'):G2.TK H H':=⟨λ_ _ e=>s.k T _ _ e (λ_ z=>by cases z),λ_ _ _ e=>s.k T _ _ e (λ_ z=>by cases z)⟩
theorem Tbs.same(T:Tbs H p1 p2)(k:Same H H'):Tbs H' p1 p2:=⟨T.1.same k,T.2.same k⟩
theorem Tbs.at_(T:Tbs H p1 p2)(hD:H D=some (.lst xs))(k:SameB D H H'):Tbs H' p1 p2:=
 ⟨T.1.keep (λps e=>k _ _ (λz=>by rw[z,hD] at e; cases e) e) λa φ e=>k _ _ (λz=>by rw[z,hD] at e; cases e) e,T.2.keep (λps e=>k _ _ (λz=>by rw[z,hD] at e; cases e) e) λa φ e=>k _ _ (λz=>by rw[z,hD] at e; cases e) e⟩
theorem fa_big: ∀k≤8,fac (k+1)*30^(k+1)<2^4000:=nofun
theorem Rls.wd(h:Rls H rs tg m): ∀x∈tg,(x.1.length=m/\x.2.length=m)/\(∀y∈x.1,0<=y/\y<=30)/\ ∀y∈x.2,0<=y/\y<=30:=λx hx=>by
 obtain⟨i,hi,rfl⟩:=List.getElem_of_mem hx;obtain⟨h1,h2,h3,h4,_⟩:=h.2 i (rs[i]'(by rw[h.1]; exact hi)) tg[i].1 tg[i].2 (δ _) (δ hi);exact⟨⟨h1,h2⟩,λy hy=>by have:=h3 y hy; omega,h4⟩
theorem fa_prs(h:Rls H rs tg m)(m8:m<=8)(n8:tg.length<=8):PrS m (zE m++zL tg) 30:=by
 refine⟨by omega,by simp[zE,zL]; omega,by decide,λr hr=>?_,fa_big m m8⟩;rcases List.mem_append.mp hr with hr | hr
 ·unfold zE at hr;obtain⟨s,_,rfl⟩:=Κ.mp hr;refine⟨λx hx=>?_,by show(0:Int).natAbs<=30; decide⟩;obtain⟨j,_,rfl⟩:=Κ.mp hx;split<;>decide
 ·unfold zL at hr;obtain⟨x,hx,rfl⟩:=Κ.mp hr;obtain⟨_,b1,b2⟩:=h.wd x hx;refine⟨λy hy=>?_,by show(-1:Int).natAbs<=30; decide⟩;rw[List.mem_iff_getElem] at hy;obtain⟨j,hj,rfl⟩:=hy;rw[List.length_zipWith] at hj;rw[List.getElem_zipWith];have c1:=b1 _ (Ο (l:=x.1) (n:=j) (by omega));have c2:=b2 _ (Ο (l:=x.2) (n:=j) (by omega));omega
theorem sm_log(h: ∀x∈xs,Sm x):(gcdL xs).log2<9000:=by
 by_cases z:gcdL xs=0
 ·rw[z]; decide
 ·obtain⟨x,hx,h0⟩:=Xv z;have a:=x8 hx h0;have b:x.natAbs<2^4000:=h x hx;have c:(gcdL xs).log2<4000:=(Nat.log2_lt z).mpr (Nat.lt_of_le_of_lt a b);omega
theorem wd_sm(h: ∀x∈xs,Sm x): ∀y∈wd xs,Sm y:=λy hy=>by
 obtain⟨x,hx,hle⟩:=YF hy;exact Nat.lt_of_le_of_lt hle (h x hx)
theorem WI: ∀(ws:List (Int×Int)) (f:Nat->Int),(∀w∈ws,Sm w.2)->(∀r,Sm (f r))-> ∀r,Sm (tsOf m ws f r)
 | [],f,_,h,r=>h r
 | w::ws,f,hw,h,r=>WI ws _ (λu hu=>hw u (χ _ hu)) (λi=>by split; exact hw w υ; exact h i) r
abbrev sFa:Stmt:=top 15
abbrev nFa:List Str:=["pot","many","told","times","number","often"]
theorem nmFa:Nm nFa (zd sFa):=nmk (nofun)
theorem scFa:FnScope nFa ["pot"] (zd sFa):=fsk (nofun)
def qFaa (s:Stmt):Scope:=match s with
 | .Assign _ (.ListComp _ _ sc _) _=>sc
 | _=>nsc
abbrev cFaa:Scope:=qFaa ((zm sFa).getD 3 (.Pass ⟨0,0,0,0⟩))
theorem bsFaa:BScope (zd sFa) cFaa ["rule"] [] []:={}
theorem loFa_3:(zd sFa).names.lookup ("times":Str)=some .local:=nofun
def spFa (p1 p2:Addr):Sp:=λvs H Q _=> ∃(p:Addr) (m:Nat) (tg:Rows),vs=[.ref p]/\PotK H p m tg/\Tbs H p1 p2/\
 (∀H' q r hs,SameT p1 p2 H H'->Tbs H' p1 p2->Fl m tg hs->(∀h∈hs,Sm h)->H' q=some (.tup [.str "falls",.ref r])->H' r=some (.tup (hs.map V.int))->Q (.ref q) H')/\
 (∀H' q r ts,SameT p1 p2 H H'->Tbs H' p1 p2->Rn m tg ts->(∀t∈ts,Sm t)->H' q=some (.tup [.str "round",.ref r])->H' r=some (.tup (ts.map V.int))->Q (.ref q) H')
section
variable {P:Program} {w:World} {K:W.Frag} {mg:Str->Option Value} {base:Heap}
theorem ok_Fa{f:Addr}{fd:FuncData}(B:Bl mg)(Z:KZ mg)(fG:Has P w K mg base 5 "weighed" ["many","problem"] (spWg p1 p2))(fS:Has P w K mg base 1 "sorts_rows" ["many"] spSr)(fR:Has P w K mg base 1 "rules_rows" ["pot"] spRr)(fW:Has P w K mg base 2 "without_divisor" ["numbers"] spWd)(F:Fun K "falls" "falls" sFa f fd):FnOk P w K mg base CX0 6 f fd ["pot"] (spFa p1 p2):=by
 refine F.ok scFa (λvs H Q E h=>?_) (λcdv A outer s H vs Q E hr h=>?_)
 ·obtain⟨p,m,tg,rfl,_⟩:=h;rfl
 obtain⟨p,m,tg,rfl,hp,hT,kF,kR⟩:=h;refine'⟨_,?hb,?rd⟩
 case' hb=>skip
 case' hb=>refine' ze ?g1 ?g2
 case' g2=>refine' ze ?g3 ?g4
 case' g4=>refine' ze ?g5 ?g6
 case' g6=>refine' ze ?g7 ?g8
 case' g8=>refine' ze ?g9 ?g10
 case' g10=>refine' zi ?g11
 case g1=>exact zj nmFa 1 (zP zp B.len Ρ (pa_1 (ziq (pvd nmFa 0) (pe_k Z.s))))
 case g3=>exact zj nmFa 2 (pe_f fG hr (by decide) (pa_2 (pvd nmFa 1) (zo wV (pe_f fS hr (by decide) (pa_1 (pvd nmFa 1))) (pe_f fR hr (by decide) (pa_1 (pvd nmFa 0))))))
 case' g5=>refine' zZ ?g12 ?g13 zB
 case g12=>exact zv vG (ziq (pvd nmFa 2) zg) wg (zw _)
 case' g13=>refine' zi ?g15
 case g15=>exact zr (yr (pa_2 wg (zV zz B.tuple Η (pa_1 (pe_f fW hr (by decide) (pa_1 (ziq (pvd nmFa 2) zg)))))))
 case' g7=>refine' yi (i:=3) (ix:=[]) nmFa.nd rfl loFa_3 bsFaa.toCScope rfl rfl ?g16 ?g17 ?g18 ?g19
 case g16=>exact xL (ziq (pvd nmFa 0) (pe_k Z.r))
 case g17=>exact λ_ _ _ _ _ _=>pgb bsFaa 0
 case g18=>exact λ_ _ _ _ _ _=>zu
 case g19=>exact λ_ _ _ _ _ _=>zg
 case' g9=>refine' ye Ψ rfl ?g20 (xM rfl (zt (pgd nmFa 4) (zt (pgd nmFa 5) zS))) ?g21
 case g20=>exact xL (ziq (pvd nmFa 2) zg)
 case' g21=>refine' zi ?g22
 case' g22=>refine' zZ ?g23 ?g24 zB
 case g23=>exact zv Yg (pvd nmFa 4) (pvd nmFa 1) (zw _)
 case' g24=>refine' zi ?g26
 case g26=>exact zX (pvd nmFa 5) (ya (pvd nmFa 3) (zo yZ (pvd nmFa 4) (pvd nmFa 1)) yu)
 case g11=>exact zr (yr (pa_2 wg (zV wc B.tuple Η (pa_1 (pvd nmFa 3)))))
 obtain⟨ps,pr,pin,pb,ans,rs,nmz,e1,e2,e3,e4,hR⟩:=hp.ex;have m8:=hp.m8;have n8:=hp.n8;have hrl:=hR.1;have hw:=λx hx=>(hR.wd x hx).1;nofun;refine zJ e1 rfl ?_;nofun;refine⟨ps,_,rfl,.inr (SqT.of e2),?_⟩;rw[e3];nofun;refine⟨m,rfl,m8,λl1 H1 K1 f1 P1=>?_⟩;nofun;refine⟨p,m,tg,rfl,hp.same K1,λl2 H2 K2 f2 P2=>?_⟩;nofun;have P1:PrAt H2 m (zE m) l1:=let ⟨ra,ba,q⟩:=P1; ⟨ra,ba,q.same λa u e _=>K2 a u e⟩
 obtain⟨xs,ys,g1,g2,g3,g4,_⟩:=PrAt.app (D:=0) P1 P2;refine⟨l1,l2,xs,ys,rfl,rfl,g1,g2,?_,λl3 hl3=>?_⟩
 ·rw[g3,g4];have:(zE m).length+(zL tg).length<=16:=by simp[zE,zL]; omega
  exact Τ this (by decide)
 obtain⟨xs',ys',g1',g2',_,_,g5⟩:=PrAt.app (D:=l3) P1 P2;rw[g1] at g1'; rw[g2] at g2';cases g1'; cases g2'
 have K3:Same H2 (upd H2 l3 (.lst (xs++ys))):=Same.new (Same.refl _) hl3;have P3:=g5 _ K3 zf;generalize upd H2 l3 (.lst (xs++ys))=H3 at K3 P3 ⊢;have K3:=(K1.trans K2).trans K3;have T3:=hT.same K3;nofun;refine⟨l3,m,_,30,rfl,P3,fa_prs hR m8 n8,T3,λH4 q pp x d s4 T4 hd M Sd Sx eq ep=>?_,λH4 q pp qs ws s4 T4 W Sw eq ep hPs=>?_⟩
 ·have hxs: ∀y∈(List.range m).map x,Sm y:=λy hy=>by
   obtain⟨j,hj,rfl⟩:=Κ.mp hy;exact Sx j (Λ.mp hj)
  nofun;refine zJ eq rfl ?_;nofun;refine⟨rfl,?_⟩;nofun;refine iteP rfl ?_;nofun;refine zJ eq rfl ?_;nofun;refine⟨pp,(List.range m).map x,rfl,by rw[ep,List.map_map]; rfl,by simp; omega,sm_log hxs,λq2 H5 K5 f5 e5=>?_⟩;nofun;refine⟨q2,_,rfl,e5,λr H6 K6 e6=>?_⟩;nofun;refine⟨sz2,λq3 hq3=>?_⟩;have K7:=(K5.trans K6).trans (Same.new (o:= .tup [.str "falls",.ref r]) (Same.refl _) hq3);exact kF _ q3 r _ (λa u n1 n2 e=>K7 _ _ (s4 a u n1 n2 (K3 _ _ e))) (T4.same K7) (num_fl hw hd M) (wd_sm hxs) zf (by rw[zk (zh e6 hq3),e6])
 ·nofun;refine zJ eq rfl ?_;nofun;refine⟨rfl,?_⟩;nofun;refine iteQ (by decide) ?_;nofun;have tk:G2.TK H H4:=⟨λ_ _ e=>s4.k T3 _ _ (K3 _ _ e) (λ_ z=>by cases z),λ_ _ _ e=>s4.k T3 _ _ (K3 _ _ e) (λ_ z=>by cases z)⟩;refine zJ (tk.t _ _ e1) rfl ?_;refine⟨pr,rfl,⟨_,SqT.of (tk.t _ _ e4)⟩,λD hD=>?_⟩;refine YV (ws:=rs) V.ref (λ_=>V.int 0) (SqT.of (tk.t _ _ e4)) (by omega) hD (λr _ H' K' R kR'=>?_) (λH5 K5 e5=>?_)
  ·nofun;exact kR' _ (Same.refl _)
  nofun;refine zJ (K5 _ _ eq) rfl ?_;refine⟨pp,rfl,⟨_,SqT.of (K5 _ _ ep)⟩,?_⟩;have T5:=T4.same K5;have e5':H5 D=some (.lst (((List.range tg.length).map (tsOf m (ws.take 0) λ_=>0)).map V.int)):=by
   rw[e5];congr 2;refine List.ext_getElem (by simp[hrl]) λi h1 h2=>?_;simp[tsOf]
  refine Xx (xs:=qs.map V.ref) (λi σ H'=> ∃u4 u5,σ=[some (.ref p),some (.int (m:Int)),some (.ref q),some (.ref D),u4,u5]/\SameB D H5 H'/\H' D=some (.lst (((List.range tg.length).map (tsOf m (ws.take i) λ_=>0)).map V.int))) ⟨none,none,rfl,λ_ _ _ e=>e,e5'⟩ (λi σ H' _ ⟨_,_,_,k,_⟩=>SqT.of (k _ _ (zh ep hD) (K5 _ _ ep))) ?_ ?_
  ·rintro i x σ H' hx ⟨u4,u5,rfl,k5,eD⟩;have hi:i<qs.length:=by simpa using (ξ.mp hx).1
   have hx':V.ref qs[i]=x:=by simpa[hi] using hx
   subst hx';have hiw:i<ws.length:=by rw[<-hPs.1]; exact hi
   have hq:=hPs.2 i qs[i] ws[i] (by simp[hi]) (by simp[hiw]);have hrg:=W.rng ws[i] (Ο hiw);have hll:(zE m++zL tg).length=m+tg.length:=by simp[zE,zL]
   rw[hll] at hrg;have tt:=Za (m:=m) ws (λ_=>0) i ws[i] (by simp[hiw]);refine⟨_,_,rfl,SqT.of (k5 _ _ (zh hq hD) (K5 _ _ hq)),rfl,?_⟩;refine⟨_,_,rfl,?_⟩;nofun;refine⟨_,_,rfl,?_⟩;nofun;refine⟨rfl,?_⟩;nofun;refine iteD (λh=>?_) (λh=>?_)
   ·nofun;have hix:ixN (((List.range tg.length).map (tsOf m (ws.take i) λ_=>0)).map V.int).length (ws[i].1 - (m:Int))=some (ws[i].1 - (m:Int)).toNat:=by
     unfold ixN;rw[if_pos (by omega),if_pos (by simp; omega)]
    refine xP eD hix ?_;refine⟨_,_,rfl,λa u n e=>by rw[zk n]; exact k5 a u n e,?_⟩;rw[zf,tt];congr 2;refine List.ext_getElem (by simp) λa h1 h2=>?_;rw[List.getElem_set];by_cases z:(ws[i].1-(m:Int)).toNat=a
    ·rw[if_pos z];simp[h,z]
    ·rw[if_neg z];simp[h];intro y;exact absurd (by omega) z
   ·nofun;refine⟨_,_,rfl,k5,?_⟩;rw[eD,tt];congr 2;refine List.ext_getElem (by simp) λa h1 h2=>?_;simp[h]
  ·rintro σ H' ⟨u4,u5,rfl,k5,eD⟩;rw[ε,hPs.1,List.take_length] at eD;nofun;refine⟨D,_,rfl,.inl ⟨SqL.of eD,λr hr'=>?_⟩⟩;have K6:Same H' (upd H' r (.tup (((List.range tg.length).map (tsOf m ws λ_=>0)).map V.int))):=Same.new (Same.refl _) hr';have e6:upd H' r (.tup (((List.range tg.length).map (tsOf m ws λ_=>0)).map V.int)) r=some (.tup (((List.range tg.length).map (tsOf m ws λ_=>0)).map V.int)):=zf;generalize upd H' r (.tup (((List.range tg.length).map (tsOf m ws λ_=>0)).map V.int))=H6 at K6 e6 ⊢;nofun;refine⟨sz2,λq3 hq3=>?_⟩;have K7:=K6.trans (Same.new (o:= .tup [.str "round",.ref r]) (Same.refl _) hq3);refine kR _ q3 r _ (λa u n1 n2 e=>?_) ((T5.at_ e5 k5).same K7) (wt_rn hw W) (λt ht=>?_) zf (by rw[zk (zh e6 hq3),e6])
   ·have:=s4 a u n1 n2 (K3 _ _ e);exact K7 _ _ (k5 _ _ (zh this hD) (K5 _ _ this))
   ·obtain⟨j,_,rfl⟩:=Κ.mp ht;exact WI ws _ Sw (λ_=>show(0:Int).natAbs<2^4000 by decide+kernel) j
end
end K17
namespace K17
open PySem L2 G2 EL
local macro_rules | `(tactic| walk_at "v") => `(tactic| repeat (with_reducible first | walk_at "c" | refine yA ?_ | refine yB ?_ | refine yC ?_ | refine w_sl ?_ | refine z0 ?_ | refine yM ?_ | refine xS ?_))
theorem Rls.get(h:Rls H rs tg m)(hi:i<tg.length): ∃(r a b:Addr),rs[i]? =some r/\H r=some (.tup [.ref a,.ref b])/\H a=some (.tup (tg[i].1.map V.int))/\H b=some (.tup (tg[i].2.map V.int))/\tg[i].1.length=m/\tg[i].2.length=m/\(∀x∈tg[i].1,0<=x/\x<=30)/\(∀x∈tg[i].2,0<=x/\x<=30):=by
 have hi':i<rs.length:=by have:=h.1; omega
 obtain⟨h1,h2,h3,h4,a,b,h5,h6,h7⟩:=h.2 i rs[i] tg[i].1 tg[i].2 (by simp[hi']) (by simp[hi]);exact⟨rs[i],a,b,by simp[hi'],h5,h6,h7,h1,h2,λx hx=>by have:=h3 x hx; omega,h4⟩
def chg (x:List Int×List Int):List Int:=(List.range x.1.length).map λj=>x.2.getD j 0-x.1.getD j 0
abbrev sWl:Stmt:=top 2
abbrev nWl:List Str:=["numbers","divisor"]
theorem nmWl:Nm nWl (zd sWl):=nmk (nofun)
theorem scWl:FnScope nWl ["numbers"] (zd sWl):=fsk (nofun)
def qWla (s:Stmt):Scope:=match s with
 | .Return (some (.ListComp _ _ sc _)) _=>sc
 | _=>nsc
abbrev cWla:Scope:=qWla ((zm sWl).getD 1 (.Pass ⟨0,0,0,0⟩))
theorem bsWla:BScope (zd sWl) cWla ["number"] ["divisor"] []:={}
def spWl:Sp:=λvs H Q _=> ∃(p:Addr) (xs:List Int),vs=[.ref p]/\H p=some (.lst (xs.map V.int))/\xs.length<=1000/\(gcdL xs).log2<9000/\ ∀q H',Same H H'->H q=none->H' q=some (.lst ((wd xs).map V.int))->Q (.ref q) H'
section
variable {P:Program} {w:World} {K:W.Frag} {mg:Str->Option Value} {base:Heap}
theorem ok_Wl(B:Bl mg)(fC:Has P w K mg base 1 "common_divisor" ["numbers"] spCd)(F:Fun K "without_divisor" "without_divisor" sWl f fd):FnOk P w K mg base CX0 2 f fd ["numbers"] spWl:=by
 refine F.ok scWl (λvs H Q E h=>?_) (λcdv A outer s H vs Q E hr h=>?_)
 ·obtain⟨p,xs,rfl,_⟩:=h;rfl
 obtain⟨p,xs,rfl,hp,hl,hg,k⟩:=h;refine'⟨_,?hb,?rd⟩
 case' hb=>skip
 case' hb=>refine' ze ?g1 ?g2
 case' g2=>refine' zi ?g3
 case g1=>exact zj nmWl 1 (pe_f fC hr (by decide) (pa_1 (pvd nmWl 0)))
 case' g3=>refine' zr ?g4
 case' g4=>refine' zy (ix:=[1]) bsWla.toCScope rfl rfl ?g5 ?g6 ?g7 ?g8
 case g5=>exact yf (pvd nmWl 0)
 case g6=>exact λ_ _ _ _ _ _=>pgb bsWla 0
 case g7=>exact λ_ _ _ _ _ _=>zu
 case g8=>exact λ_ _ _ _ _ _=>xX (zv vF (pvb bsWla 1) zg (zw _)) (zo op_fdivL (pvb bsWla 0) (pvb bsWla 1)) zg
 nofun;refine⟨p,xs,rfl,hp,?_⟩;nofun;refine⟨p,rfl,⟨_,SqL.of hp⟩,λD hD=>?_⟩;refine vZ (ws:=xs) V.int (λx=>V.int (if 0<gcdL xs then x / (gcdL xs:Int) else 0)) hp hl hD (λx hx H' K' R kR=>?_) (λH2 K2 e2=>?_)
 ·nofun;have kR:=kR _ (Same.refl _);refine iteD (λh=>?_) (λh=>?_)
  ·rw[if_pos (by omega)] at kR;nofun;exact⟨_,_,rfl,rfl,⟨by omega,by rw[Int.natAbs_natCast]; exact hg⟩,kR⟩
  ·rw[if_neg (by omega)] at kR;nofun;exact kR
 exact k D H2 K2 hD (by rw[e2]; unfold wd; rw[List.map_map]; rfl)
abbrev sFw:Stmt:=top 29
abbrev nFw:List Str:=["rows","start","column","place"]
theorem nmFw:Nm nFw (zd sFw):=nmk (nofun)
theorem scFw:FnScope nFw ["rows","start","column"] (zd sFw):=fsk (nofun)
def spFw:Sp:=λvs H Q _=> ∃(l:Addr) (s c:Nat) (as:List Addr) (rows:List (List Int)),vs=[.ref l,.int (s:Int),.int (c:Int)]/\H l=some (.lst (as.map V.ref))/\RL H as rows/\s<=rows.length/\rows.length<=1000/\(∀r∈rows,c<r.length)/\Q (oV (xy rows s c)) H
theorem ok_Fw(B:Bl mg)(F:Fun K "first_with" "first_with" sFw f fd):FnOk P w K mg base CX0 1 f fd ["rows","start","column"] spFw:=by
 refine F.ok scFw (λvs H Q E h=>?_) (λcdv A outer s H vs Q E hr h=>?_)
 ·obtain⟨l,s',c,as,rows,rfl,_⟩:=h;rfl
 obtain⟨l,s',c,as,rows,rfl,hl,hr,hs,hn,hc,k⟩:=h;refine'⟨_,?hb,?rd⟩
 case' hb=>skip
 case' hb=>refine' ze ?g1 ?g2
 case' g2=>refine' zi ?g3
 case' g1=>refine' ye Ψ rfl ?g4 (pgd nmFw 3) ?g5
 case g4=>exact WU B.range (pa_2 (pvd nmFw 1) (zP zp B.len Ρ (pa_1 (pvd nmFw 0))))
 case' g5=>refine' zi ?g6
 case' g6=>refine' zZ ?g7 ?g8 zB
 case g7=>exact zv wC (ziq (ziq (pvd nmFw 0) (pvd nmFw 3)) (pvd nmFw 2)) zg (zw _)
 case' g8=>refine' zi ?g10
 case g10=>exact zr (pvd nmFw 3)
 case g3=>exact zr vD
 nofun;refine w_forR2 ?_;nofun;refine⟨l,_,rfl,.inl (SqL.of hl),?_⟩;rw[ε,hr.1];nofun;refine⟨_,_,rfl,⟨by omega,by omega,by omega,by omega⟩,?_⟩;rw[show((rows.length:Int) - (s':Int)).toNat=rows.length - s' by omega];refine yw (n:=rows.length - s') (λi σ H'=> ∃u,σ=[some (.ref l),some (.int (s':Int)),some (.int (c:Int)),u]/\H=H'/\ ∀j,s'<=j->j<s'+i->ro rows j c=0) ⟨none,rfl,rfl,λj h1 h2=>by omega⟩ ?_ ?_
 ·rintro i σ H' hi ⟨u,rfl,rfl,hf⟩;obtain⟨a,e1,e2,e3⟩:=hr.at_ (i:=s'+i) (by omega);have ei:(s':Int)+(i:Int)=((s'+i:Nat):Int):=by omega
  rw[ei];nofun;refine zC (v:= .ref a) hl (zx (by rw[μ,e1]; rfl)) ?_;nofun;refine zC e3 (atL (hc _ (ο e2))) ?_;nofun;refine⟨rfl,?_⟩;nofun;refine Zj (λh=>?_) (λh=>?_)
  ·have hne:ro rows (s'+i) c≠0:=λz=>h (congrArg V.int z);have ef:xy rows s' c=some (s'+i):=by
    unfold xy;rw[List.find?_range'_eq_some];refine⟨by simpa using hne,List.mem_range'_1.mpr ⟨by omega,by omega⟩,λj h1 h2=>?_⟩;simpa using hf j h1 h2
   rw[ef] at k;nofun;exact k
  ·have he:ro rows (s'+i) c=0:=by injection h
   refine⟨_,rfl,rfl,λj h1 h2=>?_⟩;rcases Nat.lt_or_ge j (s'+i) with z | z
   ·exact hf j h1 z
   ·rw[show j=s'+i by omega]; exact he
 ·rintro σ H' ⟨u,rfl,rfl,hf⟩;have ef:xy rows s' c=none:=by
   unfold xy;rw[List.find?_eq_none];intro j hj;have:=List.mem_range'_1.mp hj;simpa using hf j this.1 (by omega)
  rw[ef] at k;nofun;exact k
abbrev sWc:Stmt:=top 30
abbrev nWc:List Str:=["row","lead","column","size","times"]
theorem nmWc:Nm nWc (zd sWc):=nmk (nofun)
theorem scWc:FnScope nWc ["row","lead","column"] (zd sWc):=fsk (nofun)
def qWca (s:Stmt):Scope:=match s with
 | .Return (some (.Call _ [(.ListComp _ _ sc _)] _ _)) _=>sc
 | _=>nsc
abbrev cWca:Scope:=qWca ((zm sWc).getD 2 (.Pass ⟨0,0,0,0⟩))
theorem bsWca:BScope (zd sWc) cWca ["one","other"] ["size","times"] []:={}
def spWc:Sp:=λvs H Q _=> ∃(a b:Addr) (c n m:Nat) (row lead:List Int),vs=[.ref a,.ref b,.int (c:Int)]/\H a=some (.lst (row.map V.int))/\H b=some (.lst (lead.map V.int))/\row.length=n/\lead.length=n/\n<=1000/\c<n/\(∀x∈row,x.natAbs<2^m)/\(∀x∈lead,x.natAbs<2^m)/\2*m+1<=9000/\ ∀q H',Same H H'->H q=none->H' q=some (.lst ((wcol row lead c).map V.int))->Q (.ref q) H'
theorem ok_Wc(B:Bl mg)(fW:Has P w K mg base 2 "without_divisor" ["numbers"] spWl)(F:Fun K "without_column" "without_column" sWc f fd):FnOk P w K mg base CX0 3 f fd ["row","lead","column"] spWc:=by
 refine F.ok scWc (λvs H Q E h=>?_) (λcdv A outer s H vs Q E hr h=>?_)
 ·obtain⟨a,b,c,n,m,row,lead,rfl,_⟩:=h;rfl
 obtain⟨a,b,c,n,m,row,lead,rfl,ha,hb,h1,h2,hn,hc,b1,b2,hm,k⟩:=h;refine'⟨_,?hb,?rd⟩
 case' hb=>skip
 case' hb=>refine' ze ?g1 ?g2
 case' g2=>refine' ze ?g3 ?g4
 case' g4=>refine' zi ?g5
 case g1=>exact zj nmWc 3 (ziq (pvd nmWc 1) (pvd nmWc 2))
 case g3=>exact zj nmWc 4 (ziq (pvd nmWc 0) (pvd nmWc 2))
 case' g5=>refine' zr ?g6
 case' g6=>refine' pe_f fW hr (by decide) ?g7
 case' g7=>refine' pa_1 ?g8
 case' g8=>refine' zy (ix:=[3,4]) bsWca.toCScope rfl rfl ?g9 ?g10 ?g11 ?g12
 case g9=>exact wU B.zip (pa_2 (pvd nmWc 0) (pvd nmWc 1))
 case g10=>
  intro _ _ _ _ _ _;refine' yT (n:=2) rfl ?g13
  case' g13=>refine' zt ?g17 ?g16
  case g17=>exact pgb bsWca 0
  case' g16=>refine' zt ?g19 zS
  case g19=>exact pgb bsWca 1
 case g11=>exact λ_ _ _ _ _ _=>zu
 case g12=>exact λ_ _ _ _ _ _=>zo yZ (zo yI (pvb bsWca 2) (pvb bsWca 0)) (zo yI (pvb bsWca 3) (pvb bsWca 1))
 nofun;refine zC hb (atL (by omega)) ?_;nofun;refine zC ha (atL (by omega)) ?_;nofun;refine Z3 ?_;nofun;refine⟨a,b,rfl,⟨_,SqL.of ha⟩,⟨_,SqL.of hb⟩,λD hD=>?_⟩;have q1:=xm b1 c;have q2:=xm b2 c;refine cg_zpl (λx y=>lead.getD c 0*x - row.getD c 0*y) ha hb (by omega) (by omega) hD (λx hx y hy H' K' R kR=>?_) (λH2 K2 e2=>?_)
 ·nofun;refine w_rI (mulBb (bb_of q2 (by omega)) (bb_of (b1 x hx) (by omega))) ?_;nofun;refine w_rI (mulBb (bb_of q1 (by omega)) (bb_of (b2 y hy) (by omega))) ?_;nofun;exact kR _ (Same.refl _)
 nofun;refine⟨D,_,rfl,e2,by rw[List.length_zipWith]; omega,?_,λq H3 K3 hq e3=>?_⟩
 ·generalize hz:List.zipWith (λx y=>lead.getD c 0*x-row.getD c 0*y) row lead=Z;by_cases h0:gcdL Z=0
  ·rw[h0]; decide+kernel
  obtain⟨x,hx,x0⟩:=Xv h0;refine ZL (m:=2*m+1) (Nat.lt_of_le_of_lt (x8 hx x0) ?_) hm;obtain⟨j,hj,e⟩:=List.getElem_of_mem hx;have ex:x=cf Z j:=by
   unfold cf;rw[ζ,δ hj,e];rfl
  rw[ex,<-hz,XO h1 h2 _ (by simp),Nat.pow_succ];have a1:=xN q2 (xm b1 j);have a2:=xN q1 (xm b2 j);unfold cf at a1 a2 ⊢;omega
 ·exact k q H3 (K2.trans K3) (Same.none K2 hq) e3
abbrev sRd:Stmt:=top 28
abbrev nRd:List Str:=["many","rows","left","leads","column","place","lead"]
theorem nmRd:Nm nRd (zd sRd):=nmk (nofun)
theorem scRd:FnScope nRd ["many","rows"] (zd sRd):=fsk (nofun)
def qRda (s:Stmt):Scope:=match s with
 | .Assign _ (.ListComp _ _ sc _) _=>sc
 | _=>nsc
abbrev cRda:Scope:=qRda ((zm sRd).getD 0 (.Pass ⟨0,0,0,0⟩))
theorem bsRda:BScope (zd sRd) cRda ["row"] [] ["list"]:={}
def qRdb (s:Stmt):Scope:=match s with
 | .For _ _ [_,_,_,(.Assign _ (.ListComp _ _ sc _) _),_,_] _ _=>sc
 | _=>nsc
abbrev cRdb:Scope:=qRdb ((zm sRd).getD 2 (.Pass ⟨0,0,0,0⟩))
theorem bsRdb:BScope (zd sRd) cRdb ["row"] ["column","lead"] ["without_column"]:={}
theorem Wj:(zd sRd).names.lookup ("left":Str)=some .local:=nofun
def spRd:Sp:=λvs H Q _=> ∃(l:Addr) (n b:Nat) (as:List Addr) (rows:List (List Int)),vs=[.int (n:Int),.ref l]/\H l=some (.lst (as.map V.ref))/\RL H as rows/\(∀r∈rows,r.length=n)/\n<=100/\rows.length<=100/\(∀r∈rows,∀x∈r,x.natAbs<2^b)/\bdE b (min n rows.length)<=9000/\
 ∀t l1 l2 as' H',Same H H'->H' t=some (.tup [.ref l1,.ref l2])->H' l1=some (.lst (as'.map V.ref))->RL H' as' ((red rows n).1.take (red rows n).2.length)->H' l2=some (.lst (nL (red rows n).2))->Q (.ref t) H'
theorem wM: ∀{i j:Nat},i<=j->bdE b i<=bdE b j
 | i,0,h=>by rw[Nat.le_zero.mp h]; exact θ _
 | i,j+1,h=>by
  rcases Nat.lt_or_ge i (j+1) with z | z
  ·have:=wM (b:=b) (i:=i) (j:=j) (by omega);show _<=2*bdE b j+1;omega
  ·rw[show i=j+1 by omega]; exact θ _
theorem Rd.lele(I:Rd b n rows c left leads):leads.length<=c:=by
 have h1:=Wu I.nd I.lt;have h2:=List.length_filter_le (λj=>decide (j∈leads)) (List.range c);rw[Ξ] at h2;omega
theorem ok_Rd(B:Bl mg)(fF:Has P w K mg base 1 "first_with" ["rows","start","column"] spFw)(fW:Has P w K mg base 3 "without_column" ["row","lead","column"] spWc)(F:Fun K "reduced" "reduced" sRd f fd):FnOk P w K mg base CX0 4 f fd ["many","rows"] spRd:=by
 refine F.ok scRd (λvs H Q E h=>?_) (λcdv A outer s H vs Q E hr h=>?_)
 ·obtain⟨l,n,b,as,rows,rfl,_⟩:=h;rfl
 obtain⟨l,n,b,as,rows,rfl,hl,hR,hlen,hn,hrn,hb,hbd,k⟩:=h;refine'⟨_,?hb,?rd⟩
 case' hb=>skip
 case' hb=>refine' ze ?g1 ?g2
 case' g2=>refine' ze ?g3 ?g4
 case' g4=>refine' ze ?g5 ?g6
 case' g6=>refine' zi ?g7
 case' g1=>refine' yi (i:=2) (ix:=[]) nmRd.nd rfl Wj bsRda.toCScope rfl rfl ?g8 ?g9 ?g10 ?g11
 case g8=>exact yf (pvd nmRd 1)
 case g9=>exact λ_ _ _ _ _ _=>pgb bsRda 0
 case g10=>exact λ_ _ _ _ _ _=>zu
 case g11=>exact λ_ _ _ _ _ _=>zV call_listL B.list PyProof.Rows.boot_list (pa_1 (pvb bsRda 0)) (bsRda.g 0)
 case g3=>exact zj nmRd 3 (zR yH)
 case' g5=>refine' ye Ψ rfl ?g12 (pgd nmRd 4) ?g13
 case g12=>exact yc B.range (pa_1 (pvd nmRd 0))
 case' g13=>refine' ze ?g14 ?g15
 case' g15=>refine' ze ?g16 ?g17
 case' g17=>refine' ze ?g18 ?g19
 case' g19=>refine' ze ?g20 ?g21
 case' g21=>refine' ze ?g22 ?g23
 case' g23=>refine' zi ?g24
 case g14=>exact zj nmRd 5 (pe_f fF hr (by decide) (pa_c (pvd nmRd 2) (pa_2 (zP zp B.len Ρ (pa_1 (pvd nmRd 3))) (pvd nmRd 4))))
 case' g16=>refine' zZ ?g25 ?g26 zB
 case g25=>exact ZD (X9 (pvd nmRd 5))
 case' g26=>refine' zi ?g28
 case g28=>exact ps_continue
 case g18=>exact zj nmRd 6 (wA PySem.F.plainAttrs_list PySem.F.slot_list_pop PySem.F.type_list_pop Yj (pvd nmRd 2) (pa_1 (pvd nmRd 5)))
 case' g20=>refine' yi (i:=2) (ix:=[4,6]) nmRd.nd rfl Wj bsRdb.toCScope rfl rfl ?g29 ?g30 ?g31 ?g32
 case g29=>exact yf (pvd nmRd 2)
 case g30=>exact λ_ _ _ _ _ _=>pgb bsRdb 0
 case g31=>exact λ_ _ _ _ _ _=>zu
 case g32=>exact λ_ _ _ _ _ _=>pe_f fW hr (by decide) (pa_c (pvb bsRdb 0) (pa_2 (pvb bsRdb 2) (pvb bsRdb 1))) (bsRdb.g 0)
 case g22=>exact xq (wA PySem.F.plainAttrs_list PySem.F.slot_list_insert PySem.F.type_list_insert mt_insert (pvd nmRd 2) (pa_2 (zP zp B.len Ρ (pa_1 (pvd nmRd 3))) (pvd nmRd 6)))
 case g24=>exact xq (wA PySem.F.plainAttrs_list PySem.F.slot_list_append PySem.F.type_list_append xb (pvd nmRd 3) (pa_1 (pvd nmRd 4)))
 case g7=>exact zr (yr (pa_2 (xW ZC (pvd nmRd 2) wx (ww (zP zp B.len Ρ (pa_1 (pvd nmRd 3))))) (pvd nmRd 3)))
 nofun;refine⟨l,rfl,⟨_,SqL.of hl⟩,λD hD=>?_⟩;refine W5 id hl hR (by omega) hD (λi q e1 e2 e3 H' K' R kR=>?_) (λbs H1 K1 e1 hb1 hf1=>?_)
 ·nofun;refine⟨q,_,rfl,K' _ _ e3,λy hy=>?_⟩;exact kR y _ (Same.new (Same.refl _) hy) hy zf
 rw[List.map_id] at hb1;nofun;refine⟨Ι _,λld hld=>?_⟩;obtain⟨H2,q,K2,e2⟩:=nob (.lst []) hld; rw[q]; clear q;have hDH:H D=none:=hD;have hldD:ld≠D:=λe=>by rw[e,e1] at hld; cases hld
 have hldH:H ld=none:=Same.none K1 hld;have hldb:ld∉bs:=λhm=>by
  obtain⟨r,_,e⟩:=hb1.map hm;rw[e] at hld;cases hld
 nofun;refine⟨_,rfl,by omega,by omega,?_⟩;rw[Θ];refine yw (n:=n) (λc σ H'=> ∃(u4 u5 u6:Option V) (l':Addr) (as':List Addr),σ=[some (.int (n:Int)),some (.ref l),some (.ref l'),some (.ref ld),u4,u5,u6]/\Same H H'/\H' l'=some (.lst (as'.map V.ref))/\RL H' as' (red rows c).1/\H' ld=some (.lst (nL (red rows c).2))/\H l'=none/\l'≠ld/\ld∉as') ⟨none,none,none,D,bs,rfl,K1.trans K2,K2 _ _ e1,hb1.same K2,e2,hDH,Ne.symm hldD,hldb⟩ ?_ ?_
 ·rintro c σ H3 hc ⟨u4,u5,u6,l',as',rfl,K3,e3,r3,f3,hl',hne,hni⟩;have I:=Rd.all hlen hb c;have hcnt:=I.cnt;have hle:=I.le;have hlc:=Rd.lele I;have I1:=I.step;rw[Int.zero_add];show _;nofun;refine⟨ld,_,rfl,.inl (SqL.of f3),?_⟩;rw[show(nL (red rows c).2).length=(red rows c).2.length from ε _];nofun;refine⟨l',(red rows c).2.length,c,as',(red rows c).1,rfl,e3,r3,hle,by omega,λr hr'=>by rw[I.len r hr']; exact hc,?_⟩;have er:red rows (c+1)=redS c (red rows c):=rfl;unfold redS at er;nofun;refine WH ?_;nofun;cases hf:xy (red rows c).1 (red rows c).2.length c with
  | none=>
   rw[hf] at er;refine iteP rfl ?_;refine w_cont ?_;exact⟨_,_,_,l',as',rfl,K3,e3,er▸r3,er▸f3,hl',hne,hni⟩
  | some p=>
   rw[hf] at er;obtain⟨p1,p2,p3⟩:=vc hf;refine iteQ (λz=>by cases z) ?_;obtain⟨ap,a1,a2,a3⟩:=r3.at_ p2;have hpa:p<as'.length:=by rw[r3.1]; exact p2
   nofun;refine⟨.inl ⟨rfl,_,SqL.of e3⟩,?_⟩;nofun;refine⟨l',_,_,p,.ref ap,rfl,rfl,e3,by omega,by omega,?_,?_,?_⟩
   ·exact seqIndex_nat (by rw[ε]; exact hpa)
   ·rw[μ,a1]; rfl
   have hnl':l'∉as':=r3.ne e3;have K4:Same H (upd H3 l' (.lst ((as'.map V.ref).eraseIdx p))):=K3.put hl';have e4:upd H3 l' (.lst ((as'.map V.ref).eraseIdx p)) l'=some (.lst ((as'.eraseIdx p).map V.ref)):=by rw[zf,Zm]
   have r4:RL (upd H3 l' (.lst ((as'.map V.ref).eraseIdx p))) as' (red rows c).1:=r3.off hnl';have f4:upd H3 l' (.lst ((as'.map V.ref).eraseIdx p)) ld=some (.lst (nL (red rows c).2)):=by rw[zk (Ne.symm hne)]; exact f3
   have a4:upd H3 l' (.lst ((as'.map V.ref).eraseIdx p)) ap=some (.lst (((red rows c).1.getD p []).map V.int)):=r4.2 p ap _ a1 a2;generalize upd H3 l' (.lst ((as'.map V.ref).eraseIdx p))=H4 at K4 e4 r4 f4 a4 ⊢;nofun;refine⟨l',rfl,⟨_,SqL.of e4⟩,λD2 hD2=>?_⟩;have bdc:2*bdE b (red rows c).2.length+1<=9000:=by
    have h1:bdE b ((red rows c).2.length+1)<=bdE b (min n rows.length):=wM (by omega);have h2:bdE b ((red rows c).2.length+1)=2*bdE b (red rows c).2.length+1:=rfl;omega
   refine W5 (λr=>wcol r ((red rows c).1.getD p []) c) e4 (r4.erase p) (by rw[List.length_eraseIdx]; split<;>omega) hD2 (λi q g1 g2 g3 H' K' R kR=>?_) (λbs2 H5 K5 e5 r5 hf5=>?_)
   ·have hmem:=List.mem_of_mem_eraseIdx (ο g2);nofun;exact⟨q,ap,c,n,bdE b (red rows c).2.length,_,_,rfl,K' _ _ g3,K' _ _ a4,I.len _ hmem,I.len _ (ο a2),by omega,hc,I.bit _ hmem,I.bit _ (ο a2),bdc,λy H'' KK hy ey=>kR y H'' KK hy ey⟩
   have f5:=K5 _ _ f4;have hD2H:H D2=none:=Same.none K4 hD2;have hD2ld:D2≠ld:=λe=>by rw[e,f4] at hD2; cases hD2
   have hD2ap:D2≠ap:=λe=>by rw[e,a4] at hD2; cases hD2
   have hapld:ap≠ld:=λe=>hni (e▸ο a1);have hldb2:ld∉bs2:=λhm=>by rw[hf5 _ hm] at f4; cases f4
   nofun;refine⟨.inl ⟨rfl,_,SqL.of e5⟩,?_⟩;nofun;refine⟨ld,_,rfl,.inl (SqL.of f5),?_⟩;rw[show(nL (red rows c).2).length=(red rows c).2.length from ε _];nofun;have lb2:bs2.length=(red rows c).1.length - 1:=by rw[r5.1,ε,List.length_eraseIdx,if_pos p2]
   generalize hmi:(((red rows c).2.length:Nat):Int)=mi;have hmn:mi.toNat=(red rows c).2.length:=by omega
   refine⟨D2,_,mi,.ref ap,rfl,rfl,e5,by omega,by rw[ε]; omega,by rw[ε]; exact zq (by omega),?_⟩;have e6:(bs2.map V.ref).take mi.toNat++V.ref ap::(bs2.map V.ref).drop mi.toNat=(bs2.insertIdx (red rows c).2.length ap).map V.ref:=by
    rw[hmn,ZO _ _ _ (by rw[ε]; omega),ins_map _ _ _ _ (by omega)]
   rw[e6];have r6:RL H5 (bs2.insertIdx (red rows c).2.length ap) (red rows (c+1)).1:=by
    rw[er];exact RL.insert r5 (K5 _ _ a4) (by rw[ε,List.length_eraseIdx,if_pos p2]; omega)
   have hD2n:D2∉bs2.insertIdx (red rows c).2.length ap:=λhm=>by
    rcases Xr (by omega) hm with z | z
    ·exact hD2ap z
    ·exact r5.ne e5 z
   have K6:Same H (upd H5 D2 (.lst ((bs2.insertIdx (red rows c).2.length ap).map V.ref))):=(K4.trans K5).put hD2H;have e7:upd H5 D2 (.lst ((bs2.insertIdx (red rows c).2.length ap).map V.ref)) D2=some (.lst ((bs2.insertIdx (red rows c).2.length ap).map V.ref)):=zf;have r7:=r6.off (o:= .lst ((bs2.insertIdx (red rows c).2.length ap).map V.ref)) hD2n;have f7:upd H5 D2 (.lst ((bs2.insertIdx (red rows c).2.length ap).map V.ref)) ld=some (.lst (nL (red rows c).2)):=by rw[zk (Ne.symm hD2ld)]; exact f5
   generalize upd H5 D2 (.lst ((bs2.insertIdx (red rows c).2.length ap).map V.ref))=H6 at K6 e7 r7 f7 ⊢;have hldn:ld∉bs2.insertIdx (red rows c).2.length ap:=λhm=>by
    rcases Xr (by omega) hm with z | z
    ·exact hapld z.symm
    ·exact hldb2 z
   nofun;refine⟨.inl ⟨rfl,_,SqL.of f7⟩,?_⟩;nofun;refine⟨ld,_,_,rfl,rfl,f7,by rw[show(nL (red rows c).2).length=(red rows c).2.length from ε _]; exact zq (by omega),?_⟩;refine⟨_,_,_,D2,bs2.insertIdx (red rows c).2.length ap,rfl,K6.put hldH,by rw[zk hD2ld]; exact e7,r7.off hldn,?_,hD2H,hD2ld,hldn⟩;rw[zf,er];show some (HO.lst _)=some (HO.lst (nL ((red rows c).2++[c])));unfold nL;rw[Μ];rfl
 ·rintro σ H3 ⟨u4,u5,u6,l',as',rfl,K3,e3,r3,f3,hl',hne,hni⟩;have I:=Rd.all hlen hb n;have hle:=I.le;have hcnt:=I.cnt;nofun;refine⟨ld,_,rfl,.inl (SqL.of f3),?_⟩;rw[show(nL (red rows n).2).length=(red rows n).2.length from ε _];refine⟨_,rfl,?_⟩;refine⟨l',_,rfl,SqL.of e3,λs1 hs1=>?_⟩;have ec:cutV (as'.map V.ref) none (some (((red rows n).2.length:Nat):Int))=(as'.take (red rows n).2.length).map V.ref:=by
   rw[Ws (by rw[ε,r3.1]; exact hle),List.map_take]
  rw[ec];obtain⟨H4,q,K4,e4⟩:=nob (.lst ((as'.take (red rows n).2.length).map V.ref)) hs1; rw[q]; clear q;nofun;refine⟨sz2,λt ht=>?_⟩;obtain⟨H5,q,K5,e5⟩:=nob (.tup [.ref s1,.ref ld]) ht; rw[q]; clear q;exact k t s1 ld _ H5 ((K3.trans K4).trans K5) e5 (K5 _ _ e4) ((r3.take _).same (K4.trans K5)) ((K4.trans K5) _ _ f3)
abbrev sCm:Stmt:=top 32
abbrev nCm:List Str:=["one","other"]
theorem nmCm:Nm nCm (zd sCm):=nmk (nofun)
theorem scCm:FnScope nCm ["one","other"] (zd sCm):=fsk (nofun)
def spCm:Sp:=λvs H Q _=> ∃a b:Int,vs=[.int a,.int b]/\b≠0/\Bb a/\Bb b/\b.natAbs<2^9000/\ ∀H',Same H H'->Q (.int (cm a b)) H'
theorem ok_Cm(B:Bl mg)(fC:Has P w K mg base 1 "common_divisor" ["numbers"] spCd)(F:Fun K "common_multiple" "common_multiple" sCm f fd):FnOk P w K mg base CX0 2 f fd ["one","other"] spCm:=by
 refine F.ok scCm (λvs H Q E h=>?_) (λcdv A outer s H vs Q E hr h=>?_)
 ·obtain⟨a,b,rfl,_⟩:=h;rfl
 obtain⟨a,b,rfl,hb0,ha,hb,hbb,k⟩:=h;refine'⟨_,?hb,?rd⟩
 case' hb=>skip
 case' hb=>refine' zi ?g1
 case g1=>exact zr (zo op_fdivL (zP wL B.abs PyProof.Rows.boot_abs (pa_1 (zo yI (pvd nmCm 0) (pvd nmCm 1)))) (pe_f fC hr (by decide) (pa_1 (zR (pa_2 (pvd nmCm 0) (pvd nmCm 1))))))
 nofun;refine w_rI (mulBb ha hb) ?_;nofun;refine⟨_,rfl,?_⟩;rw[absN];nofun;refine⟨sz2,λl hl=>?_⟩;obtain⟨H1,q,K1,e1⟩:=nob (.lst [.int a,.int b]) hl; rw[q]; clear q;nofun;refine⟨l,[a,b],rfl,e1,?_⟩;have hm:b∈[a,b]:=by simp
 have hg:=x8 hm hb0;have hz:gcdL [a,b]≠0:=λz=>hb0 (xc z b hm);refine⟨_,_,rfl,rfl,⟨by omega,by rw[Int.natAbs_natCast]; exact ZL (Nat.lt_of_le_of_lt hg hbb) (θ _)⟩,?_⟩;exact k _ K1
abbrev sNm:Stmt:=top 31
abbrev nNm:List Str:=["many","rows","leads","free","bottom","row","lead","numbers"]
theorem nmNm:Nm nNm (zd sNm):=nmk (nofun)
theorem scNm:FnScope nNm ["many","rows","leads","free"] (zd sNm):=fsk (nofun)
def qNma (s:Stmt):Scope:=match s with
 | .Assign _ (.ListComp _ _ sc _) _=>sc
 | _=>nsc
abbrev cNma:Scope:=qNma ((zm sNm).getD 2 (.Pass ⟨0,0,0,0⟩))
theorem bsNma:BScope (zd sNm) cNma ["column"] [] []:={}
theorem loNm_7:(zd sNm).names.lookup ("numbers":Str)=some .local:=nofun
def spNm:Sp:=λvs H Q _=> ∃(l ld:Addr) (n f b:Nat) (as:List Addr) (R:List (List Int)) (leads:List Nat),vs=[.int (n:Int),.ref l,.ref ld,.int (f:Int)]/\H l=some (.lst (as.map V.ref))/\RL H as R/\H ld=some (.lst (nL leads))/\R.length=leads.length/\(∀r∈R,r.length=n)/\n<=100/\leads.length<=100/\f<n/\(∀x∈leads,x<n)/\(∀i,i<leads.length->ro R i (leads.getD i 0)≠0)/\(∀r∈R,∀x∈r,x.natAbs<2^b)/\b<=9000/\(gcdL (numK n R leads f (botK R leads leads.length) leads.length)).log2<9000/\
 ∀q H',Same H H'->H' q=some (.tup ((vecF n R leads f).map V.int))->Q (.ref q) H'
theorem itN(h:(nL ls)[i]? =some x):i<ls.length/\x= .int ((ls.getD i 0:Nat):Int):=by
 unfold nL at h;have hi:i<ls.length:=by
  have:=(ξ.mp h).1;simpa using this
 rw[μ,δ hi] at h;refine⟨hi,?_⟩;rw[ζ,δ hi];exact(Γ h).symm
theorem Wc(ls:List Nat):(nL ls).length=ls.length:=ε _
theorem ok_Nm(B:Bl mg)(fC:Has P w K mg base 2 "common_multiple" ["one","other"] spCm)(fW:Has P w K mg base 2 "without_divisor" ["numbers"] spWl)(F:Fun K "nought_maker" "nought_maker" sNm f fd):FnOk P w K mg base CX0 3 f fd ["many","rows","leads","free"] spNm:=by
 refine F.ok scNm (λvs H Q E h=>?_) (λcdv A outer s H vs Q E hr h=>?_)
 ·obtain⟨l,ld,n,fr,b,as,R,leads,rfl,_⟩:=h;rfl
 obtain⟨l,ld,n,fr,b,as,R,leads,rfl,hl,hR,hld,hrl,hlen,hn,hll,hfr,hlt,hown,hbit,hb,hgl,k⟩:=h;refine'⟨_,?hb,?rd⟩
 case' hb=>skip
 case' hb=>refine' ze ?g1 ?g2
 case' g2=>refine' ze ?g3 ?g4
 case' g4=>refine' ze ?g5 ?g6
 case' g6=>refine' ze ?g7 ?g8
 case' g8=>refine' ze ?g9 ?g10
 case' g10=>refine' zi ?g11
 case g1=>exact zj nmNm 4 zg
 case' g3=>refine' ye Ψ rfl ?g12 (xM rfl (zt (pgd nmNm 5) (zt (pgd nmNm 6) zS))) ?g13
 case g12=>exact wU B.zip (pa_2 (pvd nmNm 1) (pvd nmNm 2))
 case' g13=>refine' zi ?g14
 case g14=>exact zj nmNm 4 (pe_f fC hr (by decide) (pa_2 (pvd nmNm 4) (ziq (pvd nmNm 5) (pvd nmNm 6))))
 case' g5=>refine' yi (i:=7) (ix:=[]) nmNm.nd rfl loNm_7 bsNma.toCScope rfl rfl ?g15 ?g16 ?g17 ?g18
 case g15=>exact yc B.range (pa_1 (pvd nmNm 0))
 case g16=>exact λ_ _ _ _ _ _=>pgb bsNma 0
 case g17=>exact λ_ _ _ _ _ _=>zu
 case g18=>exact λ_ _ _ _ _ _=>zg
 case g7=>exact zX (pvd nmNm 4) (ya (pvd nmNm 7) (pvd nmNm 3) yu)
 case' g9=>refine' ye Ψ rfl ?g19 (xM rfl (zt (pgd nmNm 5) (zt (pgd nmNm 6) zS))) ?g20
 case g19=>exact wU B.zip (pa_2 (pvd nmNm 1) (pvd nmNm 2))
 case' g20=>refine' zi ?g21
 case g21=>exact zX (zo yI (xQ yX (ziq (pvd nmNm 5) (pvd nmNm 3))) (zo op_fdivNL (pvd nmNm 4) (ziq (pvd nmNm 5) (pvd nmNm 6)))) (ya (pvd nmNm 7) (pvd nmNm 6) yu)
 case g11=>exact zr (zV zz B.tuple Η (pa_1 (pe_f fW hr (by decide) (pa_1 (pvd nmNm 7)))))
 have bbit:=vq (rows:=R) (leads:=leads) (m:=leads.length) (B:=b) (λi hi=>xm (hbit _ (getD_mem (by omega))) _);have bbb: ∀i,i<=leads.length->Bb (botK R leads i):=λi hi=>by
  refine bb_of (m:=i*b+1) (Nat.lt_of_le_of_lt (bbit i hi) (Nat.pow_lt_pow_right (by decide) (by omega))) ?_;have:i*b<=100*9000:=Nat.mul_le_mul (by omega) hb;omega
 nofun;refine vg ?_;nofun;refine⟨l,ld,rfl,⟨_,SqL.of hl⟩,⟨_,SqL.of hld⟩,?_⟩;refine Xw (xs:=as.map V.ref) (zs:=nL leads) (by rw[ε,Wc,hR.1,hrl]) (λi σ H'=> ∃u5 u6 u7,σ=[some (.int (n:Int)),some (.ref l),some (.ref ld),some (.int (fr:Int)),some (.int (botK R leads i)),u5,u6,u7]/\Same H H') ⟨none,none,none,rfl,Same.refl H⟩ (λi σ H' ⟨_,_,_,_,k'⟩=>⟨SqL.of (k' _ _ hl),SqL.of (k' _ _ hld)⟩) ?_ ?_
 ·rintro i x y σ H1 z hx hy ⟨u5,u6,u7,rfl,K1⟩ hz;obtain⟨a,ea,rfl⟩:=itR hx;obtain⟨hi,rfl⟩:=itN hy;obtain⟨a',e1,e2,e3⟩:=hR.at_ (i:=i) (by omega);rw[ea] at e1;cases e1
  have hli:=hlt _ (getD_mem (d:=0) hi);have hlr:(R.getD i []).length=n:=hlen _ (ο e2);have hbr:=hbit _ (ο e2);have q1:=xm hbr (leads.getD i 0);refine YI zf rfl ?_;refine⟨_,_,rfl,?_⟩;nofun;refine⟨_,_,rfl,?_⟩;nofun;refine⟨rfl,?_⟩;have K2:Same H1 (upd H1 z (.tup [.ref a,.int ((leads.getD i 0:Nat):Int)])):=Same.new (Same.refl _) hz;generalize upd H1 z (.tup [.ref a,.int ((leads.getD i 0:Nat):Int)])=H2 at K2 ⊢;have e4:=(K1.trans K2) _ _ e3;nofun;refine zC e4 (atL (by omega)) ?_;nofun;refine⟨_,_,rfl,hown i hi,bbb i (by omega),bb_of q1 (by omega),Ε q1 (Nat.pow_le_pow_right (by decide) hb),λH3 K3=>?_⟩;exact⟨_,_,_,rfl,(K1.trans K2).trans K3⟩
 rintro σ H1 ⟨u5,u6,u7,rfl,K1⟩;rw[ε,hR.1,hrl];generalize hbt:botK R leads leads.length=bt at*;have hbbt:Bb bt:=hbt▸bbb _ (θ _);nofun;refine⟨_,rfl,by omega,by omega,λD hD=>?_⟩;rw[Θ];have hDH:H D=none:=Same.none K1 hD;refine xO (lo:=0) (n:=n) (λ_=>V.int 0) (by omega) hD (λi hi H' K' R' kR=>?_) (λH2 K2 e2=>?_)
 ·nofun;exact kR _ (Same.refl _)
 have e2':H2 D=some (.lst ((List.replicate n (0:Int)).map V.int)):=by
  rw[e2,List.map_const',Ξ,List.map_replicate]
 nofun;refine xP (j:=fr) e2' (ixK' (by rw[ε,Χ]; exact hfr)) ?_;rw[<-List.map_set];have K3:Same H (upd H2 D (.lst (((List.replicate n (0:Int)).set fr bt).map V.int))):=(K1.trans K2).put hDH;have e3:upd H2 D (.lst (((List.replicate n (0:Int)).set fr bt).map V.int)) D=some (.lst ((numK n R leads fr bt 0).map V.int)):=zf;generalize upd H2 D (.lst (((List.replicate n (0:Int)).set fr bt).map V.int))=H3 at K3 e3 ⊢;nofun;refine vg ?_;nofun;refine⟨l,ld,rfl,⟨_,SqL.of (K3 _ _ hl)⟩,⟨_,SqL.of (K3 _ _ hld)⟩,?_⟩;refine Xw (xs:=as.map V.ref) (zs:=nL leads) (by rw[ε,Wc,hR.1,hrl]) (λi σ H'=> ∃u5 u6,σ=[some (.int (n:Int)),some (.ref l),some (.ref ld),some (.int (fr:Int)),some (.int bt),u5,u6,some (.ref D)]/\Same H H'/\H' D=some (.lst ((numK n R leads fr bt i).map V.int))) ⟨_,_,rfl,K3,e3⟩ (λi σ H' ⟨_,_,_,k',_⟩=>⟨SqL.of (k' _ _ hl),SqL.of (k' _ _ hld)⟩) ?_ ?_
 ·rintro i x y σ H1 z hx hy ⟨u5,u6,rfl,K1,eD⟩ hz;obtain⟨a,ea,rfl⟩:=itR hx;obtain⟨hi,rfl⟩:=itN hy;obtain⟨a',e1,e2,e3⟩:=hR.at_ (i:=i) (by omega);rw[ea] at e1;cases e1
  have hli:=hlt _ (getD_mem (d:=0) hi);have hlr:(R.getD i []).length=n:=hlen _ (ο e2);have hbr:=hbit _ (ο e2);have q1:=xm hbr (leads.getD i 0);refine YI zf rfl ?_;refine⟨_,_,rfl,?_⟩;nofun;refine⟨_,_,rfl,?_⟩;nofun;refine⟨rfl,?_⟩;have K2:Same H1 (upd H1 z (.tup [.ref a,.int ((leads.getD i 0:Nat):Int)])):=Same.new (Same.refl _) hz;generalize upd H1 z (.tup [.ref a,.int ((leads.getD i 0:Nat):Int)])=H2 at K2 ⊢;have e4:=(K1.trans K2) _ _ e3;nofun;refine zC e4 (atL (by omega)) ?_;refine⟨_,rfl,?_⟩;nofun;refine zC e4 (atL (i:=leads.getD i 0) (by omega)) ?_;refine⟨_,_,rfl,rfl,⟨hown i hi,ZL q1 hb⟩,?_⟩;have q2:=xm hbr fr;have hnb:Bb (-(R.getD i []).getD fr 0):=bb_of (m:=b) (by rw[Int.natAbs_neg]; exact q2) (by omega);have hdb:Bb (bt.fdiv ((R.getD i []).getD (leads.getD i 0) 0)):=bb_fdiv hbbt;refine w_rI (mulBb hnb hdb) ?_;nofun;refine xP (j:=leads.getD i 0) (K2 _ _ eD) (ixK' (by rw[ε,xE]; exact hli)) ?_;refine⟨_,_,rfl,(K1.trans K2).put hDH,?_⟩;rw[zf,<-List.map_set];rfl
 rintro σ H1 ⟨u5,u6,rfl,K1,eD⟩;rw[ε,hR.1,hrl] at eD;nofun;refine⟨D,_,rfl,eD,by rw[xE]; omega,hgl,λq H4 K4 hq e4=>?_⟩;nofun;refine⟨q,_,rfl,e4,λt H5 K5 e5=>?_⟩;refine k t H5 ((K1.trans K4).trans K5) ?_;rw[e5];unfold vecF;rw[hbt]
abbrev sCo:Stmt:=top 36
abbrev nCo:List Str:=["rule"]
theorem nmCo:Nm nCo (zd sCo):=nmk (nofun)
theorem scCo:FnScope nCo ["rule"] (zd sCo):=fsk (nofun)
def qCoa (s:Stmt):Scope:=match s with
 | .Return (some (.ListComp _ _ sc _)) _=>sc
 | _=>nsc
abbrev cCoa:Scope:=qCoa ((zm sCo).getD 0 (.Pass ⟨0,0,0,0⟩))
theorem bsCoa:BScope (zd sCo) cCoa ["taken","given"] [] []:={}
theorem chg_zip{x:List Int×List Int}(h:x.1.length=x.2.length):chg x=List.zipWith (λt g=>g-t) x.1 x.2:=by
 refine List.ext_getElem? λi=>?_;unfold chg;rw[μ,List.getElem?_zipWith];by_cases hi:i<x.1.length
 ·rw[List.getElem?_range hi,δ hi,δ (by omega)];show some (x.2.getD i 0-x.1.getD i 0)=some (x.2[i]-x.1[i]);rw[ζ,ζ,δ hi,δ (by omega)];rfl
 ·rw[List.getElem?_eq_none (by rw[Ξ]; omega),List.getElem?_eq_none (by omega)];rfl
theorem XH(x:List Int×List Int):(chg x).length=x.1.length:=by
 unfold chg;rw[ε,Ξ]
def spCo:Sp:=λvs H Q _=> ∃(r a b:Addr) (x:List Int×List Int),vs=[.ref r]/\H r=some (.tup [.ref a,.ref b])/\H a=some (.tup (x.1.map V.int))/\H b=some (.tup (x.2.map V.int))/\x.1.length=x.2.length/\x.1.length<=1000/\ ∀q H',Same H H'->H q=none->H' q=some (.lst ((chg x).map V.int))->Q (.ref q) H'
theorem ok_Co(B:Bl mg)(Z:KZ mg)(F:Fun K "change_of" "change_of" sCo f fd):FnOk P w K mg base CX0 1 f fd ["rule"] spCo:=by
 refine F.ok scCo (λvs H Q E h=>?_) (λcdv A outer s H vs Q E hr h=>?_)
 ·obtain⟨r,a,b,x,rfl,_⟩:=h;rfl
 obtain⟨r,a,b,x,rfl,h1,h2,h3,hl,hn,k⟩:=h;refine'⟨_,?hb,?rd⟩
 case' hb=>skip
 case' hb=>refine' zi ?g1
 case' g1=>refine' zr ?g2
 case' g2=>refine' zy (ix:=[]) bsCoa.toCScope rfl rfl ?g3 ?g4 ?g5 ?g6
 case g3=>exact Xe B.zip (pa_2 (ziq (pvd nmCo 0) (pe_k Z.t)) (ziq (pvd nmCo 0) (pe_k Z.g)))
 case g4=>
  intro _ _ _ _ _ _;refine' yT (n:=2) rfl ?g7
  case' g7=>refine' zt ?g11 ?g10
  case g11=>exact pgb bsCoa 0
  case' g10=>refine' zt ?g13 zS
  case g13=>exact pgb bsCoa 1
 case g5=>exact λ_ _ _ _ _ _=>zu
 case g6=>exact λ_ _ _ _ _ _=>zo yZ (pvb bsCoa 1) (pvb bsCoa 0)
 nofun;refine zJ h1 rfl ?_;nofun;refine zJ h1 rfl ?_;nofun;refine⟨a,b,rfl,⟨_,SqT.of h2⟩,⟨_,SqT.of h3⟩,λD hD=>?_⟩;refine G2.zip_map (λt g=>g - t) h2 h3 hl hn (λi t g H' _ _ K' R kR=>?_) (λH2 K2 e2=>?_) hD
 ·nofun;exact kR _ (Same.refl _)
 exact k D H2 K2 hD (by rw[e2,chg_zip hl])
abbrev sAk:Stmt:=top 35
abbrev nAk:List Str:=["pot","many","solved"]
theorem nmAk:Nm nAk (zd sAk):=nmk (nofun)
theorem scAk:FnScope nAk ["pot"] (zd sAk):=fsk (nofun)
def qAka (s:Stmt):Scope:=match s with
 | .Assign _ (.Call _ [_,(.ListComp _ _ sc _)] _ _) _=>sc
 | _=>nsc
abbrev cAka:Scope:=qAka ((zm sAk).getD 1 (.Pass ⟨0,0,0,0⟩))
theorem bsAka:BScope (zd sAk) cAka ["rule"] [] ["change_of"]:={}
def qAkb (s:Stmt):Scope:=match s with
 | .Return (some (.ListComp _ _ sc _)) _=>sc
 | _=>nsc
abbrev cAkb:Scope:=qAkb ((zm sAk).getD 2 (.Pass ⟨0,0,0,0⟩))
theorem bsAkb:BScope (zd sAk) cAkb ["sort"] ["many","solved"] ["nought_maker"]:={}
def TL (H:Hp) (as:List Addr) (rows:List (List Int)):Prop:=as.length=rows.length/\ ∀(i:Nat) (a:Addr) (r:List Int),as[i]? =some a->rows[i]? =some r->H a=some (.tup (r.map V.int))
theorem TL.same(k:Same H H')(h:TL H as rows):TL H' as rows:=⟨h.1,λi a r e1 e2=>k _ _ (h.2 i a r e1 e2)⟩
theorem TL.off(hD:H D=some (.lst ys))(h:TL H as rows):TL (upd H D o) as rows:=⟨h.1,λi a r e1 e2=>by
 have:=h.2 i a r e1 e2;rw[zk (λe=>by rw[e,hD] at this; cases this)];exact this⟩
theorem TL.snoc{r:List Int}(h:TL H as rows)(ha:H a=some (.tup (r.map V.int))):TL H (as++[a]) (rows++[r]):=by
 refine⟨by rw[Β,Β,h.1]; rfl,λi b q e1 e2=>?_⟩;by_cases hi:i<as.length
 ·rw[Δ hi] at e1;rw[Δ (by rw[<-h.1]; exact hi)] at e2;exact h.2 i b q e1 e2
 ·have hi':i=as.length:=by
   have:=(ξ.mp e1).1;rw[Β] at this;have:i<as.length+1:=this;omega
  rw[hi',Α (θ _),Nat.sub_self] at e1;rw[hi',h.1,Α (θ _),Nat.sub_self] at e2;cases e1
  cases e2
  exact ha
def chs (tg:Rows):List (List Int):=tg.map chg
def Zi (m:Nat) (tg:Rows):List (List Int):=(wb m (red (chs tg) m).2).map (vecF m (red (chs tg) m).1 (red (chs tg) m).2)
theorem Wv(h:Rls H rs tg m):(∀r∈chs tg,r.length=m)/\ ∀r∈chs tg,∀x∈r,x.natAbs<2^5:=by
 have key: ∀y∈tg,y.1.length=m/\y.2.length=m/\(∀x∈y.1,0<=x/\x<=30)/\ ∀x∈y.2,0<=x/\x<=30:=λy hy=>by
  obtain⟨i,hi,e⟩:=List.getElem_of_mem hy;obtain⟨r,a,b,_,_,_,_,h1,h2,h3,h4⟩:=h.get hi;rw[e] at h1 h2 h3 h4;exact⟨h1,h2,h3,h4⟩
 refine⟨λr hr=>?_,λr hr x hx=>?_⟩
 ·obtain⟨y,hy,rfl⟩:=Κ.mp hr;rw[XH];exact(key y hy).1
 ·obtain⟨y,hy,rfl⟩:=Κ.mp hr;obtain⟨h1,h2,h3,h4⟩:=key y hy;unfold chg at hx;obtain⟨j,hj,rfl⟩:=Κ.mp hx;have hj':=Λ.mp hj;have q1:=h3 _ (getD_mem (d:=0) hj');have q2:=h4 _ (getD_mem (j:=j) (d:=0) (by omega));show _<32;omega
def spAk:Sp:=λvs H Q _=> ∃(p:Addr) (m:Nat) (tg:Rows),vs=[.ref p]/\PotK H p m tg/\ ∀D bs H',Same H H'->H D=none->H' D=some (.lst (bs.map V.ref))->TL H' bs (Zi m tg)->Q (.ref D) H'
theorem inN{x:Nat}{ls:List Nat}:inV (.int (x:Int)) (nL ls)=decide (x∈ls):=by
 unfold inV nL;rw[Bool.eq_iff_iff,List.any_map,List.any_eq_true,decide_eq_true_iff];constructor
 ·rintro⟨y,hy,e⟩;have:(y:Int)=(x:Int):=by simpa[eqV] using e
  rw[show x=y by omega];exact hy
 ·exact λh=>⟨x,h,by simp[eqV]⟩
theorem flN(ls:List Nat):(nL ls).all xZ=true:=by
 unfold nL;rw[List.all_map,List.all_eq_true];exact λ_ _=>rfl
theorem ok_Ak{f:Addr}{fd:FuncData}(B:Bl mg)(Z:KZ mg)(fR:Has P w K mg base 4 "reduced" ["many","rows"] spRd)(fC:Has P w K mg base 1 "change_of" ["rule"] spCo)(fN:Has P w K mg base 3 "nought_maker" ["many","rows","leads","free"] spNm)(F:Fun K "all_kept" "all_kept" sAk f fd):FnOk P w K mg base CX0 5 f fd ["pot"] spAk:=by
 refine F.ok scAk (λvs H Q E h=>?_) (λcdv A outer s H vs Q E hr h=>?_)
 ·obtain⟨p,m,tg,rfl,_⟩:=h;rfl
 obtain⟨p,m,tg,rfl,hP,k⟩:=h;refine'⟨_,?hb,?rd⟩
 case' hb=>skip
 case' hb=>refine' ze ?g1 ?g2
 case' g2=>refine' ze ?g3 ?g4
 case' g4=>refine' zi ?g5
 case g1=>exact zj nmAk 1 (zP zp B.len Ρ (pa_1 (ziq (pvd nmAk 0) (pe_k Z.s))))
 case' g3=>refine' zj nmAk 2 ?g6
 case' g6=>refine' pe_f fR hr (by decide) ?g7
 case' g7=>refine' pa_2 (pvd nmAk 1) ?g8
 case' g8=>refine' zy (ix:=[]) bsAka.toCScope rfl rfl ?g9 ?g10 ?g11 ?g12
 case g9=>exact xL (ziq (pvd nmAk 0) (pe_k Z.r))
 case g10=>exact λ_ _ _ _ _ _=>pgb bsAka 0
 case g11=>exact λ_ _ _ _ _ _=>zu
 case g12=>exact λ_ _ _ _ _ _=>pe_f fC hr (by decide) (pa_1 (pvb bsAka 0)) (bsAka.g 0)
 case' g5=>refine' zr ?g13
 case' g13=>refine' zy (ix:=[1,2]) bsAkb.toCScope rfl rfl ?g14 ?g15 ?g16 ?g17
 case g14=>exact yc B.range (pa_1 (pvd nmAk 1))
 case g15=>exact λ_ _ _ _ _ _=>pgb bsAkb 0
 case g16=>exact λ_ _ _ _ _ _=>xK (zv op_notInL (pvb bsAkb 0) (ziq (pvb bsAkb 2) zg) (by with_unfolding_all rfl))
 case g17=>exact λ_ _ _ _ _ _=>pe_f fN hr (by decide) (pa_c (pvb bsAkb 1) (pa_c (ziq (pvb bsAkb 2) zg) (pa_2 (ziq (pvb bsAkb 2) zg) (pvb bsAkb 0)))) (bsAkb.g 0)
 obtain⟨ps,pr,pin,pb,ans,rs,nm,h1,h2,h3,h4,hR⟩:=hP.ex;have n8:=hP.n8;have m8:=hP.m8;have rl:=hR.1;obtain⟨c1,c2⟩:=Wv hR;have clen:(chs tg).length=tg.length:=ε _;nofun;refine zJ h1 rfl ?_;nofun;refine⟨ps,_,rfl,.inr (SqT.of h2),?_⟩;rw[h3];nofun;refine zJ h1 rfl ?_;nofun;refine⟨pr,rfl,⟨_,SqT.of h4⟩,λD hD=>?_⟩;refine ZY (xs:=rs.map V.ref) (λi ys H'=> ∃bs:List Addr,ys=bs.map V.ref/\RL H' bs ((chs tg).take i)/\Same H H'/\D∉bs) ⟨[],rfl,by simpa using RL.nil,Same.new (Same.refl H) hD,by simp⟩ (λi ys H' _ ⟨_,_,_,k',_⟩=>SqT.of (k' _ _ h4)) ?_ ?_
 ·rintro i x ys H1 hx ⟨bs,rfl,hb,K1,hDb⟩ hDy R S kR _;obtain⟨q,eq,rfl⟩:=itR hx;have hi:i<tg.length:=by
   have:=(ξ.mp eq).1;omega
  obtain⟨r,a,b,g1,g2,g3,g4,g5,g6,g7,g8⟩:=hR.get hi;rw[eq] at g1;cases g1
  refine zU (iteT ?_);nofun;refine⟨q,a,b,tg[i],rfl,K1 _ _ g2,K1 _ _ g3,K1 _ _ g4,by rw[g5,g6],by omega,λy H2 K2 hy ey=>?_⟩;have hyD:y≠D:=λe=>by rw[e,hDy] at hy; cases hy
  have hyb:D∉bs++[y]:=λhm=>by
   rcases List.mem_append.mp hm with z | z
   ·exact hDb z
   ·exact hyD (Υ.mp z).symm
  refine kR _ _ (K2 _ _ hDy) (by rw[ε,hb.1,List.length_take]; exact zq (by omega)) ⟨bs++[y],by rw[Μ]; rfl,?_,(K1.trans K2).put hD,hyb⟩;rw[List.take_add_one,show(chs tg)[i]? =some (chg tg[i]) by unfold chs; rw[μ,δ hi]; rfl];exact RL.off hyb (RL.snoc (hb.same K2) ey)
 rintro ys H1 ⟨bs,rfl,hb,K1,_⟩ e1;rw[ε,List.take_of_length_le (by omega)] at hb;have b8:bdE 5 (min m (chs tg).length)<=9000:=Τ (wM (j:=8) (by omega)) (by decide);nofun;refine⟨D,m,5,bs,chs tg,rfl,e1,hb,c1,by omega,by omega,c2,b8,λt l1 l2 as' H2 K2 et el1 hr1 el2=>?_⟩;have I:=Rd.all c1 c2 m;have hle:=I.le;have KA:=K1.trans K2;nofun;refine⟨_,rfl,by omega,by omega,λD2 hD2=>?_⟩;rw[Θ];have hfl: ∀c,c<m->(wb (c+1) (red (chs tg) m).2)=wb c (red (chs tg) m).2++(if c∈(red (chs tg) m).2 then [] else [c]):=λc _=>by
  unfold wb;rw[List.range_succ,List.filter_append];congr 1;by_cases h:c∈(red (chs tg) m).2<;>simp[h]
 refine xH (n:=m) (λi ys H'=> ∃bs:List Addr,ys=bs.map V.ref/\TL H' bs ((wb i (red (chs tg) m).2).map (vecF m (red (chs tg) m).1 (red (chs tg) m).2))/\Same H2 H') ⟨[],rfl,⟨rfl,λi a r e=>nomatch e⟩,Same.new (Same.refl H2) hD2⟩ ?_ ?_
 ·rintro i ys H3 hi ⟨bs3,rfl,hb3,K3⟩ hDy R S kR kS;rw[Int.zero_add];nofun;refine zJ (K3 _ _ et) rfl ?_;refine⟨l2,_,rfl,K3 _ _ el2,rfl,flN _,?_⟩;rw[inN];nofun;refine Wl (λh=>?_) (λh=>?_)
  ·have kl:=frees_len I.nd I.lt;have hin:i∈wb m (red (chs tg) m).2:=List.mem_filter.mpr ⟨Λ.mpr hi,decide_eq_true h⟩;have hk7:(red (chs tg) m).2.length<=7:=by
    have:=List.length_pos_of_mem hin;omega
   have hB:bdE 5 (red (chs tg) m).2.length<=767:=Τ (wM (j:=7) hk7) (by decide);have hBk:(red (chs tg) m).2.length*bdE 5 (red (chs tg) m).2.length<=7*767:=Nat.mul_le_mul hk7 hB;nofun;refine zJ (K3 _ _ et) rfl ?_;nofun;refine zJ (K3 _ _ et) rfl ?_;nofun;refine⟨l1,l2,m,i,bdE 5 (red (chs tg) m).2.length,as',_,(red (chs tg) m).2,rfl,K3 _ _ el1,hr1.same K3,K3 _ _ el2,by rw[List.length_take]; omega,λr hr'=>I.len r (List.mem_of_mem_take hr'),by omega,by omega,hi,I.lt,λj hj=>by rw[vj hj]; exact I.own j hj,λr hr'=>I.bit r (List.mem_of_mem_take hr'),by omega,?_,λq H4 K4 e4=>?_⟩
   ·rw[v3 _ (θ _),vH _ (θ _)];exact ZL (I.glog hi h) (by omega)
   rw[vec_take] at e4;have lb3:bs3.length<=m:=by
    rw[hb3.1,ε];unfold wb;have:=List.length_filter_le (λj=>decide (j∉(red (chs tg) m).2)) (List.range i);rw[Ξ] at this;omega
   refine kR _ _ (K4 _ _ hDy) (by rw[ε]; exact zq (by omega)) ⟨bs3++[q],by rw[Μ]; rfl,?_,(K3.trans K4).put hD2⟩;rw[hfl i hi,if_neg h,Μ];exact TL.off (K4 _ _ hDy) (TL.snoc (hb3.same K4) e4)
  ·refine kS _ hDy ⟨bs3,rfl,?_,K3⟩;rw[hfl i hi,if_pos h,List.append_nil];exact hb3
 rintro ys H3 ⟨bs3,rfl,hb3,K3⟩ e3;exact k D2 bs3 H3 (KA.trans K3) (Same.none KA hD2) e3 hb3
end
end K17
namespace K17
open PySem L2 G2 WG EL
local macro_rules | `(tactic| walk_at "v") => `(tactic| repeat (with_reducible first | walk_at "c" | refine yA ?_ | refine yB ?_ | refine yC ?_ | refine w_sl ?_ | refine z0 ?_ | refine yM ?_ | refine xS ?_))
section
variable {D:Addr} {tc:TT} {te:TE} {Q:VK} {ρ:St} {H:Hp} {lo:Int} {n:Nat}
theorem ZT(r:Nat->V)(f:Nat->Bool)(hn:n<=1000)(hD:H D=none)
  (test: ∀i,i<n-> ∀H',Same H H'-> ∀R:Bool->Hp->Prop,(∀H'',Same H' H''->R (f i) H'')->tc (some (.int (lo+i))::ρ) H' R)
  (elt: ∀i,i<n->f i=true-> ∀H',Same H H'-> ∀R:V->Hp->Prop,(∀H'',Same H' H''->R (r i) H'')->te (some (.int (lo+i))::ρ) H' R)
  (q: ∀H',Same H H'->H' D=some (.lst (((List.range n).filter f).map r))->Q (.ref D) H'):CGo (Itr lo n) D (zF 0) tc te Q (none::ρ) H:=by
 refine xH (λi ys H'=>ys=((List.range i).filter f).map r/\Same H H') ⟨rfl,Same.new (Same.refl H) hD⟩ ?_ ?_
 ·rintro i ys H' hi ⟨rfl,K'⟩ hDy R S kR kS;refine test i hi H' K' _ λH2 K2=>?_;cases hf:f i with
  | true=>
   refine iteT (elt i hi hf H2 (K'.trans K2) R λH3 K3=>?_);refine kR _ _ (K3 _ _ (K2 _ _ hDy)) (zq (by rw[ε]; have:=List.length_filter_le f (List.range i); rw[Ξ] at this; omega)) ⟨?_,((K'.trans K2).trans K3).put hD⟩;rw[List.range_succ,List.filter_append,Μ,List.filter_cons_of_pos hf];rfl
  | false=>
   refine iteF (kS _ (K2 _ _ hDy) ⟨?_,K'.trans K2⟩);rw[List.range_succ,List.filter_append,List.filter_cons_of_neg (by rw[hf]; exact Ζ)];simp
 ·rintro ys H' ⟨rfl,K'⟩ hDy;exact q H' K' hDy
end
theorem zip_mapV{xs ys:List Int}(g:Int->Int->V)(ha:H a=some (.tup (xs.map V.int)))(hb:H b=some (.tup (ys.map V.int)))(hlen:xs.length=ys.length)(hn:xs.length<=1000)
  (step: ∀(x y:Int) (H':Hp),Same H H'-> ∀R:V->Hp->Prop,(∀H'',Same H' H''->R (g x y) H'')->te (some (.int x)::some (.int y)::ρ) H' R)
  (q: ∀H',Same H H'->H' D=some (.lst (List.zipWith g xs ys))->Q (.ref D) H') (hD:H D=none):CGo (Itz K a b) D (gTup K 2 (yj (zF 0) (yj (zF 1) gNil))) tAll te Q (none::none::ρ) H:=by
 refine XJ (xs:=xs.map V.int) (zs:=ys.map V.int) (by simp[hlen]) (λi zs H'=>zs=(List.zipWith g xs ys).take i/\Same H H') ⟨rfl,Same.new (Same.refl H) hD⟩ (λi zs H' _ ⟨_,k'⟩=>⟨SqT.of (k' _ _ ha),SqT.of (k' _ _ hb)⟩) ?_ ?_
 ·rintro i x z zs H' p hx hz ⟨rfl,K'⟩ hDz hp R S kR _;have hi1:i<xs.length:=by
   have:=(ξ.mp hx).1;simpa using this
  have hi2:i<ys.length:=by omega
  have ex:x= .int xs[i]:=by
   rw[μ,δ hi1] at hx;exact(Γ hx).symm
  have ez:z= .int ys[i]:=by
   rw[μ,δ hi2] at hz;exact(Γ hz).symm
  subst ex ez;refine zU ?_;refine iteT ?_;have hD':upd H' p (.tup [.int xs[i],.int ys[i]]) D=some (.lst ((List.zipWith g xs ys).take i)):=by rw[zk (zh hDz hp)]; exact hDz
  refine step _ _ _ (K'.new hp) R λH'' K''=>?_;refine kR _ _ (K'' _ _ hD') (by rw[List.length_take]; exact zq (by omega)) ⟨?_,((K'.new hp).trans K'').put hD⟩;have hz':(List.zipWith g xs ys)[i]? =some (g xs[i] ys[i]):=by simp[List.getElem?_zipWith,hi1,hi2]
  rw[List.take_add_one,hz'];rfl
 ·rintro zs H' ⟨rfl,K'⟩ hDz;refine q H' K' ?_;rw[hDz,List.take_of_length_le];simp;omega
abbrev nV (o:List Nat):List V:=o.map fun(n:Nat)=>V.int (n:Int)
def dz (xs ys:List Int):Int:=(List.zipWith (· * ·) xs ys).sum
def rl (tg:Rows) (r:Nat):List Int×List Int:=tg.getD r ([],[])
def Can (tg:Rows) (st:List Int) (r:Nat):Prop:=r<tg.length/\ ∀i,i<st.length->(rl tg r).1.getD i 0<=st.getD i 0
def goL (st:List Int) (x:List Int×List Int):List Int:=(List.range st.length).map λi=>st.getD i 0-x.1.getD i 0+x.2.getD i 0
theorem ZQ:(goL st x).length=st.length:=by simp[goL]
theorem go_at{st:List Int}(h:i<st.length):(goL st x).getD i 0=st.getD i 0-x.1.getD i 0+x.2.getD i 0:=by simp[goL,List.getD_eq_getElem?_getD,h]
theorem fits{st t:List Int}(h:st.length=t.length)(hc: ∀i,i<st.length->t.getD i 0<=st.getD i 0):(List.zipWith (λs x=>decide (x<=s)) st t).all id=true:=by
 rw[List.all_eq_true];intro b hb;obtain⟨i,hi,rfl⟩:=List.getElem_of_mem hb;rw[List.length_zipWith] at hi;have:=hc i (by omega);rw[List.getElem_zipWith];simpa[List.getD_eq_getElem?_getD,show i<st.length by omega,show i<t.length by omega] using this
theorem PotK.rule(hP:PotK H p m tg)(h:r<tg.length): ∃(ps pr pin pb:Addr) (ans:Int) (rs:List Addr) (q a b:Addr),H p=some (.tup [.ref ps,.ref pr,.ref pin,.ref pb,.int ans])/\H pr=some (.tup (rs.map V.ref))/\rs.length=tg.length/\rs[r]? =some q/\H q=some (.tup [.ref a,.ref b])/\H a=some (.tup ((rl tg r).1.map V.int))/\H b=some (.tup ((rl tg r).2.map V.int))/\(rl tg r).1.length=m/\(rl tg r).2.length=m:=by
 obtain⟨ps,pr,pin,pb,ans,rs,us,h1,h2,h3,h4,hR⟩:=hP.ex;obtain⟨q,a,b,g1,g2,g3,g4,g5,g6,_⟩:=hR.get h;have e:rl tg r=tg[r]:=by unfold rl; rw[ζ,δ h]; rfl
 rw[e];exact⟨ps,pr,pin,pb,ans,rs,q,a,b,h1,h4,hR.1,g1,g2,g3,g4,g5,g6⟩
abbrev sTa:Stmt:=top 3
abbrev nTa:List Str:=["ones","others"]
theorem nmTa:Nm nTa (zd sTa):=nmk (nofun)
theorem scTa:FnScope nTa ["ones","others"] (zd sTa):=fsk (nofun)
def qTaa (s:Stmt):Scope:=match s with
 | .Return (some (.Call _ [(.ListComp _ _ sc _)] _ _)) _=>sc
 | _=>nsc
abbrev cTaa:Scope:=qTaa ((zm sTa).getD 0 (.Pass ⟨0,0,0,0⟩))
theorem bsTaa:BScope (zd sTa) cTaa ["one","other"] [] []:={}
def spTa:Sp:=λvs H Q _=> ∃(a b:Addr) (xs ys:List Int),vs=[.ref a,.ref b]/\H a=some (.tup (xs.map V.int))/\H b=some (.tup (ys.map V.int))/\xs.length=ys.length/\xs.length<=1000/\(∀y∈ys,0<=y/\y<=100000)/\ ∀H',Same H H'->Q (.int (dz xs ys)) H'
section
variable {P:Program} {w:World} {K:W.Frag} {mg:Str->Option Value} {base:Heap}
theorem ok_Ta(B:Bl mg)(F:Fun K "times_added" "times_added" sTa f fd):FnOk P w K mg base CX0 1 f fd ["ones","others"] spTa:=by
 refine F.ok scTa (λvs H Q E h=>?_) (λcdv A outer s H vs Q E hr h=>?_)
 ·obtain⟨a,b,xs,ys,rfl,_⟩:=h;rfl
 obtain⟨a,b,xs,ys,rfl,ha,hb,hl,hn,hy,k⟩:=h;refine'⟨_,?hb,?rd⟩
 case' hb=>skip
 case' hb=>refine' zi ?g1
 case' g1=>refine' zr ?g2
 case' g2=>refine' zP (call_sum rfl) B.sum PyProof.Rows.boot_sum ?g3
 case' g3=>refine' pa_1 ?g4
 case' g4=>refine' zy (ix:=[]) bsTaa.toCScope rfl rfl ?g5 ?g6 ?g7 ?g8
 case g5=>exact Xe B.zip (pa_2 (pvd nmTa 0) (pvd nmTa 1))
 case g6=>
  intro _ _ _ _ _ _;refine' yT (n:=2) rfl ?g9
  case' g9=>refine' zt ?g13 ?g12
  case g13=>exact pgb bsTaa 0
  case' g12=>refine' zt ?g15 zS
  case g15=>exact pgb bsTaa 1
 case g7=>exact λ_ _ _ _ _ _=>zu
 case g8=>exact λ_ _ _ _ _ _=>zo y3 (pvb bsTaa 0) (pvb bsTaa 1)
 nofun;refine⟨a,b,rfl,⟨_,SqT.of ha⟩,⟨_,SqT.of hb⟩,λD hD=>?_⟩;refine zip_map (λx y=>x*y) ha hb hl hn (λi x y H' hx hy' K' R kR=>?_) (λH2 K2 e2=>?_) hD
 ·nofun;have:=hy y (ο hy');exact w_rI (.inr ⟨by omega,by omega⟩) (kR _ (Same.refl _))
 ·nofun;exact⟨D,_,rfl,e2,k _ K2⟩
abbrev sCn:Stmt:=top 34
abbrev nCn:List Str:=["kept","stand"]
theorem nmCn:Nm nCn (zd sCn):=nmk (nofun)
theorem scCn:FnScope nCn ["kept","stand"] (zd sCn):=fsk (nofun)
theorem ok_Cn(fT:Has P w K mg base 1 "times_added" ["ones","others"] spTa)(F:Fun K "count_of" "count_of" sCn f fd):FnOk P w K mg base CX0 2 f fd ["kept","stand"] spTa:=by
 refine F.ok scCn (λvs H Q E h=>?_) (λcdv A outer s H vs Q E hr h=>?_)
 ·obtain⟨a,b,xs,ys,rfl,_⟩:=h;rfl
 obtain⟨a,b,xs,ys,rfl,h⟩:=h;refine'⟨_,?hb,?rd⟩
 case' hb=>skip
 case' hb=>refine' zi ?g1
 case g1=>exact zr (pe_f fT hr (by decide) (pa_2 (pvd nmCn 0) (pvd nmCn 1)))
 nofun;exact⟨a,b,xs,ys,rfl,h⟩
abbrev sHt:Stmt:=top 14
abbrev nHt:List Str:=["heights","stand"]
theorem nmHt:Nm nHt (zd sHt):=nmk (nofun)
theorem scHt:FnScope nHt ["heights","stand"] (zd sHt):=fsk (nofun)
theorem ok_Ht(fT:Has P w K mg base 1 "times_added" ["ones","others"] spTa)(F:Fun K "height_of" "height_of" sHt f fd):FnOk P w K mg base CX0 2 f fd ["heights","stand"] spTa:=by
 refine F.ok scHt (λvs H Q E h=>?_) (λcdv A outer s H vs Q E hr h=>?_)
 ·obtain⟨a,b,xs,ys,rfl,_⟩:=h;rfl
 obtain⟨a,b,xs,ys,rfl,h⟩:=h;refine'⟨_,?hb,?rd⟩
 case' hb=>skip
 case' hb=>refine' zi ?g1
 case g1=>exact zr (pe_f fT hr (by decide) (pa_2 (pvd nmHt 0) (pvd nmHt 1)))
 nofun;exact⟨a,b,xs,ys,rfl,h⟩
abbrev sCa:Stmt:=top 22
abbrev nCa:List Str:=["pot","stand","rule","takes"]
theorem nmCa:Nm nCa (zd sCa):=nmk (nofun)
theorem scCa:FnScope nCa ["pot","stand","rule"] (zd sCa):=fsk (nofun)
def qCaa (s:Stmt):Scope:=match s with
 | .Return (some (.Call _ [(.ListComp _ _ sc _)] _ _)) _=>sc
 | _=>nsc
abbrev cCaa:Scope:=qCaa ((zm sCa).getD 2 (.Pass ⟨0,0,0,0⟩))
theorem bsCaa:BScope (zd sCa) cCaa ["there","taken"] [] []:={}
def spCa:Sp:=λvs H Q _=> ∃(p s:Addr) (r m:Nat) (tg:Rows) (st:List Int),vs=[.ref p,.ref s,.int (r:Int)]/\PotK H p m tg/\H s=some (.tup (st.map V.int))/\st.length=m/\Can tg st r/\ ∀H',Same H H'->Q (.bl true) H'
theorem ok_Ca(B:Bl mg)(Z:KZ mg)(F:Fun K "can_go" "can_go" sCa f fd):FnOk P w K mg base CX0 1 f fd ["pot","stand","rule"] spCa:=by
 refine F.ok scCa (λvs H Q E h=>?_) (λcdv A outer s H vs Q E hr h=>?_)
 ·obtain⟨p,s,r,m,tg,st,rfl,_⟩:=h;rfl
 obtain⟨p,sa,r,m,tg,st,rfl,hP,hs,hst,hc,k⟩:=h;refine'⟨_,?hb,?rd⟩
 case' hb=>skip
 case' hb=>refine' ze ?g1 ?g2
 case' g2=>refine' ze ?g3 ?g4
 case' g4=>refine' zi ?g5
 case' g1=>refine' zZ ?g6 ?g7 zB
 case g6=>exact vA (pt_chain WV wD zg (pvd nmCa 2) (zP zp B.len Ρ (pa_1 (ziq (pvd nmCa 0) (pe_k Z.r)))))
 case' g7=>refine' zi ?g9
 case g9=>exact zr vE
 case g3=>exact zj nmCa 3 (ziq (ziq (ziq (pvd nmCa 0) (pe_k Z.r)) (pvd nmCa 2)) (pe_k Z.t))
 case' g5=>refine' zr ?g10
 case' g10=>refine' zP (call_all rfl) B.all PyProof.Rows.boot_all ?g11
 case' g11=>refine' pa_1 ?g12
 case' g12=>refine' zy (ix:=[]) bsCaa.toCScope rfl rfl ?g13 ?g14 ?g15 ?g16
 case g13=>exact Xe B.zip (pa_2 (pvd nmCa 1) (pvd nmCa 3))
 case g14=>
  intro _ _ _ _ _ _;refine' yT (n:=2) rfl ?g17
  case' g17=>refine' zt ?g21 ?g20
  case g21=>exact pgb bsCaa 0
  case' g20=>refine' zt ?g23 zS
  case g23=>exact pgb bsCaa 1
 case g15=>exact λ_ _ _ _ _ _=>zu
 case g16=>exact λ_ _ _ _ _ _=>y8 Yg (pvb bsCaa 0) (pvb bsCaa 1) (zw _)
 obtain⟨ps,pr,pin,pb,ans,rs,q,a,b,h1,h2,h3,h4,h5,h6,h7,h8,h9⟩:=hP.rule hc.1;have m8:=hP.m8;have hr:=hc.1;nofun;refine iteP (by omega) ?_;nofun;refine zJ h1 rfl ?_;nofun;refine⟨pr,_,rfl,.inr (SqT.of h2),?_⟩;rw[ε,h3];nofun;refine Wl (λh=>absurd (by omega) h) (λ_=>?_);nofun;refine zJ h1 rfl ?_;nofun;refine zJ (v:= .ref q) h2 (zx (by rw[μ,h4]; rfl)) ?_;nofun;refine zJ h5 rfl ?_;nofun;refine⟨sa,a,rfl,⟨_,SqT.of hs⟩,⟨_,SqT.of h6⟩,λD hD=>?_⟩;refine zip_mapV (ρ:=[]) (λx y=> .bl (decide (y<=x))) hs h6 (by omega) (by omega) (λx y H' _ R kR=>?_) (λH1 K1 e1=>?_) hD
 ·nofun;exact kR _ (Same.refl _)
 nofun;refine⟨D,List.zipWith (λs x=>decide (x<=s)) st (rl tg r).1,rfl,by rw[e1,List.map_zipWith],?_⟩;rw[fits (by omega) hc.2];exact k _ K1
abbrev sGo:Stmt:=top 23
abbrev nGo:List Str:=["pot","stand","rule","takes","gives"]
theorem nmGo:Nm nGo (zd sGo):=nmk (nofun)
theorem scGo:FnScope nGo ["pot","stand","rule"] (zd sGo):=fsk (nofun)
def qGoa (s:Stmt):Scope:=match s with
 | .Return (some (.Call _ [(.ListComp _ _ sc _)] _ _)) _=>sc
 | _=>nsc
abbrev cGoa:Scope:=qGoa ((zm sGo).getD 3 (.Pass ⟨0,0,0,0⟩))
theorem bsGoa:BScope (zd sGo) cGoa ["there","taken","given"] [] []:={}
def spGo:Sp:=λvs H Q _=> ∃(p s:Addr) (r m:Nat) (tg:Rows) (st:List Int),vs=[.ref p,.ref s,.int (r:Int)]/\PotK H p m tg/\H s=some (.tup (st.map V.int))/\st.length=m/\Can tg st r/\ ∀q H',Same H H'->H' q=some (.tup ((goL st (rl tg r)).map V.int))->Q (.ref q) H'
theorem ok_Go(B:Bl mg)(Z:KZ mg)(fC:Has P w K mg base 1 "can_go" ["pot","stand","rule"] spCa)(F:Fun K "gone" "gone" sGo f fd):FnOk P w K mg base CX0 2 f fd ["pot","stand","rule"] spGo:=by
 refine F.ok scGo (λvs H Q E h=>?_) (λcdv A outer s H vs Q E hr h=>?_)
 ·obtain⟨p,s,r,m,tg,st,rfl,_⟩:=h;rfl
 obtain⟨p,sa,r,m,tg,st,rfl,hP,hs,hst,hc,k⟩:=h;refine'⟨_,?hb,?rd⟩
 case' hb=>skip
 case' hb=>refine' ze ?g1 ?g2
 case' g2=>refine' ze ?g3 ?g4
 case' g4=>refine' ze ?g5 ?g6
 case' g6=>refine' zi ?g7
 case' g1=>refine' zZ ?g8 ?g9 zB
 case g8=>exact vA (wR (pe_f fC hr (by decide) (pa_c (pvd nmGo 0) (pa_2 (pvd nmGo 1) (pvd nmGo 2)))))
 case g9=>exact Zd
 case g3=>exact zj nmGo 3 (ziq (ziq (ziq (pvd nmGo 0) (pe_k Z.r)) (pvd nmGo 2)) (pe_k Z.t))
 case g5=>exact zj nmGo 4 (ziq (ziq (ziq (pvd nmGo 0) (pe_k Z.r)) (pvd nmGo 2)) (pe_k Z.g))
 case' g7=>refine' zr ?g11
 case' g11=>refine' zV zz B.tuple Η ?g12
 case' g12=>refine' pa_1 ?g13
 case' g13=>refine' zy (ix:=[]) bsGoa.toCScope rfl rfl ?g14 ?g15 ?g16 ?g17
 case g14=>exact pi_zt B.zip (pa_c (pvd nmGo 1) (pa_2 (pvd nmGo 3) (pvd nmGo 4)))
 case g15=>
  intro _ _ _ _ _ _;refine' yT (n:=3) rfl ?g18
  case' g18=>refine' zt ?g23 ?g22
  case g23=>exact pgb bsGoa 0
  case' g22=>refine' zt ?g25 ?g24
  case g25=>exact pgb bsGoa 1
  case' g24=>refine' zt ?g27 zS
  case g27=>exact pgb bsGoa 2
 case g16=>exact λ_ _ _ _ _ _=>zu
 case g17=>exact λ_ _ _ _ _ _=>zo zY (zo yZ (pvb bsGoa 0) (pvb bsGoa 1)) (pvb bsGoa 2)
 have m8:=hP.m8;nofun;refine⟨p,sa,r,m,tg,st,rfl,hP,hs,hst,hc,λH1 K1=>?_⟩;nofun;refine iteF ?_;obtain⟨ps,pr,pin,pb,ans,rs,q,a,b,h1,h2,h3,h4,h5,h6,h7,h8,h9⟩:=(hP.same K1).rule hc.1;nofun;refine zJ h1 rfl ?_;nofun;refine zJ (v:= .ref q) h2 (zx (by rw[μ,h4]; rfl)) ?_;nofun;refine zJ h5 rfl ?_;nofun;refine zJ h1 rfl ?_;nofun;refine zJ (v:= .ref q) h2 (zx (by rw[μ,h4]; rfl)) ?_;nofun;refine zJ h5 rfl ?_;nofun;refine w_comp3 ?_;nofun;refine⟨sa,a,b,rfl,⟨_,SqT.of (K1 _ _ hs)⟩,⟨_,SqT.of h6⟩,⟨_,SqT.of h7⟩,λD hD=>?_⟩;refine zip3_map (ρ:=[]) (λx y z=>x - y+z) (K1 _ _ hs) h6 h7 (by omega) (by omega) (by omega) (λx y z H' _ R kR=>?_) (λH2 K2 e2=>?_) hD
 ·nofun;exact kR _ (Same.refl _)
 nofun;exact⟨D,_,rfl,e2,λq H3 K3 e3=>k q _ ((K1.trans K2).trans K3) e3⟩
def wk (tg:Rows) (st:List Int) (o:List Nat):List Int:=o.foldl (λs r=>goL s (rl tg r)) st
def OkO (tg:Rows) (st:List Int) (o:List Nat):Prop:= ∀i,i<o.length->Can tg (wk tg st (o.take i)) (o.getD i 0)
theorem xt(tg:Rows): ∀(o:List Nat) (st:List Int),(wk tg st o).length=st.length
 | [],_=>rfl
 | r::o,st=>by
  show(wk tg (goL st (rl tg r)) o).length=_;rw[xt tg o,ZQ]
theorem XR:wk tg st (o++[r])=goL (wk tg st o) (rl tg r):=by simp[wk]
theorem vf{o:List Nat}(hi:i<o.length):wk tg st (o.take (i+1))=goL (wk tg st (o.take i)) (rl tg (o.getD i 0)):=by
 rw[<-XR,List.take_add_one,δ hi,ζ,δ hi];rfl
theorem OkO.add(h:OkO tg st o)(hc:Can tg (wk tg st o) r):OkO tg st (o++[r]):=by
 intro i hi;rw[Β,List.length_singleton] at hi;by_cases e:i<o.length
 ·rw[List.take_append_of_le_length (by omega),ζ,Δ e,<-ζ];exact h i e
 ·have e':i=o.length:=by omega
  subst e';rw[List.take_append_of_le_length (θ _),List.take_length,ζ,Α (θ _)];simpa using hc
theorem vN{as:List α}(h:as.length=n+1): ∃bs a,as=bs++[a]/\bs.length=n/\as[n]? =some a:=by
 have hne:as≠[]:=λz=>by rw[z] at h; simp at h
 refine⟨as.dropLast,as.getLast hne,(List.dropLast_concat_getLast hne).symm,by rw[List.length_dropLast]; omega,?_⟩;rw[List.getLast_eq_getElem,δ (by omega)];simp[h]
def StL (H:Hp) (l:Addr) (tg:Rows) (st:List Int) (o:List Nat) (n:Nat):Prop:= ∃as:List Addr,H l=some (.lst (as.map V.ref))/\as.length=n+1/\ ∀j a,as[j]? =some a->H a=some (.tup ((wk tg st (o.take j)).map V.int))
theorem StL.same(k:Same H H'):StL H l tg st o n->StL H' l tg st o n
 | ⟨as,h1,h2,h3⟩=>⟨as,k _ _ h1,h2,λj a e=>k _ _ (h3 j a e)⟩
structure Jb (H:Hp) (p s ol:Addr) (m:Nat) (tg:Rows) (st:List Int) (o:List Nat):Prop where
 po:PotK H p m tg
 hs:H s=some (.tup (st.map V.int))
 hst:st.length=m
 ho:H ol=some (.lst (nV o))
 o9:o.length<=600
def spOn:Sp:=λvs H Q _=> ∃(p s ol:Addr) (m:Nat) (tg:Rows) (st:List Int) (o:List Nat),vs=[.ref p,.ref s,.ref ol]/\Jb H p s ol m tg st o/\OkO tg st o/\ ∀l H',Same H H'->StL H' l tg st o o.length->Q (.ref l) H'
def spWa:Sp:=λvs H Q _=> ∃(p s ol:Addr) (m:Nat) (tg:Rows) (st:List Int) (o:List Nat),vs=[.ref p,.ref s,.ref ol]/\Jb H p s ol m tg st o/\OkO tg st o/\ ∀q H',Same H H'->H' q=some (.tup ((wk tg st o).map V.int))->Q (.ref q) H'
abbrev sOn:Stmt:=top 26
abbrev nOn:List Str:=["pot","stand","order","stands","place","rule"]
theorem nmOn:Nm nOn (zd sOn):=nmk (nofun)
theorem scOn:FnScope nOn ["pot","stand","order"] (zd sOn):=fsk (nofun)
theorem ok_On(B:Bl mg)(fC:Has P w K mg base 1 "can_go" ["pot","stand","rule"] spCa)(fG:Has P w K mg base 2 "gone" ["pot","stand","rule"] spGo)(F:Fun K "stands_on" "stands_on" sOn f fd):FnOk P w K mg base CX0 3 f fd ["pot","stand","order"] spOn:=by
 refine F.ok scOn (λvs H Q E h=>?_) (λcdv A outer s H vs Q E hr h=>?_)
 ·obtain⟨p,s,ol,m,tg,st,o,rfl,_⟩:=h;rfl
 obtain⟨p,sa,ol,m,tg,st,o,rfl,J,hO,k⟩:=h;refine'⟨_,?hb,?rd⟩
 case' hb=>skip
 case' hb=>refine' ze ?g1 ?g2
 case' g2=>refine' ze ?g3 ?g4
 case' g4=>refine' zi ?g5
 case g1=>exact zj nmOn 3 (zR (pa_1 (pvd nmOn 1)))
 case' g3=>refine' ye Ψ rfl ?g6 (xM rfl (zt (pgd nmOn 4) (zt (pgd nmOn 5) zS))) ?g7
 case g6=>exact pi_enl B.enu (pa_1 (pvd nmOn 2))
 case' g7=>refine' ze ?g8 ?g9
 case' g9=>refine' zi ?g10
 case' g8=>refine' zZ ?g11 ?g12 zB
 case g11=>exact vA (wR (pe_f fC hr (by decide) (pa_c (pvd nmOn 0) (pa_2 (ziq (pvd nmOn 3) (xQ yX zg)) (pvd nmOn 5)))))
 case g12=>exact Zd
 case g10=>exact xq (wA PySem.F.plainAttrs_list PySem.F.slot_list_append PySem.F.type_list_append xb (pvd nmOn 3) (pa_1 (pe_f fG hr (by decide) (pa_c (pvd nmOn 0) (pa_2 (ziq (pvd nmOn 3) (xQ yX zg)) (pvd nmOn 5))))))
 case g5=>exact zr (pvd nmOn 3)
 have o9:=J.o9;nofun;refine⟨sz1,λsl hsl=>?_⟩;have K1:Same H (upd H sl (.lst [.ref sa])):=Same.new (Same.refl H) hsl;have e1:StL (upd H sl (.lst [.ref sa])) sl tg st o 0:=⟨[sa],zf,rfl,λj a e=>by
  cases j with
  | zero=>
   simp at e;subst e;exact K1 _ _ J.hs
  | succ j=>simp at e⟩
 generalize upd H sl (.lst [.ref sa])=H1 at K1 e1 ⊢;nofun;refine w_forEl ?_;nofun;refine⟨ol,rfl,⟨_,SqL.of (K1 _ _ J.ho)⟩,?_⟩;refine for_enl (xs:=nV o) (λi σ H'=> ∃(u v:Option V),σ=[some (.ref p),some (.ref sa),some (.ref ol),some (.ref sl),u,v]/\StL H' sl tg st o i/\Same H H') ⟨none,none,rfl,e1,K1⟩ (λi σ H' ⟨_,_,_,_,k'⟩=>SqL.of (k' _ _ J.ho)) ?_ ?_
 ·rintro i x σ H' q hx ⟨u,v,rfl,S',K'⟩ hq;have hi:i<o.length:=by
   have:=(ξ.mp hx).1;simpa using this
  have ex:x= .int ((o.getD i 0:Nat):Int):=by
   rw[μ,δ hi] at hx;rw[ζ,δ hi];exact(Γ hx).symm
  subst ex;have hc:=hO i hi;refine YI zf rfl ?_;refine⟨_,_,rfl,?_⟩;nofun;refine⟨_,_,rfl,?_⟩;nofun;refine⟨rfl,?_⟩;have K2:Same H' (upd H' q (.tup [.int (i:Int),.int ((o.getD i 0:Nat):Int)])):=Same.new (Same.refl H') hq;generalize upd H' q (.tup [.int (i:Int),.int ((o.getD i 0:Nat):Int)])=H2 at K2 ⊢;have KA:=K'.trans K2;obtain⟨as,e2,al,ae⟩:=S'.same K2;obtain⟨bs,a,rfl,hbl,han⟩:=vN al;have ea:=ae i a han;have e2':H2 sl=some (.lst (bs.map V.ref++[.ref a])):=by rw[e2,Μ]; rfl
  have hwl:(wk tg st (o.take i)).length=m:=by rw[xt]; exact J.hst
  nofun;refine⟨_,rfl,?_⟩;refine zC e2' (wN _ _) ?_;nofun;refine⟨p,a,_,m,tg,_,rfl,J.po.same KA,ea,hwl,hc,λH3 K3=>?_⟩;nofun;refine iteF ?_;nofun;refine⟨.inl ⟨rfl,_,SqL.of (K3 _ _ e2')⟩,?_⟩;nofun;refine⟨_,rfl,?_⟩;refine zC (K3 _ _ e2') (wN _ _) ?_;nofun;refine⟨p,a,_,m,tg,_,rfl,J.po.same (KA.trans K3),K3 _ _ ea,hwl,hc,λq' H4 K4 hq'=>?_⟩;have K5:=K3.trans K4;nofun;refine⟨sl,_,_,rfl,rfl,K5 _ _ e2,by rw[ε]; exact zq (by omega),?_⟩;refine⟨_,_,rfl,⟨(bs++[a])++[q'],by rw[zf,Μ (l₂:=[q'])]; rfl,by rw[Β (bs:=[q']),al]; rfl,λj a' ej=>?_⟩,(KA.trans K5).put hsl⟩;have nsl: ∀{b:Addr} {ys:List V},H4 b=some (.tup ys)->b≠sl:=λe z=>by
   rw[z,K5 _ _ e2] at e;cases e
  by_cases hj:j<(bs++[a]).length
  ·rw[Δ hj] at ej;have:=K5 _ _ (ae j a' ej);rw[zk (nsl this)];exact this
  ·have hj':j=i+1:=by
    have:=(ξ.mp ej).1;rw[Β (bs:=[q']),List.length_singleton] at this;omega
   rw[Α (by omega),hj',al,Nat.sub_self] at ej;simp at ej;subst ej;rw[zk (nsl hq'),hj',vf hi];exact hq'
 ·rintro σ H' ⟨u,v,rfl,S',K'⟩;rw[ε] at S';nofun;exact k sl _ K' S'
abbrev sWa:Stmt:=top 25
abbrev nWa:List Str:=["pot","stand","order"]
theorem nmWa:Nm nWa (zd sWa):=nmk (nofun)
theorem scWa:FnScope nWa ["pot","stand","order"] (zd sWa):=fsk (nofun)
theorem ok_Wa(fS:Has P w K mg base 3 "stands_on" ["pot","stand","order"] spOn)(F:Fun K "walked" "walked" sWa f fd):FnOk P w K mg base CX0 4 f fd ["pot","stand","order"] spWa:=by
 refine F.ok scWa (λvs H Q E h=>?_) (λcdv A outer s H vs Q E hr h=>?_)
 ·obtain⟨p,s,ol,m,tg,st,o,rfl,_⟩:=h;rfl
 obtain⟨p,sa,ol,m,tg,st,o,rfl,J,hO,k⟩:=h;refine'⟨_,?hb,?rd⟩
 case' hb=>skip
 case' hb=>refine' zi ?g1
 case g1=>exact zr (ziq (pe_f fS hr (by decide) (pa_c (pvd nmWa 0) (pa_2 (pvd nmWa 1) (pvd nmWa 2)))) (xQ yX zg))
 nofun;refine⟨p,sa,ol,m,tg,st,o,rfl,J,hO,λl H1 K1 S1=>?_⟩;obtain⟨as,e2,al,ae⟩:=S1;obtain⟨bs,a,rfl,hbl,han⟩:=vN al;have ea:=ae _ a han;rw[List.take_length] at ea;have e2':H1 l=some (.lst (bs.map V.ref++[.ref a])):=by rw[e2,Μ]; rfl
 nofun;refine⟨_,rfl,?_⟩;refine zC e2' (wN _ _) ?_;exact k a _ K1 ea
theorem ixT0{xs:List Int}(h:H a=some (.tup (xs.map V.int)))(hi:i<xs.length)(q:Q (.int (xs.getD i 0)) H):rIxd (.ref a) (.int (0+(i:Int))) H Q:=by
 rw[Int.zero_add];exact zJ (v:= .int (xs.getD i 0)) h (zx (by simp[List.getD_eq_getElem?_getD,hi])) q
theorem ixL0{xs:List Int}(h:H a=some (.lst (xs.map V.int)))(hi:i<xs.length)(q:Q (.int (xs.getD i 0)) H):rIxd (.ref a) (.int (0+(i:Int))) H Q:=by
 rw[Int.zero_add];exact zC (v:= .int (xs.getD i 0)) h (zx (by simp[List.getD_eq_getElem?_getD,hi])) q
instance {tg:Rows} {st:List Int} {r:Nat}:Decidable (Can tg st r):=by unfold Can; infer_instance
def lfL (st t:List Int):List Int:=(List.range st.length).map λi=>st.getD i 0-t.getD i 0
theorem lf_at{st:List Int}(h:i<st.length):(lfL st t).getD i 0=st.getD i 0-t.getD i 0:=by simp[lfL,List.getD_eq_getElem?_getD,h]
theorem lf_len:(lfL st t).length=st.length:=by simp[lfL]
abbrev sLg:Stmt:=top 44
abbrev nLg:List Str:=["_law_pot_here","_law_stand","_law_rule_here","_law_takes","_law_gives","_law_left"]
theorem nmLg:Nm nLg (zd sLg):=nmk (nofun)
theorem scLg:FnScope nLg ["_law_pot_here","_law_stand","_law_rule_here"] (zd sLg):=fsk (nofun)
def qLga (s:Stmt):Scope:=match s with
 | .Assign _ (.ListComp _ _ sc _) _=>sc
 | _=>nsc
abbrev cLga:Scope:=qLga ((zm sLg).getD 1 (.Pass ⟨0,0,0,0⟩))
theorem bsLga:BScope (zd sLg) cLga ["_law_sort"] ["_law_stand","_law_takes"] []:={}
def qLgb (s:Stmt):Scope:=match s with
 | .Return (some (.Call _ [(.ListComp _ _ sc _)] _ _)) _=>sc
 | _=>nsc
abbrev cLgb:Scope:=qLgb ((zm sLg).getD 3 (.Pass ⟨0,0,0,0⟩))
theorem bsLgb:BScope (zd sLg) cLgb ["_law_sort"] ["_law_gives","_law_left"] []:={}
def spLg:Sp:=λvs H Q _=> ∃(p s:Addr) (r m:Nat) (tg:Rows) (st:List Int),vs=[.ref p,.ref s,.int (r:Int)]/\PotK H p m tg/\H s=some (.tup (st.map V.int))/\st.length=m/\r<tg.length/\(¬Can tg st r-> ∀H',Same H H'->Q .non H')/\(Can tg st r-> ∀q H',Same H H'->H' q=some (.tup ((goL st (rl tg r)).map V.int))->Q (.ref q) H')
theorem ok_Lg(B:Bl mg)(F:Fun K "_law_gone" "_law_gone" sLg f fd):FnOk P w K mg base CX0 1 f fd ["_law_pot_here","_law_stand","_law_rule_here"] spLg:=by
 refine F.ok scLg (λvs H Q E h=>?_) (λcdv A outer s H vs Q E hr h=>?_)
 ·obtain⟨p,s,r,m,tg,st,rfl,_⟩:=h;rfl
 obtain⟨p,sa,r,m,tg,st,rfl,hP,hs,hst,hrt,kn,ky⟩:=h;refine'⟨_,?hb,?rd⟩
 case' hb=>skip
 case' hb=>refine' ze ?g1 ?g2
 case' g2=>refine' ze ?g3 ?g4
 case' g4=>refine' ze ?g5 ?g6
 case' g6=>refine' zi ?g7
 case g1=>exact zX (ziq (ziq (pvd nmLg 0) zg) (pvd nmLg 2)) (xM rfl (zt (pgd nmLg 3) (zt (pgd nmLg 4) zS)))
 case' g3=>refine' zj nmLg 5 ?g8
 case' g8=>refine' zy (ix:=[1,3]) bsLga.toCScope rfl rfl ?g9 ?g10 ?g11 ?g12
 case g9=>exact yc B.range (pa_1 (zP zp B.len Ρ (pa_1 (pvd nmLg 1))))
 case g10=>exact λ_ _ _ _ _ _=>pgb bsLga 0
 case g11=>exact λ_ _ _ _ _ _=>zu
 case g12=>exact λ_ _ _ _ _ _=>zo yZ (ziq (pvb bsLga 1) (pvb bsLga 0)) (ziq (pvb bsLga 2) (pvb bsLga 0))
 case' g5=>refine' zZ ?g13 ?g14 zB
 case g13=>exact zv wD (zP (call_minL rfl) B.min PyProof.Rows.boot_min (pa_1 (pvd nmLg 5))) zg (zw _)
 case' g14=>refine' zi ?g16
 case g16=>exact zr vD
 case' g7=>refine' zr ?g17
 case' g17=>refine' zV zz B.tuple Η ?g18
 case' g18=>refine' pa_1 ?g19
 case' g19=>refine' zy (ix:=[4,5]) bsLgb.toCScope rfl rfl ?g20 ?g21 ?g22 ?g23
 case g20=>exact yc B.range (pa_1 (zP zp B.len Ρ (pa_1 (pvd nmLg 1))))
 case g21=>exact λ_ _ _ _ _ _=>pgb bsLgb 0
 case g22=>exact λ_ _ _ _ _ _=>zu
 case g23=>exact λ_ _ _ _ _ _=>zo zY (ziq (pvb bsLgb 2) (pvb bsLgb 0)) (ziq (pvb bsLgb 1) (pvb bsLgb 0))
 have m8:=hP.m8;have m0:=hP.m0;obtain⟨ps,pr,pin,pb,ans,rs,q,a,b,h1,h2,h3,h4,h5,h6,h7,h8,h9⟩:=hP.rule hrt;nofun;refine zJ h1 rfl ?_;nofun;refine zJ (v:= .ref q) h2 (zx (by rw[μ,h4]; rfl)) ?_;refine⟨q,_,rfl,SqT.of h5,rfl,?_⟩;refine⟨_,_,rfl,?_⟩;nofun;refine⟨_,_,rfl,?_⟩;nofun;refine⟨rfl,?_⟩;nofun;refine⟨sa,_,rfl,.inr (SqT.of hs),?_⟩;rw[ε];refine⟨_,rfl,by omega,by omega,λD hD=>?_⟩;rw[Θ];refine xO (λi=>V.int (st.getD i 0 - (rl tg r).1.getD i 0)) (by omega) hD (λi hi H' K' R kR=>?_) (λH1 K1 e1=>?_)
 ·nofun;refine ixT0 (K' _ _ hs) hi ?_;nofun;refine ixT0 (K' _ _ h6) (by omega) ?_;nofun;exact kR _ (Same.refl _)
 have e1:H1 D=some (.lst ((lfL st (rl tg r).1).map V.int)):=by rw[e1]; unfold lfL; rw[List.map_map]; rfl
 have hll:=lf_len (st:=st) (t:=(rl tg r).1);nofun;refine⟨D,_,rfl,e1,by omega,λM hM1 hM2=>?_⟩;nofun;refine iteD (λhM=>?_) (λhM=>?_)
 ·nofun;refine kn (λhc=>?_) _ K1;obtain⟨i,hi,rfl⟩:=Κ.mp hM1;have:=hc.2 i (Λ.mp hi);omega
 ·have hc:Can tg st r:=⟨hrt,λi hi=>by
   have:=hM2 _ (Κ.mpr ⟨i,Λ.mpr hi,rfl⟩);omega⟩
  nofun;refine⟨sa,_,rfl,.inr (SqT.of (K1 _ _ hs)),?_⟩;rw[ε];refine⟨_,rfl,by omega,by omega,λD2 hD2=>?_⟩;rw[Θ];refine xO (λi=>V.int ((lfL st (rl tg r).1).getD i 0+(rl tg r).2.getD i 0)) (by omega) hD2 (λi hi H' K' R kR=>?_) (λH2 K2 e2=>?_)
  ·nofun;refine ixL0 (K' _ _ e1) (by omega) ?_;nofun;refine ixT0 (K' _ _ (K1 _ _ h7)) (by omega) ?_;nofun;exact kR _ (Same.refl _)
  nofun;refine⟨D2,_,rfl,e2,λq H3 K3 e3=>ky hc q _ ((K1.trans K2).trans K3) ?_⟩;rw[e3];unfold goL;rw[List.map_map];congr 2;exact List.map_congr_left λi hi=>by rw[lf_at (Λ.mp hi)]; rfl
abbrev sTh:Stmt:=top 45
abbrev nTh:List Str:=["_law_pot_here","_law_stand"]
theorem nmTh:Nm nTh (zd sTh):=nmk (nofun)
theorem scTh:FnScope nTh ["_law_pot_here","_law_stand"] (zd sTh):=fsk (nofun)
def qTha (s:Stmt):Scope:=match s with
 | .Return (some (.ListComp _ _ sc _)) _=>sc
 | _=>nsc
abbrev cTha:Scope:=qTha ((zm sTh).getD 0 (.Pass ⟨0,0,0,0⟩))
theorem bsTha:BScope (zd sTh) cTha ["_law_rule_here"] ["_law_pot_here","_law_stand"] ["_law_gone"]:={}
def spTh:Sp:=λvs H Q _=> ∃(p s:Addr) (m:Nat) (tg:Rows) (st:List Int),vs=[.ref p,.ref s]/\PotK H p m tg/\H s=some (.tup (st.map V.int))/\st.length=m/\ ∀l rs H',Same H H'->H l=none->H' l=some (.lst (nV rs))->(∀r∈rs,Can tg st r)->rs.length<=8->Q (.ref l) H'
theorem ok_Th(B:Bl mg)(fG:Has P w K mg base 1 "_law_gone" ["_law_pot_here","_law_stand","_law_rule_here"] spLg)(F:Fun K "_law_there" "_law_there" sTh f fd):FnOk P w K mg base CX0 2 f fd ["_law_pot_here","_law_stand"] spTh:=by
 refine F.ok scTh (λvs H Q E h=>?_) (λcdv A outer s H vs Q E hr h=>?_)
 ·obtain⟨p,s,m,tg,st,rfl,_⟩:=h;rfl
 obtain⟨p,sa,m,tg,st,rfl,hP,hs,hst,k⟩:=h;refine'⟨_,?hb,?rd⟩
 case' hb=>skip
 case' hb=>refine' zi ?g1
 case' g1=>refine' zr ?g2
 case' g2=>refine' zy (ix:=[0,1]) bsTha.toCScope rfl rfl ?g3 ?g4 ?g5 ?g6
 case g3=>exact yc B.range (pa_1 (zP zp B.len Ρ (pa_1 (ziq (pvd nmTh 0) zg))))
 case g4=>exact λ_ _ _ _ _ _=>pgb bsTha 0
 case g5=>exact λ_ _ _ _ _ _=>xK (ZD (Xf (pe_f fG hr (by decide) (pa_c (pvb bsTha 1) (pa_2 (pvb bsTha 2) (pvb bsTha 0))) (bsTha.g 0))))
 case g6=>exact λ_ _ _ _ _ _=>pvb bsTha 0
 have n8:=hP.n8;obtain⟨ps,pr,pin,pb,ans,rs,us,h1,h2,h3,h4,hR⟩:=hP.ex;nofun;refine zJ h1 rfl ?_;nofun;refine⟨pr,_,rfl,.inr (SqT.of h4),?_⟩;rw[ε,hR.1];refine⟨_,rfl,by omega,by omega,λD hD=>?_⟩;rw[Θ];refine ZT (λi=>V.int (i:Int)) (λi=>decide (Can tg st i)) (by omega) hD (λi hi H' K' R kR=>?_) (λi hi hf H' K' R kR=>?_) (λH1 K1 e1=>?_)
 ·rw[Int.zero_add];nofun;refine XT ?_;nofun;refine⟨p,sa,i,m,tg,st,rfl,hP.same K',K' _ _ hs,hst,hi,λhc H2 K2=>?_,λhc q H2 K2 e2=>?_⟩
  ·nofun;have:=kR _ K2;rw[decide_eq_false hc] at this;exact this
  ·nofun;have:=kR _ K2;rw[decide_eq_true hc] at this;exact this
 ·rw[Int.zero_add];nofun;exact kR _ (Same.refl _)
 refine k D _ H1 K1 hD e1 (λr hr=>of_decide_eq_true (List.mem_filter.mp hr).2) ?_;have:=List.length_filter_le (λi=>decide (Can tg st i)) (List.range tg.length);rw[Ξ] at this;omega
theorem iteBo{b:Bool}{A B:Prop}(h1:b=true->A)(h2:b=false->B):if b=true then A else B:=by
 cases b
 ·exact h2 rfl
 ·exact h1 rfl
theorem ixLn(h:H a=some (.lst (nV o)))(r0:0<=r)(r1:r<o.length)(q: ∀n∈o,Q (.int (n:Int)) H):rIxd (.ref a) (.int r) H Q:=by
 obtain⟨v,hv,e⟩:=Wx (vs:=nV o) r0 (by simpa using r1);obtain⟨n,hn,rfl⟩:=Κ.mp hv;exact zC h e (q n hn)
abbrev sOr:Stmt:=top 46
abbrev nOr:List Str:=["_law_feed_here","_law_pot_here","_law_stand","_law_order_here","_law_k","_law_there_here"]
theorem nmOr:Nm nOr (zd sOr):=nmk (nofun)
theorem scOr:FnScope nOr ["_law_feed_here","_law_pot_here","_law_stand"] (zd sOr):=fsk (nofun)
def spOr:Sp:=λvs H Q _=> ∃(p l s:Addr) (m:Nat) (tg:Rows) (st:List Int),vs=[.ref p,.ref l,.ref s]/\FeedAt H p/\PotK H l m tg/\H s=some (.tup (st.map V.int))/\st.length=m/\ ∀ol o H',SB p H H'->FeedAt H' p->H' ol=some (.lst (nV o))->OkO tg st o->o.length<=60->Q (.ref ol) H'
theorem ok_Or{f:Addr}{fd:FuncData}(B:Bl mg)(fD:Has P w K mg base 1 "_law_draw" ["_law_feed_here","_law_many"] yE)(fT:Has P w K mg base 2 "_law_there" ["_law_pot_here","_law_stand"] spTh)(fG:Has P w K mg base 1 "_law_gone" ["_law_pot_here","_law_stand","_law_rule_here"] spLg)(F:Fun K "_law_order" "_law_order" sOr f fd):FnOk P w K mg base CX0 3 f fd ["_law_feed_here","_law_pot_here","_law_stand"] spOr:=by
 refine F.ok scOr (λvs H Q E h=>?_) (λcdv A outer s H vs Q E hr h=>?_)
 ·obtain⟨p,l,s,m,tg,st,rfl,_⟩:=h;rfl
 obtain⟨p,l,sa,m,tg,st,rfl,F0,hP,hs,hst,k⟩:=h;refine'⟨_,?hb,?rd⟩
 case' hb=>skip
 case' hb=>refine' ze ?g1 ?g2
 case' g2=>refine' ze ?g3 ?g4
 case' g4=>refine' zi ?g5
 case g1=>exact zj nmOr 3 (zR yH)
 case' g3=>refine' ye Ψ rfl ?g6 (pgd nmOr 4) ?g7
 case g6=>exact yc B.range (pa_1 (pe_f fD hr (by decide) (pa_2 (pvd nmOr 0) zg)))
 case' g7=>refine' ze ?g8 ?g9
 case' g9=>refine' ze ?g10 ?g11
 case' g11=>refine' ze ?g12 ?g13
 case' g13=>refine' zi ?g14
 case g8=>exact zj nmOr 5 (pe_f fT hr (by decide) (pa_2 (pvd nmOr 1) (pvd nmOr 2)))
 case' g10=>refine' zZ ?g15 ?g16 zB
 case g15=>exact zv (Wa hr) (pvd nmOr 5) (zR yH) (zw _)
 case' g16=>refine' zi ?g18
 case g18=>exact zr (pvd nmOr 3)
 case g12=>exact xq (wA PySem.F.plainAttrs_list PySem.F.slot_list_append PySem.F.type_list_append xb (pvd nmOr 3) (pa_1 (ziq (pvd nmOr 5) (pe_f fD hr (by decide) (pa_2 (pvd nmOr 0) (zP zp B.len Ρ (pa_1 (pvd nmOr 5))))))))
 case g14=>exact zj nmOr 2 (pe_f fG hr (by decide) (pa_c (pvd nmOr 1) (pa_2 (pvd nmOr 2) (ziq (pvd nmOr 3) (xQ yX zg)))))
 case g5=>exact zr (pvd nmOr 3)
 nofun;refine⟨Ι _,λol ho=>?_⟩;have K1:Same H (upd H ol (.lst [])):=Same.new (Same.refl _) ho;have e1:upd H ol (.lst []) ol=some (.lst []):=zf;have np:=F0.np ho;generalize upd H ol (.lst [])=H1 at K1 e1 ⊢;nofun;refine y4 (F0.same K1) (by decide) (by decide) λr H2 r0 r1 F2 b2=>?_;have t2:=zQ F0 ((SB.same K1).trans b2);nofun;refine⟨_,rfl,by omega,by omega,?_⟩;obtain⟨n,hn,n3⟩: ∃n:Nat,r.toNat=n/\n<=60:=⟨_,rfl,by omega⟩;rw[hn];refine yw (λi σ H'=> ∃(o:List Nat) (s':Addr) (u4 u5:Option V),σ=[some (.ref p),some (.ref l),some (.ref s'),some (.ref ol),u4,u5]/\SB p H H'/\H' ol=some (.lst (nV o))/\o.length=i/\OkO tg st o/\H' s'=some (.tup ((wk tg st o).map V.int))) ?_ ?_ ?_
 ·exact⟨[],sa,none,none,rfl,(SB.same K1).trans b2,b2.1 _ _ np e1,rfl,λi hi=>absurd hi (Nat.not_lt_zero _),t2.t _ _ hs⟩
 ·rintro i σ H3 hi ⟨o,s',u4,u5,rfl,b3,e3,ol3,ok3,es3⟩;have F3:=b3.2 F0;have hwl:(wk tg st o).length=m:=by rw[xt]; exact hst
  nofun;refine⟨l,s',m,tg,_,rfl,hP.tk (zQ F0 b3),es3,hwl,λtl rs H4 K4 f4 e4 hc4 l4=>?_⟩;have b4:=b3.trans (SB.same K4);nofun;refine⟨Ι _,λz hz=>?_⟩;obtain⟨H5,q,K5,e5⟩:=nob (.lst []) hz; rw[q]; clear q;have b5:=b4.trans (SB.same K5);have F5:=b5.2 F0;have eo5:=K5 _ _ (K4 _ _ e3);refine⟨tl,z,_,rfl,rfl,K5 _ _ e4,e5,?_⟩;nofun;refine iteBo (λhE=>?_) (λhE=>?_)
  ·nofun;exact k ol o H5 b5 F5 eo5 ok3 (by omega)
  ·have hne:0<rs.length:=by
    cases rs with
    | nil=>cases hE
    | cons x xs=>exact Nat.succ_pos _
   nofun;refine⟨.inl ⟨rfl,_,SqL.of eo5⟩,?_⟩;nofun;refine⟨tl,_,rfl,.inl (SqL.of (K5 _ _ e4)),?_⟩;rw[ε];nofun;refine y4 F5 (by omega) (by omega) λq H6 q0 q1 F6 b6=>?_;refine ixLn (b6.1 _ _ (F3.np f4) (K5 _ _ e4)) q0 q1 λc hc=>?_;have eo6:=b6.1 _ _ np eo5;nofun;refine⟨ol,_,_,rfl,rfl,eo6,zq (by simp; omega),?_⟩;have b7:=(b5.trans b6).put (o:= .lst (nV o++[.int (c:Int)])) ho;have e7:upd H6 ol (.lst (nV o++[.int (c:Int)])) ol=some (.lst (nV (o++[c]))):=by rw[zf]; simp[nV]
   have T7:G2.TK H3 (upd H6 ol (.lst (nV o++[.int (c:Int)]))):=((G2.TK.same (K4.trans K5)).trans (zQ F5 b6)).trans (G2.TK.lst eo6);generalize upd H6 ol (.lst (nV o++[.int (c:Int)]))=H7 at b7 e7 T7 ⊢;have e7':H7 ol=some (.lst (nV o++[.int (c:Int)])):=by rw[e7]; simp[nV]
   nofun;refine⟨_,rfl,?_⟩;refine zC e7' (wN _ _) ?_;nofun;have hcc:=hc4 c hc;have es7:=T7.t _ _ es3;refine⟨l,s',c,m,tg,_,rfl,hP.tk (zQ F0 b7),es7,hwl,hcc.1,λh=>absurd hcc h,λ_ q H8 K8 e8=>?_⟩;refine⟨o++[c],q,_,_,rfl,b7.trans (SB.same K8),K8 _ _ e7,by simp[ol3],ok3.add hcc,by rw[e8,XR]⟩
 ·rintro σ H3 ⟨o,s',u4,u5,rfl,b3,e3,ol3,ok3,es3⟩;nofun;exact k ol o H3 b3 (b3.2 F0) e3 ok3 (by omega)
def Cv (m:Nat) (tg:Rows) (v:List Int):Prop:=v.length=m/\ ∀r,r<tg.length->(sm m λj=>v.getD j 0*cg tg r j)=0
theorem Cv.zero:Cv m tg (List.replicate m 0):=⟨Χ,λr _=>x4 λj hj=>by simp[List.getD_eq_getElem?_getD,hj]⟩
def lin (m:Nat) (t:Int) (x v:List Int):List Int:=(List.range m).map λi=>x.getD i 0+t*v.getD i 0
theorem Cv.lin(a:Cv m tg x)(b:Cv m tg v):Cv m tg (lin m t x v):=by
 refine⟨by simp[K17.lin],λr hr=>?_⟩;rw[zD (g:=λj=>1*(x.getD j 0*cg tg r j)+t*(v.getD j 0*cg tg r j)) λj hj=>?_,xw,a.2 r hr,b.2 r hr]
 ·simp
 ·simp[K17.lin,List.getD_eq_getElem?_getD,hj,Int.add_mul,Int.mul_assoc]
abbrev sMd:Stmt:=top 47
abbrev nMd:List Str:=["_law_feed_here","_law_kepts","_law_many","_law_found","_law_one","_law_times"]
theorem nmMd:Nm nMd (zd sMd):=nmk (nofun)
theorem scMd:FnScope nMd ["_law_feed_here","_law_kepts","_law_many"] (zd sMd):=fsk (nofun)
def qMda (s:Stmt):Scope:=match s with
 | .For _ _ [_,(.Assign _ (.ListComp _ _ sc _) _)] _ _=>sc
 | _=>nsc
abbrev cMda:Scope:=qMda ((zm sMd).getD 1 (.Pass ⟨0,0,0,0⟩))
theorem bsMda:BScope (zd sMd) cMda ["_law_sort"] ["_law_found","_law_one","_law_times"] []:={}
def spMd:Sp:=λvs H Q _=> ∃(p l:Addr) (m:Nat) (tg:Rows) (bs:List Addr) (ks:List (List Int)),vs=[.ref p,.ref l,.int (m:Int)]/\FeedAt H p/\H l=some (.lst (bs.map V.ref))/\l≠p/\TL H bs ks/\(∀v∈ks,Cv m tg v)/\m<=8/\ ∀q x H',SB p H H'->FeedAt H' p->H' q=some (.tup (x.map V.int))->Cv m tg x->Q (.ref q) H'
theorem ok_Md(B:Bl mg)(fD:Has P w K mg base 1 "_law_draw" ["_law_feed_here","_law_many"] yE)(F:Fun K "_law_made" "_law_made" sMd f fd):FnOk P w K mg base CX0 2 f fd ["_law_feed_here","_law_kepts","_law_many"] spMd:=by
 refine F.ok scMd (λvs H Q E h=>?_) (λcdv A outer s H vs Q E hr h=>?_)
 ·obtain⟨p,l,m,tg,bs,ks,rfl,_⟩:=h;rfl
 obtain⟨p,l,m,tg,bs,ks,rfl,F0,hl,nl,hT,hC,m8,k⟩:=h;refine'⟨_,?hb,?rd⟩
 case' hb=>skip
 case' hb=>refine' ze ?g1 ?g2
 case' g2=>refine' ze ?g3 ?g4
 case' g4=>refine' zi ?g5
 case g1=>exact zj nmMd 3 (zo ZH (zR (pa_1 zg)) (pvd nmMd 2))
 case' g3=>refine' ye Ψ rfl ?g6 (pgd nmMd 4) ?g7
 case g6=>exact yf (pvd nmMd 1)
 case' g7=>refine' ze ?g8 ?g9
 case' g9=>refine' zi ?g10
 case g8=>exact zj nmMd 5 (zo yZ (pe_f fD hr (by decide) (pa_2 (pvd nmMd 0) zg)) zg)
 case' g10=>refine' zj nmMd 3 ?g11
 case' g11=>refine' zy (ix:=[3,4,5]) bsMda.toCScope rfl rfl ?g12 ?g13 ?g14 ?g15
 case g12=>exact yc B.range (pa_1 (pvd nmMd 2))
 case g13=>exact λ_ _ _ _ _ _=>pgb bsMda 0
 case g14=>exact λ_ _ _ _ _ _=>zu
 case g15=>exact λ_ _ _ _ _ _=>zo zY (ziq (pvb bsMda 1) (pvb bsMda 0)) (zo y3 (pvb bsMda 3) (ziq (pvb bsMda 2) (pvb bsMda 0)))
 case g5=>exact zr (zV zz B.tuple Η (pa_1 (pvd nmMd 3)))
 with_reducible refine yy ?_
 with_reducible refine yK ?_
 refine YG (by rfl) m8 λa H1 K1 fa C1=>?_;nofun;refine⟨l,rfl,⟨_,SqL.of (K1 _ _ hl)⟩,?_⟩;refine wF (xs:=bs.map V.ref) (λi σ H'=> ∃(x:List Int) (a:Addr) (u4 u5:Option V),σ=[some (.ref p),some (.ref l),some (.int (m:Int)),some (.ref a),u4,u5]/\SB p H H'/\H' a=some (.lst (x.map V.int))/\a≠p/\Cv m tg x) ⟨_,a,none,none,rfl,SB.same K1,C1.1,F0.np fa,Cv.zero⟩ (λi σ H' _ ⟨_,_,_,_,_,b,_⟩=>SqL.of (b.1 _ _ nl hl)) ?_ ?_
 ·rintro i y σ H2 hy ⟨x,a,u4,u5,rfl,b2,e2,n2,C2⟩;have hi:i<bs.length:=by simpa using (ξ.mp hy).1
  have hy':V.ref bs[i]=y:=by simpa[hi] using hy
  subst hy';have hik:i<ks.length:=by rw[<-hT.1]; exact hi
  have hv:=hT.2 i bs[i] ks[i] (by simp[hi]) (by simp[hik]);have Cw:=hC ks[i] (Ο hik);have F2:=b2.2 F0;nofun;refine y4 F2 (by decide) (by decide) λt H3 t0 t1 F3 b3=>?_;have hv3:=(zQ F0 (b2.trans b3)).t _ _ hv;have e3:=b3.1 _ _ n2 e2;nofun;refine⟨_,rfl,by omega,by omega,λD hD=>?_⟩;rw[Θ];refine xO (λj=>V.int (x.getD j 0+(t - 4)*ks[i].getD j 0)) (by omega) hD (λj hj H' K' R kR=>?_) (λH4 K4 e4=>?_)
  ·nofun;refine ixL0 (K' _ _ e3) (by rw[C2.1]; exact hj) ?_;nofun;refine ixT0 (K' _ _ hv3) (by rw[Cw.1]; exact hj) ?_;nofun;exact w_rI (.inl ⟨by omega,by omega⟩) (xo (kR _ (Same.refl _)))
  exact⟨lin m (t-4) x ks[i],D,_,_,rfl,(b2.trans b3).trans (SB.same K4),by rw[e4]; unfold lin; rw[List.map_map]; rfl,F3.np hD,C2.lin Cw⟩
 ·rintro σ H2 ⟨x,a,u4,u5,rfl,b2,e2,n2,C2⟩;nofun;exact⟨a,_,rfl,e2,λq H3 K3 e3=>k q x H3 (b2.trans (SB.same K3)) ((b2.2 F0).same K3) e3 C2⟩
end
end K17
namespace L2
open PySem PySem.Spec PyProof.Rows
def rMaxT:List V->Hp->VK->Prop:=λxs H Q=> ∃(p:Addr) (ns:List Int),xs=[.ref p]/\H p=some (.tup (ns.map V.int))/\0<ns.length/\ ∀M,M∈ns->(∀a∈ns,a<=M)->Q (.int M) H
theorem call_maxT{X:Cx}(hr:Room k X.A):yk X (.builtin "max") rMaxT:=by
 intro pins s σ H xs us Q I r h;obtain⟨p,ns,rfl,hp,h0,q⟩:=h;obtain⟨u,rfl,ru⟩:=r.one;cases ru
 obtain⟨its,rv,pl,hz⟩:=I.tuple (SqT.of hp);obtain⟨ys,rfl,hy⟩:=vo rv;have ht:s.heap.IsTuple p (intItems ys.toArray):=by
  obtain⟨o,e,c,n,d⟩:=pl;exact⟨o,e,c,n,by rw[d]; simp[intItems]⟩
 have hlt:p<s.heap.objs.size:=by obtain⟨_,e,_⟩:=ht; exact ν e
 have hlen:ys.length=ns.length:=by rw[<-hy,ε]
 refine call_max_walk (wpAny_pyIter_tuple ht ?_);refine⟨_,_,_,_,_,_,_,rfl,Walks.tuple (A:=X.A.in1) hr.hd s.heap.objs.size p (Ν hlt) (intItems ys.toArray),?_,?_,by simp[intItems]; omega,CmpOf.ints_gt (numAt ys.toArray) (λ_ _=>intItems_at),λv h' tk hv hk=>?_⟩
 ·exact⟨⟨_,π _ rfl,rfl,rfl⟩,ht.at λo e=>η _ e⟩
 ·intro b hb;show b<(s.heap.push _).objs.size;rw[Heap.size_push];rcases Φ.mp hb with rfl | hb
  ·exact Nat.lt_succ_self _
  ·rw[Υ.mp hb];exact Nat.lt_succ_of_lt hlt
 ·have kp: ∀b o,s.heap.get? b=some o->h'.get? b=some o:=λb o e=>hk b o (by
   intro hm;have:=ν e;rw[Υ.mp hm] at this;exact absurd this (Nat.lt_irrefl _)) (η _ e)
  obtain⟨t,rfl⟩:=intItems_at hv;obtain⟨h1,h2⟩:=argBest_gt (numAt ys.toArray) (ys.toArray.size-1);have hy':(ys.toArray.toList.map (·.1))=ns:=by simpa using hy
  have esz:(intItems ys.toArray).size=ys.toArray.size:=by simp[intItems]
  refine⟨.int _,H,I.kept kp,⟨t,rfl⟩,q _ ?_ λa ha=>?_⟩
  ·rw[esz,numAt_eq,hy'];exact PySem.getD_mem (by simp at h1 ⊢; omega)
  ·obtain⟨j,hj,rfl⟩:=PySem.mem_getD ha;have e2:=h2 j (by simp; omega);rw[numAt_eq,numAt_eq,hy'] at e2;rw[esz,numAt_eq,hy'];exact e2
section
variable {D:Addr} {te:TE} {tc:TT} {Q:VK} {ρ:St} {H:Hp}
theorem cgo_enu{K:W.Frag}{a:Addr}{xs:List V}(Pv:Nat->List V->Hp->Prop)(h0:Pv 0 [] (upd H D (.lst [])))(hl: ∀i ys H',i<=xs.length->Pv i ys H'->SqT K H' a xs)
  (hs: ∀(i:Nat) x ys H' p,xs[i]? =some x->Pv i ys H'->H' D=some (.lst ys)->H' p=none-> ∀(R:V->Hp->Prop) (S:Hp->Prop),(∀y H4,H4 D=some (.lst ys)->ys.length<sizeLine->Pv (i+1) (ys++[y]) (upd H4 D (.lst (ys++[y])))->R y H4)->(∀H3,H3 D=some (.lst ys)->Pv (i+1) ys H3->S H3)->
   tc (some (.int (i:Int))::some x::ρ) (upd H' p (.tup [.int (i:Int),x])) λb H3=>if b=true then te (some (.int (i:Int))::some x::ρ) H3 R else S H3)
  (hd: ∀ys H',Pv xs.length ys H'->H' D=some (.lst ys)->Q (.ref D) H'):CGo (Ite K a) D (gTup K 2 (yj (zF 0) (yj (zF 1) gNil))) tc te Q (none::none::ρ) H:=by
 refine⟨λi m τ ys H'=>m=xs.length-i/\i<=xs.length/\(∃tv tw,τ=tv::tw::ρ)/\Pv i ys H'/\H' D=some (.lst ys),⟨xs.length,by omega,Ι _,⟨_,_,rfl⟩,h0,zf⟩,?_⟩;rintro i m τ ys H' ⟨rfl,hi,⟨tv,tw,rfl⟩,hp,hD⟩;refine⟨hD,?_⟩;have sq:=hl i ys H' hi hp;by_cases hlt:i<xs.length
 ·refine .inr ⟨⟨xs,xs[i],sq,by simp[hlt]⟩,?_⟩;rintro v H'' ⟨p,x,rfl,hpn,rfl,hx⟩;have hx':=hx xs sq;refine⟨p,[.int (i:Int),x],rfl,SqT.of zf,rfl,.int (i:Int),[x],rfl,x,[],rfl,rfl,?_⟩;exact hs i x ys _ p hx' hp hD hpn _ _ (λy H4 a b c=>⟨a,b,xs.length-(i+1),by omega,rfl,hlt,⟨_,_,rfl⟩,c,zf⟩) λH3 a c=>⟨xs.length-(i+1),by omega,rfl,hlt,⟨_,_,rfl⟩,c,a⟩
 ·have e:i=xs.length:=by omega
  subst e;exact .inl ⟨⟨xs,sq,rfl⟩,hd ys _ hp hD⟩
end
theorem w_compE{K:W.Frag}{ta:TA}{n:Nat}{ix:List Nat}{g:TG}{tc:TT}{te:TE}{σ:St}{H:Hp}{Q:VK}(h:ta σ H λvs H1=> ∃a,vs=[.ref a]/\(∃xs,SqT K H1 a xs)/\ ∀D,H1 D=none->CGo (Ite K a) D g tc te Q (List.replicate n none++sub ix σ) H1):xU (iEnu K ta) n ix g tc te σ H Q:=h
end L2
set_option maxHeartbeats 4000000
namespace SB
open PySem PySem.SetTable PyProof.Rows
theorem YW{xs:Array Nat}: ∀(f lo hi:Nat),lo<=hi->hi<=xs.size->hi-lo<=f->xs.toList.Pairwise (· < ·)->(∀i,i<lo->xs.getD i j<j)->(∀i,hi<=i->i<xs.size-> ¬xs.getD i j<j)->
  below.go xs j f lo hi<=xs.size/\(∀i,i<below.go xs j f lo hi->xs.getD i j<j)/\ ∀i,below.go xs j f lo hi<=i->i<xs.size-> ¬xs.getD i j<j
 | 0,lo,hi,h1,h2,h3,_,a,b=>by
  have e:lo=hi:=by omega
  subst e;exact⟨h2,a,b⟩
 | f+1,lo,hi,h1,h2,h3,r,a,b=>by
  unfold below.go;by_cases hl:lo<hi
  ·rw[if_pos hl];have mono: ∀i k,i<k->k<xs.size->xs.getD i j<xs.getD k j:=λi k hik hk=>by
    have hi':i<xs.size:=by omega
    have:=(List.pairwise_iff_getElem.mp r) i k (by simpa using hi') (by simpa using hk) hik;simpa[Array.getD_eq_getD_getElem?,hi',hk] using this
   dsimp only;by_cases hm:xs.getD ((lo+hi) / 2) j<j
   ·rw[if_pos hm];refine YW f _ _ (by omega) h2 (by omega) r (λi hi'=>?_) b;rcases Nat.lt_or_ge i ((lo+hi) / 2) with z | z
    ·exact Nat.lt_trans (mono i _ z (by omega)) hm
    ·have e:i=(lo+hi) / 2:=by omega
     rw[e]; exact hm
   ·rw[if_neg hm];refine YW f _ _ (by omega) (by omega) (by omega) r a λi hi' hs=>?_;rcases Nat.lt_or_ge ((lo+hi) / 2) i with z | z
    ·have:=mono _ i z hs;omega
    ·have e:i=(lo+hi) / 2:=by omega
     rw[e]; exact hm
  ·rw[if_neg hl];have e:lo=hi:=by omega
   subst e;exact⟨h2,a,b⟩
theorem bel{xs:Array Nat}(r:xs.toList.Pairwise (· < ·)):below xs j<=xs.size/\(∀i,i<below xs j->xs.getD i j<j)/\ ∀i,below xs j<=i->i<xs.size-> ¬xs.getD i j<j:=
 YW xs.size 0 xs.size (Ι _) (θ _) (θ _) r (λi h=>absurd h (Nat.not_lt_zero _)) λi h1 h2=>by omega
theorem ins_rise{xs:Array Nat}(r:xs.toList.Pairwise (· < ·))(hn: ¬(xs[below xs j]? ==some j)=true):(insertAt xs (below xs j) j).toList.Pairwise (· < ·):=by
 rw[toList_insertAt];obtain⟨b1,b2,b3⟩:=bel (j:=j) r;generalize below xs j=p at b1 b2 b3 hn;have hlo: ∀x∈xs.toList.take p,x<j:=λx hx=>by
  obtain⟨i,hi,rfl⟩:=List.getElem_of_mem hx;have hip:i<p:=by rw[List.length_take] at hi; omega
  have his:i<xs.size:=by omega
  have:=b2 i hip;simpa[Array.getD_eq_getD_getElem?,his] using this
 have hhi: ∀x∈xs.toList.drop p,j<x:=λx hx=>by
  obtain⟨i,hi,rfl⟩:=List.getElem_of_mem hx;rw[List.length_drop,Array.length_toList] at hi;have h0:p<xs.size:=by omega
  have c0:j<=xs[p]:=by
   have:=b3 p (θ _) h0;simp[Array.getD_eq_getD_getElem?,h0] at this;exact this
  have c1:xs[p]≠j:=λe=>hn (by simp[h0,e]);rw[List.getElem_drop];rcases Nat.eq_zero_or_pos i with rfl | hp
  ·simp only[Nat.add_zero,Array.getElem_toList]; omega
  ·have:=(List.pairwise_iff_getElem.mp r) p (p+i) (by simpa using h0) (by simp; omega) (by omega);simp only[Array.getElem_toList] at this ⊢;omega
 refine List.pairwise_append.mpr ⟨r.sublist (List.take_sublist _ _),List.pairwise_cons.mpr ⟨hhi,r.sublist (List.drop_sublist _ _)⟩,λa ha b hb=>?_⟩;rcases Φ.mp hb with rfl | hb
 ·exact hlo a ha
 ·exact Nat.lt_trans (hlo a ha) (hhi b hb)
structure Tb (L:Bool) (t:SetTable):Prop where
 du:t.dummies=#[]
 led:t.led=L
 rise:t.plain=true->t.place.toList.Pairwise (· < ·)
theorem Wb(j:Nat):has #[] j=false:=by
 unfold SetTable.has;simp
theorem Tb.empty(b:Tb L t): ∀(f:Nat) (p:Probe) {j:Nat} {d:Option Nat},probe.go t (λ_=>h+1) h f p=some (.empty j d)->t.slot j= .empty/\d=p.dummy
 | 0,p,j,d,e=>by simp[probe.go] at e
 | f+1,p,j,d,e=>by
  unfold probe.go at e;cases hs:t.slot p.j with
  | empty=>rw[hs] at e; simp only[Option.some.injEq,Met.empty.injEq] at e; rw[<-e.1,<-e.2]; exact⟨hs,rfl⟩
  | dummy=>
   exfalso;unfold SetTable.slot at hs;rw[b.du,Wb] at hs;dsimp only at hs;split at hs
   ·cases hs
   ·simp at hs
  | live i=>
   rw[hs] at e;have hne:((h+1==h))=false:=by simp; omega
   simp only[hne,Bool.false_eq_true,if_false] at e;have:=b.empty f _ e;refine⟨this.1,this.2.trans ?_⟩;unfold SetTable.advance;split
   ·rfl
   ·rfl
theorem Tb.stand(b:Tb L t)(n:Nat):Tb L (t.standIn n):=⟨rfl,b.led,λh=>by cases h⟩
theorem Tb.lay(b:Tb L t)(es:Array (Int×Value))(h:Int)(x:Value):Tb L (layNew t es h x).2.1:=by
 unfold layNew;cases hf:t.freeSlot h with
 | none=>exact b.stand _
 | some q=>
  obtain⟨j,wd⟩:=q;have hsl:t.slot j= .empty:=by
   unfold freeSlot at hf;unfold probe at hf;split at hf
   ·rename_i j' d e
    obtain⟨c1,c2⟩:=b.empty _ _ e;have c3:d=none:=c2;subst c3;simp at hf;rw[<-hf.1]; exact c1
   ·cases hf
  dsimp only;have hput:Tb L (t.put j).1:=by
   unfold SetTable.put;refine⟨?_,b.led,λhp=>?_⟩
   ·rw[b.du,Wb]; rfl
   ·refine ins_rise (b.rise hp) λe=>?_;unfold SetTable.slot at hsl;dsimp only at hsl;rw[if_pos e] at hsl;cases hsl
  unfold orStandIn;split
  ·exact hput
  ·exact hput.stand _
theorem Tb.plainOff(b:Tb L t):Tb L {t with plain:=false}:=⟨b.du,b.led,λh=>by cases h⟩
theorem Zg(f:Nat->Option Nat): ∀(n k:Nat),(((List.range' k n).filterMap λj=>(f j).map (j,·)).map (·.1)).Pairwise (· < ·)/\ ∀x∈((List.range' k n).filterMap λj=>(f j).map (j,·)).map (·.1),k<=x
 | 0,k=>by simp
 | n+1,k=>by
  obtain⟨a,b⟩:=Zg f n (k+1);rw[List.range'_succ,List.filterMap_cons];cases f k with
  | none=>
   simp only[Option.map_none];exact⟨a,λx hx=>by have:=b x hx; omega⟩
  | some v=>
   simp only[Option.map_some,List.map_cons];refine⟨List.pairwise_cons.mpr ⟨λx hx=>by have:=b x hx; omega,a⟩,λx hx=>?_⟩;rcases Φ.mp hx with rfl | hx
   ·exact θ _
   ·have:=b x hx; omega
theorem Tb.relay(b:Tb L t)(es:Array (Int×Value))(n:Nat):Tb L (relayAll t es n).2.1:=by
 unfold relayAll;cases hr:t.relaid (es.map (·.1)) n with
 | none=>exact b.stand _
 | some q=>
  obtain⟨t',o⟩:=q;have ht:Tb L t':=by
   unfold relaid laid at hr;cases hc:layClean (sizeAbove n-1) (es.map (·.1)) with
   | none=>rw[hc] at hr; cases hr
   | some ow=>
    rw[hc] at hr;simp only[Option.bind_eq_bind,Option.bind_some,Option.pure_def,Option.some.injEq,Prod.mk.injEq] at hr;rw[<-hr.1];refine⟨rfl,b.led,λ_=>?_⟩;have:=(Zg (λj=>ow.getD j none) (sizeAbove n-1+1) 0).1;rw[<-List.range_eq_range'] at this;simpa using this
  dsimp only;split
  ·exact ht
  ·exact b.stand _
end SB
set_option maxHeartbeats 4000000
namespace SB
open PySem PySem.SetTable PyProof.Rows
section
variable {prog:Program} {w:World} {A:Around} {E:Value->Shared->Prop} {s:Shared} {L:Bool} {a:Addr} {ks:List Int}
def ivE (e:Int×Value):Int:=match e.2 with | .int k _=>k | _=>0
theorem Wm(h:(intKind prog w).is k v=true): ∃t,v= .int k t:=by
 cases v<;>simp_all [intKind,Value.isInt]
structure StO (prog:Program) (w:World) (L:Bool) (o:Obj) (es:Array (Int×Value)) (ep:Nat) (t:SetTable) (ks:List Int):Prop where
 ex:o.ExactSet
 da:o.data= .set es ep t
 el:ElemsOf (intKind prog w) es.toList
 pm:(es.toList.map ivE).Perm ks
 lt:es.size<scanBound
 fit:t.fits es.size=true
 tb:Tb L t
def SetL (prog:Program) (w:World) (L:Bool) (a:Addr) (ks:List Int) (h:Heap):Prop:= ∃o es ep t,h.get? a=some o/\StO prog w L o es ep t ks
theorem StO.sz(S:StO prog w L o es ep t ks):es.size=ks.length:=by
 have:=S.pm.length_eq;simpa using this
theorem el_at(el:ElemsOf (intKind prog w) es)(he:e∈es): ∃t,e=((intKind prog w).hash (ivE e),.int (ivE e) t):=by
 obtain⟨⟨k,h1,h2⟩,_⟩:=el e he;obtain⟨x,v⟩:=e;obtain⟨t,rfl⟩:=Wm h1;exact⟨t,by simpa[ivE] using h2⟩
theorem StO.has(S:StO prog w L o es ep t ks)(k:Int):(∃e∈es.toList,(intKind prog w).is k e.2=true)↔k∈ks:=by
 rw[<-S.pm.mem_iff,Κ];constructor
 ·rintro⟨e,he,hk⟩;obtain⟨t,ht⟩:=Wm hk;exact⟨e,he,by unfold ivE; rw[ht]⟩
 ·rintro⟨e,he,rfl⟩;obtain⟨t,ht⟩:=el_at S.el he;exact⟨e,he,by rw[ht]; exact intKind_is _ _ _ _⟩
theorem XY{h:Heap}(ho:h.get? a=some o)(S:StO prog w L o es ep t ks){es':Array (Int×Value)}{t':SetTable}
  (el:ElemsOf (intKind prog w) es'.toList) (pm:(es'.toList.map ivE).Perm ks') (lt:es'.size<scanBound) (fit:t'.fits es'.size=true) (tb:Tb L t'):
  (h.update a (Obj.putSet es' t')).get? a=some {o with data:= .set es' (ep+1) t'}/\StO prog w L {o with data:= .set es' (ep+1) t'} es' (ep+1) t' ks':=by
 have g:=Heap.get?_update_self (Obj.putSet es' t') ho (by rw[putSet_of es' t' S.da]; rfl);rw[putSet_of es' t' S.da] at g;exact⟨g,S.ex,rfl,el,pm,lt,fit,tb⟩
def addK (ks:List Int) (k:Int):List Int:=if k∈ks then ks else ks++[k]
theorem YE{g:Bool->Sem Unit}(hg: ∀(b:Bool) (s1:Shared) (Q':Unit->Shared->Prop),Q' () s1->wpAny (model prog w) A (g b) Q' E s1)
  (ho:s.heap.get? a=some o) (S:StO prog w L o es ep t ks) {e1:Array (Int×Value)} {t2:SetTable}
  (el:ElemsOf (intKind prog w) e1.toList) (pm:(e1.toList.map ivE).Perm ks') (lt:e1.size<scanBound) (fit:t2.fits e1.size=true) (tb:Tb L t2) {R:Option Bool->Shared->Prop}
  (h: ∀h',Heap.SameBut a s.heap h'->SetL prog w L a ks' h'->R (some true) {s with heap:=h'}):
  wpAny (model prog w) A (do
    storeSet a e1 t2
    if (!wd&&t2.tooFull)=true then do
      g (relayAll t2 e1 (SetTable.grown e1.size)).2.2
      storeSet a (relayAll t2 e1 (SetTable.grown e1.size)).1 (relayAll t2 e1 (SetTable.grown e1.size)).2.1
      pure (some true)
     else pure (some true)) R E s:=by
 refine γ (wpAny_storeSet_of ho S.da ?_ (fits_of_scanBound lt));obtain⟨o1,S1⟩:=XY ho S el pm lt fit tb;have b1:=Heap.SameBut.update s.heap a (Obj.putSet e1 t2);split
 ·have hp:=relayAll_perm t2 e1 (SetTable.grown e1.size);have hf:=relayAll_fits t2 e1 (SetTable.grown e1.size);have ht:=tb.relay e1 (SetTable.grown e1.size);generalize relayAll t2 e1 (SetTable.grown e1.size)=Z at hp hf ht ⊢;obtain⟨e2,t3,g3⟩:=Z;dsimp only at hp hf ht ⊢;have z:e2.size=e1.size:=by rw[<-Array.length_toList,hp.length_eq,Array.length_toList]
  have lt2:e2.size<scanBound:=by rw[z]; exact lt
  refine γ (hg _ _ _ ?_);refine γ (wpAny_storeSet_of o1 rfl ?_ (fits_of_scanBound lt2));obtain⟨o2,S2⟩:=XY o1 S1 (el.perm hp) ((hp.map ivE).trans pm) lt2 hf ht;exact ι (h _ (b1.trans (Heap.SameBut.update _ a _)) ⟨_,_,_,_,o2,S2⟩)
 ·exact ι (h _ b1 ⟨_,_,_,_,o1,S1⟩)
theorem add_T{Q:Bool->Shared->Prop}(hS:SetL prog w L a ks s.heap)(hroom:ks.length+1<scanBound)
  (h: ∀(b:Bool) h',Heap.SameBut a s.heap h'->SetL prog w L a (addK ks k) h'->Q b {s with heap:=h'}):
  wpAny (model prog w) A (setAddHashed a (.int k tk) ((intKind prog w).hash k)) Q E s:=by
 obtain⟨o,es,ep,t,ho,S⟩:=hS;have hkey:=intKind_is prog w k tk;have b1:es.size+1<scanBound:=by rw[S.sz]; exact hroom
 unfold setAddHashed setAddHashedIn;refine wpAny_holding (γ (wpAny_setState_of ho S.da S.fit ?_));dsimp only;rw[byScan_of rfl S.lt S.el];simp only[if_true];unfold setAddByScan;refine γ (γ (wpAny_rule ?_));refine γ (wpAny_setScan_of hkey ho S.da S.fit S.el ?_);cases hr:es.toList.findIdx? (λe=>(intKind prog w).is k e.2) with
 | some j=>
  dsimp only;obtain⟨hj,hp,_⟩:=List.findIdx?_eq_some_iff_getElem.mp hr;have hm:k∈ks:=(S.has k).mp ⟨_,Ο hj,hp⟩;refine ι (ι ?_);have:=h false s.heap (Heap.SameBut.refl a s.heap) ⟨o,es,ep,t,ho,by unfold addK; rw[if_pos hm]; exact S⟩;exact this
 | none=>
  dsimp only;have hm:k∉ks:=λz=>by
   obtain⟨e,he,hp⟩:=(S.has k).mpr z;have:=List.findIdx?_eq_none_iff.mp hr e he;rw[hp] at this;cases this
  have gw: ∀(b:Bool) {s1:Shared} {Q':Unit->Shared->Prop},Q' () s1->wpAny (model prog w) A (match b with | true=>rule "set.scan.the-table-gave-way" | false=>pure ()) Q' E s1:=λb s1 Q' hq=>by
   cases b
   ·exact ι hq
   ·exact wpAny_rule hq
  have hp:=layNew_perm t es ((intKind prog w).hash k) (.int k tk);have hf:=layNew_fits t es ((intKind prog w).hash k) (.int k tk);have ht:=S.tb.lay es ((intKind prog w).hash k) (.int k tk);generalize layNew t es ((intKind prog w).hash k) (.int k tk)=Z at hp hf ht ⊢;obtain⟨e1,t1,wd,gave⟩:=Z;dsimp only at hp hf ht ⊢;rw[Array.toList_push] at hp;have el1:ElemsOf (intKind prog w) e1.toList:=(S.el.push hkey rfl).perm hp;have pm1:(e1.toList.map ivE).Perm (addK ks k):=by
   unfold addK;rw[if_neg hm];refine(hp.map ivE).trans ?_;rw[Μ];exact List.Perm.append S.pm (List.Perm.refl _)
  have z1:e1.size=es.size+1:=by rw[<-Array.length_toList,hp.length_eq,Β,Array.length_toList]; rfl
  have lt1:e1.size<scanBound:=by rw[z1]; exact b1
  refine γ (gw _ ?_);have fin: ∀h',Heap.SameBut a s.heap h'->SetL prog w L a (addK ks k) h'->Q true {s with heap:=h'}:=λh' hb hs=>h true h' hb hs;split
  ·refine γ ?_;rw[hashByValue_scannable 8 rfl];refine ι ?_;refine YE (λb s1 Q' hq=>gw b hq) ho S el1 pm1 lt1 ?_ ?_ λh' hb hs=>ι (fin h' hb hs)
   ·split
    ·exact hf
    ·exact SetTable.fits_plain_off hf
   ·split
    ·exact ht
    ·exact ht.plainOff
  ·refine γ (ι ?_);simp only[if_true];exact YE (λb s1 Q' hq=>gw b hq) ho S el1 pm1 lt1 hf ht λh' hb hs=>ι (fin h' hb hs)
end
end SB
set_option maxHeartbeats 4000000
namespace SB
open PySem PySem.SetTable PyProof.Rows
def LL (w:World):Bool:= !(w.params.followText "set-order")
def ddV (val:Nat->Int) (i:Nat):List Int:=((List.range i).map val).foldl addK []
theorem YC(val:Nat->Int)(i:Nat):ddV val (i+1)=addK (ddV val i) (val i):=by
 unfold ddV;rw[List.range_succ,Μ,List.foldl_append];rfl
theorem addK_len(ks:List Int)(k:Int):(addK ks k).length<=ks.length+1:=by
 unfold addK;split<;>simp
theorem XE(val:Nat->Int): ∀i,(ddV val i).length<=i
 | 0=>θ _
 | i+1=>by
  rw[YC];exact Τ (addK_len _ _) (Nat.succ_le_succ (XE val i))
section
variable {prog:Program} {w:World} {A:Around} {R:Result->Shared->Prop} {I:Addr} {fp wr:List Addr} {G:Array GenState->Array GenState->Prop} {n:Nat} {P:Nat->Value->Prop} {St:Nat->Shared->Prop} {L:Bool}
theorem SetL.mv{h':Heap}(x:SetL prog w L a ks h)(k: ∀o,h.get? a=some o->h'.get? a=some o):SetL prog w L a ks h':=by
 obtain⟨o,es,ep,t,ho,S⟩:=x;exact⟨o,es,ep,t,k o ho,S⟩
theorem Z4(W:WalksS prog w A.in1 I fp wr G n P St)(S:Addr)(nf:S∉fp)(val:Nat->Int)(hval: ∀i v,P i v-> ∃t,v= .int (val i) t)(hb:n+1<scanBound):
  ∀(k i:Nat) (s:Shared),n-i=k->i<=n->St i s->SetL prog w L S (ddV val i) s.heap->
   (∀s',Moved (S::wr) G s s'->SetL prog w L S (ddV val n) s'.heap->R (.ok (.ret .none)) s')->
   codeAny (model prog w) A (.builtin "set.update.loop" ⟨[.ref S,.ref I],[]⟩) R s
 | 0,i,s,hk,hi,st,hS,hR=>by
  have e:i=n:=by omega
  subst e;refine codeAny_builtin PyProof.Rows.F.entry_set_update_loop ?_;rw[Around.under_plainId PyProof.Rows.F.plain_set_update_loop _];show wpAny _ A.in1 (pyNext (.ref I)>>=_) _ _ s;refine γ (W.done s _ _ st λs' hm=>?_);show wpAny _ A.in1 (ret Value.none) _ _ s';exact ι (hR s' (hm.mono λb hb=>χ _ hb) (hS.mv λo e=>hm.heap S _ (λz=>nf (W.sub _ z)) e))
 | k+1,i,s,hk,hi,st,hS,hR=>by
  have hw:S∉wr:=λz=>nf (W.sub _ z);have hlt:i<n:=by omega
  have hsub: ∀b∈wr,b∈S::wr:=λb hb=>χ _ hb;refine codeAny_builtin PyProof.Rows.F.entry_set_update_loop ?_;rw[Around.under_plainId PyProof.Rows.F.plain_set_update_loop _];show wpAny _ A.in1 (pyNext (.ref I)>>=_) _ _ s;refine γ (W.item i s _ _ hlt st λv s' hP st' hm=>?_);obtain⟨t,rfl⟩:=hval i v hP;have hS':=hS.mv (h':=s'.heap) λo e=>hm.heap S _ hw e;show wpAny _ A.in1 (holding [Value.int (val i) t] (setAdd S (.int (val i) t))>>=_) _ _ s';unfold setAdd;refine γ (wpAny_holding (wpAny_holding ?_));refine γ ((intKind prog w).pyHash (k:=val i) (intKind_is _ _ _ _) ?_);have room:(ddV val i).length+1<scanBound:=by have:=XE val i; omega
  refine add_T (s:={s' with toks:=s'.toks+1}) hS' room λb h' hsb hS2=>?_;rw[<-YC] at hS2;refine ι ⟨plainId_quiet PyProof.Rows.F.plain_set_update_loop _,Z4 W S nf val hval hb k (i+1) _ (by omega) hlt (W.frame _ s' _ _ st' (Nat.le_succ _) λb hb o e=>?_) hS2 λs2 hm2 hS3=>?_⟩
  ·rw[hsb.2 b λz:b=S=>nf (by rw[<-z]; exact hb)];exact e
  ·refine hR s2 (Moved.trans W.gtrans ((hm.mono hsub).then_heap (Nat.le_succ _) λb o hb e=>?_) hm2) hS3;rw[hsb.2 b λz:b=S=>hb (by rw[z]; exact υ)];exact e
end
section
variable {prog:Program} {w:World} {A:Around} {E:Value->Shared->Prop} {s:Shared}
abbrev newS (w:World):Obj:={cls:= .type "set",dict:=none,data:= .set #[] 0 (.fresh 0 0 (LL w))}
theorem new_S:SetL prog w (LL w) s.heap.objs.size [] (s.heap.push (newS w)):=
 ⟨newS w,#[],0,.fresh 0 0 (LL w),π _ rfl,⟨rfl,rfl,rfl⟩,rfl,λe he=>by simp at he,List.Perm.refl _,by decide,rfl,rfl,rfl,λ_=>List.Pairwise.nil⟩
theorem code_new(a:Value){Q:Value->Shared->Prop}(h:Q (.ref s.heap.objs.size) {s with heap:=s.heap.push (newS w)}):
  codeAny (model prog w) A (.call (.builtin "set.__new__") ⟨[.type "set",a],[]⟩) (wants Q E) s:=by
 refine codeAny_of_tree ?_;show wpAny _ A.in1 (do checkBuiltinCall "set.__new__" ⟨[.type "set",a],[]⟩; again (.builtin "set.__new__" ⟨[.type "set",a],[]⟩)) _ _ s;refine γ (wpAny_of_eq (PySem.F.newCall_set_1 a) ?_);refine ι ⟨plainId_quiet PySem.F.plain_set_new _,codeAny_builtin PySem.F.entry_set_new ?_⟩;rw[Around.under_plainId PySem.F.plain_set_new _];unfold Builtin.«set.__new__» Builtin.Frozenset.newClass;have hsub:=PySem.sub_set_self;obtain⟨hp,g,d,tk,os⟩:=s;dsimp only
 wp_walk
 refine wpAny_askSetting (ι ?_);dsimp only;simp only[newObj];exact γ (wpAny_alloc (ι (ι h)))
end
end SB
set_option maxHeartbeats 4000000
namespace SB
open PySem PySem.SetTable PyProof.Rows
section
variable {prog:Program} {w:World} {A:Around} {E:Value->Shared->Prop} {s:Shared}
theorem call_setL{Q:Value->Shared->Prop}
  (hh:A.handled=none) (hl:s.heap.IsList l its) (hi:IntsAre its.toList ns) (hb:its.size+1<scanBound)
  (h: ∀(h':Heap) (tk:Nat),SetL prog w (LL w) s.heap.objs.size (ddV (λi=>ns.getD i 0) its.size) h'->
   (∀b o,b<s.heap.objs.size->s.heap.get? b=some o->h'.get? b=some o)->Q (.ref s.heap.objs.size) {s with heap:=h',toks:=tk}):
  wpAny (model prog w) A (call (.type "set") [.ref l]) Q E s:=by
 obtain⟨c,tl,hmro⟩:=PySem.F.called_set.mro;have hmade:=PySem.F.called_set.made;have hsub:=PySem.F.called_set.sub;refine wpAny_call (codeAny_of_tree ?_);show wpAny _ _ (callAny (.type "set") _) _ _ _;refine ι ⟨Code.quiet_builtin _ (by decide+kernel),codeAny_builtin PySem.F.entry_type_call ?_⟩;rw[Around.under_plain (weight_type_call_type "set" [.ref l] []) rfl];have q1:=PySem.F.called_set.notType;have q2:=PySem.F.called_set.canCreate;have q3:=PySem.F.typeCall_set_1 (.ref l)
 repeat (any_goals (first | assumption | wp_step))
 refine codeAny_mono (code_new (.ref l) (E:=E) (Q:=λobj s1=>obj= .ref s.heap.objs.size/\s1={s with heap:=s.heap.push (newS w)}) ⟨rfl,rfl⟩) λr s1 hr=>?_;cases r with
 | error e=>exact hr
 | ok fl=>
  cases fl with
  | ret obj=>
   obtain⟨rfl,rfl⟩:=hr;have hS:(s.heap.push (newS w)).get? s.heap.objs.size=some (newS w):=π _ rfl;have hT:Shared.TypeIs {s with heap:=s.heap.push (newS w)} (.ref s.heap.objs.size) "set":=⟨_,hS,rfl⟩;have i1:=PySem.F.called_set.init.lookup;have i2:=PySem.F.called_set.init.bind (.ref s.heap.objs.size)
   repeat (any_goals (first | assumption | wp_step))
   refine codeAny_mono (codeAny_call_builtin (R:=wants (λr s2=>r= .none/\ ∃h' tk,s2={s with heap:=h',toks:=tk}/\SetL prog w (LL w) s.heap.objs.size (ddV (λi=>ns.getD i 0) its.size) h'/\
     (∀b o,b<s.heap.objs.size->s.heap.get? b=some o->h'.get? b=some o)) E) PySem.F.called_set.init.plain PySem.F.entry_set_init (PySem.check_set_init_1 hT ?_)) λr2 s2 hr2=>?_
   ·obtain⟨ol,hol,hcl,nl,hdl⟩:=hl;obtain⟨ocls,odict,odata,oslots⟩:=ol;simp only at hcl hdl;subst hcl; subst hdl;have hol':(s.heap.push (newS w)).get? l=some {cls:= .type "list",dict:=odict,data:= .seq its nl,slots:=oslots}:=η _ hol;have j1:=PySem.F.sub_list_set;have j2:=PySem.F.sub_list_frozenset;have hne:(Value.type "list"==Value.type "dict")=false:=by decide
    have hl1:(s.heap.push (newS w)).IsList l its:=⟨_,hol',rfl,nl,rfl⟩;unfold Builtin.«set.__init__» noKeywords Builtin.Frozenset.updateFrom;generalize hPI:pyIter=PI
    wp_walk
    subst hPI;refine wpAny_pyIter_list hl1 ?_;refine γ (wpAny_runValue ?_);have hlS:l<s.heap.objs.size:=ν hol;have hh3:A.in1.in1.in1.handled=none:=by simp[hh]
    have nI:l≠(s.heap.push (newS w)).objs.size:=by
     rw[Heap.size_push];exact Ν (Nat.lt_succ_of_lt hlS)
    have nf:s.heap.objs.size∉[(s.heap.push (newS w)).objs.size,l]:=by
     rw[Heap.size_push];simp only[List.mem_cons,List.mem_singleton,List.not_mem_nil,or_false,not_or];exact⟨Ν (Nat.lt_succ_self _),Ω hlS⟩
    have hval: ∀(i:Nat) (v:Value),its[i]? =some v-> ∃t,v= .int ((λi=>ns.getD i 0) i) t:=λi v hv=>IntsAre.int_at hi i v (by rw[Array.getElem?_toList]; exact hv);refine Z4 (L:=LL w) ((Walks.list hh3 _ l nI its).toS) s.heap.objs.size nf (λi=>ns.getD i 0) hval hb (its.size-0) 0 _ (by omega) (Ι _) ⟨⟨_,π _ rfl,rfl,rfl⟩,(hl1.push _)⟩ ?hS0 ?hR
    case hS0=>exact(new_S (prog:=prog) (w:=w) (s:=s)).mv λo e=>η _ e
    case hR=>
     intro s' hm hS';obtain⟨h',g',d',tk',os'⟩:=s';have eg:g'=s.gens:=hm.gens;have ed:d'=s.drawn:=hm.drawn;have eo:os'=s.os:=hm.os;subst eg; subst ed; subst eo;show wpAny _ _ _ _ _ _;refine ι ?_;show wpAny _ _ (ret Value.none) _ _ _;refine ι ⟨rfl,h',tk',rfl,hS',λb o hb e=>?_⟩;have c1:b≠s.heap.objs.size:=Ν hb;have c2:b≠(s.heap.push (newS w)).objs.size:=by
      rw[Heap.size_push];exact Ν (Nat.lt_succ_of_lt hb)
     refine hm.heap b o ?_ (η _ (η _ e));simp only[List.mem_cons,List.mem_singleton,List.not_mem_nil,or_false,not_or];exact⟨c1,c2⟩
   ·cases r2 with
    | error e=>exact hr2
    | ok f2=>
     cases f2 with
     | ret r=>
      obtain⟨rfl,h',tk,rfl,hS',hk'⟩:=hr2
      repeat (any_goals (first | assumption | wp_step))
      exact h _ _ hS' hk'
     | _=>exact hr2.elim
  | _=>exact hr.elim
end
end SB
set_option maxHeartbeats 4000000
namespace SB
open PySem PySem.SetTable PyProof.Rows
end SB
set_option maxHeartbeats 4000000
namespace SB
open PySem PySem.SetTable PyProof.Rows
end SB
set_option maxHeartbeats 4000000
namespace SB
open PySem PySem.SetTable PyProof.Rows
section
variable {prog:Program} {w:World} {A:Around} {E:Value->Shared->Prop} {s:Shared}
def Vps (vs:List Value) (ks:List Int):Prop:= ∃ns,IntsAre vs ns/\ns.Perm ks
structure Itd (prog:Program) (w:World) (s:Shared) (S:Addr) (ks:List Int) (I:Addr) (vs:List Value) (h1:Heap) (d1:Drawn):Prop where
 vps:Vps vs ks
 ex: ∃fp St,(∀A:Around,A.handled=none->Walks prog w A I fp [I] vs.length (λi v=>vs[i]? =some v) St)/\St 0 h1/\(∀b∈fp,b=S\/s.heap.objs.size<=b)
 keep: ∀b o,s.heap.get? b=some o->h1.get? b=some o
 new:s.heap.objs.size<=I
end
end SB
set_option maxHeartbeats 4000000
namespace SB
open PySem PySem.SetTable PyProof.Rows
end SB
set_option maxHeartbeats 4000000
namespace SB
open PySem PySem.SetTable PyProof.Rows
end SB
namespace L2
open PySem PyProof.Rows
section
variable {X:Cx} {k:Nat}
def stO (P:Program) (w:World) (q:Addr) (ks:List Int):HO:= .ext (SB.SetL P w (SB.LL w) q ks)
def rSetG (P:Program) (w:World):List V->Hp->VK->Prop:=λxs H Q=> ∃(p:Addr) (ns:List Int),xs=[.ref p]/\H p=some (.lst (ns.map V.int))/\ns.length<=1000/\ ∀q,H q=none->Q (.ref q) (upd H q (stO P w q (ns.foldl SB.addK [])))
theorem WZ: ∀{ns:List Int} {us:List Value},Vals (ns.map V.int) us->IntsAre us ns
 | [],_,h=>by cases h; exact .nil
 | n::ns,_,h=>by
  cases h with
  | cons a b=>
   obtain⟨t,rfl⟩:=a;exact .cons _ _ (WZ b)
theorem dd_eq(ns:List Int):SB.ddV (λi=>ns.getD i 0) ns.length=ns.foldl SB.addK []:=by
 unfold SB.ddV;congr 1;refine List.ext_getElem (by simp) λi h1 h2=>?_;simp[List.getD_eq_getElem?_getD,h2]
theorem call_setR(hr:Room k X.A):yk X (.type "set") (rSetG X.prog X.w):=by
 intro pins s σ H xs us Q I r h;obtain⟨p,ns,rfl,hp,hn,q⟩:=h;obtain⟨u,rfl,ru⟩:=r.one;cases ru
 obtain⟨its,rv,pl,hz⟩:=I.list (SqL.of hp);have hi:=WZ rv;have hl:its.length=ns.length:=IntsAre.length hi;refine SB.call_setL hr.hd pl.isList (by simpa using hi) (by rw[ψ,hl]; unfold scanBound; omega) λh' tk hS hk=>?_;have hs':its.toArray.size=ns.length:=by rw[ψ,hl]
 rw[hs',dd_eq] at hS;have hk': ∀b o,s.heap.get? b=some o->h'.get? b=some o:=λb o e=>hk b o (ν e) e;refine⟨.ref s.heap.objs.size,_,I.laid (o:=stO X.prog X.w s.heap.objs.size (ns.foldl SB.addK [])) (t':=tk) hk' (θ _) ⟨hS,?_,λh1 h2 x y=>x.mv λo e=>y o e⟩,rfl,q _ (I.hok.fresh (θ _))⟩;obtain⟨o,es,ep,t,ho,Z⟩:=hS;exact⟨o,ho⟩
def rLenG (P:Program) (w:World):List V->Hp->VK->Prop:=λxs H Q=> ∃(q:Addr) (ks:List Int),xs=[.ref q]/\H q=some (stO P w q ks)/\Q (.int ks.length) H
theorem call_lenR:yk X (.builtin "len") (rLenG X.prog X.w):=by
 intro pins s σ H xs us Q I r h;obtain⟨p,ks,rfl,hp,q⟩:=h;obtain⟨u,rfl,ru⟩:=r.one;cases ru
 obtain⟨o,es,ep,t,ho,Z⟩:SB.SetL X.prog X.w (SB.LL X.w) p ks s.heap:=(I.hok p _ hp).1;have hz:=Z.sz;refine PySem.call_len_set ho Z.ex Z.da Z.fit ?_ ⟨.int ks.length,H,I.tok _,⟨s.toks+1,by rw[hz]⟩,q⟩;have:=Z.lt;unfold scanBound at this;omega
theorem one_set: ∀{ns:List Int},(∀x∈ns,x=c)->ns≠[]->ns.foldl SB.addK []=[c]
 | [],_,h=>absurd rfl h
 | x::ns,h,_=>by
  have key: ∀ns:List Int,(∀x∈ns,x=c)->ns.foldl SB.addK [c]=[c]:=λns=>by
   induction ns with
   | nil=>exact λ_=>rfl
   | cons y ns ih=>
    intro h;rw[List.foldl_cons,h y υ];show List.foldl SB.addK (if c∈[c] then [c] else [c]++[c]) ns=_;rw[if_pos υ];exact ih λz hz=>h z (χ _ hz)
  rw[List.foldl_cons,h x υ];exact key ns λy hy=>h y (χ _ hy)
end
end L2
namespace K17
open PySem L2 G2 WG EL
local macro_rules | `(tactic| walk_at "v") => `(tactic| repeat (with_reducible first | walk_at "c" | refine yA ?_ | refine yB ?_ | refine yC ?_ | refine w_sl ?_ | refine z0 ?_ | refine yM ?_ | refine xS ?_))
theorem vS: ∀{xs ys:List Int},xs.length=ys.length->dz xs ys=sm xs.length λj=>xs.getD j 0*ys.getD j 0:=by
 have key: ∀(xs ys:List Int),xs.length=ys.length-> ∀n,n<=xs.length->(List.zipWith (· * ·) (xs.take n) (ys.take n)).sum=sm n λj=>xs.getD j 0*ys.getD j 0:=λxs ys h n=>by
  induction n with
  | zero=>exact λ_=>rfl
  | succ n ih=>
   intro hn;have h1:xs[n]? =some (xs.getD n 0):=by simp[List.getD_eq_getElem?_getD,show n<xs.length by omega]
   have h2:ys[n]? =some (ys.getD n 0):=by simp[List.getD_eq_getElem?_getD,show n<ys.length by omega]
   rw[List.take_add_one,List.take_add_one,h1,h2,List.zipWith_append (by simp; omega),List.sum_append,ih (by omega)];simp[sm]
 intro xs ys h;have:=key xs ys h xs.length (θ _);rw[List.take_length,h,List.take_length,<-h] at this;exact this
theorem Xy(u v:Nat->Int): ∀n,dotF n u v=sm n λj=>u j*v j
 | 0=>rfl
 | n+1=>by
  unfold dotF sm;rw[Xy u v n]
theorem kept_cv(h:Rls H rs tg m): ∀v∈Zi m tg,Cv m tg v:=λv hv=>by
 obtain⟨c1,c2⟩:=Wv h;have I:=Rd.all c1 c2 m;obtain⟨f,hf,rfl⟩:=Κ.mp hv;have hf':=List.mem_filter.mp hf;obtain⟨W,_⟩:=I.vec (by decide) (Λ.mp hf'.1) (of_decide_eq_true hf'.2);refine⟨W.len,λr hr=>?_⟩;have:=W.ker (chg tg[r]) (Κ.mpr ⟨_,Ο hr,rfl⟩);rw[Xy] at this;refine Eq.trans (zD λj hj=>?_) this;have hl:=c1 (chg tg[r]) (Κ.mpr ⟨_,Ο hr,rfl⟩);rw[XH] at hl;unfold cf cg chg;simp[List.getD_eq_getElem?_getD,hr,hl,hj]
theorem W1{st:List Int}(hj:j<st.length):(goL st (rl tg r)).getD j 0=st.getD j 0+cg tg r j:=by
 rw[go_at hj];unfold cg rl;omega
theorem XQ: ∀(o:List Nat) (st:List Int),j<st.length->(wk tg st o).getD j 0=st.getD j 0+(o.map λr=>cg tg r j).sum
 | [],st,_=>by simp[wk]
 | r::o,st,h=>by
  show(wk tg (goL st (rl tg r)) o).getD j 0=_;rw[XQ o _ (by rw[ZQ]; exact h),W1 h,List.map_cons,List.sum_cons];omega
theorem WA{st v:List Int}(h:st.length=m):(sm m λj=>v.getD j 0*(goL st (rl tg r)).getD j 0)=(sm m λj=>v.getD j 0*st.getD j 0)+sm m λj=>v.getD j 0*cg tg r j:=by
 rw[zD (g:=λj=>1*(v.getD j 0*st.getD j 0)+1*(v.getD j 0*cg tg r j)) λj hj=>?_,xw,Int.one_mul,Int.one_mul];rw[W1 (by omega),Int.mul_add,Int.one_mul,Int.one_mul]
theorem PotK.bd(hP:PotK H p m tg)(hr:r<tg.length):(∀j,0<=(rl tg r).1.getD j 0/\(rl tg r).1.getD j 0<=9)/\ ∀j,0<=(rl tg r).2.getD j 0/\(rl tg r).2.getD j 0<=30:=by
 obtain⟨ps,pr,pin,pb,ans,rs,us,h1,h2,h3,h4,hR⟩:=hP.ex;have hi':r<rs.length:=by have:=hR.1; omega
 obtain⟨_,_,b1,b2,_⟩:=hR.2 r rs[r] tg[r].1 tg[r].2 (by simp[hi']) (by simp[hr]);have e:rl tg r=tg[r]:=by unfold rl; rw[ζ,δ hr]; rfl
 rw[e];have key: ∀(xs:List Int) (c:Int),0<=c->(∀x∈xs,0<=x/\x<=c)-> ∀j,0<=xs.getD j 0/\xs.getD j 0<=c:=λxs c hc h j=>by
  rw[ζ];cases e:xs[j]? with
  | none=>exact⟨Int.le_refl _,hc⟩
  | some x=>exact h x (ο e)
 exact⟨key _ _ (by decide) b1,key _ _ (by decide) b2⟩
theorem WE(hP:PotK H p m tg){st:List Int}(hst:st.length=m)(hb: ∀x∈st,0<=x/\x<=30)(ok:OkO tg st o): ∀i,i<=o.length-> ∀x∈wk tg st (o.take i),0<=x/\x<=30+30*(i:Int)
 | 0,_,x,hx=>by have:=hb x hx; omega
 | i+1,hi,x,hx=>by
  rw[vf (by omega)] at hx;have hc:=ok i (by omega);obtain⟨b1,b2⟩:=hP.bd hc.1;unfold goL at hx;obtain⟨j,hj,rfl⟩:=Κ.mp hx;have hj:=Λ.mp hj;have h1:=WE hP hst hb ok i (by omega) _ (getD_mem (d:=0) hj);have h2:=hc.2 j hj;have h3:=b1 j;have h4:=b2 j;omega
theorem WD{st:List Int}(hv:Cv m tg v)(hst:st.length=m)(ok:OkO tg st o): ∀i,i<=o.length->dz v (wk tg st (o.take i))=dz v st
 | 0,_=>rfl
 | i+1,hi=>by
  have:=WD hv hst ok i (by omega);have l:=xt tg (o.take i) st;have hl:=hv.1;rw[vS (by omega),vS (by omega),hl] at this;rw[vf (by omega),vS (by rw[ZQ]; omega),vS (by omega),hl,WA (by omega),hv.2 _ (ok i (by omega)).1,Int.add_zero,this]
theorem WC{st:List Int}(hv:Fl m tg v)(hst:st.length=m)(ok:OkO tg st o)(hi:i<o.length):dz v (wk tg st (o.take (i+1)))+1<=dz v (wk tg st (o.take i)):=by
 have l:=xt tg (o.take i) st;have hl:=hv.len;have:=hv.lo _ (ok i hi).1;rw[vf hi,vS (by rw[ZQ]; omega),vS (by omega),hl,WA (by omega)];omega
theorem WB{st:List Int}(hv:Fl m tg v)(hst:st.length=m)(ok:OkO tg st o): ∀i,i<=o.length->dz v (wk tg st (o.take i))+i<=dz v st
 | 0,_=>Int.le_of_eq (Int.add_zero _)
 | i+1,hi=>by
  have h1:=WB hv hst ok i (by omega);have h2:=WC hv hst ok (i:=i) (by omega);omega
theorem dz_nn{m:Nat}{tg:Rows}{v st:List Int}(hv:Fl m tg v)(hst:st.length=m)(h: ∀x∈st,0<=x):0<=dz v st:=by
 rw[vS (by rw[hv.len,hst])];exact sm_nn λj _=>Int.mul_nonneg (Yq hv.nn j) (Yq h j)
def ordO (ts:List Int) (n:Nat):List Nat:=(List.range n).flatMap λr=>List.replicate (ts.getD r 0).toNat r
theorem wB(ts:List Int)(n:Nat):ordO ts (n+1)=ordO ts n++List.replicate (ts.getD n 0).toNat n:=by
 unfold ordO;rw[List.range_succ,List.flatMap_append];simp
theorem ord_lt: ∀r∈ordO ts n,r<n:=λr hr=>by
 obtain⟨q,hq,h⟩:=List.mem_flatMap.mp hr;rw[List.eq_of_mem_replicate h];exact Λ.mp hq
theorem ZG(h: ∀t∈ts,t<=60): ∀n,(ordO ts n).length<=60*n
 | 0=>θ _
 | n+1=>by
  rw[wB,Β,Χ];have:=ZG h n;have:ts.getD n 0<=60:=by
   rw[ζ];cases e:ts[n]? with
   | none=>decide
   | some x=>exact h x (ο e)
  omega
theorem Xh(h: ∀t∈ts,0<=t)(f:Nat->Int): ∀n,((ordO ts n).map f).sum=sm n λr=>ts.getD r 0*f r
 | 0=>rfl
 | n+1=>by
  have hn:=Yq h n;have rep: ∀k:Nat,((List.replicate k n).map f).sum=(k:Int)*f n:=λk=>by
   induction k with
   | zero=>simp
   | succ k ih=>rw[List.replicate_succ,List.map_cons,List.sum_cons,ih,Int.natCast_add,Int.add_mul]; omega
  rw[wB,Μ,List.sum_append,Xh h f n,rep,Int.toNat_of_nonneg hn];rfl
theorem ord_pos{ts:List Int}(hr:r<n)(h:0<ts.getD r 0):0<(ordO ts n).length:=by
 have:r∈ordO ts n:=List.mem_flatMap.mpr ⟨r,Λ.mpr hr,List.mem_replicate.mpr ⟨by omega,rfl⟩⟩;exact List.length_pos_of_mem this
theorem high_ok(hP:PotK H p m tg)(ho: ∀r∈o,r<tg.length):OkO tg (List.replicate m (9*(o.length:Int))) o:=λi hi=>by
 have hc:o.getD i 0<tg.length:=ho _ (by rw[ζ,δ hi]; exact Ο hi);refine⟨hc,λj hj=>?_⟩;rw[xt,Χ] at hj;rw[XQ _ _ (by simpa using hj)];have h9:=((hP.bd hc).1 j).2;have low: ∀l:List Nat,(∀r∈l,r<tg.length)-> -9*(l.length:Int)<=(l.map λr=>cg tg r j).sum:=λl hl=>by
  induction l with
  | nil=>exact Int.le_refl _
  | cons r l ih=>
   rw[List.map_cons,List.sum_cons,List.length_cons];have h1:=ih λq hq=>hl q (χ _ hq);obtain⟨b1,b2⟩:=hP.bd (hl r υ);have h2:=b1 j;have h3:=b2 j;have h4:cg tg r j=(rl tg r).2.getD j 0-(rl tg r).1.getD j 0:=rfl;omega
 have h1:=low (o.take i) λr hr=>ho r (List.mem_of_mem_take hr);rw[List.length_take,Nat.min_eq_left (by omega)] at h1;have h2:(List.replicate m (9*(o.length:Int))).getD j 0=9*(o.length:Int):=by simp[List.getD_eq_getElem?_getD,hj]
 rw[h2];omega
abbrev sRo:Stmt:=top 49
abbrev nRo:List Str:=["_law_feed_here","_law_pot_here","_law_times","_law_order_here","_law_left","_law_some","_law_turn","_law_first","_law_last"]
theorem nmRo:Nm nRo (zd sRo):=nmk (nofun)
theorem scRo:FnScope nRo ["_law_feed_here","_law_pot_here","_law_times"] (zd sRo):=fsk (nofun)
def qRoa (s:Stmt):Scope:=match s with
 | .Assign _ (.ListComp _ _ sc _) _=>sc
 | _=>nsc
abbrev cRoa:Scope:=qRoa ((zm sRo).getD 1 (.Pass ⟨0,0,0,0⟩))
theorem bsRoa:BScope (zd sRo) cRoa ["_law_rule_here","_law_often"] [] ["min"]:={}
def qRob (s:Stmt):Scope:=match s with
 | .Assign _ (.Call _ [(.ListComp _ _ sc _)] _ _) _=>sc
 | _=>nsc
abbrev cRob:Scope:=qRob ((zm sRo).getD 6 (.Pass ⟨0,0,0,0⟩))
theorem bsRob:BScope (zd sRo) cRob ["_law_sort"] ["_law_order_here"] ["len"]:={}
def qRoc (s:Stmt):Scope:=match s with
 | .Return (some (.Compare (.ListComp _ _ sc _) _ _ _)) _=>sc
 | _=>nsc
abbrev cRoc:Scope:=qRoc ((zm sRo).getD 8 (.Pass ⟨0,0,0,0⟩))
theorem bsRoc:BScope (zd sRo) cRoc ["_law_sort"] ["_law_first","_law_last"] []:={}
theorem loRo_4:(zd sRo).names.lookup ("_law_left":Str)=some .local:=nofun
def spRo:Sp:=λvs H Q _=> ∃(p l t:Addr) (m:Nat) (tg:Rows) (ts:List Int),vs=[.ref p,.ref l,.ref t]/\FeedAt H p/\PotK H l m tg/\H t=some (.tup (ts.map V.int))/\Rn m tg ts/\ ∀H',SB p H H'->FeedAt H' p->Q (.bl true) H'
section
variable {P:Program} {w:World} {K:W.Frag} {mg:Str->Option Value} {base:Heap}
theorem ok_Ro(B:Bl mg)(fD:Has P w K mg base 1 "_law_draw" ["_law_feed_here","_law_many"] yE)(fW:Has P w K mg base 4 "walked" ["pot","stand","order"] spWa)(F:Fun K "_law_round_right" "_law_round_right" sRo f fd):FnOk P w K mg base CX0 5 f fd ["_law_feed_here","_law_pot_here","_law_times"] spRo:=by
 refine F.ok scRo (λvs H Q E h=>?_) (λcdv A outer s H vs Q E hr h=>?_)
 ·obtain⟨p,l,t,m,tg,ts,rfl,_⟩:=h;rfl
 obtain⟨p,l,t,m,tg,ts,rfl,F0,hP,ht,hR,k⟩:=h;refine'⟨_,?hb,?rd⟩
 case' hb=>skip
 case' hb=>refine' ze ?g1 ?g2
 case' g2=>refine' ze ?g3 ?g4
 case' g4=>refine' ze ?g5 ?g6
 case' g6=>refine' ze ?g7 ?g8
 case' g8=>refine' ze ?g9 ?g10
 case' g10=>refine' ze ?g11 ?g12
 case' g12=>refine' ze ?g13 ?g14
 case' g14=>refine' ze ?g15 ?g16
 case' g16=>refine' zi ?g17
 case g1=>exact zj nmRo 3 (zR yH)
 case' g3=>refine' yi (i:=4) (ix:=[]) nmRo.nd rfl loRo_4 bsRoa.toCScope rfl rfl ?g18 ?g19 ?g20 ?g21
 case g18=>exact pi_enu B.enu (pa_1 (pvd nmRo 2))
 case g19=>
  intro _ _ _ _ _ _;refine' yT (n:=2) rfl ?g22
  case' g22=>refine' zt ?g26 ?g25
  case g26=>exact pgb bsRoa 0
  case' g25=>refine' zt ?g28 zS
  case g28=>exact pgb bsRoa 1
 case g20=>exact λ_ _ _ _ _ _=>zu
 case g21=>exact λ_ _ _ _ _ _=>zo ZH (zR (pa_1 (pvb bsRoa 0))) (zP (Zp rfl) B.min PyProof.Rows.boot_min (pa_2 (pvb bsRoa 1) zg) (bsRoa.g 0))
 case' g5=>refine' zZ ?g29 ?g30 zB
 case g29=>exact zv vF (zP (call_maxT hr) B.max PyProof.Rows.boot_max (pa_1 (pvd nmRo 2))) zg (zw _)
 case' g30=>refine' zi ?g32
 case g32=>exact zr vE
 case' g7=>refine' ye Ψ rfl ?g33 (pgd nmRo 5) ?g34
 case g33=>exact yf (pvd nmRo 4)
 case' g34=>refine' zi ?g35
 case g35=>exact zj nmRo 3 (zo wV (pvd nmRo 3) (pvd nmRo 5))
 case g9=>exact zj nmRo 6 (pe_f fD hr (by decide) (pa_2 (pvd nmRo 0) (zP zp B.len Ρ (pa_1 (pvd nmRo 3)))))
 case g11=>exact zj nmRo 3 (zo wV (xW ZC (pvd nmRo 3) (ww (pvd nmRo 6)) wx) (xW ZC (pvd nmRo 3) wx (ww (pvd nmRo 6))))
 case' g13=>refine' zj nmRo 7 ?g36
 case' g36=>refine' zV zz B.tuple Η ?g37
 case' g37=>refine' pa_1 ?g38
 case' g38=>refine' zy (ix:=[3]) bsRob.toCScope rfl rfl ?g39 ?g40 ?g41 ?g42
 case g39=>exact xL (ziq (pvd nmRo 1) zg)
 case g40=>exact λ_ _ _ _ _ _=>pgb bsRob 0
 case g41=>exact λ_ _ _ _ _ _=>zu
 case g42=>exact λ_ _ _ _ _ _=>zo y3 zg (zP call_lnL B.len Ρ (pa_1 (pvb bsRob 1)) (bsRob.g 0))
 case g15=>exact zj nmRo 8 (pe_f fW hr (by decide) (pa_c (pvd nmRo 1) (pa_2 (pvd nmRo 7) (pvd nmRo 3))))
 case' g17=>refine' zr ?g43
 case' g43=>refine' y8 (Wa hr) ?g44 (zR yH) (zw _)
 case' g44=>refine' zy (ix:=[7,8]) bsRoc.toCScope rfl rfl ?g45 ?g46 ?g47 ?g48
 case g45=>exact yc B.range (pa_1 (zP zp B.len Ρ (pa_1 (pvd nmRo 7))))
 case g46=>exact λ_ _ _ _ _ _=>pgb bsRoc 0
 case g47=>exact λ_ _ _ _ _ _=>xK (zv wD (ziq (pvb bsRoc 2) (pvb bsRoc 0)) (ziq (pvb bsRoc 1) (pvb bsRoc 0)) (zw _))
 case g48=>exact λ_ _ _ _ _ _=>pvb bsRoc 0
 have m8:=hP.m8;have n8:=hP.n8;have tl:=hR.len;nofun;refine⟨Ι _,λo0 ho0=>?_⟩;have K1:Same H (upd H o0 (.lst [])):=Same.new (Same.refl _) ho0;have e1:upd H o0 (.lst []) o0=some (.lst (nV (ordO ts 0))):=zf;generalize upd H o0 (.lst [])=H1 at K1 e1 ⊢;nofun;refine w_compE ?_;nofun;refine⟨t,rfl,⟨_,SqT.of (K1 _ _ ht)⟩,λD hD=>?_⟩;refine cgo_enu (xs:=ts.map V.int) (λi ys H'=> ∃as:List Addr,ys=as.map V.ref/\as.length=i/\Same H1 H'/\ ∀j a,as[j]? =some a->a≠D/\H' a=some (.lst (List.replicate (min (ts.getD j 0) 60).toNat (V.int (j:Int))))) ⟨[],rfl,rfl,Same.new (Same.refl _) hD,λj a e=>by simp at e⟩ (λi ys H' _ ⟨_,_,_,k',_⟩=>SqT.of (k' _ _ (K1 _ _ ht))) ?_ ?_
 ·rintro i x ys H' q hx ⟨as,rfl,hal,K',hA⟩ hDy hq R S kR _;have hi:i<ts.length:=by simpa using (ξ.mp hx).1
  have hx':V.int (ts.getD i 0)=x:=by simpa[List.getD_eq_getElem?_getD,hi] using hx
  subst hx';have t0:=Yq hR.nn i;have K2:Same H' (upd H' q (.tup [.int (i:Int),.int (ts.getD i 0)])):=Same.new (Same.refl _) hq;generalize upd H' q (.tup [.int (i:Int),.int (ts.getD i 0)])=H2 at K2 ⊢;refine zU (iteT ?_);nofun;refine⟨sz1,λz hz=>?_⟩;obtain⟨H3,q,K3,e3⟩:=nob (.lst [.int (i:Int)]) hz; rw[q]; clear q;nofun;refine⟨_,_,rfl,?_⟩;have hmin:(if (60:Int)<ts.getD i 0 then 60 else ts.getD i 0)=min (ts.getD i 0) 60:=by
   split<;>omega
  rw[hmin];have hn:(min (ts.getD i 0) 60).toNat<=60:=by omega
  refine⟨z,_,_,rfl,rfl,e3,by omega,by omega,Nat.le_of_lt (zq (by simp; omega)),λa ha=>?_⟩;have K4:=K2.trans K3;have eD3:=K4 _ _ hDy;have hDa:a≠D:=Ne.symm (zh eD3 ha);rw[List.flatten_replicate_singleton];obtain⟨H5,q,K5,e5⟩:=nob (.lst (List.replicate (min (ts.getD i 0) 60).toNat (V.int (i:Int)))) ha; rw[q]; clear q;have K5:=K4.trans K5;refine kR _ _ (K5 _ _ hDy) (zq (by simp; omega)) ⟨as++[a],by simp,by simp[hal],(K'.trans K5).put hD,λj b e=>?_⟩;by_cases hj:j<as.length
  ·rw[Δ hj] at e;obtain⟨n,eb⟩:=hA j b e;exact⟨n,by rw[zk n]; exact K5 _ _ eb⟩
  ·have hj':j=i:=by
    have:=(ξ.mp e).1;rw[Β,List.length_singleton] at this;omega
   rw[Α (by omega),hj',hal,Nat.sub_self] at e;cases e
   exact⟨hDa,by rw[zk hDa,hj']; exact e5⟩
 rintro ys H2 ⟨as,rfl,hal,K2,hA⟩ eD;rw[ε] at hal;have K12:=K1.trans K2;nofun;refine⟨t,_,rfl,K12 _ _ ht,by obtain⟨r,hr,_⟩:=hR.ne; omega,λM hM1 hM2=>?_⟩;nofun;refine iteD (λ_=>?_) (λhM=>?_)
 ·nofun;exact k _ (SB.same K12) (F0.same K12)
 have h60: ∀x∈ts,x<=60:=λx hx=>by have:=hM2 x hx; omega
 have hol:=ZG h60 ts.length;nofun;refine⟨D,rfl,⟨_,SqL.of eD⟩,?_⟩;refine wF (xs:=as.map V.ref) (λi σ H'=> ∃(ol:Addr) (u5:Option V),σ=[some (.ref p),some (.ref l),some (.ref t),some (.ref ol),some (.ref D),u5,none,none,none]/\Same H2 H'/\H' ol=some (.lst (nV (ordO ts i)))/\ol≠p) ⟨o0,none,rfl,Same.refl _,K2 _ _ e1,F0.np ho0⟩ (λi σ H' _ ⟨_,_,_,b,_⟩=>SqL.of (b _ _ eD)) ?_ ?_
 ·rintro i y σ H3 hy ⟨ol,u5,rfl,K3,e3,n3⟩;have hi:i<as.length:=by simpa using (ξ.mp hy).1
  have hy':V.ref as[i]=y:=by simpa[hi] using hy
  subst hy';have ha:=(hA i as[i] (by simp[hi])).2;have htn:min (ts.getD i 0) 60=ts.getD i 0:=by
   have:ts.getD i 0<=60:=by
    rw[ζ,δ (by omega)];exact h60 _ (Ο _)
   omega
  rw[htn] at ha;have hlo:=ZG h60 (i+1);rw[wB,Β,Χ] at hlo;nofun;refine⟨ol,as[i],_,_,rfl,rfl,e3,K3 _ _ ha,?_,λo2 h2=>?_⟩
  ·rw[ε,Χ];exact Nat.le_of_lt (zq (by omega))
  refine⟨o2,_,rfl,K3.trans (Same.new (Same.refl _) h2),?_,(F0.same (K12.trans K3)).np h2⟩;rw[zf,wB];simp[nV]
 ·rintro σ H3 ⟨ol,u5,rfl,K3,e3,n3⟩;rw[ε,hal] at e3;have K13:=K12.trans K3;obtain⟨r1,hr1,hne⟩:=hR.ne;have hpos:=ord_pos (ts:=ts) (n:=ts.length) (r:=r1) (by omega) (by have:=Yq hR.nn r1; omega);have hlt:=ord_lt (ts:=ts) (n:=ts.length);have hsum:=λj=>Xh hR.nn (λr=>cg tg r j) ts.length;generalize ordO ts ts.length=o at e3 hol hpos hlt hsum;nofun;refine⟨ol,_,rfl,.inl (SqL.of e3),?_⟩;rw[ε];nofun;refine y4 (F0.same K13) (by omega) (by omega) λtu H4 t0 t1 F4 b4=>?_;obtain⟨c,rfl⟩:=Nat.ofI t0;have e4:=b4.1 _ _ n3 e3;have b4:=(SB.same K13).trans b4;have hcl:c<=(nV o).length:=by rw[ε]; omega
  nofun;refine⟨_,rfl,?_⟩;nofun;refine⟨ol,_,rfl,SqL.of e4,λz1 h1=>?_⟩;rw[cut_from hcl];obtain⟨H5,q,K5,e5⟩:=nob (.lst ((nV o).drop c)) h1; rw[q]; clear q;nofun;refine⟨_,rfl,ol,_,rfl,SqL.of (K5 _ _ e4),λz2 h2=>?_⟩;rw[Ws hcl];obtain⟨H6,q,K6,e6⟩:=nob (.lst ((nV o).take c)) h2; rw[q]; clear q;refine⟨z1,z2,_,_,rfl,rfl,K6 _ _ e5,e6,?_,λz3 h3=>?_⟩
  ·exact Nat.le_of_lt (zq (by simp; omega))
  have K7:Same H6 (upd H6 z3 (.lst ((nV o).drop c++(nV o).take c))):=Same.new (Same.refl _) h3;have e7:upd H6 z3 (.lst ((nV o).drop c++(nV o).take c)) z3=some (.lst (nV (o.drop c++o.take c))):=by rw[zf]; simp[nV,List.map_take,List.map_drop]
  generalize upd H6 z3 (.lst ((nV o).drop c++(nV o).take c))=H7 at K7 e7 ⊢;have b7:=b4.trans (SB.same ((K5.trans K6).trans K7));have t7:=zQ F0 b7;have hP7:=hP.tk t7;obtain⟨ps,pr,pin,pb,ans,rs,us,g1,g2,g3,g4,hRl⟩:=hP7.ex;have hlt': ∀r∈o.drop c++o.take c,r<tg.length:=λr hr=>by
   rcases List.mem_append.mp hr with h | h
   ·have:=hlt r (List.mem_of_mem_drop h); omega
   ·have:=hlt r (List.mem_of_mem_take h); omega
  have hlen:(o.drop c++o.take c).length=o.length:=by simp; omega
  have hsum': ∀j,j<m->0<=((o.drop c++o.take c).map λr=>cg tg r j).sum:=λj hj=>by
   have h1:((o.drop c++o.take c).map λr=>cg tg r j).sum=(o.map λr=>cg tg r j).sum:=by
    rw[Μ,List.sum_append,Int.add_comm,<-List.sum_append,<-Μ,List.take_append_drop]
   rw[h1,hsum,tl];exact hR.up j hj
  generalize o.drop c++o.take c=o' at e7 hlt' hlen hsum';nofun;refine zJ g1 rfl ?_;refine⟨ps,rfl,⟨_,SqT.of g2⟩,λD2 hD2=>?_⟩;refine YV (ws:=us) id (λ_=>V.int (9*(o'.length:Int))) (by rw[List.map_id]; exact SqT.of g2) (by omega) hD2 (λx hx H' K' R kR=>?_) (λH8 K8 e8=>?_)
  ·nofun;refine⟨z3,_,rfl,K' _ _ e7,?_⟩;rw[ε];exact w_rI (mulL (by decide) (by decide)) (kR _ (Same.refl _))
  have e8':us.map (λ_=>V.int (9*(o'.length:Int)))=(List.replicate m (9*(o'.length:Int))).map V.int:=by
   rw[List.map_const',List.map_replicate,g3]
  rw[e8'] at e8;nofun;refine⟨D2,_,rfl,e8,λs1 H9 K9 e9=>?_⟩;have K89:=K8.trans K9;nofun;refine⟨l,s1,z3,m,tg,_,o',rfl,⟨hP7.same K89,e9,by simp,K89 _ _ e7,by omega⟩,high_ok hP7 hlt',λq H10 K10 e10=>?_⟩;have b10:=b7.trans (SB.same (K89.trans K10));nofun;refine⟨s1,_,rfl,.inr (SqT.of (K10 _ _ e9)),?_⟩;rw[ε,Χ];refine⟨_,rfl,by omega,by omega,λD3 hD3=>?_⟩;rw[Θ];refine ZT (λi=>V.int (i:Int)) (λ_=>false) (by omega) hD3 (λi hi H' K' R kR=>?_) (λi hi hf=>by cases hf) (λH11 K11 e11=>?_)
  ·nofun;refine ixT0 (K' _ _ e10) (by rw[xt]; simpa using hi) ?_;nofun;refine ixT0 (K' _ _ (K10 _ _ e9)) (by simpa using hi) ?_;nofun;have:=kR _ (Same.refl _);rw[XQ _ _ (by simpa using hi),decide_eq_false (by have:=hsum' i hi; omega)];exact this
  nofun;refine⟨Ι _,λz hz=>?_⟩;refine⟨D3,z,[],rfl,rfl,by rw[zk (zh e11 hz),e11]; simp,zf,?_⟩;have b12:=b10.trans (SB.same (K11.trans (Same.new (o:= .lst []) (Same.refl _) hz)));exact k _ b12 (b12.2 F0)
def SBT (p p1 p2:Addr) (H H':Hp):Prop:= ∀a u,a≠p->a≠p1->a≠p2->H a=some u->H' a=some u
theorem FeedAt.st(F:FeedAt H p)(T:Tbs H p1 p2)(s:SameT p1 p2 H H'):FeedAt H' p:=let ⟨x,y,z,e⟩:=F; ⟨x,y,z,s.k T _ _ e (λ_ w=>by cases w)⟩
theorem ZB(T:Tbs H p1 p2)(F:FeedAt H p)(b:SB p H H'):Tbs H' p1 p2:=by
 obtain⟨x,y,z,e⟩:=F;exact⟨T.1.keep (λps h=>b.1 _ _ (λw=>by rw[w,e] at h; cases h) h) λa φ h=>b.1 _ _ (λw=>by rw[w,e] at h; cases h) h,T.2.keep (λps h=>b.1 _ _ (λw=>by rw[w,e] at h; cases h) h) λa φ h=>b.1 _ _ (λw=>by rw[w,e] at h; cases h) h⟩
theorem refs_rng{as:List Addr}(h:as.length=n):as.map V.ref=(List.range n).map λj=>V.ref (as.getD j 0):=by
 refine List.ext_getElem (by simp[h]) λi h1 h2=>?_;simp at h1;simp[List.getD_eq_getElem?_getD,h1]
abbrev sWr:Stmt:=top 48
abbrev nWr:List Str:=["_law_feed_here","_law_pot_here","_law_way","_law_kepts","_law_one","_law_told","_law_high"]
theorem nmWr:Nm nWr (zd sWr):=nmk (nofun)
theorem scWr:FnScope nWr ["_law_feed_here","_law_pot_here","_law_way"] (zd sWr):=fsk (nofun)
def qWra (s:Stmt):Scope:=match s with
 | .For _ _ [(.If (.Compare (.Call _ [(.Call _ [(.ListComp _ _ sc _)] _ _)] _ _) _ _ _) _ _ _)] _ _=>sc
 | _=>nsc
abbrev cWra:Scope:=qWra ((zm sWr).getD 1 (.Pass ⟨0,0,0,0⟩))
theorem bsWra:BScope (zd sWr) cWra ["_law_stand"] ["_law_one"] ["count_of"]:={}
def qWrb (s:Stmt):Scope:=match s with
 | .Assign _ (.ListComp _ _ sc _) _=>sc
 | _=>nsc
abbrev cWrb:Scope:=qWrb ((zm sWr).getD 4 (.Pass ⟨0,0,0,0⟩))
theorem bsWrb:BScope (zd sWr) cWrb ["_law_stand"] ["_law_told"] ["height_of"]:={}
def qWrc (s:Stmt):Scope:=match s with
 | .If (.Compare (.ListComp _ _ sc _) _ _ _) _ _ _=>sc
 | _=>nsc
abbrev cWrc:Scope:=qWrc ((zm sWr).getD 5 (.Pass ⟨0,0,0,0⟩))
theorem bsWrc:BScope (zd sWr) cWrc ["_law_k"] ["_law_high"] []:={}
def spWr (p1 p2:Addr):Sp:=λvs H Q _=> ∃(p l wl:Addr) (m:Nat) (tg:Rows) (st:List Int) (o:List Nat),vs=[.ref p,.ref l,.ref wl]/\FeedAt H p/\PotK H l m tg/\Tbs H p1 p2/\StL H wl tg st o o.length/\st.length=m/\(∀x∈st,0<=x/\x<=30)/\OkO tg st o/\o.length<=60/\ ∀H',SBT p p1 p2 H H'->Tbs H' p1 p2->Q (.bl true) H'
theorem ok_Wr(B:Bl mg)(fA:Has P w K mg base 5 "all_kept" ["pot"] spAk)(fM:Has P w K mg base 2 "_law_made" ["_law_feed_here","_law_kepts","_law_many"] spMd)(fC:Has P w K mg base 2 "count_of" ["kept","stand"] spTa)(fH:Has P w K mg base 2 "height_of" ["heights","stand"] spTa)(fF:Has P w K mg base 6 "falls" ["pot"] (spFa p1 p2))(fR:Has P w K mg base 5 "_law_round_right" ["_law_feed_here","_law_pot_here","_law_times"] spRo)(F:Fun K "_law_way_right" "_law_way_right" sWr f fd):FnOk P w K mg base CX0 7 f fd ["_law_feed_here","_law_pot_here","_law_way"] (spWr p1 p2):=by
 refine F.ok scWr (λvs H Q E h=>?_) (λcdv A outer s H vs Q E hr h=>?_)
 ·obtain⟨p,l,wl,m,tg,st,o,rfl,_⟩:=h;rfl
 obtain⟨p,l,wl,m,tg,st,o,rfl,F0,hP,hT,hW,hst,hsb,ok,o6,k⟩:=h;refine'⟨_,?hb,?rd⟩
 case' hb=>skip
 case' hb=>refine' ze ?g1 ?g2
 case' g2=>refine' ze ?g3 ?g4
 case' g4=>refine' ze ?g5 ?g6
 case' g6=>refine' ze ?g7 ?g8
 case' g8=>refine' ze ?g9 ?g10
 case' g10=>refine' ze ?g11 ?g12
 case' g12=>refine' zi ?g13
 case g1=>exact zj nmWr 3 (pe_f fA hr (by decide) (pa_1 (pvd nmWr 1)))
 case' g3=>refine' ye Ψ rfl ?g14 (pgd nmWr 4) ?g15
 case g14=>exact yf (zo wV (pvd nmWr 3) (zR (pa_1 (pe_f fM hr (by decide) (pa_c (pvd nmWr 0) (pa_2 (pvd nmWr 3) (zP zp B.len Ρ (pa_1 (ziq (pvd nmWr 1) zg)))))))))
 case' g15=>refine' zi ?g16
 case' g16=>refine' zZ ?g17 ?g18 zB
 case' g17=>refine' zv wC ?g20 zg (zw _)
 case' g20=>refine' zP call_lenR B.len Ρ ?g21
 case' g21=>refine' pa_1 ?g22
 case' g22=>refine' zV (call_setR hr) B.set PyProof.Rows.boot_set ?g23
 case' g23=>refine' pa_1 ?g24
 case' g24=>refine' zy (ix:=[4]) bsWra.toCScope rfl rfl ?g25 ?g26 ?g27 ?g28
 case g25=>exact yf (pvd nmWr 2)
 case g26=>exact λ_ _ _ _ _ _=>pgb bsWra 0
 case g27=>exact λ_ _ _ _ _ _=>zu
 case g28=>exact λ_ _ _ _ _ _=>pe_f fC hr (by decide) (pa_2 (pvb bsWra 1) (pvb bsWra 0)) (bsWra.g 0)
 case' g18=>refine' zi ?g29
 case g29=>exact zr vE
 case g5=>exact zj nmWr 5 (pe_f fF hr (by decide) (pa_1 (pvd nmWr 1)))
 case' g7=>refine' zZ ?g30 ?g31 zB
 case g30=>exact zv vG (ziq (pvd nmWr 5) zg) wg (zw _)
 case' g31=>refine' zi ?g33
 case g33=>exact zr (pe_f fR hr (by decide) (pa_c (pvd nmWr 0) (pa_2 (pvd nmWr 1) (ziq (pvd nmWr 5) zg))))
 case' g9=>refine' zj nmWr 6 ?g34
 case' g34=>refine' zy (ix:=[5]) bsWrb.toCScope rfl rfl ?g35 ?g36 ?g37 ?g38
 case g35=>exact yf (pvd nmWr 2)
 case g36=>exact λ_ _ _ _ _ _=>pgb bsWrb 0
 case g37=>exact λ_ _ _ _ _ _=>zu
 case g38=>exact λ_ _ _ _ _ _=>pe_f fH hr (by decide) (pa_2 (ziq (pvb bsWrb 1) zg) (pvb bsWrb 0)) (bsWrb.g 0)
 case' g11=>refine' zZ ?g39 ?g40 zB
 case' g39=>refine' zv (op_neE hr) ?g42 (zR yH) (zw _)
 case' g42=>refine' zy (ix:=[6]) bsWrc.toCScope rfl rfl ?g43 ?g44 ?g45 ?g46
 case g43=>exact WU B.range (pa_2 zg (zP zp B.len Ρ (pa_1 (pvd nmWr 6))))
 case g44=>exact λ_ _ _ _ _ _=>pgb bsWrc 0
 case g45=>exact λ_ _ _ _ _ _=>xK (zv Yg (ziq (pvb bsWrc 1) (pvb bsWrc 0)) (ziq (pvb bsWrc 1) (zo yZ (pvb bsWrc 0) zg)) (zw _))
 case g46=>exact λ_ _ _ _ _ _=>pvb bsWrc 0
 case' g40=>refine' zi ?g47
 case g47=>exact zr vE
 case g13=>exact zr (y8 WV (zo yZ (zP zp B.len Ρ (pa_1 (pvd nmWr 2))) zg) (ziq (pvd nmWr 6) zg) (zw _))
 have m8:=hP.m8;obtain⟨as,ew,al,ae⟩:=hW;have bd:=WE hP hst hsb ok;nofun;refine⟨l,m,tg,rfl,hP,λD bs H1 K1 fD eD hTL=>?_⟩;have nwp:wl≠p:=λz=>by
  obtain⟨x,y,w,e⟩:=F0;rw[z,e] at ew;cases as with
  | nil=>simp at al
  | cons a as=>cases ew
 rw[refs_rng al] at ew;have ae: ∀j,j<o.length+1->H (as.getD j 0)=some (.tup ((wk tg st (o.take j)).map V.int)):=λj hj=>ae j _ (by simp[List.getD_eq_getElem?_getD,show j<as.length by omega]);obtain⟨ps,pr,pin,pb,ans,rs,us,g1,g2,g3,g4,hRl⟩:=hP.ex;have hkc:=kept_cv hRl;have F1:=F0.same K1;have nDp:=F0.np fD;nofun;refine zJ (K1 _ _ g1) rfl ?_;nofun;refine⟨ps,_,rfl,.inr (SqT.of (K1 _ _ g2)),?_⟩;rw[g3];nofun;refine⟨p,D,m,tg,bs,_,rfl,F1,eD,nDp,hTL,hkc,m8,λq x H2 b2 F2 eq hx=>?_⟩;have t2:=zQ F1 b2;have eD2:=b2.1 _ _ nDp eD;have b2:=(SB.same K1).trans b2;nofun;refine⟨sz1,λz hz=>?_⟩;obtain⟨H3,q,K3,e3⟩:=nob (.lst [.ref q]) hz; rw[q]; clear q;have hkl:(Zi m tg).length<=8:=by
  unfold Zi wb;rw[ε];refine Τ (List.length_filter_le _ _) ?_;rw[Ξ];exact m8
 have hbl:bs.length<=8:=by rw[hTL.1]; exact hkl
 refine⟨D,z,_,_,rfl,rfl,K3 _ _ eD2,e3,Nat.le_of_lt (zq (by simp; omega)),λW hW=>?_⟩;have K4:Same H3 (upd H3 W (.lst (bs.map V.ref++[.ref q]))):=Same.new (Same.refl _) hW;have e4:upd H3 W (.lst (bs.map V.ref++[.ref q])) W=some (.lst ((bs++[q]).map V.ref)):=by rw[zf]; simp
 generalize upd H3 W (.lst (bs.map V.ref++[.ref q]))=H4 at K4 e4 ⊢;have K4:=K3.trans K4;have b4:=b2.trans (SB.same K4);have F4:=F2.same K4;have T4:=ZB hT F0 b4;have ew4:=b4.1 _ _ nwp ew;have tk4:=zQ F0 b4;have hall: ∀y∈bs++[q],∃v,H4 y=some (.tup (v.map V.int))/\Cv m tg v:=λy hy=>by
  rcases List.mem_append.mp hy with hy | hy
  ·obtain⟨i,hi,rfl⟩:=List.getElem_of_mem hy;have hik:i<(Zi m tg).length:=by rw[<-hTL.1]; exact hi
   exact⟨(Zi m tg)[i],K4 _ _ (t2.t _ _ (hTL.2 i _ _ (by simp[hi]) (by simp[hik]))),hkc _ (Ο hik)⟩
  ·rw[Υ.mp hy];exact⟨x,K4 _ _ eq,hx⟩
 refine⟨W,rfl,⟨_,SqL.of e4⟩,?_⟩;refine wF (xs:=(bs++[q]).map V.ref) (λi σ H'=> ∃u4,σ=[some (.ref p),some (.ref l),some (.ref wl),some (.ref D),u4,none,none]/\Same H4 H') ⟨none,rfl,Same.refl _⟩ (λi σ H' _ ⟨_,_,b⟩=>SqL.of (b _ _ e4)) ?_ ?_
 ·rintro i y σ H5 hy ⟨u4,rfl,K5⟩;obtain⟨a,ha,rfl⟩:=Κ.mp (ο hy);obtain⟨v,ev,hv⟩:=hall a ha;nofun;refine⟨wl,rfl,⟨_,SqL.of (K5 _ _ ew4)⟩,λD2 hD2=>?_⟩;refine vZ (ws:=List.range (o.length+1)) (λj=>V.ref (as.getD j 0)) (λ_=>V.int (dz v st)) (K5 _ _ ew4) (by simp; omega) hD2 (λj hj H' K' R kR=>?_) (λH6 K6 e6=>?_)
  ·have hj:=Λ.mp hj;have hwl:=xt tg (o.take j) st;have hvl:=hv.1;nofun;refine⟨a,_,v,_,rfl,K' _ _ (K5 _ _ ev),K' _ _ (K5 _ _ (tk4.t _ _ (ae j hj))),by omega,by omega,λy hy=>by have:=bd j (by omega) y hy; omega,λH'' K''=>?_⟩;rw[WD hv hst ok j (by omega)];exact kR _ K''
  nofun;refine⟨D2,(List.range (o.length+1)).map λ_=>dz v st,rfl,by rw[e6,List.map_map]; rfl,by simp; omega,λS hS=>?_⟩;rw[one_set (c:=dz v st) (λx hx=>by obtain⟨_,_,rfl⟩:=Κ.mp hx; rfl) (by simp)];have K7:Same H6 (upd H6 S (stO P w S [dz v st])):=Same.new (Same.refl _) hS;have e7:upd H6 S (stO P w S [dz v st]) S=some (stO P w S [dz v st]):=zf;nofun;refine⟨S,_,rfl,e7,?_⟩;nofun;refine⟨rfl,?_⟩;nofun;refine Zj (λh=>absurd rfl h) (λ_=>?_);nofun;exact⟨_,rfl,(K5.trans K6).trans K7⟩
 ·rintro σ H5 ⟨u4,rfl,K5⟩;have b5:=b4.trans (SB.same K5);have T5:=T4.same K5;have F5:=F4.same K5;have P5:=hP.tk (zQ F0 b5);nofun;refine⟨l,m,tg,rfl,P5,T5,λH6 q2 r hs s6 T6 hF hSm eq er=>?_,λH6 q2 r ts s6 T6 hR hSm eq er=>?_⟩
  ·have keep: ∀a u,H a=some u->a≠p->(∀ps,u≠.tbl ps)->H6 a=some u:=λa u e n ht=>s6.k T5 _ _ (b5.1 _ _ n e) ht;have ew6:=keep _ _ ew nwp (λ_ z=>by cases z);have ae6: ∀j,j<o.length+1->H6 (as.getD j 0)=some (.tup ((wk tg st (o.take j)).map V.int)):=λj hj=>s6.k T5 _ _ ((zQ F0 b5).t _ _ (ae j hj)) (λ_ z=>by cases z);nofun;refine zJ eq rfl ?_;nofun;refine⟨rfl,?_⟩;nofun;refine iteQ (by decide) ?_;nofun;refine⟨wl,rfl,⟨_,SqL.of ew6⟩,λD2 hD2=>?_⟩;refine vZ (ws:=List.range (o.length+1)) (λj=>V.ref (as.getD j 0)) (λj=>V.int (dz hs (wk tg st (o.take j)))) ew6 (by simp; omega) hD2 (λj hj H' K' R kR=>?_) (λH7 K7 e7=>?_)
   ·have hj:=Λ.mp hj;have hwl:=xt tg (o.take j) st;have hvl:=hF.len;nofun;refine zJ (K' _ _ eq) rfl ?_;nofun;exact⟨r,_,hs,_,rfl,K' _ _ er,K' _ _ (ae6 j hj),by omega,by omega,λy hy=>by have:=bd j (by omega) y hy; omega,λH'' K''=>kR _ K''⟩
   have hat: ∀(H':Hp) (Q':VK) (i:Int) (j:Nat),Same H7 H'->i=(j:Int)->j<o.length+1->Q' (.int (dz hs (wk tg st (o.take j)))) H'->rIxd (.ref D2) (.int i) H' Q':=λH' Q' i j K' e hj q=>by
    rw[e];exact zC (K' _ _ e7) (zx (by simp[hj])) q
   nofun;refine w_compR2 ?_;nofun;refine⟨D2,_,rfl,.inl (SqL.of e7),?_⟩;rw[ε,Ξ];nofun;refine⟨_,_,rfl,⟨by omega,by omega,by omega,by omega⟩,λD3 hD3=>?_⟩;rw[show(((o.length+1:Nat):Int) - 1).toNat=o.length by omega];refine ZT (λi=>V.int (1+(i:Int))) (λ_=>false) (by omega) hD3 (λi hi H' K' R kR=>?_) (λi hi hf=>by cases hf) (λH8 K8 e8=>?_)
   ·nofun;refine hat _ _ _ (i+1) K' (by omega) (by omega) ?_;nofun;refine hat _ _ _ i K' (by omega) (by omega) ?_;nofun;have:=kR _ (Same.refl _);rw[decide_eq_false (by have:=WC hF hst ok hi; omega)];exact this
   nofun;refine⟨Ι _,λz2 hz2=>?_⟩;obtain⟨H9,q,K9,e9⟩:=nob (.lst []) hz2; rw[q]; clear q;refine⟨D3,z2,[],rfl,rfl,by rw[K9 _ _ e8]; simp,e9,?_⟩;have K79:=K8.trans K9;nofun;refine iteF ?_;nofun;refine⟨wl,_,rfl,.inl (SqL.of (K79 _ _ (K7 _ _ ew6))),?_⟩;rw[ε,Ξ];nofun;refine hat _ _ _ 0 K79 rfl (by omega) ?_;nofun;have hfin:=WB hF hst ok o.length (θ _);have hnn:=dz_nn hF (st:=wk tg st (o.take o.length)) (by rw[xt]; exact hst) λx hx=>(bd o.length (θ _) x hx).1;rw[decide_eq_true (by show((o.length+1:Nat):Int) - 1<=dz hs st; omega)];have K69:=K7.trans K79;exact k _ (λa u n n1 n2 e=>K69 _ _ (s6 _ _ n1 n2 (b5.1 _ _ n e))) (T6.same K69)
  ·nofun;refine zJ eq rfl ?_;nofun;refine⟨rfl,?_⟩;nofun;refine iteP rfl ?_;nofun;refine zJ eq rfl ?_;nofun;have F6:=F5.st T5 s6;refine⟨p,l,r,m,tg,ts,rfl,F6,P5.tk (s6.tk T5),er,hR,λH7 b7 F7=>?_⟩;exact k _ (λa u n n1 n2 e=>b7.1 _ _ n (s6 _ _ n1 n2 (b5.1 _ _ n e))) (ZB T6 F6 b7)
theorem sql_keep(h:SqL K H a xs)(k: ∀u,H a=some u->(∀ps,u≠.tbl ps)->H' a=some u):SqL K H' a xs:=by
 rcases h with (h | ⟨o,h⟩) | h
 ·exact .inl (.inl (k _ h λps z=>by cases z))
 ·exact .inl (.inr ⟨o,k _ h λps z=>by cases z⟩)
 ·exact .inr h
abbrev sLaw:Stmt:=top 50
abbrev nLaw:List Str:=["_law_script","_law_k","_law_feed_here","_law_pot_here","_law_stand","_law_order_here"]
theorem yW:Nm nLaw (zd sLaw):=nmk (nofun)
theorem scLaw:FnScope nLaw ["_law_script"] (zd sLaw):=fsk (nofun)
def qLawa (s:Stmt):Scope:=match s with
 | .For _ _ [_,_,(.Assign _ (.Call _ [(.ListComp _ _ sc _)] _ _) _),_,_] _ _=>sc
 | _=>nsc
abbrev cLawa:Scope:=qLawa ((zm sLaw).getD 0 (.Pass ⟨0,0,0,0⟩))
theorem bsLawa:BScope (zd sLaw) cLawa ["_law_sort"] ["_law_feed_here"] ["_law_draw"]:={}
def Y2 (K:W.Frag) (p1 p2:Addr):Sp:=λvs H Q _=> ∃(a:Addr) (ns:List Int),vs=[.ref a]/\SqL K H a (ns.map V.int)/\ns.length<=63/\Tbs H p1 p2/\ ∀H',Q (.bl true) H'
theorem ok_Law(B:Bl mg)(fE:Has P w K mg base 1 "_law_feed" ["_law_script","_law_k"] (YK K))(fP:Has P w K mg base 4 "_law_kept_pot" ["_law_feed_here"] spKp)(fD:Has P w K mg base 1 "_law_draw" ["_law_feed_here","_law_many"] yE)(fO:Has P w K mg base 3 "_law_order" ["_law_feed_here","_law_pot_here","_law_stand"] spOr)(fW:Has P w K mg base 7 "_law_way_right" ["_law_feed_here","_law_pot_here","_law_way"] (spWr p1 p2))(fS:Has P w K mg base 3 "stands_on" ["pot","stand","order"] spOn)(F:Fun K "law" "law" sLaw f fd):FnOk P w K mg base CX0 8 f fd ["_law_script"] (Y2 K p1 p2):=by
 refine F.ok scLaw (λvs H Q E h=>?_) (λcdv A outer s H vs Q E hr h=>?_)
 ·obtain⟨a,ns,rfl,_⟩:=h;rfl
 obtain⟨a,ns,rfl,hS,hl,hT,k⟩:=h;refine'⟨_,?hb,?rd⟩
 case' hb=>skip
 case' hb=>refine' ze ?g1 ?g2
 case' g2=>refine' zi ?g3
 case' g1=>refine' ye Ψ rfl ?g4 (pgd yW 1) ?g5
 case g4=>exact yc B.range (pa_1 zg)
 case' g5=>refine' ze ?g6 ?g7
 case' g7=>refine' ze ?g8 ?g9
 case' g9=>refine' ze ?g10 ?g11
 case' g11=>refine' ze ?g12 ?g13
 case' g13=>refine' zi ?g14
 case g6=>exact zj yW 2 (pe_f fE hr (by decide) (pa_2 (pvd yW 0) (pvd yW 1)))
 case g8=>exact zj yW 3 (pe_f fP hr (by decide) (pa_1 (pvd yW 2)))
 case' g10=>refine' zj yW 4 ?g15
 case' g15=>refine' zV zz B.tuple Η ?g16
 case' g16=>refine' pa_1 ?g17
 case' g17=>refine' zy (ix:=[2]) bsLawa.toCScope rfl rfl ?g18 ?g19 ?g20 ?g21
 case g18=>exact xL (ziq (pvd yW 3) zg)
 case g19=>exact λ_ _ _ _ _ _=>pgb bsLawa 0
 case g20=>exact λ_ _ _ _ _ _=>zu
 case g21=>exact λ_ _ _ _ _ _=>ziq (zR (pa_c zg (pa_c zg (pa_2 zg (pe_f fD hr (by decide) (pa_2 (pvb bsLawa 1) zg) (bsLawa.g 0)))))) (pe_f fD hr (by decide) (pa_2 (pvb bsLawa 1) zg) (bsLawa.g 0))
 case g12=>exact zj yW 5 (pe_f fO hr (by decide) (pa_c (pvd yW 2) (pa_2 (pvd yW 3) (pvd yW 4))))
 case' g14=>refine' zZ ?g22 ?g23 zB
 case g22=>exact vA (wR (pe_f fW hr (by decide) (pa_c (pvd yW 2) (pa_2 (pvd yW 3) (pe_f fS hr (by decide) (pa_c (pvd yW 3) (pa_2 (pvd yW 4) (pvd yW 5))))))))
 case' g23=>refine' zi ?g25
 case g25=>exact zr vE
 case g3=>exact zr vE
 nofun;refine⟨_,rfl,by decide,by decide,?_⟩;refine yw (n:=8) (λi σ H'=> ∃(u1 u2 u3 u4 u5:Option V),σ=[some (.ref a),u1,u2,u3,u4,u5]/\SameT p1 p2 H H'/\Tbs H' p1 p2) ⟨_,_,_,_,_,rfl,λa u _ _ e=>e,hT⟩ ?_ ?_
 ·rintro i σ H1 hi ⟨u1,u2,u3,u4,u5,rfl,S1,T1⟩;have hS1:SqL K H1 a (ns.map V.int):=sql_keep hS λu e hu=>S1.k hT _ _ e hu;rw[Int.zero_add];nofun;refine⟨a,ns,i,rfl,hS1,hl,λp x y z hp=>?_⟩;have F2:FeedAt (upd H1 p (.lst [.int x,.int y,.int z])) p:=FeedAt.here;have k2:Same H1 (upd H1 p (.lst [.int x,.int y,.int z])):=Same.new (Same.refl _) hp;generalize upd H1 p (.lst [.int x,.int y,.int z])=H2 at F2 k2 ⊢;have T2:=T1.same k2;nofun;refine⟨p,rfl,F2,λl H3 m tg b3 F3 P3=>?_⟩;have T3:=ZB T2 F2 b3;obtain⟨ps,pr,pin,pb,ans,rs,us,g1,g2,g3,g4,hR⟩:=P3.ex;have m8:=P3.m8;nofun;refine zJ g1 rfl ?_;refine⟨ps,rfl,⟨_,SqT.of g2⟩,λD hD=>?_⟩;refine YR (S:=SB p) (ρ:=[some (.ref p)]) (xs:=us) (λ_ y _=> ∃x:Int,y= .int x/\(0<=x/\x<=30)) (Xo F3 hD) (λ_ h=>h) (λa b=>zQ (a.2 F3) b) (by omega) (λH' K'=>SqT.of ((zQ F3 K').t _ _ g2)) (λi x H' R hx K' kR=>?_) (λys H4 g e4=>?_)
  ·nofun;refine y4 (K'.2 F3) (by decide) (by decide) λr H4 r0 r1 F4 b4=>?_;nofun;refine X4 (p:=p) (n:=4) (by rfl) F4 rfl (by decide) (by show 4<=100; decide) λv H5 hv F5 b5=>kR _ _ (b4.trans b5) ?_;simp only[List.mem_cons,List.not_mem_nil,or_false] at hv;rcases hv with rfl | rfl | rfl | rfl
   ·exact⟨0,rfl,by decide⟩
   ·exact⟨3,rfl,by decide⟩
   ·exact⟨30,rfl,by decide⟩
   ·exact⟨r,rfl,by omega⟩
  obtain⟨st,rfl,hsb⟩:=Xq g.2.2;have hst:st.length=m:=by have:=g.2.1; simpa[g3] using this
  nofun;refine⟨D,_,rfl,e4,λs1 H5 K5 e5=>?_⟩;have b5:=g.1.trans (SB.same K5);have F5:=b5.2 F3;nofun;refine⟨p,l,s1,m,tg,st,rfl,F5,P3.tk (zQ F3 b5),e5,hst,λol o H6 b6 F6 e6 ok o6=>?_⟩;have b56:=b5.trans b6;have P6:=P3.tk (zQ F3 b56);nofun;refine⟨l,s1,ol,m,tg,st,o,rfl,⟨P6,(zQ F5 b6).t _ _ e5,hst,e6,by omega⟩,ok,λwl H7 K7 W7=>?_⟩;have b7:=b56.trans (SB.same K7);nofun;refine⟨p,l,wl,m,tg,st,o,rfl,F6.same K7,P6.same K7,ZB T3 F3 b7,W7,hst,hsb,ok,o6,λH8 s8 T8=>?_⟩;nofun;refine iteF ?_;nofun;exact⟨_,_,_,_,_,rfl,λa u n1 n2 e=>s8 a u (zh (S1 a u n1 n2 e) hp) n1 n2 ((b3.trans b7).1 a u (zh (S1 a u n1 n2 e) hp) (k2 _ _ (S1 a u n1 n2 e))),T8⟩
 ·rintro σ H1 ⟨u1,u2,u3,u4,u5,rfl,S1,T1⟩;nofun;exact k _
end
end K17
namespace L2
open PySem PySem.Spec PyProof.Rows
section
variable {P:Program} {w:World} {K:W.Frag} {mg:Str->Option Value} {base h:Heap} {x:Str} {st:Stmt} {ps:List Str}
theorem FnAt.lawT{l:PySem.W.OpenLaw}{k:Nat}{sp:Sp}{fa:Addr}{a:Str}{tabs:List (Addr×Addr)}(A:FnAt K x st)(X:K.In h)(G:h.Ns mainGlobals mg)(hfa:mg x=some (.ref fa))
  (b: ∀(kV doc pm:Value) (an:Option Addr) (cdv ct:Value) (s:Shared) (v:Value),BindsTo s (PySem.W.fnOf x x (zT st) (zm st) (zd st) .none kV doc pm an cdv ct) ⟨[v],[]⟩ [(a,v)])
  (ok: ∀base:Heap,K.In base->base.Ns mainGlobals mg->base.NoSeer->(∀q∈tabs,PySem.W.CodeHd base q.1 q.2)->BmIn mg base-> ∀{f fd},Fun K x x st f fd->FnOk l.prog w K mg base CX0 k f fd [a] sp):
  ∃fd:FuncData,(∀(s:Shared) (v:Value),BindsTo s fd ⟨[v],[]⟩ [(a,v)])/\ ∀base:Heap,K.In base->base.Ns mainGlobals mg->base.NoSeer->(∀q∈tabs,PySem.W.CodeHd base q.1 q.2)->BmIn mg base->FnOk l.prog w K mg base CX0 k fa fd [a] sp:=by
 obtain⟨f,oc,od,kV,doc,pm,an,cdv,ct,osl,e,l,c,k⟩:=A;cases hfa.symm.trans (PySem.W.mg_of X G e)
 exact⟨_,b _ _ _ _ _ _,λbase h1 h2 h3 h4 h5=>ok base h1 h2 h3 h4 h5 (ZS (st:=st) l c k)⟩
end
theorem Xm: ∀{K:W.Frag},K.lookup a=some o->(K++T).lookup a=some o
 | [],e=>by cases e
 | p::K,e=>by
  simp only[List.cons_append,List.lookup] at e ⊢;split
  ·rename_i h; rw[h] at e; exact e
  ·rename_i h; rw[h] at e; exact Xm e
theorem in_app{K T:W.Frag}{h:Heap}(x:W.Frag.In (K++T) h):K.In h:=λa o e=>x a o (Xm e)
theorem TabAt.nil(h:H p=some (.tbl #[])):TabAt H p q:=⟨#[],h,trivial,λ_ _ e=>by cases e⟩
theorem W0{K:W.Frag}(x:K.In h)(e:K.lookup c=some o)(a1:o.cls= .type "code")(a2:o.data= .fields vs)(a3:vs[11]? =some (.ref p))(a4:vs.getD 11 .none= .ref p)(a5:vs.getD 18 .none= .str file tf)
  (a6:vs.getD 7 .none= .int fl tg) (a7:vs.getD 9 .none= .bool i) (a8:vs.getD 10 .none= .int te tt) (a9:c≠p):PySem.W.CodeHd h c p:=⟨o,vs,file,tf,fl,tg,i,te,tt,x c o e,a1,a2,a3,a4,a5,a6,a7,a8,a9⟩
end L2
namespace K17
open PySem L2 G2
abbrev tbs:List (Addr×Addr):=[(47,45),(59,57)]
set_option maxHeartbeats 0 in
theorem all_mk{l:PySem.W.OpenLaw}{w:World}{K:W.Frag}{h:Heap}{mg:Str->Option Value}{fa:Addr}{C:Addr}(X:K.In h)(G:h.Ns mainGlobals mg)(hfa:mg "law"=some (.ref fa))
  (a1:FnAt K "common_divisor" sCq) (a2:FnAt K "without_divisor" sWd) (a3:FnAt K "sorts_rows" sSr) (a4:FnAt K "rules_rows" sRr) (a5:FnAt K "falls" sFa) (a6:FnAt K "_law_draw" Y8) (a7:FnAt K "_law_feed" Y7) (a8:FnAt K "_law_names" sNa) (a9:FnAt K "_law_rule" sRu) (a10:FnAt K "_law_pot" sPo) (a11:FnAt K "_law_kept_pot" sKp) (a12:FnAt K "first_with" sFw) (a13:FnAt K "without_column" sWc) (a14:FnAt K "reduced" sRd) (a15:FnAt K "common_multiple" sCm) (a16:FnAt K "nought_maker" sNm) (a17:FnAt K "change_of" sCo) (a18:FnAt K "all_kept" sAk) (a19:FnAt K "times_added" sTa) (a20:FnAt K "count_of" sCn) (a21:FnAt K "height_of" sHt) (a22:FnAt K "can_go" sCa) (a23:FnAt K "gone" sGo) (a24:FnAt K "stands_on" sOn) (a25:FnAt K "walked" sWa) (a26:FnAt K "_law_gone" sLg) (a27:FnAt K "_law_there" sTh) (a28:FnAt K "_law_order" sOr) (a29:FnAt K "_law_made" sMd) (a30:FnAt K "_law_round_right" sRo) (a31:FnAt K "_law_way_right" sWr) (a32:FnAt K "weighed" sWg) (a33:FnAt K "law" sLaw)
  (z1:NoIn K "len") (z2:NoIn K "range") (z3:NoIn K "tuple") (z4:NoIn K "int") (z5:NoIn K "bool") (z6:NoIn K "list") (z7:NoIn K "str") (z8:NoIn K "all") (z9:NoIn K "any") (z10:NoIn K "isinstance") (z11:NoIn K "repr") (z12:NoIn K "zip") (z13:NoIn K "min") (z14:NoIn K "max") (z15:NoIn K "sum") (z16:NoIn K "enumerate") (z17:NoIn K "sorted") (z18:NoIn K "set") (z19:NoIn K "dict") (z20:NoIn K "abs")
  (g1:IntIn K "QUICK_TURNS" (200)) (g2:IntIn K "SORTS" (0)) (g3:IntIn K "RULES" (1)) (g4:IntIn K "TAKES" (0)) (g5:IntIn K "GIVES" (1))
  (cna:PySem.W.nsIn K mainGlobals "Tableau"=some (some (.ref C)))
  (D:ClsIn K C)
  (cf1:NoAttr K C "many")
  (cf2:NoAttr K C "bottom")
  (cf3:NoAttr K C "rows")
  (cf4:NoAttr K C "row_unknowns")
  (cf5:NoAttr K C "column_unknowns")
  (cf6:NoAttr K C "turns")
  (c0:MthAt K C "is_low" "Tableau.is_low" sLo)
  (c1:MthAt K C "is_sought" "Tableau.is_sought" sSo)
  (c2:MthAt K C "__init__" "Tableau.__init__" sTi)
  (c3:MthC K C "low_row" "Tableau.low_row" sLr 47)
  (c4:MthC K C "column_for" "Tableau.column_for" sCf 59)
  (c5:MthAt K C "turned" "Tableau.turned" sTd)
  (c6:MthAt K C "turn" "Tableau.turn" sTn)
  (c7:MthAt K C "met" "Tableau.met" sMe)
  (c8:MthAt K C "borne" "Tableau.borne" sBo):
  ∃fd:FuncData,(∀(s:Shared) (v:Value),BindsTo s fd ⟨[v],[]⟩ [("_law_script",v)])/\ ∀base:Heap,K.In base->base.Ns mainGlobals mg->base.NoSeer->(∀q∈tbs,PySem.W.CodeHd base q.1 q.2)->BmIn mg base->FnOk l.prog w K mg base CX0 8 fa fd ["_law_script"] (Y2 K 45 57):=by
 replace z1:=z1.get X G;replace z2:=z2.get X G;replace z3:=z3.get X G;replace z4:=z4.get X G;replace z5:=z5.get X G;replace z6:=z6.get X G;replace z7:=z7.get X G;replace z8:=z8.get X G;replace z9:=z9.get X G;replace z10:=z10.get X G;replace z11:=z11.get X G;replace z12:=z12.get X G;replace z13:=z13.get X G;replace z14:=z14.get X G;replace z15:=z15.get X G;replace z16:=z16.get X G;replace z17:=z17.get X G;replace z18:=z18.get X G;replace z19:=z19.get X G;replace z20:=z20.get X G;replace g1:=g1.get X G;replace g2:=g2.get X G;replace g3:=g3.get X G;replace g4:=g4.get X G;replace g5:=g5.get X G;have R:TC K C:=⟨D.c,cf1,cf2,cf3,cf4,cf5,cf6⟩;have B:L2.Bl mg:=⟨z1,z2,z3,z4,z5,z6,z7,z8,z9,z10,z11,z12,z13,z14,z15,z16,z17,z18,z19,z20⟩;have Z:KZ mg:=⟨g2,g3,g4,g5⟩;refine a33.lawT X G hfa (λ_ _ _ _ _ _ _ _=> .of_eq rfl) λbase _ _ hN hTb hBm {f fd} F=>?_;have hs: ∀{x st k ps sp},FnAt K x st->(∀(kV doc pm:Value) (an:Option Addr) (cdv ct:Value) (us:List Value),us.length=ps.length->bindArgs (PySem.W.fnOf x x (zT st) (zm st) (zd st) .none kV doc pm an cdv ct) ⟨us,[]⟩=pure (ps.zip us))->(∀{f fd},Fun K x x st f fd->FnOk l.prog w K mg base CX0 k f fd ps sp)->Has l.prog w K mg base k x ps sp:=λa b c=>a.has X G b c;have Hdraw:=hs a6 (λ_ _ _ _ _ _ us hl=>match us,hl with | [_,_],_=>rfl) (ok_draw);have HNa:=hs a8 (λ_ _ _ _ _ _ us hl=>match us,hl with | [_,_],_=>rfl) (ok_Na B Hdraw);have HRu:=hs a9 (λ_ _ _ _ _ _ us hl=>match us,hl with | [_,_],_=>rfl) (ok_Ru B Hdraw);have HPo:=hs a10 (λ_ _ _ _ _ _ us hl=>match us,hl with | [_],_=>rfl) (ok_Po B Hdraw HNa HRu);have HKp:=hs a11 (λ_ _ _ _ _ _ us hl=>match us,hl with | [_],_=>rfl) (ok_Kp B Hdraw HPo);have HCa:=hs a22 (λ_ _ _ _ _ _ us hl=>match us,hl with | [_,_,_],_=>rfl) (ok_Ca B Z);have HGo:=hs a23 (λ_ _ _ _ _ _ us hl=>match us,hl with | [_,_,_],_=>rfl) (ok_Go B Z HCa);have HOn:=hs a24 (λ_ _ _ _ _ _ us hl=>match us,hl with | [_,_,_],_=>rfl) (ok_On B HCa HGo);have HLg:=hs a26 (λ_ _ _ _ _ _ us hl=>match us,hl with | [_,_,_],_=>rfl) (ok_Lg B);have HTh:=hs a27 (λ_ _ _ _ _ _ us hl=>match us,hl with | [_,_],_=>rfl) (ok_Th B HLg);have HOr:=hs a28 (λ_ _ _ _ _ _ us hl=>match us,hl with | [_,_,_],_=>rfl) (ok_Or B Hdraw HTh HLg);have HCo:=hs a17 (λ_ _ _ _ _ _ us hl=>match us,hl with | [_],_=>rfl) (ok_Co B Z);have HCd:=hs a1 (λ_ _ _ _ _ _ us hl=>match us,hl with | [_],_=>rfl) (ok_Cd B);have HCm:=hs a15 (λ_ _ _ _ _ _ us hl=>match us,hl with | [_,_],_=>rfl) (ok_Cm B HCd);have HWl:=hs a2 (λ_ _ _ _ _ _ us hl=>match us,hl with | [_],_=>rfl) (ok_Wl B HCd);have HNm:=hs a16 (λ_ _ _ _ _ _ us hl=>match us,hl with | [_,_,_,_],_=>rfl) (ok_Nm B HCm HWl);have HFw:=hs a12 (λ_ _ _ _ _ _ us hl=>match us,hl with | [_,_,_],_=>rfl) (ok_Fw B);have HWc:=hs a13 (λ_ _ _ _ _ _ us hl=>match us,hl with | [_,_,_],_=>rfl) (ok_Wc B HWl);have HRd:=hs a14 (λ_ _ _ _ _ _ us hl=>match us,hl with | [_,_],_=>rfl) (ok_Rd B HFw HWc);have HAk:=hs a18 (λ_ _ _ _ _ _ us hl=>match us,hl with | [_],_=>rfl) (ok_Ak B Z HRd HCo HNm);have HTa:=hs a19 (λ_ _ _ _ _ _ us hl=>match us,hl with | [_,_],_=>rfl) (ok_Ta B);have HCn:=hs a20 (λ_ _ _ _ _ _ us hl=>match us,hl with | [_,_],_=>rfl) (ok_Cn HTa);have HRr:=hs a4 (λ_ _ _ _ _ _ us hl=>match us,hl with | [_],_=>rfl) (ok_Rr B Z);have HSr:=hs a3 (λ_ _ _ _ _ _ us hl=>match us,hl with | [_],_=>rfl) (ok_Sr B);have HCq:=hs a1 (λ_ _ _ _ _ _ us hl=>match us,hl with | [_],_=>rfl) (ok_Cq B);have HWd:=hs a2 (λ_ _ _ _ _ _ us hl=>match us,hl with | [_],_=>rfl) (ok_Wd B HCq);have MBo:=c8.has (P:=l.prog) (w:=w) (mg:=mg) (base:=base) D (λ_ _ _ _ _ _ us hl=>match us,hl with | [_,_],_=>rfl) (ok_Bo R B HCd);have MSo:=c1.has (P:=l.prog) (w:=w) (mg:=mg) (base:=base) D (λ_ _ _ _ _ _ us hl=>match us,hl with | [_,_],_=>rfl) (ok_So R);have MCf:=c4.has (P:=l.prog) (w:=w) (mg:=mg) (base:=base) D (λ_ _ _ _ _ _ us hl=>match us,hl with | [_,_],_=>rfl) (ok_Cf R B (hTb (59,57) (by simp)) hBm g1 MSo);have MLo:=c0.has (P:=l.prog) (w:=w) (mg:=mg) (base:=base) D (λ_ _ _ _ _ _ us hl=>match us,hl with | [_,_],_=>rfl) (ok_Lo R);have MLr:=c3.has (P:=l.prog) (w:=w) (mg:=mg) (base:=base) D (λ_ _ _ _ _ _ us hl=>match us,hl with | [_],_=>rfl) (ok_Lr R B (hTb (47,45) (by simp)) hBm g1 MLo);have MMe:=c7.has (P:=l.prog) (w:=w) (mg:=mg) (base:=base) D (λ_ _ _ _ _ _ us hl=>match us,hl with | [_],_=>rfl) (ok_Me R B HCd);have HK:=c2.make (P:=l.prog) (w:=w) (base:=base) D X G cna (λ_ _ _ _ _ _ us hl=>match us,hl with | [_,_,_],_=>rfl) (ok_Ti R B);have MTd:=c5.has (P:=l.prog) (w:=w) (mg:=mg) (base:=base) D (λ_ _ _ _ _ _ us hl=>match us,hl with | [_,_,_,_,_],_=>rfl) (ok_Td R B);have MTn:=c6.has (P:=l.prog) (w:=w) (mg:=mg) (base:=base) D (λ_ _ _ _ _ _ us hl=>match us,hl with | [_,_,_],_=>rfl) (ok_Tn R B MTd);have HWg:=hs a32 (λ_ _ _ _ _ _ us hl=>match us,hl with | [_,_],_=>rfl) (ok_Wg (by decide) B HK MLr MCf MTn MMe MBo);have HFa:=hs a5 (λ_ _ _ _ _ _ us hl=>match us,hl with | [_],_=>rfl) (ok_Fa B Z HWg HSr HRr HWd);have HHt:=hs a21 (λ_ _ _ _ _ _ us hl=>match us,hl with | [_,_],_=>rfl) (ok_Ht HTa);have HMd:=hs a29 (λ_ _ _ _ _ _ us hl=>match us,hl with | [_,_,_],_=>rfl) (ok_Md B Hdraw);have HWa:=hs a25 (λ_ _ _ _ _ _ us hl=>match us,hl with | [_,_,_],_=>rfl) (ok_Wa HOn);have HRo:=hs a30 (λ_ _ _ _ _ _ us hl=>match us,hl with | [_,_,_],_=>rfl) (ok_Ro B Hdraw HWa);have HWr:=hs a31 (λ_ _ _ _ _ _ us hl=>match us,hl with | [_,_,_],_=>rfl) (ok_Wr B HAk HMd HCn HHt HFa HRo);have Hfeed:=hs a7 (λ_ _ _ _ _ _ us hl=>match us,hl with | [_,_],_=>rfl) (ok_feed z1);exact ok_Law B Hfeed HKp Hdraw HOr HWr HOn  F
theorem walk{l:PySem.W.OpenLaw}{XP:(Str->Option Value)->Heap->Prop}{YP:World->Heap->Prop}{d:DefRec}{K:Params->W.Frag}(hi:PyProof.Rows.importsNone q=true)(hn:l.most=some 63)(hdf:d.params.defaults=[])
  (hY: ∀(w:World) (h:Heap),YP w h->(K w.params).In h) (hYT: ∀(w:World) (h:Heap),YP w h->PySem.W.TabsAt tbs h) (hKT: ∀P,PySem.W.noTabs (K P)=true)
  (F: ∀(w:World) (mg:Str->Option Value) (fa:Addr) (h:Heap),(K w.params).In h->h.Ns mainGlobals mg->mg d.name=some (.ref fa)->
   ∃fd:FuncData,(∀(s:Shared) (u:Value),BindsTo s fd ⟨[u],[]⟩ [("_law_script",u)])/\ ∀base:Heap,(K w.params).In base->base.Ns mainGlobals mg->base.NoSeer->(∀q∈tbs,PySem.W.CodeHd base q.1 q.2)->BmIn mg base->FnOk l.prog w (K w.params) mg base CX0 8 fa fd ["_law_script"] (Y2 (K w.params) 45 57)):
  PySem.W.WalkO q loose XP YP l.row.toRowW d [] (λf vs=>PySem.call f vs):=
 L2.walk_ofT (n:=63) (k:=8) (x:="_law_script") (CX:=λ_=>CX0) (sp:=λw=>Y2 (K w.params) 45 57) (tabs:=tbs) hn (by decide) hdf ⟨rfl,by decide,by decide,rfl⟩ hi hY hYT hKT F (λ_ H a ns hl hO hT hS=>⟨a,ns,rfl,hS,hl,⟨TabAt.nil (hT (47,45) (by simp)),TabAt.nil (hT (59,57) (by simp))⟩,λ_=>rfl⟩) λ_ _ _ _ _ z=>z
theorem noT: ∀P,PySem.W.noTabs (KK P)=true:=λ_=>by kernel_rfl
theorem tabT(x:(KT P).In h):PySem.W.TabsAt tbs h:=λq hq=>by
 simp only[tbs,List.mem_cons,List.not_mem_nil,or_false] at hq;rcases hq with rfl | rfl
 ·exact⟨W0 (o:=cO "low_row" 242 "Tableau.low_row" 243 244 32 1 3 (.ref 44) (.ref 45) .none .none (.ref 46) 245 246) x (by kernel_rfl) rfl rfl rfl rfl rfl rfl rfl rfl (by decide),x _ _ (by kernel_rfl)⟩
 ·exact⟨W0 (o:=cO "column_for" 256 "Tableau.column_for" 257 258 41 2 3 (.ref 56) (.ref 57) .none .none (.ref 58) 259 260) x (by kernel_rfl) rfl rfl rfl rfl rfl rfl rfl rfl (by decide),x _ _ (by kernel_rfl)⟩
end K17
open PySem PySem.W PyProof.Rows
set_option maxRecDepth 100000 in
set_option maxHeartbeats 0 in
theorem PySem.Challenge.cw_dropsums_k17_whole_stays_and_falls_on_th_holds : PySem.Challenge.rw_dropsums_k17_whole_stays_and_falls_on_th.Holds := by
 w_on
 refine PySem.W.holds_law K17.said0 λsaid=>?_;refine PySem.W.holds_open (q:=K17.VW) (loose:=[]) (Xt:=λs=>PySem.W.xlAt K17.VW [] s&&PySem.W.recOk (PySem.W.RowW.records K17.RR.toRowW) s) (XP:=PySem.W.XL K17.VW []) (Yf:=PySem.W.Hook.obs (PySem.W.kHook K17.KT K17.KA K17.ke)) (Ya:=PySem.W.Hook.val (PySem.W.kHook K17.KT K17.KA K17.ke)) (YP:=PySem.W.Hook.says (PySem.W.kHook K17.KT K17.KA K17.ke)) (N:=4014) K17.left0 (PySem.W.Hook.of _) (PySem.W.Hook.keeps _) (λs e=>PySem.W.xl_of s (Bool.and_eq_true_iff.mp e).1) PySem.W.XL.keeps (by rfl) (by rfl) (by rfl) (λs e=>PySem.W.recFacts_of (Bool.and_eq_true_iff.mp e).2) (by rfl) said (nofun) ⟨rfl,rfl,rfl,rfl,rfl,nofun⟩ ?hw ?hc
 case hw=>w_witness2
 refine K17.walk (l:=PySem.Challenge.rw_dropsums_k17_whole_stays_and_falls_on_th) (K:=K17.KK) (by rfl) rfl rfl (λw h Y=>L2.in_app (PySem.W.kIn_of Y)) (λw h Y=>K17.tabT (PySem.W.kIn_of Y)) K17.noT ?F
 case F=>
  k_fill
  intro w mg fa h KX G hmg;refine' K17.all_mk KX G hmg ?a1 ?a2 ?a3 ?a4 ?a5 ?a6 ?a7 ?a8 ?a9 ?a10 ?a11 ?a12 ?a13 ?a14 ?a15 ?a16 ?a17 ?a18 ?a19 ?a20 ?a21 ?a22 ?a23 ?a24 ?a25 ?a26 ?a27 ?a28 ?a29 ?a30 ?a31 ?a32 ?a33 ?z1 ?z2 ?z3 ?z4 ?z5 ?z6 ?z7 ?z8 ?z9 ?z10 ?z11 ?z12 ?z13 ?z14 ?z15 ?z16 ?z17 ?z18 ?z19 ?z20 ?g1 ?g2 ?g3 ?g4 ?g5 ?cna ?D ?cf1 ?cf2 ?cf3 ?cf4 ?cf5 ?cf6 ?c0 ?c1 ?c2 ?c3 ?c4 ?c5 ?c6 ?c7 ?c8
  all_goals first | exact L2.fnAt (by k_is) (by k_is) (by k_is) (by k_is) | exact L2.noIn (by k_is) | exact L2.intIn (by k_is) | exact L2.clsIn (by k_is) (by k_is) (by k_is) (by k_is) (by k_is) (by k_is) | exact L2.noAttr (by k_is) | exact L2.mthAt (by k_is) (by k_is) (by k_is) (by k_is) (by k_is) | exact L2.mthC (by k_is) (by k_is) (by k_is) (by k_is) (by k_is) | k_is | skip
