import PyProof.Rows.All
import Wide.All
import OpenK.AllK
import Wide.FinOn
import Lean
import PyProof.EqAt
import PyProof.EqKinds
import PyProof.TupleCall
import PyProof.Rows.SumAny
import PyProof.Draws
import PyProof.ZipIter
import PyProof.EnumMake
import PyProof.Rows.ZipGen
import PyProof.FitsInt
import PyProof.ReprLen
import KE.IntBitsLaws
import PyProof.NeData
import PyProof.ConsumeWalk
import PyProof.WalkInts
import PyProof.Rows.SeqMore
import PyProof.ListMulRoad
import PyProof.DictUpdate
import KE.KRevSl
import PyProof.MeetsStr
import PyProof.StrBlockG
import PyProof.CallStr
import KE.KIntText
import PyProof.StrLawsTight
import PyProof.StrLawsChain
import PyProof.StrLawsJoin
import PyProof.StrWalks
import KE.KSortTup
import PyProof.TupleOfStr
import PyProof.ListRange
import PyProof.SliceStr
import PyProof.StrBlockI
import PyProof.SeqRoads
import PyProof.NsDelKeeps
import PyProof.RulesAs
import KE.KIsAll
import PyProof.Rows.SetFrom
import PyProof.WalksMore
import PyProof.FactsAll.subtypes_4
import PyProof.MeetsStr2
import PyProof.Rows.Range3
import PyProof.StrLawsRepr
import PyProof.StrOps2
import PyProof.ListStr
import PyProof.StrLawsIn
import PyProof.StrLawsIdx
import PyProof.StrCalls6
import PyProof.MeetsStr3
import PyProof.StrOps
import KE.KDictList
import PyProof.Rows.TupDisplay
import PySem.Challenge.RW_dropsums_k16_falls_or_a_round
set_option autoImplicit true
set_option relaxedAutoImplicit true
theorem sz1:1≤PySem.sizeLine:=by decide
theorem sz2:2≤PySem.sizeLine:=by decide
theorem sz3:3≤PySem.sizeLine:=by decide
theorem sz4:4≤PySem.sizeLine:=by decide
theorem sz5:5≤PySem.sizeLine:=by decide
theorem sz6:6≤PySem.sizeLine:=by decide
theorem sz8:8≤PySem.sizeLine:=by decide
set_option Elab.async false
set_option linter.all false
set_option maxRecDepth 100000
set_option maxHeartbeats 4000000
theorem sz0:0≤PySem.sizeLine:=by decide
theorem sz7:7≤PySem.sizeLine:=by decide
namespace L2
open PySem PySem.Spec PyProof.Rows
abbrev Key:=Sum Int Str
def X3:Key→Value→Bool
 | .inl k,v=>Value.isInt k v
 | .inr x,v=>Value.isStrOf x v
def keyH (w:World):Key→Int
 | .inl k=>hashInt k
 | .inr x=>hashStr w x
theorem zV: ∀{k:Key} {v:Value},X3 k v=true→(∃i t,k=Sum.inl i∧v=Value.int i t)∨(∃x t,k=Sum.inr x∧v=Value.str x t)
 | .inl i,v,h=>by
  obtain⟨t,e⟩:=Value.isInt_shape (k:=i) (v:=v) h;exact .inl ⟨i,t,rfl,e⟩
 | .inr x,v,h=>by
  obtain⟨t,e⟩:=Value.isStrOf_shape (x:=x) (v:=v) h;exact .inr ⟨x,t,rfl,e⟩
theorem key_ll(a b:Int):decide ((Sum.inl a:Key)=Sum.inl b)=(a==b):=by
 by_cases e:a=b
 ·subst e; simp
 ·have h: ¬(Sum.inl a:Key)=Sum.inl b:=fun q=>e (Sum.inl.inj q);rw[decide_eq_false h];exact(beq_eq_false_iff_ne.mpr e).symm
theorem key_rr(a b:Str):decide ((Sum.inr a:Key)=Sum.inr b)=decide (a=b):=by
 by_cases e:a=b
 ·subst e; simp
 ·have h: ¬(Sum.inr a:Key)=Sum.inr b:=fun q=>e (Sum.inr.inj q);rw[decide_eq_false h,decide_eq_false e]
theorem key_lr(a:Int)(b:Str):decide ((Sum.inl a:Key)=Sum.inr b)=false:=decide_eq_false (fun q=>nomatch q)
theorem key_rl(a:Str)(b:Int):decide ((Sum.inr a:Key)=Sum.inl b)=false:=decide_eq_false (fun q=>nomatch q)
def YF (prog:Program) (w:World):PySem.KeyKind prog w Key where
 is:=X3
 hash:=keyH w
 inj:=fun v a b ha hb=>by
  rcases zV ha with ⟨i,t,rfl,rfl⟩ | ⟨x,t,rfl,rfl⟩
  ·rcases zV hb with ⟨j,u,rfl,e⟩ | ⟨y,u,rfl,e⟩
   ·injection e with e1 _; rw[e1]
   ·exact nomatch e
  ·rcases zV hb with ⟨j,u,rfl,e⟩ | ⟨y,u,rfl,e⟩
   ·exact nomatch e
   ·injection e with e1 _; rw[e1]
 byValue:=fun k v h=>by
  rcases zV h with ⟨i,t,rfl,rfl⟩ | ⟨x,t,rfl,rfl⟩<;>rfl
 pyHash:=fun hv h=>by
  rcases zV hv with ⟨i,t,rfl,rfl⟩ | ⟨x,t,rfl,rfl⟩
  ·exact wpAny_pyHash_int h
  ·exact wpAny_pyHash_str h
 eqBool:=fun hu hv h=>by
  rcases zV hu with ⟨i,t,rfl,rfl⟩ | ⟨x,t,rfl,rfl⟩
  ·rcases zV hv with ⟨j,u,rfl,rfl⟩ | ⟨y,u,rfl,rfl⟩
   ·rw[key_ll] at h; exact wpAny_eqBool_int h
   ·rw[key_lr] at h; exact SeqAt.EqAt.int_str i t y u _ _ _ _ h
  ·rcases zV hv with ⟨j,u,rfl,rfl⟩ | ⟨y,u,rfl,rfl⟩
   ·rw[key_rl] at h; exact SeqAt.EqAt.str_int x t j u _ _ _ _ h
   ·rw[key_rr] at h; exact wpAny_eqBool_str h
 «strs»:=fun k x t v h=>by
  rcases zV h with ⟨i,u,rfl,e⟩ | ⟨y,u,rfl,e⟩
  ·exact nomatch e
  ·injection e with e1 _
   subst e1;cases v<;>rfl
inductive V where
 | non | bl (b:Bool) | int (i:Int) | str (x:Str) | byt (b:Array UInt8) | flt (b:UInt64) | ref (a:Addr) | ty (n:String)
 deriving DecidableEq
def RelV:V→Value→Prop
 | .non,u=>u=Value.none
 | .bl b,u=>u=Value.bool b
 | .int i,u=> ∃t,u=Value.int i t
 | .str x,u=> ∃t,u=Value.str x t
 | .byt b,u=> ∃t,u=Value.bytes b t
 | .flt b,u=> ∃t,u=Value.float b t
 | .ref a,u=>u=Value.ref a
 | .ty n,u=>u=Value.type n
abbrev Vals:List V→List Value→Prop:=Paired RelV
theorem Vals.length(r:Vals xs us):xs.length=us.length:=Paired.length r
theorem Vals.get: ∀{xs:List V} {us:List Value} {i:Nat} {x:V},Vals xs us→xs[i]? =some x→ ∃u,us[i]? =some u∧RelV x u
 | _,_,_,_,.nil,e=>by simp at e
 | _,_,0,_,.cons r _,e=>by simp at e; subst e; exact⟨_,rfl,r⟩
 | _,_,i+1,x,.cons _ t,e=>by
  obtain⟨u,h1,h2⟩:=Vals.get (i:=i) (x:=x) t (by simpa using e);exact⟨u,by simpa using h1,h2⟩
theorem Vals.set(r:RelV x u): ∀{xs:List V} {us:List Value} (i:Nat),Vals xs us→Vals (xs.set i x) (us.set i u)
 | _,_,_,.nil=> .nil
 | _,_,0,.cons _ t=> .cons r t
 | _,_,i+1,.cons q t=> .cons q (Vals.set r i t)
theorem Vals.append: ∀{xs ys:List V} {us ws:List Value},Vals xs us→Vals ys ws→Vals (xs++ys) (us++ws)
 | _,_,_,_,.nil,s=>s
 | _,_,_,_,.cons r t,s=> .cons r (Vals.append t s)
theorem Vals.take: ∀{xs:List V} {us:List Value} (n:Nat),Vals xs us→Vals (xs.take n) (us.take n)
 | _,_,0,_=> .nil
 | _,_,_+1,.nil=> .nil
 | _,_,n+1,.cons r t=> .cons r (Vals.take n t)
theorem Vals.drop: ∀{xs:List V} {us:List Value} (n:Nat),Vals xs us→Vals (xs.drop n) (us.drop n)
 | _,_,0,r=>r
 | _,_,_+1,.nil=> .nil
 | _,_,n+1,.cons _ t=>Vals.drop n t
def RelO:Option V→Option Value→Prop
 | some v,some u=>RelV v u
 | none,none=>True
 | _,_=>False
def KV {κ:Type}:List (κ×V)→List (κ×Value)→Prop:=Paired fun(p:κ×V) (q:κ×Value)=>p.1=q.1∧RelV p.2 q.2
def kV:Key→V
 | .inl i=> .int i
 | .inr x=> .str x
inductive HO where
 | lst (xs:List V)
 | tup (xs:List V)
 | dK (kvs:List (Key×V)) | dT (kvs:List (List Key×V))
 | set (S:Int→Bool) (n:Nat)
 | ins (C dx:Addr) (fs:List (Str×V))
 | own (x:Addr)
 | xd (fs:List (Str×V))
 | met (f x:Addr)
 | rng (lo hi:Int)
 | frz (o:Obj) (u:HO)
 | tbl (ps:Array Value)
 | ext (φ:Heap→Prop)
abbrev Hp:=Addr→Option HO
def upd (H:Hp) (a:Addr) (o:HO):Hp:=fun b=>if b=a then some o else H b
theorem zf:upd H a o a=some o:=by unfold upd; rw[if_pos rfl]
theorem zh(h:b≠a):upd H a o b=H b:=by unfold upd; rw[if_neg h]
theorem wk:upd (upd H a o) a u=upd H a u:=by
 funext b; unfold upd; split<;>rfl
theorem vX{H:Hp}{a b:Addr}{o u:HO}(h:H a=some o)(h':H b=some u)(d:o≠u):a≠b:=by
 intro e; subst e; rw[h] at h'; exact d (Option.some.inj h')
theorem zi{H:Hp}{a b:Addr}{o:HO}(h:H a=some o)(h':H b=none):a≠b:=by
 intro e; subst e; rw[h] at h'; cases h'
section
variable (P:Program) (w:World)
def ObjOk (H:Hp) (h:Heap) (a:Addr):HO→Prop
 | .lst xs=>xs.length≤sizeLine∧ ∃(its:List Value) (n:Nat),Vals xs its∧h.get? a=some {cls:= .type "list",data:= .seq its.toArray n}
 | .tup xs=>xs.length≤sizeLine∧ ∃its:List Value,Vals xs its∧IsTup h a its.toArray
 | .dK kvs=>kvs.length≤sizeLine∧(a==sysModules)=false∧ ∃vs,KV kvs vs∧h.DictOf (YF P w) a vs
 | .dT kvs=>kvs.length≤sizeLine∧(a==sysModules)=false∧ ∃xs:List (List Key×Addr×Value),
   Paired (fun(p:List Key×V) (q:List Key×Addr×Value)=>p.1=q.1∧H q.2.1=some (.tup (p.1.map kV))∧RelV p.2 q.2.2) kvs xs∧
   ∃o es ep,h.get? a=some o∧o.ExactDict∧o.data= .dict es ep∧es.toList=xs.map (entryOfKey (tupleKind (YF P w)))∧(xs.map (·.1)).Nodup
 | .set S n=>h.SetOf (intKind P w) a S n
 | .ins C dx fs=>H dx=some (.own a)∧fs.length≤1000∧dx≠a∧h.get? a=some (PySem.W.instObj C dx)∧
   ∃mA,h.Ns1 dx mA∧(∀f,RelO (fs.lookup f) (mA f))∧PySem.Within mA (fs.map (·.1))
 | .own _=> ∃o,h.get? a=some o
 | .xd fs=> ∃mA,h.Ns1 a mA∧ ∀f,RelO (fs.lookup f) (mA f)
 | .rng lo hi=> ∃t u v,h.get? a=some {cls:= .type "range",data:= .fields #[.int lo t,.int hi u,.int 1 v]}
 | .frz o u=>h.get? a=some o∧ObjOk H h a u
 | .tbl ps=>h.get? a=some {cls:= .none,data:= .fields ps}
 | .met f x=>h.get? a=some (PySem.W.methodObj (.ref f) (.ref x))
 | .ext φ=>φ h∧(∃o,h.get? a=some o)∧ ∀h1 h2:Heap,φ h1→(∀o,h1.get? a=some o→h2.get? a=some o)→φ h2
def HOk (H:Hp) (h:Heap):Prop:= ∀a o,H a=some o→ObjOk P w H h a o
end
section
variable {P:Program} {w:World} {H H':Hp} {h h':Heap} {a:Addr} {o:HO}
theorem ObjOk.lt(x:ObjOk P w H h a o):a<h.objs.size:=by
 cases o with
 | lst xs=>obtain⟨_,_,_,_,e⟩:=x; exact Heap.lt_size e
 | tup xs=>obtain⟨_,_,_,p⟩:=x; exact p.lt
 | dK kvs=>obtain⟨_,_,_,_,o,_,_,e,_⟩:=x; exact Heap.lt_size e
 | dT kvs=>obtain⟨_,_,_,_,o,_,_,e,_⟩:=x; exact Heap.lt_size e
 | set S n=>obtain⟨o,_,_,_,e,_⟩:=x; exact Heap.lt_size e
 | ins C dx fs=>obtain⟨_,_,_,e,_⟩:=x; exact Heap.lt_size e
 | own y=>obtain⟨_,e⟩:=x; exact Heap.lt_size e
 | xd fs=>obtain⟨_,⟨_,_,_,e,_⟩,_⟩:=x; exact Heap.lt_size e
 | rng lo hi=>obtain⟨_,_,_,e⟩:=x; exact Heap.lt_size e
 | frz ob u=>obtain⟨e,_⟩:=x; exact Heap.lt_size e
 | tbl ps=>exact Heap.lt_size (show h.get? a=some _ from x)
 | met f y=>exact Heap.lt_size (show h.get? a=some _ from x)
 | ext φ=>obtain⟨_,⟨_,e⟩,_⟩:=x; exact Heap.lt_size e
theorem Paired.mapP{F G:α→β→Prop}: ∀{l₁:List α} {l₂:List β},Paired F l₁ l₂→(∀a b,F a b→G a b)→Paired G l₁ l₂
 | _,_,.nil,_=> .nil
 | _,_,.cons r t,f=> .cons (f _ _ r) (Paired.mapP t f)
theorem ObjOk.stay(x:ObjOk P w H h a o)(k: ∀b u,(b=a∨H b=some (.own a))→h.get? b=some u→h'.get? b=some u)
  (ho: ∀b,H b=some (.own a)→H' b=some (.own a)) (ht: ∀b xs,H b=some (.tup xs)→H' b=some (.tup xs)):ObjOk P w H' h' a o:=by
 induction o with
 | lst xs=>obtain⟨z,its,n,r,e⟩:=x; exact⟨z,its,n,r,k _ _ (.inl rfl) e⟩
 | tup xs=>obtain⟨z,its,r,ob,e,c⟩:=x; exact⟨z,its,r,ob,k _ _ (.inl rfl) e,c⟩
 | dK kvs=>obtain⟨z,y,vs,r,ob,es,ep,e,c⟩:=x; exact⟨z,y,vs,r,ob,es,ep,k _ _ (.inl rfl) e,c⟩
 | dT kvs=>
  obtain⟨z,y,xs,r,ob,es,ep,e,c⟩:=x;exact⟨z,y,xs,Paired.mapP r fun p q z=>⟨z.1,ht _ _ z.2.1,z.2.2⟩,ob,es,ep,k _ _ (.inl rfl) e,c⟩
 | set S n=>obtain⟨ob,es,ep,t,e,c⟩:=x; exact⟨ob,es,ep,t,k _ _ (.inl rfl) e,c⟩
 | ins C dx fs=>
  obtain⟨d,z,ne,e,mA,⟨od,es,ep,e2,c⟩,r⟩:=x;exact⟨ho _ d,z,ne,k _ _ (.inl rfl) e,mA,⟨od,es,ep,k _ _ (.inr d) e2,c⟩,r⟩
 | own y=>obtain⟨ob,e⟩:=x; exact⟨ob,k _ _ (.inl rfl) e⟩
 | xd fs=>obtain⟨mA,⟨od,es,ep,e,c⟩,r⟩:=x; exact⟨mA,⟨od,es,ep,k _ _ (.inl rfl) e,c⟩,r⟩
 | rng lo hi=>obtain⟨t,u,v,e⟩:=x; exact⟨t,u,v,k _ _ (.inl rfl) e⟩
 | frz ob u ih=>obtain⟨e,q⟩:=x; exact⟨k _ _ (.inl rfl) e,ih q⟩
 | tbl ps=>
  have e:h.get? a=some {cls:= .none,data:= .fields ps}:=x;show h'.get? a=some {cls:= .none,data:= .fields ps};exact k a _ (.inl rfl) e
 | met f y=>
  have e:h.get? a=some (PySem.W.methodObj (.ref f) (.ref y)):=x;show h'.get? a=some (PySem.W.methodObj (.ref f) (.ref y));exact k a _ (.inl rfl) e
 | ext φ=>obtain⟨p,⟨o,e⟩,st⟩:=x; exact⟨st _ _ p fun o q=>k _ _ (.inl rfl) q,⟨o,k _ _ (.inl rfl) e⟩,st⟩
theorem HOk.lt(x:HOk P w H h)(e:H a=some o):a<h.objs.size:=(x a o e).lt
theorem HOk.fresh(x:HOk P w H h)(e:h.objs.size≤a):H a=none:=by
 cases q:H a with
 | none=>rfl
 | some u=>exact absurd (Nat.lt_of_lt_of_le (x.lt q) e) (Nat.lt_irrefl _)
theorem HOk.kept(x:HOk P w H h)(k: ∀b u,h.get? b=some u→h'.get? b=some u):HOk P w H h':=fun a o e=>
 (x a o e).stay (fun b u _ q=>k b u q) (fun _ q=>q) fun _ _ q=>q
theorem HOk.laid(x:HOk P w H h)(k: ∀b u,h.get? b=some u→h'.get? b=some u)(hp:h.objs.size≤a)(new:ObjOk P w (upd H a o) h' a o):HOk P w (upd H a o) h':=fun b u e=>by
 have hn:=x.fresh hp;by_cases hb:b=a
 ·subst hb; rw[zf] at e; cases e; exact new
 ·rw[zh hb] at e;exact(x b u e).stay (fun c v _ q=>k c v q) (fun c q=>by rw[zh (zi q hn)]; exact q) fun c xs q=>by rw[zh (zi q hn)]; exact q
end
def Rd (H:Hp) (a:Addr) (u:HO):Prop:=H a=some u∨ ∃o,H a=some (.frz o u)
theorem Rd.ok(r:Rd H a u)(x:HOk P w H h):ObjOk P w H h a u:=by
 rcases r with r | ⟨o,r⟩
 ·exact x a u r
 ·obtain⟨_,q⟩:=x a _ r;exact q
def Mut:Option HO→Prop
 | some (.lst _)=>True
 | some (.dK _)=>True
 | some (.dT _)=>True
 | some (.set _ _)=>True
 | some (.ins _ _ _)=>True
 | some (.ext _)=>True
 | _=>False
section
variable {P:Program} {w:World} {H:Hp} {h h':Heap} {x e:Addr} {o':HO}
theorem HOk.write(ok:HOk P w H h)(mu:Mut (H x))(he:e=x∨H e=some (.own x))(k: ∀b u,b≠e→h.get? b=some u→h'.get? b=some u)(heo: ∃u,h'.get? e=some u)
  (new:ObjOk P w (upd H x o') h' x o'):HOk P w (upd H x o') h':=fun b u q=>by
 have nown: ∀c y,H c=some (.own y)→c≠x:=fun c y r z=>by subst z; rw[r] at mu; exact mu
 have ntup: ∀c xs,H c=some (.tup xs)→c≠x:=fun c xs r z=>by subst z; rw[r] at mu; exact mu
 by_cases hb:b=x
 ·subst hb; rw[zf] at q; cases q; exact new
 ·rw[zh hb] at q;by_cases hbe:b=e
  ·have q':H b=some (.own x):=by
    rcases he with z | z
    ·exact absurd (hbe.trans z) hb
    ·rw[hbe]; exact z
   rw[q] at q'; cases q';obtain⟨v,hv⟩:=heo;exact⟨v,by rw[hbe]; exact hv⟩
  ·refine(ok b u q).stay (fun c v hc r=>k c v ?_ r) (fun c r=>by rw[zh (nown c b r)]; exact r) fun c xs r=>by rw[zh (ntup c xs r)]; exact r
   rcases hc with rfl | hc
   ·exact hbe
   ·rintro rfl;rcases he with z | z
    ·exact nown c b hc z
    ·rw[hc] at z; cases z; exact hb rfl
end
structure Un (fs ex:List Addr) (H H':Hp) (h h':Heap):Prop where
 keep: ∀b o,h.get? b=some o→H b=none→b∉fs→b∉ex→h'.get? b=some o
 slot: ∀b o,h.get? b=some o→H b=none→b∈fs→b∉ex→ ∃sl,h'.get? b=some {o with slots:=sl}
 free: ∀b o,h.get? b=some o→H b=none→b∉ex→H' b=none
 there: ∀b o,h.get? b=some o→b∉ex→ ∃o',h'.get? b=some o'
 tups: ∀b xs,H b=some (.tup xs)→H' b=some (.tup xs)
 frzs: ∀b o u,H b=some (.frz o u)→H' b=some (.frz o u)
 tbls: ∀b ps,H b=some (.tbl ps)→ ∃more,H' b=some (.tbl (ps++more))
section
variable {fs fs' ex ex':List Addr} {H H1 H2:Hp} {h h1 h2 h':Heap} {a x e:Addr} {o:HO}
theorem Un.any(u:Un fs ex H H1 h h1)(q:h.get? b=some ob)(n:H b=none)(hx:b∉ex): ∃sl,h1.get? b=some {ob with slots:=sl}:=by
 by_cases hb:b∈fs
 ·exact u.slot b ob q n hb hx
 ·exact⟨ob.slots,u.keep b ob q n hb hx⟩
theorem Un.kept(k: ∀b u,h.get? b=some u→h'.get? b=some u):Un fs ex H H h h':=
 ⟨fun b ob q _ _ _=>k b ob q,fun b ob q _ _ _=>⟨ob.slots,k b ob q⟩,fun _ _ _ n _=>n,fun b ob q _=>⟨ob,k b ob q⟩,fun _ _ q=>q,fun _ _ _ q=>q,fun _ ps q=>⟨#[],by rw[q]; simp⟩⟩
theorem Un.refl:Un fs ex H H h h:=Un.kept fun _ _ q=>q
theorem Un.laid(k: ∀b u,h.get? b=some u→h'.get? b=some u)(hp:h.objs.size≤a)(hn:H a=none):Un fs ex H (upd H a o) h h' where
 keep:=fun b u q _ _ _=>k b u q
 slot:=fun b u q _ _ _=>⟨u.slots,k b u q⟩
 free:=fun b u q n _=>by rw[zh (Nat.ne_of_lt (Nat.lt_of_lt_of_le (Heap.lt_size q) hp))]; exact n
 there:=fun b u q _=>⟨u,k b u q⟩
 tups:=fun b xs q=>by rw[zh (zi q hn)]; exact q
 frzs:=fun b u xs q=>by rw[zh (zi q hn)]; exact q
 tbls:=fun b ps q=>⟨#[],by rw[zh (zi q hn),q]; simp⟩
theorem Un.write(mu:Mut (H x))(he:e=x∨H e=some (.own x))(k: ∀b u,b≠e→h.get? b=some u→h'.get? b=some u)(heo: ∃u,h'.get? e=some u):Un fs ex H (upd H x o) h h':=by
 have hx: ∀b,H b=none→b≠x:=fun b n z=>by subst z; rw[n] at mu; exact mu
 have hb: ∀b,H b=none→b≠e:=fun b n z=>by
  subst z;rcases he with r | r
  ·exact hx b n r
  ·rw[n] at r; cases r
 have hm: ∀b u,H b=some u→ ¬Mut (some u)→b≠x:=fun b u q nm z=>by subst z; rw[q] at mu; exact nm mu
 refine⟨fun b u q n _ _=>k b u (hb b n) q,fun b u q n _ _=>⟨u.slots,k b u (hb b n) q⟩,fun b u q n _=>by rw[zh (hx b n)]; exact n,fun b u q _=>?_,
  fun b xs q=>by rw[zh (hm b _ q fun z=>z)]; exact q,fun b u xs q=>by rw[zh (hm b _ q fun z=>z)]; exact q,fun b ps q=>⟨#[],by rw[zh (hm b _ q fun z=>z),q]; simp⟩⟩
 by_cases hbe:b=e
 ·subst hbe; exact heo
 ·exact⟨u,k b u hbe q⟩
end
def trk (h:Heap) (H:Hp):List Addr:=(List.range h.objs.size).filter fun a=>(H a).isSome
def hidT (h:Heap) (H:Hp):Heap:=PySem.W.hideAll h (trk h H)
theorem v9(h:Heap)(H:Hp):(hidT h H).objs.size=h.objs.size:=PySem.W.hideAll_size _ _
theorem ZR{h:Heap}(e:h.get? b=some o)(n:H b=none):(hidT h H).get? b=some o:=
 PySem.W.hideAll_get _ e fun hm=>by
  have q:(H b).isSome=true:=(List.mem_filter.mp hm).2;rw[n] at q; simp at q
theorem YC(e:(hidT h H).get? b=some o):h.get? b=some o∧H b=none:=by
 have e':h.get? b=some o:=PySem.W.of_hideAll (trk h H) e;refine⟨e',?_⟩;cases q:H b with
 | none=>rfl
 | some x=>
  have hm:b∈trk h H:=List.mem_filter.mpr ⟨List.mem_range.mpr (Heap.lt_size e'),by simp[q]⟩;have z:(hidT h H).get? b=none:=PySem.W.hideAll_none (trk h H) hm;rw[z] at e; cases e
def allNews (g h:Heap) (L:Addr):List (Addr×Obj):=(List.range h.objs.size).filterMap fun a=>if a=L∨(g.get? a).isSome=true then none else (h.get? a).map fun o=>(a,o)
def rest (g h:Heap) (L d:Addr):List (Addr×Obj):=(allNews g h L).filter fun p=>decide (p.1≠d)
structure Mod (K:W.Frag) (mg:Str→Option Value) (base:Heap):Prop where
 kin:K.In base
 glob:base.Ns mainGlobals mg
 blt: ∃mb,base.Ns builtinsNs mb∧ ∀x:Str,x≠"__name__"→mb x=bootBuiltins x
 nolimit:base.NoLimit
structure Cx where
 prog:Program
 w:World
 K:W.Frag
 mg:Str→Option Value
 base:Heap
 A:Around
 N:List Str
 s₀:Shared
 H₀:Hp
 env:Env
 outer:List Env
 stack:List Env
 ex:List Addr
 fn:Str→Bool
 calm:Bool
 pn:List (Addr×Obj)
 xe:Value→Shared→Prop
def frs (l:List Env):List Addr:=l.filterMap (·.frame)
abbrev Cx.fs (X:Cx):List Addr:=frs X.outer
def Vis (sc:Scope) (x:Str):Prop:=sc.names.lookup x=some .local∨sc.names.lookup x=some .cell∨sc.names.lookup x=some .free
def Loc (sc:Scope) (x:Str):Prop:=sc.names.lookup x=some .local∨sc.names.lookup x=some .cell
def Look (env:Env) (h:Heap) (m:Str→Option Value) (x:Str) (u:Value):Prop:=
 (env.kindOf x=some .local∧m x=some u)∨((env.kindOf x=some .cell∨env.kindOf x=some .free)∧ ∃c,env.cells.lookup x=some c∧h.IsCell c (some u))
structure Cx.Ok (X:Cx):Prop where
 mod:Mod X.K X.mg X.base
 kind:X.env.scope.kind= .function
 glob:X.env.globals=mainGlobals
 blt:X.env.builtins=builtinsNs
 above:X.s₀.heap.objs.size≤X.env.locals
 inj: ∀x y c,X.env.cells.lookup x=some c→X.env.cells.lookup y=some c→x=y
 has: ∀x,(X.env.kindOf x=some .cell∨X.env.kindOf x=some .free)→ ∃c,X.env.cells.lookup x=some c
 cab: ∀x c,X.fn x=true→X.env.cells.lookup x=some c→X.s₀.heap.objs.size≤c
 hd:X.calm=true→X.A.handled=none
 frames:X.A.frames=some X.stack
 stk:X.stack=X.outer∨(X.stack=X.env::X.outer∧X.env.frame=some X.env.locals)
 exf: ∀b∈X.ex,b≠X.env.locals∧ ∀x c,X.env.cells.lookup x=some c→c≠b
 bs: ∀b o,X.base.get? b=some o→X.s₀.heap.get? b=some o∧X.H₀ b=none
 bsz:X.base.objs.size≤X.s₀.heap.objs.size
 noex: ∀b o,X.base.get? b=some o→b∉X.ex
 exfs: ∀b∈X.ex,b∉X.fs
 funs:X.s₀.heap.FunFrames X.base X.outer
 frf: ∀b∈X.fs,X.H₀ b=none
structure Inv (X:Cx) (pins:List (Addr×Obj)) (σ:List (Option V)) (H:Hp) (s:Shared):Prop where
 ok:X.Ok
 os:s.os=X.s₀.os
 bare:AllBare s.gens
 base:Un X.fs X.ex X.H₀ H X.s₀.heap s.heap
 loc: ∃m,s.heap.Ns X.env.locals m∧ ∀(i:Nat) (x:Str) (v:V),X.N[i]? =some x→σ[i]? =some (some v)→Vis X.env.scope x→ ∃u,RelV v u∧Look X.env s.heap m x u
 cell: ∀x c,X.env.cells.lookup x=some c→ ∃v,s.heap.IsCell c v
 free:H X.env.locals=none
 freeC: ∀x c,X.env.cells.lookup x=some c→H c=none
 pin: ∀p∈X.pn++pins,s.heap.get? p.1=some p.2∧H p.1=none∧p.1≠X.env.locals∧p.1∉X.fs∧ ∀v,p.2.data≠.cell v
 hok:HOk X.prog X.w H s.heap
 len:σ.length=X.N.length
section
variable {X:Cx} {pins:List (Addr×Obj)} {σ:List (Option V)} {H H':Hp} {s:Shared} {h':Heap}
theorem Cx.Ok.nofr(ok:X.Ok)(e:X.base.get? b=some o):b∉X.fs:=fun hb=>by
 have:=(ok.funs.mem hb).1;rw[e] at this; cases this
theorem Inv.bs(I:Inv X pins σ H s): ∀b o,X.base.get? b=some o→s.heap.get? b=some o∧H b=none:=fun b o e=>
 ⟨I.base.keep b o (I.ok.bs b o e).1 (I.ok.bs b o e).2 (I.ok.nofr e) (I.ok.noex b o e),I.base.free b o (I.ok.bs b o e).1 (I.ok.bs b o e).2 (I.ok.noex b o e)⟩
theorem Inv.bk(I:Inv X pins σ H s): ∀b o,X.base.get? b=some o→s.heap.get? b=some o:=fun b o e=>(I.bs b o e).1
theorem Inv.mod(I:Inv X pins σ H s):Mod X.K X.mg X.base:=I.ok.mod
theorem Inv.kIn(I:Inv X pins σ H s):X.K.In s.heap:=I.ok.mod.kin.keeps I.bk
theorem Inv.nolimit(I:Inv X pins σ H s):s.heap.NoLimit:=I.ok.mod.nolimit.keeps I.bk
theorem Inv.lt(I:Inv X pins σ H s):X.env.locals<s.heap.objs.size:=let ⟨_,hn,_⟩:=I.loc; hn.lt
theorem Inv.sz(I:Inv X pins σ H s):X.s₀.heap.objs.size≤s.heap.objs.size:=Nat.le_trans I.ok.above (Nat.le_of_lt I.lt)
theorem Inv.nofs(I:Inv X pins σ H s)(h:s.heap.objs.size≤a):a∉X.fs:=fun hb=>by
 obtain⟨_,o,ho,_⟩:=I.ok.funs.mem hb;exact absurd (Nat.lt_of_lt_of_le (Heap.lt_size ho) (Nat.le_trans I.sz h)) (Nat.lt_irrefl _)
theorem Inv.cne(I:Inv X pins σ H s): ∀x c,X.env.cells.lookup x=some c→c≠X.env.locals:=fun x c e z=>by
 obtain⟨v,o,ho,hd⟩:=I.cell x c e;obtain⟨m,⟨o',es,ep,ho',hd',_⟩,_⟩:=I.loc;rw[z,ho'] at ho; cases ho; rw[hd'] at hd; cases hd
theorem Inv.funs(I:Inv X pins σ H s):s.heap.FunFrames X.base X.outer:=by
 have all: ∀(l:List Env),(∀b∈frs l,b∈X.fs)→X.s₀.heap.FunFrames X.base l→s.heap.FunFrames X.base l:=by
  intro l
  induction l with
  | nil=>intro _ _; trivial
  | cons env r ih=>
   intro hs hl;obtain⟨hk,⟨L,o,hf,hn,ho,hd⟩,hr⟩:=hl;have hL:L∈X.fs:=hs L (by unfold frs; rw[List.filterMap_cons,hf]; exact List.mem_cons_self);obtain⟨sl,e⟩:=I.base.slot L o ho (I.ok.frf L hL) hL fun z=>I.ok.exfs L z hL;exact⟨hk,⟨L,_,hf,hn,e,hd⟩,ih (fun b hb=>hs b (by unfold frs; rw[List.filterMap_cons,hf]; exact List.mem_cons_of_mem _ hb)) hr⟩
 exact all X.outer (fun _ hb=>hb) I.ok.funs
theorem Inv.stack(I:Inv X pins σ H s):s.heap.FunFrames X.base X.stack:=by
 rcases I.ok.stk with e | ⟨e,hf⟩
 ·rw[e]; exact I.funs
 ·rw[e];obtain⟨m,hn,_⟩:=I.loc;refine .cons (by rw[I.ok.kind]; decide) hf hn ?_ I.funs;exact Heap.get?_none_of_le (Nat.le_trans I.ok.bsz I.ok.above)
theorem Inv.stkSub(I:Inv X pins σ H s): ∀b∈frs X.stack,b∈X.env.locals::X.fs:=fun b hb=>by
 rcases I.ok.stk with e | ⟨e,hf⟩
 ·rw[e] at hb; exact List.mem_cons_of_mem _ hb
 ·rw[e] at hb;unfold frs at hb;rw[List.filterMap_cons,hf] at hb;exact hb
theorem Inv.stkFree(I:Inv X pins σ H s): ∀b∈frs X.stack,H b=none:=fun b hb=>by
 rcases List.mem_cons.mp (I.stkSub b hb) with e | hb
 ·rw[e]; exact I.free
 ·obtain⟨_,o,ho,_⟩:=I.ok.funs.mem hb;exact I.base.free b o ho (I.ok.frf b hb) fun z=>I.ok.exfs b z hb
theorem Inv.step{g':Array GenState}{t':Nat}{d':Drawn}{ch:List Addr}(I:Inv X pins σ H s)
  (hch: ∀b∈ch,(b∈X.ex∨X.s₀.heap.objs.size≤b)∧b≠X.env.locals∧(∀x c,X.env.cells.lookup x=some c→c≠b)∧ ∀p∈X.pn++pins,p.1≠b)
  (keep: ∀b o,b≠X.env.locals→b∉X.fs→b∉ch→s.heap.get? b=some o→H b=none→h'.get? b=some o)
  (slot: ∀b o,b≠X.env.locals→b∈X.fs→b∉ch→s.heap.get? b=some o→H b=none→ ∃sl,h'.get? b=some {o with slots:=sl}) (free: ∀b o,b∉ch→s.heap.get? b=some o→H b=none→H' b=none)
  (there: ∀b o,b∉ch→s.heap.get? b=some o→ ∃o',h'.get? b=some o')
  (tups: ∀b xs,H b=some (.tup xs)→H' b=some (.tup xs)) (frzs: ∀b o u,H b=some (.frz o u)→H' b=some (.frz o u)) (tbls: ∀b ps,H b=some (.tbl ps)→ ∃more,H' b=some (.tbl (ps++more)))
  (ns: ∀m,s.heap.Ns X.env.locals m→h'.Ns X.env.locals m) (hok:HOk X.prog X.w H' h') (hg:AllBare g'):
  Inv X pins σ H' {s with heap:=h',gens:=g',drawn:=d',toks:=t'}:=by
 have neL: ∀b o,X.s₀.heap.get? b=some o→b≠X.env.locals:=fun b o e=>Nat.ne_of_lt (Nat.lt_of_lt_of_le (Heap.lt_size e) I.ok.above);have neC: ∀b o,X.s₀.heap.get? b=some o→b∉X.ex→b∉ch:=fun b o e hx hb=>by
  rcases(hch b hb).1 with z | z
  ·exact hx z
  ·exact absurd (Nat.lt_of_lt_of_le (Heap.lt_size e) z) (Nat.lt_irrefl _)
 have cellK: ∀x c,X.env.cells.lookup x=some c→ ∀v,s.heap.IsCell c v→h'.IsCell c v:=fun x c e v ⟨o,ho,hd⟩=>by
  have nch:c∉ch:=fun z=>(hch c z).2.2.1 x c e rfl;by_cases hc:c∈X.fs
  ·obtain⟨sl,q⟩:=slot c o (I.cne x c e) hc nch ho (I.freeC x c e);exact⟨_,q,hd⟩
  ·exact⟨o,keep c o (I.cne x c e) hc nch ho (I.freeC x c e),hd⟩
 refine⟨I.ok,I.os,hg,⟨fun b o e n hb hx=>?_,fun b o e n hb hx=>?_,fun b o e n hx=>?_,fun b o e hx=>?_,fun b xs e=>tups b xs (I.base.tups b xs e),fun b o xs e=>frzs b o xs (I.base.frzs b o xs e),fun b ps e=>?_⟩,?_,fun x c e=>?_,?_,fun x c e=>?_,fun p hp=>?_,hok,I.len⟩
 ·exact keep b o (neL b o e) hb (neC b o e hx) (I.base.keep b o e n hb hx) (I.base.free b o e n hx)
 ·obtain⟨sl,e1⟩:=I.base.slot b o e n hb hx;obtain⟨sl',e2⟩:=slot b _ (neL b o e) hb (neC b o e hx) e1 (I.base.free b o e n hx);exact⟨sl',e2⟩
 ·obtain⟨o',e1⟩:=I.base.there b o e hx;exact free b o' (neC b o e hx) e1 (I.base.free b o e n hx)
 ·obtain⟨o',e1⟩:=I.base.there b o e hx;exact there b o' (neC b o e hx) e1
 ·obtain⟨m1,e1⟩:=I.base.tbls b ps e;obtain⟨m2,e2⟩:=tbls b _ e1;exact⟨m1++m2,by rw[e2,Array.append_assoc]⟩
 ·obtain⟨m,hn,hl⟩:=I.loc;refine⟨m,ns m hn,fun i x v e1 e2 e3=>?_⟩;obtain⟨u,r,l⟩:=hl i x v e1 e2 e3;refine⟨u,r,?_⟩;rcases l with l | ⟨k,c,e,z⟩
  ·exact .inl l
  ·exact .inr ⟨k,c,e,cellK x c e _ z⟩
 ·obtain⟨v,z⟩:=I.cell x c e;exact⟨v,cellK x c e v z⟩
 ·obtain⟨m,⟨o,_,_,ho,_⟩,_⟩:=I.loc;exact free _ o (fun z=>(hch _ z).2.1 rfl) ho I.free
 ·obtain⟨v,o,ho,hd⟩:=I.cell x c e;exact free c o (fun z=>(hch c z).2.2.1 x c e rfl) ho (I.freeC x c e)
 ·obtain⟨e,n,ne,nf,d⟩:=I.pin p hp;have nch:p.1∉ch:=fun z=>(hch p.1 z).2.2.2 p hp rfl;exact⟨keep p.1 p.2 ne nf nch e n,free p.1 p.2 nch e n,ne,nf,d⟩
theorem Inv.un{t':Nat}(I:Inv X pins σ H s)(u:Un X.fs [] H H' s.heap h')(hok:HOk X.prog X.w H' h'):Inv X pins σ H' {s with heap:=h',toks:=t'}:=by
 obtain⟨m,⟨o,es,ep,ho,r⟩,_⟩:=id I.loc;obtain⟨sl,hL⟩:=u.any ho I.free (by simp);exact I.step (g':=s.gens) (d':=s.drawn) (ch:=[]) (fun _ z=>nomatch z) (fun b o _ hb _ e n=>u.keep b o e n hb (by simp)) (fun b o _ hb _ e n=>u.slot b o e n hb (by simp)) (fun b o _ e n=>u.free b o e n (by simp)) (fun b o _ e=>u.there b o e (by simp)) u.tups u.frzs u.tbls (fun m' hm=>by
  obtain⟨o',es',ep',ho',r'⟩:=hm;rw[ho] at ho'; cases ho';exact⟨_,es',ep',hL,r'⟩) hok I.bare
theorem Inv.call{g':Array GenState}{t':Nat}{d':Drawn}{ch:List Addr}(I:Inv X pins σ H s)(u:Un (frs X.stack) ch H H' s.heap h')(hok:HOk X.prog X.w H' h')(hg:AllBare g')
  (hch: ∀b∈ch,(b∈X.ex∨X.s₀.heap.objs.size≤b)∧b≠X.env.locals∧(∀x c,X.env.cells.lookup x=some c→c≠b)∧ ∀p∈X.pn++pins,p.1≠b):
  Inv X pins σ H' {s with heap:=h',gens:=g',drawn:=d',toks:=t'}:=by
 obtain⟨m,⟨o,es,ep,ho,r⟩,_⟩:=id I.loc;obtain⟨sl,hL⟩:=u.any ho I.free fun z=>(hch _ z).2.1 rfl;exact I.step (ch:=ch) hch (fun b o hL hb hc e n=>u.keep b o e n (fun z=>(List.mem_cons.mp (I.stkSub b z)).elim hL hb) hc) (fun b o _ _ hc e n=>u.any e n hc) (fun b o hc e n=>u.free b o e n hc) (fun b o hc e=>u.there b o e hc) u.tups u.frzs u.tbls (fun m' hm=>by
  obtain⟨o',es',ep',ho',r'⟩:=hm;rw[ho] at ho'; cases ho';exact⟨_,es',ep',hL,r'⟩) hok hg
theorem Inv.turned{t':Nat}{it:Addr}(I:Inv X pins σ H s)(k: ∀b o,b≠it→s.heap.get? b=some o→h'.get? b=some o)(hn:H it=none)(hL:it≠X.env.locals)
  (h1:it∈X.ex∨X.s₀.heap.objs.size≤it) (h2: ∀x c,X.env.cells.lookup x=some c→c≠it) (h3: ∀p∈X.pn++pins,p.1≠it):Inv X pins σ H {s with heap:=h',toks:=t'}:=by
 have nit: ∀b u,H b=some u→b≠it:=fun b u e z=>by rw[z,hn] at e; cases e
 refine I.step (g':=s.gens) (d':=s.drawn) (ch:=[it]) (fun b hb=>?_) (fun b o _ _ hc e _=>k b o (fun z=>hc (by simp[z])) e) (fun b o _ _ hc e _=>⟨o.slots,k b o (fun z=>hc (by simp[z])) e⟩) (fun _ _ _ _ n=>n)
  (fun b o hc e=>⟨o,k b o (fun z=>hc (by simp[z])) e⟩) (fun _ _ e=>e) (fun _ _ _ e=>e) (fun b ps e=>⟨#[],by rw[e]; simp⟩) (fun m hm=>?_) (fun b u e=>?_) I.bare
 ·have e:b=it:=by simpa using hb
  subst e;exact⟨h1,hL,h2,h3⟩
 ·obtain⟨o,es,ep,ho,r⟩:=hm;exact⟨o,es,ep,k _ o (Ne.symm hL) ho,r⟩
 ·refine(I.hok b u e).stay (fun c v hc q=>k c v ?_ q) (fun _ q=>q) fun _ _ q=>q;rcases hc with z | z
  ·rw[z]; exact nit b u e
  ·exact nit c _ z
theorem Inv.tok(I:Inv X pins σ H s)(t:Nat):Inv X pins σ H {s with toks:=t}:=I.un (h':=s.heap) (t':=t) Un.refl I.hok
theorem Inv.kept(I:Inv X pins σ H s)(k: ∀b u,s.heap.get? b=some u→h'.get? b=some u):Inv X pins σ H {s with heap:=h',toks:=t'}:=I.un (Un.kept k) (I.hok.kept k)
theorem Inv.laid(I:Inv X pins σ H s)(k: ∀b u,s.heap.get? b=some u→h'.get? b=some u)(hp:s.heap.objs.size≤a)(new:ObjOk X.prog X.w (upd H a o) h' a o):
  Inv X pins σ (upd H a o) {s with heap:=h',toks:=t'}:=I.un (Un.laid k hp (I.hok.fresh hp)) (I.hok.laid k hp new)
theorem Inv.write(I:Inv X pins σ H s)(mu:Mut (H x))(he:e=x∨H e=some (.own x))(k: ∀b u,b≠e→s.heap.get? b=some u→h'.get? b=some u)(heo: ∃u,h'.get? e=some u)
  (new:ObjOk X.prog X.w (upd H x o) h' x o):Inv X pins σ (upd H x o) {s with heap:=h',toks:=t'}:=I.un (Un.write mu he k heo) (I.hok.write mu he k heo new)
theorem Inv.pins_of(I:Inv X pins σ H s)(h: ∀p∈pins',s.heap.get? p.1=some p.2∧H p.1=none∧p.1≠X.env.locals∧p.1∉X.fs∧ ∀v,p.2.data≠.cell v):Inv X pins' σ H s:=
 ⟨I.ok,I.os,I.bare,I.base,I.loc,I.cell,I.free,I.freeC,fun p hp=>(List.mem_append.mp hp).elim (fun z=>I.pin p (List.mem_append_left _ z)) (h p),I.hok,I.len⟩
theorem ZK{N:List Str}(hN:N.Nodup){i j:Nat}{x:Str}(a:N[i]? =some x)(b:N[j]? =some x):i=j:=by
 obtain⟨h1,e1⟩:=List.getElem?_eq_some_iff.mp a;obtain⟨h2,e2⟩:=List.getElem?_eq_some_iff.mp b;exact(List.getElem_inj hN).mp (e1.trans e2.symm)
theorem vR{E:Value→Shared→Prop}{Q:Unit→Shared→Prop}(I:Inv X pins σ H s)(hN:X.N.Nodup)(hi:X.N[i]? =some x)(hx:Loc X.env.scope x)(r:RelV v u)
  (h: ∀s',Inv X pins (σ.set i (some v)) H s'→(∃a,Heap.SameBut a s.heap s'.heap∧(a=X.env.locals∨X.env.cells.lookup x=some a))→Q () s') (hf:X.fn x=true∨X.env.scope.names.lookup x=some .local:=by first | exact .inl rfl | exact .inr rfl | assumption):wpAny M A (storeName X.env x u) Q E s:=by
 obtain⟨m,hn,hl⟩:=id I.loc;have hcls:(X.env.scope.kind== .class || (X.env.scope.kind== .module&&X.env.locals !=X.env.globals))=false:=by rw[I.ok.kind]; rfl
 have hiσ:i<σ.length:=by rw[I.len]; exact(List.getElem?_eq_some_iff.mp hi).1
 have cne:=I.cne;have tracked: ∀{a:Addr} {h':Heap},(∃o,s.heap.get? a=some o∧H a=none)→Heap.SameBut a s.heap h'→HOk X.prog X.w H h':=fun {a h'} ha hs b ob e=>by
  obtain⟨_,_,hfree⟩:=ha;refine(I.hok b ob e).stay (fun c w' hc q=>(hs.2 c ?_).trans q) (fun _ q=>q) fun _ _ q=>q;rintro rfl;rcases hc with rfl | hc
  ·rw[hfree] at e; cases e
  ·rw[hfree] at hc; cases hc
 rcases hx with hk | hk
 ·refine wpAny_storeName_local hk hn (fun h' hn' hs=>?_) hcls;obtain⟨oL,_,_,hoL,_⟩:=id hn;refine h _ ⟨I.ok,I.os,I.bare,⟨fun b o e n hb hx=>?_,fun b o e n hb hx=>?_,I.base.free,fun b o e hx=>?_,I.base.tups,I.base.frzs,I.base.tbls⟩,⟨_,hn',fun j y v' e1 e2 e3=>?_⟩,fun y c e=>?_,I.free,I.freeC,fun p hp=>?_,tracked ⟨oL,hoL,I.free⟩ hs,by simpa using I.len⟩ ⟨_,hs,.inl rfl⟩
  ·exact(hs.2 b (Nat.ne_of_lt (Nat.lt_of_lt_of_le (Heap.lt_size e) I.ok.above))).trans (I.base.keep b o e n hb hx)
  ·obtain⟨sl,e1⟩:=I.base.slot b o e n hb hx;exact⟨sl,(hs.2 b (Nat.ne_of_lt (Nat.lt_of_lt_of_le (Heap.lt_size e) I.ok.above))).trans e1⟩
  ·obtain⟨o',e1⟩:=I.base.there b o e hx;exact⟨o',(hs.2 b (Nat.ne_of_lt (Nat.lt_of_lt_of_le (Heap.lt_size e) I.ok.above))).trans e1⟩
  ·by_cases hj:j=i
   ·subst hj;rw[hi] at e1; cases e1;rw[List.getElem?_set_self hiσ] at e2;cases e2
    exact⟨u,r,.inl ⟨hk,by simp⟩⟩
   ·rw[List.getElem?_set_ne (Ne.symm hj)] at e2;obtain⟨u',r',q⟩:=hl j y v' e1 e2 e3;refine⟨u',r',?_⟩;rcases q with ⟨k,e⟩ | ⟨k,c,e,z⟩
    ·refine .inl ⟨k,?_⟩;have:y≠x:=fun e=>hj (ZK hN e1 (e▸hi));simp[this,e]
    ·exact .inr ⟨k,c,e,z.sameBut hs (cne y c e)⟩
  ·obtain⟨w',z⟩:=I.cell y c e;exact⟨w',z.sameBut hs (cne y c e)⟩
  ·obtain⟨e,n,ne,nf,d⟩:=I.pin p hp;exact⟨(hs.2 p.1 ne).trans e,n,ne,nf,d⟩
 ·have hfn:X.fn x=true:=by
   rcases hf with z | z
   ·exact z
   ·rw[z] at hk; cases hk
  obtain⟨c,hc⟩:=I.ok.has x (.inl hk);obtain⟨w',z⟩:=I.cell x c hc;refine wpAny_storeName_cell I.ok.kind hk hc z (fun h' hc' hs=>?_);obtain⟨oc,hoc,hocd⟩:=id z;refine h {s with heap:=h'} ⟨I.ok,I.os,I.bare,⟨fun b o e n hb hx=>?_,fun b o e n hb hx=>?_,I.base.free,fun b o e hx=>?_,I.base.tups,I.base.frzs,I.base.tbls⟩,⟨m,hn.sameBut hs (Ne.symm (cne x c hc)),fun j y v' e1 e2 e3=>?_⟩,fun y c' e=>?_,I.free,I.freeC,fun p hp=>?_,tracked ⟨oc,hoc,I.freeC x c hc⟩ hs,by simpa using I.len⟩ ⟨c,hs,.inr hc⟩
  ·exact(hs.2 b (Nat.ne_of_lt (Nat.lt_of_lt_of_le (Heap.lt_size e) (I.ok.cab x c hfn hc)))).trans (I.base.keep b o e n hb hx)
  ·obtain⟨sl,e1⟩:=I.base.slot b o e n hb hx;exact⟨sl,(hs.2 b (Nat.ne_of_lt (Nat.lt_of_lt_of_le (Heap.lt_size e) (I.ok.cab x c hfn hc)))).trans e1⟩
  ·obtain⟨o',e1⟩:=I.base.there b o e hx;exact⟨o',(hs.2 b (Nat.ne_of_lt (Nat.lt_of_lt_of_le (Heap.lt_size e) (I.ok.cab x c hfn hc)))).trans e1⟩
  ·by_cases hj:j=i
   ·subst hj;rw[hi] at e1; cases e1;rw[List.getElem?_set_self hiσ] at e2;cases e2
    exact⟨u,r,.inr ⟨.inl hk,c,hc,hc'⟩⟩
   ·rw[List.getElem?_set_ne (Ne.symm hj)] at e2;obtain⟨u',r',q⟩:=hl j y v' e1 e2 e3;refine⟨u',r',?_⟩;rcases q with q | ⟨k,c',e,z'⟩
    ·exact .inl q
    ·refine .inr ⟨k,c',e,z'.sameBut hs ?_⟩;rintro rfl;exact hj (ZK hN e1 (I.ok.inj _ _ _ e hc▸hi))
  ·by_cases hcc:c'=c
   ·subst hcc; exact⟨_,hc'⟩
   ·obtain⟨w2,z2⟩:=I.cell y c' e;exact⟨w2,z2.sameBut hs hcc⟩
  ·obtain⟨e,n,ne,nf,d⟩:=I.pin p hp;refine⟨(hs.2 p.1 ?_).trans e,n,ne,nf,d⟩;intro q;rw[q,hoc] at e;have q':oc=p.2:=Option.some.inj e;exact d w' (by rw[←q']; exact hocd)
theorem ZH{E:Value→Shared→Prop}{Q:Unit→Shared→Prop}(I:Inv X pins σ H s)(hN:X.N.Nodup)(hi:X.N[i]? =some x)(hx:Loc X.env.scope x)(r:RelV v u)
  (h: ∀s',Inv X pins (σ.set i (some v)) H s'→Q () s') (hf:X.fn x=true∨X.env.scope.names.lookup x=some .local:=by first | exact .inl rfl | exact .inr rfl | assumption):wpAny M A (storeName X.env x u) Q E s:=
 vR I hN hi hx r (fun s' I' _=>h s' I') hf
theorem Inv.call'{s':Shared}(I:Inv X pins σ H s)(ho:s'.os=s.os)(u:Un (frs X.stack) ch H H' s.heap s'.heap)(hok:HOk X.prog X.w H' s'.heap)(hg:AllBare s'.gens)
  (hch: ∀b∈ch,(b∈X.ex∨X.s₀.heap.objs.size≤b)∧b≠X.env.locals∧(∀x c,X.env.cells.lookup x=some c→c≠b)∧ ∀p∈X.pn++pins,p.1≠b):Inv X pins σ H' s':=by
 obtain⟨h',g',d',t',o'⟩:=s';have e:o'=s.os:=ho;subst e;exact I.call (g':=g') (t':=t') (d':=d') u hok hg hch
end
abbrev XK:=Value→Option Addr→Hp→Prop
abbrev St:=List (Option V)
abbrev VK:=V→Hp→Prop
abbrev TE:=St→Hp→VK→Prop
abbrev TT:=St→Hp→(Bool→Hp→Prop)→Prop
abbrev TA:=St→Hp→(List V→Hp→Prop)→Prop
structure Ends where
 nx:St→Hp→Prop
 rt:VK
 bk:St→Hp→Prop:=fun _ _=>False
 ct:St→Hp→Prop:=fun _ _=>False
abbrev TS:=Ends→St→Hp→Prop
def EP (X:Cx) (pins:List (Addr×Obj)) (σ:St) (Q:VK) (u:Value) (s':Shared):Prop:= ∃v H',Inv X pins σ H' s'∧RelV v u∧Q v H'
def TP (X:Cx) (pins:List (Addr×Obj)) (σ:St) (Q:Bool→Hp→Prop) (b:Bool) (s':Shared):Prop:= ∃H',Inv X pins σ H' s'∧Q b H'
def AP (X:Cx) (pins:List (Addr×Obj)) (σ:St) (Q:List V→Hp→Prop) (us:List Value) (s':Shared):Prop:= ∃vs H',Inv X pins σ H' s'∧Vals vs us∧Q vs H'
def SP (X:Cx) (pins:List (Addr×Obj)) (D:Ends) (f:Flow) (s':Shared):Prop:=
 match f with
 | .next=> ∃σ' H',Inv X pins σ' H' s'∧D.nx σ' H'
 | .brk=> ∃σ' H',Inv X pins σ' H' s'∧D.bk σ' H'
 | .cont=> ∃σ' H',Inv X pins σ' H' s'∧D.ct σ' H'
 | .ret u=> ∃v σ' H',Inv X pins σ' H' s'∧RelV v u∧D.rt v H'
def PE (X:Cx) (e:Expr) (t:TE):Prop:=
 ∀(pins:List (Addr×Obj)) (s:Shared) (σ:St) (H:Hp) (Q:VK),Inv X pins σ H s→t σ H Q→wpAny (model X.prog X.w) X.A (eval e X.env) (EP X pins σ Q) X.xe s
def PT (X:Cx) (e:Expr) (t:TT):Prop:=
 ∀(pins:List (Addr×Obj)) (s:Shared) (σ:St) (H:Hp) (Q:Bool→Hp→Prop),Inv X pins σ H s→t σ H Q→wpAny (model X.prog X.w) X.A (isTrue e X.env (eval e X.env)) (TP X pins σ Q) X.xe s
def PW (X:Cx) (e:Expr) (t:TT):Prop:=
 ∀(whole:Sem Value) (pins:List (Addr×Obj)) (s:Shared) (σ:St) (H:Hp) (Q:Bool→Hp→Prop),Inv X pins σ H s→t σ H Q→wpAny (model X.prog X.w) X.A (isTrue e X.env whole) (TP X pins σ Q) X.xe s
theorem PW.pt(h:PW X e t):PT X e t:=h _
def PA (X:Cx) (es:List Expr) (t:TA):Prop:=
 ∀(pos:Pos) (pins:List (Addr×Obj)) (s:Shared) (σ:St) (H:Hp) (Q:List V→Hp→Prop),Inv X pins σ H s→t σ H Q→wpAny (model X.prog X.w) X.A (spliced (backTo pos (starEach es X.env))) (AP X pins σ Q) X.xe s
def PS (X:Cx) (st:Stmt) (t:TS):Prop:=
 ∀(pins:List (Addr×Obj)) (s:Shared) (σ:St) (H:Hp) (D:Ends),Inv X pins σ H s→t D σ H→wpAny (model X.prog X.w) X.A (exec st X.env) (SP X pins D) X.xe s
def PSs (X:Cx) (st:List Stmt) (t:TS):Prop:=
 ∀(pins:List (Addr×Obj)) (s:Shared) (σ:St) (H:Hp) (D:Ends),Inv X pins σ H s→t D σ H→wpAny (model X.prog X.w) X.A (execs st X.env) (SP X pins D) X.xe s
theorem thn{t:Sem α}{Q Q':α→Shared→Prop}{E:Value→Shared→Prop}(h:wpAny M A t Q E s)(hQ: ∀a s,Q a s→Q' a s):wpAny M A t Q' E s:=wpAny_mono h hQ fun _ _ x=>x
section
variable {X:Cx}
def tVar (i:Nat):TE:=fun σ H Q=> ∃v,σ[i]? =some (some v)∧Q v H
def tC (v:V):TE:=fun _ H Q=>Q v H
theorem vz(hN:X.N[i]? =some x)(hv:Vis X.env.scope x)(hd:(x==("__debug__":Str))=false:=by decide)(hcd:(x==("__classdict__":Str))=false:=by decide):PE X (.Name x pos) (tVar i):=by
 intro pins s σ H Q I h;obtain⟨v,e,h⟩:=h;obtain⟨m,hn,hl⟩:=I.loc;obtain⟨u,r,l⟩:=hl i x v hN e hv;have fin:EP X pins σ Q u s:=⟨v,H,I,r,h⟩;rcases l with ⟨hk,hm⟩ | ⟨hk,c,hc,hcell⟩
 ·exact wpAny_Name (wpAny_loadName_local I.ok.kind hk hn hm fin) hd
 ·rcases hk with hk | hk
  ·exact wpAny_Name (wpAny_loadName_cell I.ok.kind hk hc hcell fin) hd
  ·exact wpAny_Name (wpAny_loadName_free I.ok.kind hk hc hcell fin hcd) hd
theorem zg{i j pos}:PE X (.Constant (.int i) j pos) (tC (.int i)):=fun _ _ _ H _ I h=>wpAny_Constant_int ⟨.int i,H,I.tok _,⟨_,rfl⟩,h⟩
theorem vT{b j pos}:PE X (.Constant (.bool b) j pos) (tC (.bl b)):=fun _ _ _ H _ I h=>Constant_bool ⟨.bl b,H,I,rfl,h⟩
theorem xO{j pos}:PE X (.Constant .none j pos) (tC .non):=fun _ _ _ H _ I h=>Constant_none ⟨.non,H,I,rfl,h⟩
theorem yY{x j pos}:PE X (.Constant (.str x) j pos) (tC (.str x)):=fun _ _ _ H _ I h=>Calls.Constant_str ⟨.str x,H,I.tok _,⟨_,rfl⟩,h⟩
def Gl (X:Cx) (x:Str):Prop:=X.env.kindOf x=some .globalImplicit
theorem Zs{E:Value→Shared→Prop}{Q:Value→Shared→Prop}(I:Inv X pins σ H s)(hg:Gl X x)(hm:X.mg x=some u)(h:Q u s)
  (hd:(x==("__debug__":Str))=false:=by decide):wpAny (model X.prog X.w) X.A (eval (.Name x pos) X.env) Q E s:=
 Calls.Name_function_global I.ok.kind hg (Calls.loadGlobal_global (by rw[I.ok.glob]; exact I.mod.glob.keeps I.bk) hm h) hd
theorem xR{E:Value→Shared→Prop}{Q:Value→Shared→Prop}(I:Inv X pins σ H s)(hg:Gl X x)(hm:X.mg x=none)(hv:bootBuiltins x=some u)(h:Q u s)
  (hn:x≠"__name__":=by decide) (hd:(x==("__debug__":Str))=false:=by decide):wpAny (model X.prog X.w) X.A (eval (.Name x pos) X.env) Q E s:=by
 obtain⟨mb,h1,h2⟩:=I.mod.blt;exact Calls.Name_function_global I.ok.kind hg (Calls.loadGlobal_builtin (by rw[I.ok.glob]; exact I.mod.glob.keeps I.bk) hm (by rw[I.ok.blt]; exact h1.keeps I.bk) ((h2 x hn).trans hv) h) hd
theorem pe_glob(hg:Gl X x)(hm:X.mg x=some u)(r:RelV v u)(hd:(x==("__debug__":Str))=false:=by decide):PE X (.Name x pos) (tC v):=
 fun _ _ _ H _ I h=>Zs I hg hm ⟨v,H,I,r,h⟩ hd
theorem vi(hg:Gl X x)(hm:X.mg x=none)(hv:bootBuiltins x=some u)(r:RelV v u)(hn:x≠"__name__":=by decide)(hd:(x==("__debug__":Str))=false:=by decide):PE X (.Name x pos) (tC v):=
 fun _ _ _ H _ I h=>xR I hg hm hv ⟨v,H,I,r,h⟩ hn hd
variable {a b:Expr} {ta tb:TE} {pos:Pos}
def PC (X:Cx) (op:CmpOp) (a b:Expr) (t:TE):Prop:=
 ∀(pins:List (Addr×Obj)) (s:Shared) (σ:St) (H:Hp) (Q:VK),Inv X pins σ H s→t σ H Q→
  wpAny (model X.prog X.w) X.A (eval a X.env) (fun v s₁=>wpAny (model X.prog X.w) X.A (eval b X.env) (fun u s₂=>wpAny (model X.prog X.w) X.A (compareOp op v u) (EP X pins σ Q) X.xe s₂) X.xe s₁) X.xe s
theorem nobehind(b:Expr)(h:op≠.In)(h2:op≠.NotIn):behindInMarks op b=false:=by
 have e1:(op==CmpOp.In)=false:=by cases op<;>first | rfl | exact absurd rfl h
 have e2:(op==CmpOp.NotIn)=false:=by cases op<;>first | rfl | exact absurd rfl h2
 cases b<;>simp[behindInMarks,e1,e2]
def tIsN (ta:TE):TE:=fun σ H Q=>ta σ H fun x H1=>Q (.bl (decide (x= .non))) H1
def Y1 (ta:TE):TE:=fun σ H Q=>ta σ H fun x H1=>Q (.bl (!decide (x= .non))) H1
theorem RelV.none_iff(r:RelV x v):(v==Value.none)=decide (x= .non):=by
 cases x with
 | non=>cases r; rfl
 | bl _=>cases r; rfl
 | int _=>obtain⟨t,rfl⟩:=r; rfl
 | str _=>obtain⟨t,rfl⟩:=r; rfl
 | byt _=>obtain⟨t,rfl⟩:=r; rfl
 | flt _=>obtain⟨t,rfl⟩:=r; rfl
 | ref _=>cases r; rfl
 | ty _=>cases r; rfl
theorem Xh{j pos'}(ha:PE X a ta):PC X .Is a (.Constant .none j pos') (tIsN ta):=by
 intro pins s σ H Q I h;refine thn (ha pins s σ H _ I h) fun v s1 ⟨x,H1,I1,r1,q1⟩=>?_;exact Constant_none (is_none_gen ⟨.bl _,H1,I1,by rw[r1.none_iff]; rfl,q1⟩)
theorem YA{j pos'}(ha:PE X a ta):PC X .IsNot a (.Constant .none j pos') (Y1 ta):=by
 intro pins s σ H Q I h;refine thn (ha pins s σ H _ I h) fun v s1 ⟨x,H1,I1,r1,q1⟩=>?_;exact Constant_none (isnot_none_gen ⟨.bl _,H1,I1,by rw[r1.none_iff]; rfl,q1⟩)
def tB (t:TE):TT:=fun σ H Q=>t σ H fun x H1=> ∃c,x= .bl c∧Q c H1
theorem Zl(h:PC X op a b t)(h1:behindInMarks op b=false:=by first | exact nobehind _ (by decide) (by decide) | rfl):PT X (.Compare a [op] [b] pos) (tB t):=by
 intro pins s σ H Q I hw;refine wpAny_isTrue_Compare1 (thn (h pins s σ H _ I hw) fun v s1 h1=>thn h1 fun u s2 h2=>thn h2 fun c s3 ⟨x,H1,I1,r1,q1⟩=>?_) h1;obtain⟨d,rfl,q⟩:=q1;cases r1
 exact wpAny_truthy_bool ⟨H1,I1,q⟩
theorem xM(h:PE X e t)(he: ∀whole,isTrue e X.env whole=(do let v←whole; standAt e.pos; holding [v] (truthy v)):=by intro _; rfl):PT X e (tB t):=by
 intro pins s σ H Q I hw;refine isTrue_plain (thn (h pins s σ H _ I hw) fun v s1 ⟨x,H1,I1,r1,q1⟩=>?_) (he _);obtain⟨d,rfl,q⟩:=q1;cases r1
 exact wpAny_truthy_bool ⟨H1,I1,q⟩
variable {tA tB':TT} {rest:List Expr}
def tAnd (t u:TT):TT:=fun σ H Q=>t σ H fun c H1=>if c=true then u σ H1 Q else Q false H1
def tOr (t u:TT):TT:=fun σ H Q=>t σ H fun c H1=>if c=true then Q true H1 else u σ H1 Q
def tNot (t:TT):TT:=fun σ H Q=>t σ H fun c H1=>Q (!c) H1
theorem wx(ha:PT X a tA):PW X (.BoolOp .And [a] pos) tA:=by
 intro wh pins s σ H Q I h;refine isTrue_and (thn (ha pins s σ H Q I h) fun c s1 e=>?_);cases c with
 | true=>exact isTrue_and_nil e
 | false=>exact e
theorem vw(ha:PT X a tA):PW X (.BoolOp .Or [a] pos) tA:=by
 intro wh pins s σ H Q I h;refine isTrue_or (thn (ha pins s σ H Q I h) fun c s1 e=>?_);cases c with
 | false=>exact isTrue_or_nil e
 | true=>exact e
theorem vx(ha:PT X a tA)(hb:PW X (.BoolOp .And (b::rest) pos) tB'):PW X (.BoolOp .And (a::b::rest) pos) (tAnd tA tB'):=by
 intro wh pins s σ H Q I h;refine isTrue_and (thn (ha pins s σ H _ I h) fun c s1 ⟨H1,I1,q1⟩=>?_);cases c with
 | true=>exact hb wh pins s1 σ H1 Q I1 q1
 | false=>exact⟨H1,I1,q1⟩
theorem wZ(ha:PT X a tA)(hb:PW X (.BoolOp .Or (b::rest) pos) tB'):PW X (.BoolOp .Or (a::b::rest) pos) (tOr tA tB'):=by
 intro wh pins s σ H Q I h;refine isTrue_or (thn (ha pins s σ H _ I h) fun c s1 ⟨H1,I1,q1⟩=>?_);cases c with
 | true=>exact⟨H1,I1,q1⟩
 | false=>exact hb wh pins s1 σ H1 Q I1 q1
theorem Zk(ha:PT X a tA):PT X (.UnaryOp .Not a pos) (tNot tA):=by
 intro pins s σ H Q I h;exact isTrue_not (ha pins s σ H (fun c H1=>Q (!c) H1) I h)
def XS (ta tb:TE):TE:=fun σ H Q=>ta σ H fun x H1=> ∃c,x= .bl c∧if c=true then tb σ H1 Q else Q (.bl false) H1
theorem Xd{op}(h:PE X a t):PE X (.BoolOp op [a] pos) t:=fun pins s σ H Q I hw=>BoolOp_one (h pins s σ H Q I hw)
theorem Xg(ha:PE X a ta)(hb:PE X (.BoolOp .And (b::rest) pos) tb):PE X (.BoolOp .And (a::b::rest) pos) (XS ta tb):=by
 intro pins s σ H Q I h;refine BoolOp_and (thn (ha pins s σ H _ I h) fun v s1 ⟨x,H1,I1,r1,q1⟩=>?_);obtain⟨c,rfl,q1⟩:=q1;cases r1
 refine wpAny_truthy_bool ?_;cases c with
 | true=>exact hb pins s1 σ H1 Q I1 q1
 | false=>exact⟨.bl false,H1,I1,rfl,q1⟩
def tIf (t:TT) (ta tb:TE):TE:=fun σ H Q=>t σ H fun c H1=>if c=true then ta σ H1 Q else tb σ H1 Q
theorem xP(hc:PT X c tA)(ha:PE X a ta)(hb:PE X b tb):PE X (.IfExp c a b pos) (tIf tA ta tb):=by
 intro pins s σ H Q I h;refine wpAny_IfExp (thn (hc pins s σ H _ I h) fun d s1 ⟨H1,I1,q1⟩=>?_);cases d with
 | true=>exact ha pins s1 σ H1 Q I1 q1
 | false=>exact hb pins s1 σ H1 Q I1 q1
end
def SqL (K:W.Frag) (H:Hp) (a:Addr) (xs:List V):Prop:=
 Rd H a (.lst xs)∨
  ∃(o:Obj) (its:Array Value) (n:Nat),K.lookup a=some o∧o.cls= .type "list"∧o.dict=none∧o.data= .seq its n∧its.size≤sizeLine∧Vals xs its.toList
def SqT (K:W.Frag) (H:Hp) (a:Addr) (xs:List V):Prop:=
 Rd H a (.tup xs)∨
  ∃(o:Obj) (its:Array Value) (n:Nat),K.lookup a=some o∧o.cls= .type "tuple"∧o.data= .seq its n∧its.size≤sizeLine∧Vals xs its.toList
def absV:Value→Option V
 | .none=>some .non
 | .bool b=>some (.bl b)
 | .int i _=>some (.int i)
 | .str x _=>some (.str x)
 | .bytes b _=>some (.byt b)
 | .float b _=>some (.flt b)
 | .ref a=>some (.ref a)
 | .type n=>some (.ty n)
 | _=>none
theorem RelV.abs(r:RelV x u):absV u=some x:=by
 cases x with
 | non=>cases r; rfl
 | bl _=>cases r; rfl
 | int _=>obtain⟨t,rfl⟩:=r; rfl
 | str _=>obtain⟨t,rfl⟩:=r; rfl
 | byt _=>obtain⟨t,rfl⟩:=r; rfl
 | flt _=>obtain⟨t,rfl⟩:=r; rfl
 | ref _=>cases r; rfl
 | ty _=>cases r; rfl
theorem RelV.inj(r:RelV x u)(q:RelV y u):x=y:=Option.some.inj (r.abs.symm.trans q.abs)
theorem Vals.inj: ∀{xs ys:List V} {us:List Value},Vals xs us→Vals ys us→xs=ys
 | _,_,_,.nil,.nil=>rfl
 | _,_,_,.cons r t,.cons r' t'=>by rw[r.inj r',Vals.inj t t']
section
variable {X:Cx} {pins:List (Addr×Obj)} {σ:St} {H:Hp} {s:Shared} {a:Addr} {xs ys:List V}
theorem SqL.of{K:W.Frag}(h:H a=some (.lst xs)):SqL K H a xs:= .inl (.inl h)
theorem SqT.of{K:W.Frag}(h:H a=some (.tup xs)):SqT K H a xs:= .inl (.inl h)
theorem Inv.list(I:Inv X pins σ H s)(h:SqL X.K H a xs): ∃its:List Value,Vals xs its∧PlainL s.heap a its.toArray∧xs.length≤sizeLine:=by
 rcases h with h | ⟨o,its,n,hk,hc,hd,hs,hz,r⟩
 ·obtain⟨z,its,n,r,e⟩:=h.ok I.hok;exact⟨its,r,⟨_,n,e,rfl,rfl,rfl⟩,z⟩
 ·refine⟨its.toList,r,⟨o,n,I.kIn a o hk,hc,hd,by simpa using hs⟩,?_⟩;have e:=r.length;simp only[Array.length_toList] at e;omega
theorem Inv.tuple(I:Inv X pins σ H s)(h:SqT X.K H a xs): ∃its:List Value,Vals xs its∧IsTup s.heap a its.toArray∧xs.length≤sizeLine:=by
 rcases h with h | ⟨o,its,n,hk,hc,hs,hz,r⟩
 ·obtain⟨z,its,r,p⟩:=h.ok I.hok;exact⟨its,r,p,z⟩
 ·refine⟨its.toList,r,⟨o,I.kIn a o hk,hc,n,by simpa using hs⟩,?_⟩;have e:=r.length;simp only[Array.length_toList] at e;omega
theorem Inv.list_inj(I:Inv X pins σ H s)(h:SqL X.K H a xs)(h':SqL X.K H a ys):xs=ys:=by
 obtain⟨its,r,⟨o,n,e,_,_,d⟩,_⟩:=I.list h;obtain⟨its',r',⟨o',n',e',_,_,d'⟩,_⟩:=I.list h';rw[e] at e'; cases e';rw[d] at d';injection d' with d1 _
 have:its=its':=by simpa using congrArg Array.toList d1
 subst this;exact r.inj r'
theorem Inv.tuple_inj(I:Inv X pins σ H s)(h:SqT X.K H a xs)(h':SqT X.K H a ys):xs=ys:=by
 obtain⟨its,r,⟨o,e,_,n,d⟩,_⟩:=I.tuple h;obtain⟨its',r',⟨o',e',_,n',d'⟩,_⟩:=I.tuple h';rw[e] at e'; cases e';rw[d] at d';injection d' with d1 _
 have:its=its':=by simpa using congrArg Array.toList d1
 subst this;exact r.inj r'
end
abbrev Cx.wish (X:Cx) (E:Value→Shared→Prop):Cx:={X with xe:=E}
abbrev Cx.nox (X:Cx):Cx:=X.wish fun _ _=>False
theorem Cx.Ok.wish{X:Cx}(ok:X.Ok)(E:Value→Shared→Prop):(X.wish E).Ok:=
 ⟨ok.mod,ok.kind,ok.glob,ok.blt,ok.above,ok.inj,ok.has,ok.cab,ok.hd,ok.frames,ok.stk,ok.exf,ok.bs,ok.bsz,ok.noex,ok.exfs,ok.funs,ok.frf⟩
theorem Cx.Ok.unwish{X:Cx}{E:Value→Shared→Prop}(ok:(X.wish E).Ok):X.Ok:=
 ⟨ok.mod,ok.kind,ok.glob,ok.blt,ok.above,ok.inj,ok.has,ok.cab,ok.hd,ok.frames,ok.stk,ok.exf,ok.bs,ok.bsz,ok.noex,ok.exfs,ok.funs,ok.frf⟩
section
variable {X:Cx} {pins:List (Addr×Obj)} {σ:St} {H:Hp} {s:Shared} {E:Value→Shared→Prop}
theorem Inv.wish(I:Inv X pins σ H s)(E:Value→Shared→Prop):Inv (X.wish E) pins σ H s:=⟨I.ok.wish E,I.os,I.bare,I.base,I.loc,I.cell,I.free,I.freeC,I.pin,I.hok,I.len⟩
theorem Inv.unwish(I:Inv (X.wish E) pins σ H s):Inv X pins σ H s:=⟨I.ok.unwish,I.os,I.bare,I.base,I.loc,I.cell,I.free,I.freeC,I.pin,I.hok,I.len⟩
theorem SP.unwish(h:SP (X.wish E) pins D f s'):SP X pins D f s':=by
 cases f with
 | next=>obtain⟨σ',H',I,q⟩:=h; exact⟨σ',H',I.unwish,q⟩
 | brk=>obtain⟨σ',H',I,q⟩:=h; exact⟨σ',H',I.unwish,q⟩
 | cont=>obtain⟨σ',H',I,q⟩:=h; exact⟨σ',H',I.unwish,q⟩
 | ret u=>obtain⟨v,σ',H',I,r,q⟩:=h; exact⟨v,σ',H',I.unwish,r,q⟩
theorem PSs.nox{st:List Stmt}{t:TS}(h:PSs X.nox st t):PSs X st t:=fun pins s σ H D I hw=>
 wpAny_mono (h pins s σ H D (I.wish _) hw) (fun _ _ q=>q.unwish) fun _ _ z=>False.elim z
end
section
variable {X:Cx} {st:Stmt} {rest:List Stmt} {t u:TS} {e:Expr} {te:TE} {pos:Pos}
def XN:TS:=fun D σ H=>D.nx σ H
def tSeq (t u:TS):TS:=fun D σ H=>t {D with nx:=u D} σ H
theorem zC:PSs X [] XN:=fun _ _ σ H _ I h=>wpAny_execs_nil ⟨σ,H,I,h⟩
theorem zd(h1:PS X st t)(h2:PSs X rest u):PSs X (st::rest) (tSeq t u):=by
 intro pins s σ H D I h;refine wpAny_execs_cons (thn (h1 pins s σ H {D with nx:=u D} I h) fun f s1 q=>?_);cases f with
 | next=>
  obtain⟨σ',H',I',q⟩:=q;exact h2 pins s1 σ' H' D I' q
 | ret v=>exact q
 | brk=>exact q
 | cont=>exact q
theorem zj(h1:PS X st t):PSs X [st] t:=by
 intro pins s σ H D I h;refine wpAny_execs_cons (thn (h1 pins s σ H D I h) fun f s1 q=>?_);cases f with
 | next=>exact wpAny_execs_nil q
 | ret v=>exact q
 | brk=>exact q
 | cont=>exact q
theorem Inv.quiet(I:Inv X pins σ H s):interactive X.env=false:=by simp[interactive,I.ok.kind]
def XR (te:TE):TS:=fun D σ H=>te σ H fun _ H1=>D.nx σ H1
theorem wy(he:PE X e te)(hs:swapsWith e none pos.line X.env=pure false:=by rfl):PS X (.Expr e pos) (XR te):=by
 intro pins s σ H D I h;exact wpAny_Expr_any (thn (he pins s σ H _ I h) fun v s1 ⟨x,H1,I1,r1,q1⟩=>⟨σ,H1,I1,q1⟩) I.quiet hs
def tRet (te:TE):TS:=fun D σ H=>te σ H D.rt
theorem zy(he:PE X e te):PS X (.Return (some e) pos) (tRet te):=by
 intro pins s σ H D I h;exact wpAny_Return_some (thn (he pins s σ H _ I h) fun v s1 ⟨x,H1,I1,r1,q1⟩=>⟨x,σ,H1,I1,r1,q1⟩)
def tIfS (c:TT) (t u:TS):TS:=fun D σ H=>c σ H fun b H1=>if b=true then t D σ H1 else u D σ H1
theorem zY(hc:PT X c tc)(ha:PSs X a t)(hb:PSs X b u):PS X (.If c a b pos) (tIfS tc t u):=by
 intro pins s σ H D I h;refine wpAny_If (thn (hc pins s σ H _ I h) fun d s1 ⟨H1,I1,q1⟩=>?_);cases d with
 | true=>exact ha pins s1 σ H1 D I1 q1
 | false=>exact hb pins s1 σ H1 D I1 q1
end
abbrev TG:=V→St→Hp→(St→Hp→Prop)→Prop
abbrev TGs:=List V→St→Hp→(St→Hp→Prop)→Prop
def PG (X:Cx) (target:Expr) (t:TG):Prop:=
 ∀(pins:List (Addr×Obj)) (s:Shared) (σ:St) (H:Hp) (v:V) (u:Value) (Q:St→Hp→Prop),Inv X pins σ H s→RelV v u→t v σ H Q→
  wpAny (model X.prog X.w) X.A (assign target X.env u) (fun _ s'=> ∃σ' H',Inv X pins σ' H' s'∧Q σ' H') X.xe s
def PGs (X:Cx) (ts:List Expr) (t:TGs):Prop:=
 ∀(pins:List (Addr×Obj)) (s:Shared) (σ:St) (H:Hp) (vs:List V) (us:List Value) (Q:St→Hp→Prop),Inv X pins σ H s→Vals vs us→t vs σ H Q→
  wpAny (model X.prog X.w) X.A (assignInOrder ((assignEach ts X.env).map (·.2)) us) (fun _ s'=> ∃σ' H',Inv X pins σ' H' s'∧Q σ' H') X.xe s
abbrev TSet:=V→V→V→Hp→(Hp→Prop)→Prop
def PSet (X:Cx) (t:TSet):Prop:=
 ∀(pins:List (Addr×Obj)) (s:Shared) (σ:St) (H:Hp) (o i v:V) (ov iv u:Value) (Q:Hp→Prop),Inv X pins σ H s→RelV o ov→RelV i iv→RelV v u→t o i v H Q→
  wpAny (model X.prog X.w) X.A (setItem ov iv u) (fun _ s'=> ∃H',Inv X pins σ H' s'∧Q H') X.xe s
section
variable {X:Cx} {pos:Pos}
def zI (i:Nat):TG:=fun v σ H Q=>Q (σ.set i (some v)) H
theorem vg(hN:X.N.Nodup)(hi:X.N[i]? =some x)(hx:Loc X.env.scope x)(hf:X.fn x=true∨X.env.scope.names.lookup x=some .local:=by first | exact .inl rfl | exact .inr rfl | assumption):PG X (.Name x pos) (zI i):=by
 intro pins s σ H v u Q I r h;exact wpAny_assign_Name (ZH I hN hi hx r (fun s' I'=>⟨_,H,I',h⟩) hf)
def gNil:TGs:=fun vs σ H Q=>vs=[]∧Q σ H
def yB (t:TG) (u:TGs):TGs:=fun vs σ H Q=> ∃v r,vs=v::r∧t v σ H fun σ' H'=>u r σ' H' Q
theorem yI:PGs X [] gNil:=by
 intro pins s σ H vs us Q I r h;obtain⟨e,h⟩:=h;subst e;cases r
 exact assignInOrder_nil ⟨σ,H,I,h⟩
theorem zH(h1:PG X e t)(h2:PGs X es u)
  (hs:(assignEach (e::es) X.env).map (·.2)=assign e X.env::(assignEach es X.env).map (·.2):=by rfl):PGs X (e::es) (yB t u):=by
 intro pins s σ H vs us Q I r h;obtain⟨v,vr,e1,h⟩:=h;subst e1;cases r with
 | cons r rr=>
  rw[hs];refine assignInOrder_cons (thn (h1 pins s σ H _ _ _ I r h) fun _ s1 ⟨σ1,H1,I1,q1⟩=>?_);exact h2 pins s1 σ1 H1 _ _ Q I1 rr q1
def gTup (K:W.Frag) (n:Nat) (t:TGs):TG:=fun v σ H Q=> ∃a xs,v= .ref a∧SqT K H a xs∧xs.length=n∧t xs σ H Q
theorem wT{n:Nat}(hc:X.calm=true)(h:PGs X es t)
  (hn:(assignEach es X.env).length=n:=by rfl) (hst:(assignEach es X.env).findIdx? (·.1)=none:=by rfl):PG X (.Tuple es k pos) (gTup X.K n t):=by
 intro pins s σ H v u Q I r hw;obtain⟨a,xs,e1,hq,hl,hw⟩:=hw;subst e1;cases r
 obtain⟨its,rv,ht,hz⟩:=I.tuple hq;refine assign_Tuple_tuple (I.ok.hd hc) ht (by simp[hn,←hl,rv.length]) hst fun h' hx=>?_;have I1:Inv X pins σ H {s with heap:=h'}:=I.kept (t':=s.toks) fun b o e=>hx b o (Nat.ne_of_lt (Heap.lt_size e)) e;exact h pins _ σ H xs _ Q I1 (by simpa using rv) hw
def gSub (to ti:TE) (t:TSet):TG:=fun v σ H Q=>to σ H fun o H1=>ti σ H1 fun i H2=>t o i v H2 fun H3=>Q σ H3
theorem zX(ho:PE X o to)(hi:PE X i ti)(hs:PSet X t)
  (ha: ∀v,assign (.Subscript o i pos) X.env v=(do
   let ov←holding [v] (eval o X.env)
   let iv←holding [v,ov] (eval i X.env)
   standAt pos
   holding [v,ov,iv] (setItem ov iv v)
   release [v,ov,iv] []):=by intro _; rfl):PG X (.Subscript o i pos) (gSub to ti t):=by
 intro pins s σ H v u Q I r h;rw[ha];refine wpAny_bind (wpAny_holding (thn (ho pins s σ H _ I h) fun ov s1 ⟨x,H1,I1,r1,q1⟩=>?_));refine wpAny_bind (wpAny_holding (thn (hi pins s1 σ H1 _ I1 q1) fun iv s2 ⟨y,H2,I2,r2,q2⟩=>?_));refine wpAny_bind (wpAny_standAt (wpAny_bind (wpAny_holding (thn (hs pins s2 σ H2 x y v ov iv u _ I2 r1 r2 r q2) fun _ s3 ⟨H3,I3,q3⟩=>?_))));exact wpAny_release ⟨σ,H3,I3,q3⟩
def tAsg (te:TE) (g:TG):TS:=fun D σ H=>te σ H fun x H1=>g x σ H1 D.nx
theorem zW(he:PE X e te)(hg:PG X tg g)(hs:swapsWithSole [tg] e pos.line X.env=pure false:=by rfl)(hw:swappedStores [tg] e X.env=pure none:=by rfl)
  (h1:(assignEach [tg] X.env).map (·.2)=[assign tg X.env]:=by rfl):PS X (.Assign [tg] e pos) (tAsg te g):=by
 intro pins s σ H D I h;refine wpAny_Assign_stores (thn (he pins s σ H _ I h) fun v s1 ⟨x,H1,I1,r1,q1⟩=>?_) hs hw;rw[h1];exact thn (hg pins s1 σ H1 x v _ I1 r1 q1) fun _ s2 q=>q
theorem wa(hN:X.N.Nodup)(hi:X.N[i]? =some x)(hx:Loc X.env.scope x)(he:PE X e te)(hs:swapsWith e (some (.Name x pos')) pos.line X.env=pure false:=by rfl)(hf:X.fn x=true∨X.env.scope.names.lookup x=some .local:=by first | exact .inl rfl | exact .inr rfl | assumption):
  PS X (.Assign [.Name x pos'] e pos) (tAsg te (zI i)):=by
 intro pins s σ H D I h;refine wpAny_Assign_Name (thn (he pins s σ H _ I h) fun v s1 ⟨y,H1,I1,r1,q1⟩=>?_) hs;exact ZH I1 hN hi hx r1 (fun s2 I2=>⟨_,H1,I2,q1⟩) hf
def Y0 (c:TT) (tb:TS):TS:=fun D σ H=> ∃W:Nat→St→Hp→Prop,(∃m,W m σ H)∧ ∀m σ H,W m σ H→
 c σ H fun b H1=>if b=true then∃N:St→Hp→Prop,(∀σ' H',N σ' H'→ ∃m',m'<m∧W m' σ' H')∧tb {D with nx:=N,ct:=N,bk:=D.nx} σ H1 else D.nx σ H1
theorem vy(hp:PassesOwn (model X.prog X.w) X.A X.env X.xe)(hc:PT X c tc)(hb:PSs X body tb):PS X (.While c body [] pos) (Y0 tc tb):=by
 intro pins s σ H D I h;obtain⟨W,⟨m0,w0⟩,turn⟩:=h;refine wpAny_While (codeAny_whileLoop (fun n s'=> ∃σ' H',Inv X pins σ' H' s'∧W n σ' H') ?_ m0 ⟨σ,H,I,w0⟩);rintro n s1 ⟨σ1,H1,I1,w1⟩;refine wpAny_passesOwn hp (thn (hc pins s1 σ1 H1 _ I1 (turn n σ1 H1 w1)) fun b s2 ⟨H2,I2,q2⟩=>?_);cases b with
 | true=>
  obtain⟨N,hN,q2⟩:=q2;rw[if_pos rfl];refine wpAny_passesOwn hp (thn (hb pins s2 σ1 H2 _ I2 q2) fun f s3 q3=>?_);cases f with
  | next=>
   obtain⟨σ3,H3,I3,n3⟩:=q3;obtain⟨m',hm,w3⟩:=hN σ3 H3 n3;exact⟨m',hm,σ3,H3,I3,w3⟩
  | cont=>
   obtain⟨σ3,H3,I3,n3⟩:=q3;obtain⟨m',hm,w3⟩:=hN σ3 H3 n3;exact⟨m',hm,σ3,H3,I3,w3⟩
  | brk=>exact q3
  | ret v=>exact q3
 | false=>
  rw[if_neg Bool.false_ne_true];exact wpAny_execs_nil ⟨σ1,H2,I2,q2⟩
end
structure It where
 go:Nat→Hp→Prop
 yld:Nat→Hp→V→Hp→Prop
 stop:Nat→Hp→Prop
def FpOk (X:Cx) (pins:List (Addr×Obj)) (H:Hp) (b:Addr):Prop:=
 H b=none∧b≠X.env.locals∧b∉X.fs∧(b∈X.ex∨X.s₀.heap.objs.size≤b)∧(∀x c,X.env.cells.lookup x=some c→c≠b)∧ ∀p∈X.pn++pins,p.1≠b
theorem Inv.fpOk(I:Inv X pins σ H s)(hb:s.heap.objs.size≤b)(hn:H' b=none):FpOk X pins H' b:=by
 refine⟨hn,Nat.ne_of_gt (Nat.lt_of_lt_of_le I.lt hb),I.nofs hb,.inr (Nat.le_trans I.sz hb),fun x c e z=>?_,fun p hp z=>?_⟩
 ·obtain⟨v,q⟩:=I.cell x c e;exact absurd (Nat.lt_of_lt_of_le q.lt (by rw[z]; exact hb)) (Nat.lt_irrefl _)
 ·exact absurd (Nat.lt_of_lt_of_le (Heap.lt_size (I.pin p hp).1) (by rw[z]; exact hb)) (Nat.lt_irrefl _)
structure Turn (P:Program) (w:World) (K:W.Frag) (tg:Expr) (J:It) (fp:List Addr) (it:Addr) (tn:Nat→Heap→Prop):Prop where
 mem:it∈fp
 obj: ∀i h,tn i h→ ∀b∈fp,∃o,h.get? b=some o∧ ∀v,o.data≠.cell v
 keep: ∀i h h',tn i h→(∀b∈fp,∀o,h.get? b=some o→h'.get? b=some o)→tn i h'
 item: ∀(X:Cx),X.prog=P→X.w=w→X.K=K→X.calm=true→ ∀(i:Nat) (pins:List (Addr×Obj)) (s:Shared) (σ:St) (H:Hp) (E:Value→Shared→Prop),Inv X pins σ H s→(∀b∈fp,FpOk X pins H b)→tn i s.heap→J.go i H→
  wpAny (model P w) X.A (pyNext (.ref it)) (fun r s1=> ∃u,r=some u∧
   wpAny (model P w) X.A (letOwnedTupleGo tg (.ref it) u) (fun _ s2=> ∃x H',Inv X pins σ H' s2∧RelV x u∧J.yld i H x H'∧tn (i+1) s2.heap∧ ∀b∈fp,H' b=none) E s1) E s
 done: ∀(X:Cx),X.prog=P→X.w=w→X.K=K→X.calm=true→ ∀(i:Nat) (pins:List (Addr×Obj)) (s:Shared) (σ:St) (H:Hp) (E:Value→Shared→Prop),Inv X pins σ H s→(∀b∈fp,FpOk X pins H b)→tn i s.heap→J.stop i H→
  wpAny (model P w) X.A (pyNext (.ref it)) (fun r s1=>r=none∧Inv X pins σ H s1) E s
 self: ∀(A:Around) (i:Nat) (s:Shared) (Q:Value→Shared→Prop) (E:Value→Shared→Prop),tn i s.heap→Q (.ref it) s→wpAny (model P w) A (pyIter (.ref it)) Q E s
abbrev TI:=St→Hp→(It→Hp→Prop)→Prop
def PIE (X:Cx) (pins:List (Addr×Obj)) (σ:St) (tg:Expr) (R:It→Hp→Prop) (itv:Value) (s2:Shared):Prop:=
 ∃(it:Addr) (fp:List Addr) (tn:Nat→Heap→Prop) (J:It) (H':Hp),itv= .ref it∧Inv X pins σ H' s2∧Turn X.prog X.w X.K tg J fp it tn∧tn 0 s2.heap∧(∀b∈fp,FpOk X pins H' b)∧R J H'
def PI (X:Cx) (tg iter:Expr) (wi:TI):Prop:=
 ∀(pins:List (Addr×Obj)) (s:Shared) (σ:St) (H:Hp) (R:It→Hp→Prop),Inv X pins σ H s→wi σ H R→
  wpAny (model X.prog X.w) X.A (eval iter X.env) (fun v s1=>wpAny (model X.prog X.w) X.A (pyIter v) (PIE X pins σ tg R) X.xe s1) X.xe s
theorem Xu{E:Value→Shared→Prop}{s:Shared}{Q:Unit→Shared→Prop}(ho:s.heap.get? it=some o)(hc:o.cls= .type n)(hd:o.data= .fields vs)
    (hn:["enumerate","zip","dict_itemiterator","dict_reverseitemiterator","odict_iterator","itertools.zip_longest","itertools.pairwise"].contains n=false) (hQ:Q () s):wpAny M A (letOwnedTupleGo tg (.ref it) u) Q E s:=by
  unfold letOwnedTupleGo;cases tg<;>first
    | exact wpAny_pure hQ
    | (cases u<;>first
        | exact wpAny_pure hQ
        | (refine wpAny_bind (wpAny_load ho ?_)
           rw[hc,hd];show wpAny M A (if (["enumerate","zip","dict_itemiterator","dict_reverseitemiterator","odict_iterator","itertools.zip_longest","itertools.pairwise"].contains n&&vs[0]? ==some (rawInt _))=true then _ else _) Q E s;rw[if_neg (by intro h; rw[hn,Bool.false_and] at h; cases h)];exact wpAny_pure hQ))
def Itl (K:W.Frag) (a:Addr):It:=
 ⟨fun i H=> ∃xs x,SqL K H a xs∧xs[i]? =some x,fun i H x H'=>H'=H∧ ∀xs,SqL K H a xs→xs[i]? =some x,fun i H=> ∃xs,SqL K H a xs∧xs.length≤i⟩
def Itt (K:W.Frag) (a:Addr):It:=
 ⟨fun i H=> ∃xs x,SqT K H a xs∧xs[i]? =some x,fun i H x H'=>H'=H∧ ∀xs,SqT K H a xs→xs[i]? =some x,fun i H=> ∃xs,SqT K H a xs∧xs.length≤i⟩
def Itr (lo:Int) (n:Nat):It:=⟨fun i _=>i<n,fun i H x H'=>H'=H∧x= .int (lo+i),fun i _=>n≤i⟩
theorem turn_list{P:Program}{w:World}{K:W.Frag}{tg:Expr}(a it:Addr):Turn P w K tg (Itl K a) [it] it (fun i h=>h.IsListIter it a i) where
 mem:=by simp
 obj:=fun i h st b hb=>by
  have e:b=it:=by simpa using hb
  subst e;obtain⟨o,e,c,d⟩:=st;exact⟨o,e,fun v z=>by rw[d] at z; cases z⟩
 keep:=fun i h h' st k=>st.at fun o e=>k it (by simp) o e
 item:=by
  intro X hP hw hK hc i pins s σ H E I hf st hg;subst hP hw hK;obtain⟨xs,x,hq,hx⟩:=hg;obtain⟨its,rv,p,hz⟩:=I.list hq;obtain⟨u,hu,ru⟩:=rv.get hx;obtain⟨f0,f1,f2,f3,f4,f5⟩:=hf it (by simp);refine wpAny_pyNext_list_item st p.isList (x:=u) (by simpa using hu) fun h' st' sb=>?_;have I1:Inv X pins σ H {s with heap:=h'}:=I.turned (t':=s.toks) (fun b o hb e=>(sb.2 b hb).trans e) f0 f1 f3 f4 f5;obtain⟨o,e,c,d⟩:=id st';exact⟨u,rfl,Xu (s:={s with heap:=h'}) e c d (by decide) ⟨x,H,I1,ru,⟨rfl,fun ys hy=>by rw[I.list_inj hy hq]; exact hx⟩,st',fun b hb=>(hf b hb).1⟩⟩
 done:=by
  intro X hP hw hK hc i pins s σ H E I hf st hg;subst hP hw hK;obtain⟨xs,hq,hx⟩:=hg;obtain⟨its,rv,p,hz⟩:=I.list hq;obtain⟨f0,f1,f2,f3,f4,f5⟩:=hf it (by simp);have hl:=rv.length;exact wpAny_pyNext_list_end (I.ok.hd hc) st p.isList (by simp; omega) fun h' eb=>⟨rfl,I.turned (t':=s.toks) (fun b o hb e=>eb b o hb e) f0 f1 f3 f4 f5⟩
 self:=fun _ _ _ _ _ st h=>wpAny_pyIter_listiter st h
theorem turn_tuple{P:Program}{w:World}{K:W.Frag}{tg:Expr}(a it:Addr):Turn P w K tg (Itt K a) [it] it (fun i h=>h.IsTupleIter it a i) where
 mem:=by simp
 obj:=fun i h st b hb=>by
  have e:b=it:=by simpa using hb
  subst e;obtain⟨o,e,c,d⟩:=st;exact⟨o,e,fun v z=>by rw[d] at z; cases z⟩
 keep:=fun i h h' st k=>st.at fun o e=>k it (by simp) o e
 item:=by
  intro X hP hw hK hc i pins s σ H E I hf st hg;subst hP hw hK;obtain⟨xs,x,hq,hx⟩:=hg;obtain⟨its,rv,p,hz⟩:=I.tuple hq;obtain⟨u,hu,ru⟩:=rv.get hx;obtain⟨f0,f1,f2,f3,f4,f5⟩:=hf it (by simp);refine wpAny_pyNext_tuple_item st (show s.heap.IsTuple a its.toArray from p) (x:=u) (by simpa using hu) fun h' st' sb=>?_;have I1:Inv X pins σ H {s with heap:=h'}:=I.turned (t':=s.toks) (fun b o hb e=>(sb.2 b hb).trans e) f0 f1 f3 f4 f5;obtain⟨o,e,c,d⟩:=id st';exact⟨u,rfl,Xu (s:={s with heap:=h'}) e c d (by decide) ⟨x,H,I1,ru,⟨rfl,fun ys hy=>by rw[I.tuple_inj hy hq]; exact hx⟩,st',fun b hb=>(hf b hb).1⟩⟩
 done:=by
  intro X hP hw hK hc i pins s σ H E I hf st hg;subst hP hw hK;obtain⟨xs,hq,hx⟩:=hg;obtain⟨its,rv,p,hz⟩:=I.tuple hq;obtain⟨f0,f1,f2,f3,f4,f5⟩:=hf it (by simp);have hl:=rv.length;exact wpAny_pyNext_tuple_end (I.ok.hd hc) st (show s.heap.IsTuple a its.toArray from p) (by simp; omega) fun h' eb=>⟨rfl,I.turned (t':=s.toks) (fun b o hb e=>eb b o hb e) f0 f1 f3 f4 f5⟩
 self:=fun _ _ _ _ _ st h=>wpAny_pyIter_tupleiter st h
theorem turn_range{P:Program}{w:World}{K:W.Frag}{tg:Expr}(it:Addr)(lo:Int)(n:Nat):Turn P w K tg (Itr lo n) [it] it (fun i h=>IsRangeIter h it (lo+(i:Nat)*1) ((n:Int)-(i:Nat)) 1) where
 mem:=by simp
 obj:=fun i h st b hb=>by
  have e:b=it:=by simpa using hb
  subst e;exact⟨_,st,fun v z=>by
   have z':Data.fields _=Data.cell v:=z;cases z'⟩
 keep:=fun i h h' st k=>k it (by simp) _ st
 item:=by
  intro X hP hw hK hc i pins s σ H E I hf st hg;subst hP hw hK;obtain⟨f0,f1,f2,f3,f4,f5⟩:=hf it (by simp);have W:=Walks.range (prog:=X.prog) (w:=X.w) (I.ok.hd hc) it lo 1 n;refine W.item i s _ _ hg st fun v h' tk hv st' kk=>?_;obtain⟨t,rfl⟩:=hv;have I1:Inv X pins σ H {s with heap:=h',toks:=tk}:=I.turned (fun b o hb e=>kk b o (by simpa using hb) e) f0 f1 f3 f4 f5;refine⟨_,rfl,Xu (s:={s with heap:=h',toks:=tk}) (n:="range_iterator") st' rfl rfl (by decide) ⟨.int (lo+i),H,I1,⟨t,?_⟩,⟨rfl,rfl⟩,st',fun b hb=>(hf b hb).1⟩⟩;rw[Int.mul_one]
 done:=by
  intro X hP hw hK hc i pins s σ H E I hf st hg;subst hP hw hK;obtain⟨f0,f1,f2,f3,f4,f5⟩:=hf it (by simp);exact wpAny_pyNext_range_end (I.ok.hd hc) st (by have:n≤i:=hg; omega) fun h' eb=>⟨rfl,I.turned (t':=s.toks) (fun b o hb e=>eb b o hb e) f0 f1 f3 f4 f5⟩
 self:=fun _ _ _ _ _ st h=>wpAny_pyIter_rangeiter st h
section
variable {X:Cx} {tg:Expr}
def Xs (K:W.Frag) (tl:TE):TI:=fun σ H R=>tl σ H fun x H1=> ∃a,x= .ref a∧(∃xs,SqL K H1 a xs)∧R (Itl K a) H1
def iTup (K:W.Frag) (tl:TE):TI:=fun σ H R=>tl σ H fun x H1=> ∃a,x= .ref a∧(∃xs,SqT K H1 a xs)∧R (Itt K a) H1
theorem xm{l:Expr}{tl:TE}(hl:PE X l tl):PI X tg l (Xs X.K tl):=by
 intro pins s σ H R I h;refine thn (hl pins s σ H _ I h) fun v s1 ⟨x,H1,I1,r1,q1⟩=>?_;obtain⟨a,e,⟨xs,hq⟩,q⟩:=q1;subst e;cases r1
 obtain⟨its,rv,p,hz⟩:=I1.list hq;refine wpAny_pyIter_list p.isList ?_;refine⟨s1.heap.objs.size,[s1.heap.objs.size],_,_,H1,rfl,I1.kept (t':=s1.toks) fun b o e=>Heap.get?_push_of_some _ e,turn_list a _,⟨_,Heap.get?_push_size _ rfl,rfl,rfl⟩,fun b hb=>?_,q⟩;have e:b=s1.heap.objs.size:=by simpa using hb
 subst e;exact I1.fpOk (Nat.le_refl _) (I1.hok.fresh (Nat.le_refl _))
theorem yC{l:Expr}{tl:TE}(hl:PE X l tl):PI X tg l (iTup X.K tl):=by
 intro pins s σ H R I h;refine thn (hl pins s σ H _ I h) fun v s1 ⟨x,H1,I1,r1,q1⟩=>?_;obtain⟨a,e,⟨xs,hq⟩,q⟩:=q1;subst e;cases r1
 obtain⟨its,rv,p,hz⟩:=I1.tuple hq;refine wpAny_pyIter_tuple (show s1.heap.IsTuple a its.toArray from p) ?_;refine⟨s1.heap.objs.size,[s1.heap.objs.size],_,_,H1,rfl,I1.kept (t':=s1.toks) fun b o e=>Heap.get?_push_of_some _ e,turn_tuple a _,⟨_,Heap.get?_push_size _ rfl,rfl,rfl⟩,fun b hb=>?_,q⟩;have e:b=s1.heap.objs.size:=by simpa using hb
 subst e;exact I1.fpOk (Nat.le_refl _) (I1.hok.fresh (Nat.le_refl _))
theorem range_it{pins:List (Addr×Obj)}{σ:St}{H:Hp}{s:Shared}{R:It→Hp→Prop}{E:Value→Shared→Prop}{lo hi:Int}{t u v:Tok}{tk:Nat}(I:Inv X pins σ H s)(h1: -(2^62)≤lo)(h2:lo<2^62)(h3: -(2^62)≤hi)(h4:hi<2^62)
  (q:R (Itr lo (hi - lo).toNat) H):wpAny (model X.prog X.w) X.A (pyIter (.ref s.heap.objs.size)) (PIE X pins σ tg R) E {s with heap:=s.heap.push {cls:= .type "range",data:= .fields #[.int lo t,.int hi u,.int 1 v]},toks:=tk}:=by
 refine wpAny_pyIter_range (IsRange.new ..) (small_one h1 h2 h3 h4) ?_;have I1:Inv X pins σ H {s with heap:=s.heap.push {cls:= .type "range",data:= .fields #[.int lo t,.int hi u,.int 1 v]},toks:=tk}:=I.kept fun b o e=>Heap.get?_push_of_some _ e;refine⟨(s.heap.push {cls:= .type "range",data:= .fields #[.int lo t,.int hi u,.int 1 v]}).objs.size,[(s.heap.push {cls:= .type "range",data:= .fields #[.int lo t,.int hi u,.int 1 v]}).objs.size],_,_,H,rfl,
  I1.kept (t':=tk) fun b o e=>Heap.get?_push_of_some _ e,turn_range _ lo (hi-lo).toNat,?_,fun b hb=>?_,q⟩
 ·have e1:lo+((0:Nat):Int)*1=lo:=by simp
  have e2:(((hi-lo).toNat:Nat):Int)-((0:Nat):Int)=Builtin.Range.rangeSize lo hi 1:=by rw[rangeSize_one]; split<;>omega
  show IsRangeIter _ _ (lo+((0:Nat):Int)*1) ((((hi-lo).toNat:Nat):Int)-((0:Nat):Int)) 1;rw[e1,e2];exact Heap.get?_push_size _ rfl
 ·have e:b=(s.heap.push {cls:= .type "range",data:= .fields #[.int lo t,.int hi u,.int 1 v]}).objs.size:=by simpa using hb
  subst e;exact I1.fpOk (Nat.le_refl _) (I1.hok.fresh (Nat.le_refl _))
def YL (ta:TA):TI:=fun σ H R=>ta σ H fun vs H1=> ∃j:Int,vs=[.int j]∧ -(2^62)≤j∧j<2^62∧R (Itr 0 j.toNat) H1
theorem y8{a:Expr}{ta:TA}{p pos:Pos}(hg:Gl X "range")(hm:X.mg "range"=none)(ha:PA X [a] ta)(hs:starEach [a] X.env=[(false,eval a X.env)]:=by rfl):PI X tg (.Call (.Name "range" p) [a] [] pos) (YL ta):=by
 intro pins s σ H R I h;refine Call_ (xR I hg hm boot_range (PyProof.Rows.callWith_type1 (thn (ha pos pins s σ H _ I h) fun us s1 ⟨vs,H1,I1,r1,q1⟩=>?_) hs rfl));obtain⟨j,e,q1,q2,q⟩:=q1;subst e;cases r1 with
 | cons r rr=>
  cases rr
  obtain⟨t,rfl⟩:=r;exact call_range_1 (range_it I1 (by omega) (by omega) q1 q2 (by simpa using q))
def tFor (wi:TI) (g:TG) (tb:TS):TS:=fun D σ H=>wi σ H fun J H1=> ∃W:Nat→Nat→St→Hp→Prop,(∃m,W 0 m σ H1)∧ ∀i m σ H,W i m σ H→
 (J.stop i H∧D.nx σ H)∨(J.go i H∧ ∃N:St→Hp→Prop,(∀σ' H',N σ' H'→ ∃m',m'<m∧W (i+1) m' σ' H')∧ ∀x H',J.yld i H x H'→g x σ H' fun σ2 H2=>tb {D with nx:=N,ct:=N,bk:=D.nx} σ2 H2)
def wS (fp:List Addr) (h:Heap):List (Addr×Obj):=fp.filterMap fun b=>(h.get? b).map fun o=>(b,o)
theorem yD{h:Heap}(hb:b∈fp)(e:h.get? b=some o):(b,o)∈wS fp h:=List.mem_filterMap.mpr ⟨b,hb,by rw[e]; rfl⟩
theorem of_pinsAt(hp:p∈wS fp h):p.1∈fp∧h.get? p.1=some p.2:=by
 obtain⟨b,hb,e⟩:=List.mem_filterMap.mp hp;cases q:h.get? b with
 | none=>rw[q] at e; cases e
 | some o=>
  rw[q] at e;have e':(b,o)=p:=Option.some.inj e;subst e';exact⟨hb,q⟩
theorem Inv.pinned(I:Inv X pins σ H s)(hf: ∀b∈fp,FpOk X pins H b)(ho: ∀b∈fp,∃o,s.heap.get? b=some o∧ ∀v,o.data≠.cell v):Inv X (pins++wS fp s.heap) σ H s:=
 I.pins_of fun p hp=>(List.mem_append.mp hp).elim (fun z=>I.pin p (List.mem_append_right _ z)) fun z=>by
  obtain⟨hb,e⟩:=of_pinsAt z;obtain⟨f0,f1,f2,_⟩:=hf p.1 hb;obtain⟨o,e',d⟩:=ho p.1 hb;rw[e] at e'; cases e';exact⟨e,f0,f1,f2,d⟩
theorem Inv.unpinned(I:Inv X (pins++pl) σ H s):Inv X pins σ H s:=I.pins_of fun p hp=>I.pin p (List.mem_append_right _ (List.mem_append_left _ hp))
theorem yX(hp:PassesOwn (model X.prog X.w) X.A X.env X.xe)(hc:X.calm=true)(hi:PI X tg iter wi)(hg:PG X tg g)(hb:PSs X body tb)
  (hs: ∀x,foldedSetIterable iter X.env x=pure x:=by intro _; rfl):PS X (.For tg iter body [] pos) (tFor wi g tb):=by
 intro pins s σ H D I h;refine wpAny_For (thn (hi pins s σ H _ I h) fun v s1 h1=>thn h1 fun itv s2 h2=>?_) hs;obtain⟨it,fp,tn,J,H2,e,I2,T,st2,f2,W,⟨m0,w0⟩,turn⟩:=h2;subst e
 -- what stays true of the iterator's objects through the loop
 have stat: ∀{H':Hp},(∀b∈fp,H' b=none)→ ∀b∈fp,FpOk X pins H' b:=fun hn b hb=>⟨hn b hb,(f2 b hb).2⟩;refine codeAny_forLoop_any (fun n s'=> ∃i σ' H',Inv X pins σ' H' s'∧tn i s'.heap∧(∀b∈fp,H' b=none)∧W i n σ' H') ?_ m0 ⟨0,σ,H2,I2,st2,fun b hb=>(f2 b hb).1,w0⟩;rintro n s3 ⟨i,σ3,H3,I3,st3,fr3,w3⟩;rcases turn i n σ3 H3 w3 with ⟨stop,qn⟩ | ⟨go,N,hN,step⟩
 ·refine wpAny_passesOwn hp (thn (T.done X rfl rfl rfl hc i pins s3 σ3 H3 X.xe I3 (stat fr3) st3 stop) fun r s4 ⟨hr,I4⟩=>?_);subst hr;exact wpAny_execs_nil ⟨σ3,H3,I4,qn⟩
 ·refine wpAny_passesOwn hp (thn (T.item X rfl rfl rfl hc i pins s3 σ3 H3 X.xe I3 (stat fr3) st3 go) fun r s4 ⟨u,hr,h4⟩=>?_);subst hr;refine wpAny_passesOwn hp (thn h4 fun _ s5 ⟨x,H5,I5,r5,y5,st5,fr5⟩=>?_);have I5':=I5.pinned (stat fr5) (T.obj _ _ st5);refine wpAny_passesOwn hp (thn (hg _ s5 σ3 H5 x u _ I5' r5 (step x H5 y5)) fun _ s6 ⟨σ6,H6,I6,q6⟩=>?_);refine wpAny_passesOwn hp (thn (hb _ s6 σ6 H6 _ I6 q6) fun f s7 q7=>?_);have again: ∀{σ7:St} {H7:Hp},Inv X (pins++wS fp s5.heap) σ7 H7 s7→N σ7 H7→ ∃m,m<n∧ ∃i σ' H',Inv X pins σ' H' s7∧tn i s7.heap∧(∀b∈fp,H' b=none)∧W i m σ' H':=fun {σ7 H7} I7 n7=>by
   obtain⟨m',hm,w7⟩:=hN σ7 H7 n7;refine⟨m',hm,i+1,σ7,H7,I7.unpinned,T.keep _ _ _ st5 fun b hb o e=>(I7.pin (b,o) (List.mem_append_right _ (List.mem_append_right _ (yD hb e)))).1,fun b hb=>?_,w7⟩;obtain⟨o,e,d⟩:=T.obj _ _ st5 b hb;exact(I7.pin (b,o) (List.mem_append_right _ (List.mem_append_right _ (yD hb e)))).2.1
  cases f with
  | next=>obtain⟨σ7,H7,I7,n7⟩:=q7; exact again I7 n7
  | cont=>obtain⟨σ7,H7,I7,n7⟩:=q7; exact again I7 n7
  | brk=>obtain⟨σ7,H7,I7,q7⟩:=q7; exact⟨σ7,H7,I7.unpinned,q7⟩
  | ret v=>obtain⟨x7,σ7,H7,I7,r7,q7⟩:=q7; exact⟨x7,σ7,H7,I7.unpinned,r7,q7⟩
end
theorem for_list{K:W.Frag}{a:Addr}{xs:List V}{g:TG}{tb:TS}{D:Ends}{σ:St}{H:Hp}(Pv:Nat→St→Hp→Prop)(h0:Pv 0 σ H)(hl: ∀i σ H,i≤xs.length→Pv i σ H→SqL K H a xs)
  (hs: ∀i x σ H,xs[i]? =some x→Pv i σ H→g x σ H fun σ2 H2=>tb {D with nx:=Pv (i+1),ct:=Pv (i+1),bk:=D.nx} σ2 H2) (hd: ∀σ H,Pv xs.length σ H→D.nx σ H):
  ∃W:Nat→Nat→St→Hp→Prop,(∃m,W 0 m σ H)∧ ∀i m σ H,W i m σ H→
   ((Itl K a).stop i H∧D.nx σ H)∨((Itl K a).go i H∧ ∃N:St→Hp→Prop,(∀σ' H',N σ' H'→ ∃m',m'<m∧W (i+1) m' σ' H')∧ ∀x H',(Itl K a).yld i H x H'→g x σ H' fun σ2 H2=>tb {D with nx:=N,ct:=N,bk:=D.nx} σ2 H2):=by
 refine⟨fun i m σ H=>m=xs.length-i∧i≤xs.length∧Pv i σ H,⟨xs.length,by simp,Nat.zero_le _,h0⟩,?_⟩;rintro i m σ H ⟨rfl,hi,p⟩;have q:=hl i σ H hi p;by_cases hlt:i<xs.length
 ·refine .inr ⟨⟨xs,xs[i],q,by simp[hlt]⟩,Pv (i+1),fun σ' H' p'=>⟨xs.length-(i+1),by omega,rfl,hlt,p'⟩,fun x H' y=>?_⟩;obtain⟨e,y⟩:=y;subst e;exact hs i x σ _ (y xs q) p
 ·have e:i=xs.length:=by omega
  subst e;exact .inl ⟨⟨xs,q,Nat.le_refl _⟩,hd σ H p⟩
theorem YN{K:W.Frag}{a:Addr}{xs:List V}{g:TG}{tb:TS}{D:Ends}{σ:St}{H:Hp}(Pv:Nat→St→Hp→Prop)(h0:Pv 0 σ H)(hl: ∀i σ H,i≤xs.length→Pv i σ H→SqT K H a xs)
  (hs: ∀i x σ H,xs[i]? =some x→Pv i σ H→g x σ H fun σ2 H2=>tb {D with nx:=Pv (i+1),ct:=Pv (i+1),bk:=D.nx} σ2 H2) (hd: ∀σ H,Pv xs.length σ H→D.nx σ H):
  ∃W:Nat→Nat→St→Hp→Prop,(∃m,W 0 m σ H)∧ ∀i m σ H,W i m σ H→
   ((Itt K a).stop i H∧D.nx σ H)∨((Itt K a).go i H∧ ∃N:St→Hp→Prop,(∀σ' H',N σ' H'→ ∃m',m'<m∧W (i+1) m' σ' H')∧ ∀x H',(Itt K a).yld i H x H'→g x σ H' fun σ2 H2=>tb {D with nx:=N,ct:=N,bk:=D.nx} σ2 H2):=by
 refine⟨fun i m σ H=>m=xs.length-i∧i≤xs.length∧Pv i σ H,⟨xs.length,by simp,Nat.zero_le _,h0⟩,?_⟩;rintro i m σ H ⟨rfl,hi,p⟩;have q:=hl i σ H hi p;by_cases hlt:i<xs.length
 ·refine .inr ⟨⟨xs,xs[i],q,by simp[hlt]⟩,Pv (i+1),fun σ' H' p'=>⟨xs.length-(i+1),by omega,rfl,hlt,p'⟩,fun x H' y=>?_⟩;obtain⟨e,y⟩:=y;subst e;exact hs i x σ _ (y xs q) p
 ·have e:i=xs.length:=by omega
  subst e;exact .inl ⟨⟨xs,q,Nat.le_refl _⟩,hd σ H p⟩
theorem yE{lo:Int}{n:Nat}{g:TG}{tb:TS}{D:Ends}{σ:St}{H:Hp}(Pv:Nat→St→Hp→Prop)(h0:Pv 0 σ H)
  (hs: ∀i σ H,i<n→Pv i σ H→g (.int (lo+i)) σ H fun σ2 H2=>tb {D with nx:=Pv (i+1),ct:=Pv (i+1),bk:=D.nx} σ2 H2) (hd: ∀σ H,Pv n σ H→D.nx σ H):
  ∃W:Nat→Nat→St→Hp→Prop,(∃m,W 0 m σ H)∧ ∀i m σ H,W i m σ H→
   ((Itr lo n).stop i H∧D.nx σ H)∨((Itr lo n).go i H∧ ∃N:St→Hp→Prop,(∀σ' H',N σ' H'→ ∃m',m'<m∧W (i+1) m' σ' H')∧ ∀x H',(Itr lo n).yld i H x H'→g x σ H' fun σ2 H2=>tb {D with nx:=N,ct:=N,bk:=D.nx} σ2 H2):=by
 refine⟨fun i m σ H=>m=n-i∧i≤n∧Pv i σ H,⟨n,by simp,Nat.zero_le _,h0⟩,?_⟩;rintro i m σ H ⟨rfl,hi,p⟩;by_cases hlt:i<n
 ·refine .inr ⟨hlt,Pv (i+1),fun σ' H' p'=>⟨n-(i+1),by omega,rfl,hlt,p'⟩,fun x H' y=>?_⟩;obtain⟨e,y⟩:=y;subst e y;exact hs i σ _ hlt p
 ·have e:i=n:=by omega
  subst e;exact .inl ⟨Nat.le_refl _,hd σ H p⟩
abbrev R2:=V→V→Hp→VK→Prop
def OpR (X:Cx) (f:Value→Value→Sem Value) (r:R2):Prop:=
 ∀(pins:List (Addr×Obj)) (s:Shared) (σ:St) (H:Hp) (x y:V) (v u:Value) (Q:VK),Inv X pins σ H s→RelV x v→RelV y u→r x y H Q→
  wpAny (model X.prog X.w) X.A (f v u) (EP X pins σ Q) X.xe s
def UnR (X:Cx) (f:Value→Sem Value) (r:V→Hp→VK→Prop):Prop:=
 ∀(pins:List (Addr×Obj)) (s:Shared) (σ:St) (H:Hp) (x:V) (v:Value) (Q:VK),Inv X pins σ H s→RelV x v→r x H Q→
  wpAny (model X.prog X.w) X.A (f v) (EP X pins σ Q) X.xe s
def yn (X:Cx) (f:Value) (r:List V→Hp→VK→Prop):Prop:=
 ∀(pins:List (Addr×Obj)) (s:Shared) (σ:St) (H:Hp) (xs:List V) (us:List Value) (Q:VK),Inv X pins σ H s→Vals xs us→r xs H Q→
  wpAny (model X.prog X.w) X.A (call f us) (EP X pins σ Q) X.xe s
def tOp (r:R2) (ta tb:TE):TE:=fun σ H Q=>ta σ H fun x H1=>tb σ H1 fun y H2=>r x y H2 Q
def tUn (r:V→Hp→VK→Prop) (ta:TE):TE:=fun σ H Q=>ta σ H fun x H1=>r x H1 Q
def rI (C:Int→Int→Prop) (g:Int→Int→V):R2:=fun x y H Q=> ∃i j,x= .int i∧y= .int j∧C i j∧Q (g i j) H
def rI0 (g:Int→Int→V):R2:=fun x y H Q=> ∃i j,x= .int i∧y= .int j∧Q (g i j) H
def rU (g:Int→V):V→Hp→VK→Prop:=fun x H Q=> ∃i,x= .int i∧Q (g i) H
section
variable {X:Cx} {a b c:Expr} {ta tb tc:TE} {pos:Pos}
theorem binT(ha:PE X a ta)(hb:PE X b tb){R:V→V→Hp→Prop}(I:Inv X pins σ H s)
  (h:ta σ H fun x H1=>tb σ H1 fun y H2=>R x y H2) {Q:Value→Shared→Prop} {f:Value→Value→Sem Value}
  (hf: ∀v u s2 x y H2,Inv X pins σ H2 s2→RelV x v→RelV y u→R x y H2→wpAny (model X.prog X.w) X.A (f v u) Q X.xe s2):
  wpAny (model X.prog X.w) X.A (eval a X.env) (fun v s₁=>wpAny (model X.prog X.w) X.A (eval b X.env) (fun u s₂=>wpAny (model X.prog X.w) X.A (f v u) Q X.xe s₂) X.xe s₁) X.xe s:=by
 refine thn (ha pins s σ H _ I h) fun v s1 ⟨x,H1,I1,r1,q1⟩=>?_;refine thn (hb pins s1 σ H1 _ I1 q1) fun u s2 ⟨y,H2,I2,r2,q2⟩=>?_;exact hf v u s2 x y H2 I2 r1 r2 q2
theorem zo(ho:OpR X (binaryOp op) r)(ha:PE X a ta)(hb:PE X b tb):PE X (.BinOp a op b pos) (tOp r ta tb):=by
 intro pins s σ H Q I h;exact wpAny_BinOp (binT ha hb I h fun v u s2 x y H2 I2 rx ry q=>ho pins s2 σ H2 x y v u Q I2 rx ry q)
theorem w9{r:V→Hp→VK→Prop}(ho:UnR X (unaryOp op) r)(ha:PE X a ta):PE X (.UnaryOp op a pos) (tUn r ta):=by
 intro pins s σ H Q I h;exact UnaryOp_ (thn (ha pins s σ H _ I h) fun v s1 ⟨x,H1,I1,r1,q1⟩=>ho pins s1 σ H1 x v Q I1 r1 q1)
theorem opI{f:Value→Value→Sem Value}{C:Int→Int→Prop}{g:Int→Int→Int}
  (rule: ∀(i j:Int) (t u:Tok) (s:Shared) (Q:Value→Shared→Prop) (E:Value→Shared→Prop),C i j→Q (.int (g i j) s.toks) {s with toks:=s.toks+1}→wpAny (model X.prog X.w) X.A (f (.int i t) (.int j u)) Q E s):
  OpR X f (rI C fun i j=> .int (g i j)):=by
 intro pins s σ H x y v u Q I rx ry h;obtain⟨i,j,rfl,rfl,hc,q⟩:=h;obtain⟨t,rfl⟩:=rx;obtain⟨t',rfl⟩:=ry;exact rule i j t t' s _ _ hc ⟨.int (g i j),H,I.tok _,⟨_,rfl⟩,q⟩
theorem opI0{f:Value→Value→Sem Value}{g:Int→Int→Int}
  (rule: ∀(i j:Int) (t u:Tok) (s:Shared) (Q:Value→Shared→Prop) (E:Value→Shared→Prop),Q (.int (g i j) s.toks) {s with toks:=s.toks+1}→wpAny (model X.prog X.w) X.A (f (.int i t) (.int j u)) Q E s):
  OpR X f (rI0 fun i j=> .int (g i j)):=by
 intro pins s σ H x y v u Q I rx ry h;obtain⟨i,j,rfl,rfl,q⟩:=h;obtain⟨t,rfl⟩:=rx;obtain⟨t',rfl⟩:=ry;exact rule i j t t' s _ _ ⟨.int (g i j),H,I.tok _,⟨_,rfl⟩,q⟩
theorem opB0{f:Value→Value→Sem Value}{g:Int→Int→Bool}
  (rule: ∀(i j:Int) (t u:Tok) (s:Shared) (Q:Value→Shared→Prop) (E:Value→Shared→Prop),Q (.bool (g i j)) s→wpAny (model X.prog X.w) X.A (f (.int i t) (.int j u)) Q E s):
  OpR X f (rI0 fun i j=> .bl (g i j)):=by
 intro pins s σ H x y v u Q I rx ry h;obtain⟨i,j,rfl,rfl,q⟩:=h;obtain⟨t,rfl⟩:=rx;obtain⟨t',rfl⟩:=ry;exact rule i j t t' s _ _ ⟨.bl (g i j),H,I,rfl,q⟩
def CDiv (i j:Int):Prop:=0<j∧j<1073741824
def CPow (i j:Int):Prop:=0≤j∧j≤1000000∧i.natAbs<2^64
def CMul (i j:Int):Prop:=(-(2^64)<i∧i<2^64)∨(-(2^64)<j∧j<2^64)
theorem CMul.ok(h:CMul i j):IntMulOk i j:=by
 rcases h with ⟨h1,h2⟩ | ⟨h1,h2⟩
 ·exact .of_left (intBits_le_64 h1 h2)
 ·exact .of_right (intBits_le_64 h1 h2)
theorem zP:OpR X (binaryOp .Add) (rI0 fun i j=> .int (i+j)):=opI0 fun _ _ _ _ _ _ _ q=>add_int q
theorem wb:OpR X (binaryOp .Sub) (rI0 fun i j=> .int (i-j)):=opI0 fun _ _ _ _ _ _ _ q=>sub_int q
theorem xt:OpR X (binaryOp .Mult) (rI CMul fun i j=> .int (i*j)):=opI fun _ _ _ _ _ _ _ hc q=>mul_int q hc.ok
theorem Zq:OpR X (binaryOp .FloorDiv) (rI CDiv fun i j=> .int (i / j)):=opI fun i j _ _ _ _ _ hc q=>by
 have h1:(0:Int)<j:=hc.1;have h2:j<1073741824:=hc.2;exact floordiv_int (by omega) (by rw[Int.fdiv_eq_ediv_of_nonneg i (by omega)]; exact q) (.inl (PyProof.noPylong_small (by omega)))
theorem yr:OpR X (binaryOp .Mod) (rI (fun _ j=>0<j) fun i j=> .int (i%j)):=opI fun i j _ _ _ _ _ hc q=>by
 have h1:(0:Int)<j:=hc;exact mod_int' (by omega) (by rw[Int.fmod_eq_emod_of_nonneg i (by omega)]; exact q)
theorem op_pow:OpR X (binaryOp .Pow) (rI CPow fun i j=> .int (i^j.toNat)):=opI fun _ _ _ _ _ _ _ hc q=>pow_int_small hc.1 hc.2.1 hc.2.2 q
theorem unI{f:Value→Sem Value}{g:Int→Int}
  (rule: ∀(i:Int) (t:Tok) (s:Shared) (Q:Value→Shared→Prop) (E:Value→Shared→Prop),Q (.int (g i) s.toks) {s with toks:=s.toks+1}→wpAny (model X.prog X.w) X.A (f (.int i t)) Q E s):
  UnR X f (rU fun i=> .int (g i)):=by
 intro pins s σ H x v Q I rx h;obtain⟨i,rfl,q⟩:=h;obtain⟨t,rfl⟩:=rx;exact rule i t s _ _ ⟨.int (g i),H,I.tok _,⟨_,rfl⟩,q⟩
theorem xL:UnR X (unaryOp .USub) (rU fun i=> .int (-i)):=unI fun _ _ _ _ _ q=>neg_int q
def scal:V→V→Bool
 | .non,.non=>true | .non,.int _=>true | .int _,.non=>true | .non,.bl _=>true | .bl _,.non=>true | .non,.str _=>true | .str _,.non=>true
 | .int _,.int _=>true | .bl _,.bl _=>true | .str _,.str _=>true | .byt _,.byt _=>true
 | .int _,.str _=>true | .str _,.int _=>true | .bl _,.str _=>true | .str _,.bl _=>true
 | _,_=>false
def rEq:R2:=fun x y H Q=>scal x y=true∧Q (.bl (decide (x=y))) H
def rNe:R2:=fun x y H Q=>scal x y=true∧Q (.bl (!decide (x=y))) H
theorem YR:decide (V.int i=V.int j)=(i==j):=by
 rw[Bool.eq_iff_iff];simp
theorem Xz:decide (V.bl i=V.bl j)=(i==j):=by
 rw[Bool.eq_iff_iff];simp
theorem YQ:decide (V.str i=V.str j)=(i==j):=by
 rw[Bool.eq_iff_iff];simp
theorem YS:decide (V.byt i=V.byt j)=(i.toList==j.toList):=by
 rw[Bool.eq_iff_iff];cases i
 cases j
 simp
theorem zJ(I:Inv X pins σ H s)(q:Q (.bl k) H)(e:k=k'):EP X pins σ Q (.bool k') s:=by
 subst e;exact⟨.bl k,H,I,rfl,q⟩
theorem xJ:OpR X (compareOp .Eq) rEq:=by
 intro pins s σ H x y v u Q I rx ry h;obtain⟨hs,q⟩:=h;cases x with
 | non=>
  cases rx
  cases y with
  | non=>cases ry; exact PySem.EqNone.eq_none_none (zJ I q (by simp))
  | bl j=>cases ry; exact PySem.EqNone.eq_none_bool (zJ I q (by simp))
  | int j=>obtain⟨t',rfl⟩:=ry; exact PySem.EqNone.eq_none_int (zJ I q (by simp))
  | str j=>obtain⟨t',rfl⟩:=ry; exact PySem.EqNone.eq_none_str (zJ I q (by simp))
  | _=>exact absurd (show false=true from hs) Bool.false_ne_true
 | bl i=>
  cases rx
  cases y with
  | non=>cases ry; exact PySem.EqNone.eq_bool_none (zJ I q (by simp))
  | bl j=>cases ry; exact eq_bool (zJ I q Xz)
  | str j=>obtain⟨t',rfl⟩:=ry; exact PySem.EqMixed.eq_bool_str (zJ I q (by simp))
  | _=>exact absurd (show false=true from hs) Bool.false_ne_true
 | int i=>
  obtain⟨t,rfl⟩:=rx;cases y with
  | non=>cases ry; exact PySem.EqNone.eq_int_none (zJ I q (by simp))
  | int j=>obtain⟨t',rfl⟩:=ry; exact eq_int (zJ I q YR)
  | str j=>obtain⟨t',rfl⟩:=ry; exact PySem.EqMixed.eq_int_str (zJ I q (by simp))
  | _=>exact absurd (show false=true from hs) Bool.false_ne_true
 | str i=>
  obtain⟨t,rfl⟩:=rx;cases y with
  | non=>cases ry; exact PySem.EqNone.eq_str_none (zJ I q (by simp))
  | bl j=>cases ry; exact PySem.EqMixed.eq_str_bool (zJ I q (by simp))
  | int j=>obtain⟨t',rfl⟩:=ry; exact PySem.EqMixed.eq_str_int (zJ I q (by simp))
  | str j=>obtain⟨t',rfl⟩:=ry; exact eq_str (zJ I q YQ)
  | _=>exact absurd (show false=true from hs) Bool.false_ne_true
 | byt i=>
  obtain⟨t,rfl⟩:=rx;cases y with
  | byt j=>obtain⟨t',rfl⟩:=ry; exact PySem.W.eq_bytes (zJ I q YS)
  | _=>exact absurd (show false=true from hs) Bool.false_ne_true
 | _=>cases y<;>exact absurd (show false=true from hs) Bool.false_ne_true
theorem xn:OpR X (compareOp .NotEq) rNe:=by
 intro pins s σ H x y v u Q I rx ry h;obtain⟨hs,q⟩:=h;cases x with
 | non=>
  cases rx
  cases y with
  | non=>cases ry; exact PySem.EqNone.ne_none_none (zJ I q (by simp))
  | bl j=>cases ry; exact PySem.EqNone.ne_none_bool (zJ I q (by simp))
  | int j=>obtain⟨t',rfl⟩:=ry; exact PySem.EqNone.ne_none_int (zJ I q (by simp))
  | str j=>obtain⟨t',rfl⟩:=ry; exact PySem.EqNone.ne_none_str (zJ I q (by simp))
  | _=>exact absurd (show false=true from hs) Bool.false_ne_true
 | bl i=>
  cases rx
  cases y with
  | non=>cases ry; exact PySem.EqNone.ne_bool_none (zJ I q (by simp))
  | bl j=>cases ry; exact ne_bool (zJ I q (congrArg not Xz))
  | str j=>obtain⟨t',rfl⟩:=ry; exact PySem.EqMixed.ne_bool_str (zJ I q (by simp))
  | _=>exact absurd (show false=true from hs) Bool.false_ne_true
 | int i=>
  obtain⟨t,rfl⟩:=rx;cases y with
  | non=>cases ry; exact PySem.EqNone.ne_int_none (zJ I q (by simp))
  | int j=>obtain⟨t',rfl⟩:=ry; exact ne_int (zJ I q (congrArg not YR))
  | str j=>obtain⟨t',rfl⟩:=ry; exact PySem.EqMixed.ne_int_str (zJ I q (by simp))
  | _=>exact absurd (show false=true from hs) Bool.false_ne_true
 | str i=>
  obtain⟨t,rfl⟩:=rx;cases y with
  | non=>cases ry; exact PySem.EqNone.ne_str_none (zJ I q (by simp))
  | bl j=>cases ry; exact PySem.EqMixed.ne_str_bool (zJ I q (by simp))
  | int j=>obtain⟨t',rfl⟩:=ry; exact PySem.EqMixed.ne_str_int (zJ I q (by simp))
  | str j=>obtain⟨t',rfl⟩:=ry; exact ne_str (zJ I q (congrArg not YQ))
  | _=>exact absurd (show false=true from hs) Bool.false_ne_true
 | byt i=>
  obtain⟨t,rfl⟩:=rx;cases y with
  | byt j=>obtain⟨t',rfl⟩:=ry; exact PySem.W.ne_bytes (zJ I q (congrArg not YS))
  | _=>exact absurd (show false=true from hs) Bool.false_ne_true
 | _=>cases y<;>exact absurd (show false=true from hs) Bool.false_ne_true
theorem x8:OpR X (compareOp .Lt) (rI0 fun i j=> .bl (decide (i<j))):=opB0 fun _ _ _ _ _ _ _ q=>lt_int q
theorem vV:OpR X (compareOp .Gt) (rI0 fun i j=> .bl (decide (j<i))):=opB0 fun _ _ _ _ _ _ _ q=>gt_int q
theorem Xi:OpR X (compareOp .GtE) (rI0 fun i j=> .bl (decide (j≤i))):=opB0 fun _ _ _ _ _ _ _ q=>ge_int q
theorem zv(b:Expr)(h:op≠.In:=by decide)(h2:op≠.NotIn:=by decide):behindInMarks op b=false:=by
 have e1:(op==CmpOp.In)=false:=by cases op<;>first | rfl | exact absurd rfl h
 have e2:(op==CmpOp.NotIn)=false:=by cases op<;>first | rfl | exact absurd rfl h2
 cases b<;>simp[behindInMarks,e1,e2]
theorem xD(ho:OpR X (compareOp op) r)(ha:PE X a ta)(hb:PE X b tb)(hm:behindInMarks op b=false):PE X (.Compare a [op] [b] pos) (tOp r ta tb):=by
 intro pins s σ H Q I h;exact wpAny_Compare1 (binT ha hb I h fun v u s2 x y H2 I2 rx ry q=>ho pins s2 σ H2 x y v u Q I2 rx ry q) hm
def XM (t:TE):TT:=fun σ H Q=>t σ H fun x H'=> ∃k,x= .bl k∧Q k H'
theorem zt(ho:OpR X (compareOp op) r)(ha:PE X a ta)(hb:PE X b tb)(hm:behindInMarks op b=false):PT X (.Compare a [op] [b] pos) (XM (tOp r ta tb)):=by
 intro pins s σ H Q I h;refine wpAny_isTrue_Compare1 (thn (ha pins s σ H _ I h) fun v s1 ⟨x,H1,I1,r1,q1⟩=>thn (hb pins s1 σ H1 _ I1 q1) fun u s2 ⟨y,H2,I2,r2,q2⟩=>
  thn (ho pins s2 σ H2 x y v u _ I2 r1 r2 q2) fun c s3 ⟨z,H3,I3,r3,k,e,q3⟩=>?_) hm
 subst e;cases r3
 exact wpAny_truthy_bool ⟨H3,I3,q3⟩
theorem vD:(sizeLine:Nat)<2^63:=by rw[sizeLine_eq]; decide
theorem vO(r:Vals [x] us): ∃u,us=[u]∧RelV x u:=by
 cases r with
 | cons r1 r2=>cases r2; exact⟨_,rfl,r1⟩
theorem vals2(r:Vals [x,y] us): ∃u w',us=[u,w']∧RelV x u∧RelV y w':=by
 cases r with
 | cons r1 r2=>
  cases r2 with
  | cons r3 r4=>cases r4; exact⟨_,_,rfl,r1,r3⟩
theorem vN:yn X (.builtin "abs") (fun xs H Q=> ∃i,xs=[.int i]∧Q (.int (if i<0 then -i else i)) H):=by
 intro pins s σ H xs us Q I r h;obtain⟨i,rfl,q⟩:=h;obtain⟨u,rfl,t,rfl⟩:=vO r;exact call_abs_int fun u tk=>⟨.int (if i<0 then -i else i),H,I.tok _,⟨_,rfl⟩,q⟩
theorem call_min2(hc:X.calm=true):yn X (.builtin "min") (fun xs H Q=> ∃i j,xs=[.int i,.int j]∧Q (.int (if j<i then j else i)) H):=by
 intro pins s σ H xs us Q I r h;obtain⟨i,j,rfl,q⟩:=h;obtain⟨u,w',rfl,⟨t,rfl⟩,⟨t',rfl⟩⟩:=vals2 r;refine min_two_ints (I.ok.hd hc) fun h' tk k=>⟨_,H,I.kept k,?_,q⟩;by_cases hj:j<i
 ·rw[if_pos hj,if_pos hj]; exact⟨_,rfl⟩
 ·rw[if_neg hj,if_neg hj]; exact⟨_,rfl⟩
theorem wX:yn X (.type "int") (fun xs H Q=>(∃i,xs=[.int i]∧Q (.int i) H)∨ ∃k,xs=[.bl k]∧Q (.int (if k then 1 else 0)) H):=by
 intro pins s σ H xs us Q I r h;rcases h with ⟨i,rfl,q⟩ | ⟨k,rfl,q⟩
 ·obtain⟨u,rfl,t,rfl⟩:=vO r;exact call_int_int ⟨.int i,H,I,⟨_,rfl⟩,q⟩
 ·obtain⟨u,rfl,r1⟩:=vO r;cases r1
  exact call_int_bool ⟨.int (if k then 1 else 0),H,I.tok _,⟨_,rfl⟩,q⟩
end
structure ObjM (h:Heap) (x dx C:Addr) (mA:Str→Option Value):Prop where
 obj:h.get? x=some (PySem.W.instObj C dx)
 ns:h.Ns1 dx mA
 ne:dx≠x
theorem lookIn_ns{h:Heap}{mA:Str→Option Value}(n:h.Ns1 dx mA): ∃od,h.get? dx=some od∧ ∀name,PySem.W.lookIn name od=some (mA name):=by
 obtain⟨o,es,ep,ho,hd,hk,_,hm⟩:=n;refine⟨o,ho,fun name=>?_⟩;have e:=hm name;unfold nsFind findBy at e;rw[←Array.find?_toList] at e;unfold PySem.W.lookIn;rw[hd];dsimp only;split
 ·rename_i y q
  rw[q] at e;exact congrArg some e
 ·rename_i q
  rw[q] at e;have a:es.toList.any (·.refKey)=false:=by
   rw[List.any_eq_false];intro y hy;obtain⟨z,t,hkey⟩:=hk y (Array.mem_toList_iff.mp hy);simp[DictEntry.refKey,hkey]
  have a': ¬es.toList.any (·.refKey)=true:=by rw[a]; exact Bool.false_ne_true
  rw[if_neg a'];exact congrArg some e
theorem ObjM.look{mA:Str→Option Value}(I:ObjM h x dx C mA): ∃od,PySem.W.InstAt h x (PySem.W.instObj C dx) C (some od)∧ ∀name,PySem.W.lookIn name od=some (mA name):=
 let ⟨od,ho,hl⟩:=lookIn_ns I.ns
 ⟨od,⟨I.obj,rfl,rfl,ho⟩,hl⟩
section
variable {prog:Program} {w:World} {A:Around} {E:Value→Shared→Prop} {s:Shared} {K:W.Frag} {x dx C f:Addr} {mA:Str→Option Value} {name:Str} {v:Value}
theorem get_map{Q:Value→Shared→Prop}(X:K.In s.heap)(I:ObjM s.heap x dx C mA)(hg:PySem.W.plainGet K C name=true)(hh:PySem.W.hasDictIn K C=true)
  (ha:PySem.W.findIn K (.ref C) name=some none) (hv:mA name=some v) (hv':PySem.W.handedIn v=true) (h:Q v {s with toks:=s.toks+1}):
  wpAny (model prog w) A (getAttr (.ref x) name expr) Q E s:=by
 obtain⟨od,J,hl⟩:=I.look;exact PySem.W.get_value X J (PySem.W.plainGet_of hg).1 (PySem.W.findObj_own hh ha rfl (by rw[hl,hv])) hv' h
theorem get_meth{Q:Value×List Value→Shared→Prop}(X:K.In s.heap)(I:ObjM s.heap x dx C mA)(hg:PySem.W.plainGet K C name=true)
  (hf:PySem.W.findIn K (.ref C) name=some (some (.ref f))) (ht:PySem.W.isFn K (.ref f)=true) (hv:mA name=none) (h:Q (.ref f,[.ref x]) s):
  wpAny (model prog w) A (getMethod (.ref x) name pl) Q E s:=by
 obtain⟨od,J,hl⟩:=I.look;exact PySem.W.method_fn X J (PySem.W.plainGet_of hg).1 (PySem.W.plainGet_of hg).2 hf (beq_iff_eq.mp ht) (by show(PySem.W.lookIn name od).map (·.isSome)=some false; rw[hl,hv]; rfl) h
theorem set_map{Q:Unit→Shared→Prop}(X:K.In s.heap)(I:ObjM s.heap x dx C mA)
  (hs:PySem.W.findIn K (.ref C) "__setattr__"=some (some (.builtin "object.__setattr__"))) (hp:PySem.W.plainOver K C=true) (ht:PySem.W.takerIn K C name=some none) (hh:PySem.W.hasDictIn K C=true)
  (hw:PySem.Within mA ns) (hsz:ns.length≤sizeLine)
  (h: ∀h',ObjM h' x dx C (fun y=>if y=name then some v else mA y)→Heap.SameBut dx s.heap h'→Q () {s with heap:=h',toks:=s.toks+2}):
  wpAny (model prog w) A (setAttr (.ref x) name v) Q E s:=by
 obtain⟨od,J,hl⟩:=I.look;refine PySem.W.set_plain X J hs (PySem.W.osa_open (s:={s with toks:=s.toks+1}) (r:=none) X J hp ht fun b=>?_);obtain⟨cd,hc,hd'⟩:=PySem.W.any_some hh;have hx:s.heap.get? x=some ⟨.ref C,some dx,.plain,#[]⟩:=I.obj;refine wpAny_bind (wpAny_pure (wpAny_bind (wpAny_bind (wpAny_loadPart hx (wpAny_bind (PySem.W.Looks.here (s:={s with toks:=s.toks+1}) (PySem.W.looks_clsIn X hc) ?_))))));rw[hd'];refine wpAny_pure (a:=some dx) (wpAny_bind (wpAny_pure (wpAny_bind ?_)));refine wpAny_nsSet1 (s:={s with toks:=s.toks+1}) I.ns fun h' hn2 hs2=>?_;obtain⟨oD,esD,epD,hoD,hdD,hcD⟩:=hn2.count (PySem.Within.cons name v hw);refine wpAny_bind (wpAny_lookBehind hoD (by rw[hdD]; exact pastItsLine_dict (Nat.le_trans hcD (by rw[List.length_cons]; omega))) ?_);exact wpAny_pure (h _ ⟨(hs2.2 _ (Ne.symm I.ne)).trans I.obj,hn2,I.ne⟩ hs2)
theorem make_map{R:Result→Shared→Prop}(X:K.In s.heap)(hm:PySem.W.makesIn K C=true)
  (hi:PySem.W.findIn K (.ref C) "__init__"=some (some (.ref f))) (hf:PySem.W.typeIn K (.ref f)=some (.type "function"))
  (h:codeAny (model prog w) (A.under (.builtin "type.__call__" ⟨.ref C::vs,kw⟩)) (.call (.ref f) ⟨.ref (s.heap.objs.size+1)::vs,kw⟩) (PySem.W.InitBack (s.heap.objs.size+1) R)
   {s with heap:=(s.heap.push PySem.W.emptyDict).push (PySem.W.instObj C s.heap.objs.size)}):
  codeAny (model prog w) A (.call (.ref C) ⟨vs,kw⟩) R s:=by
 obtain⟨hh,g,d,t,os⟩:=s;exact PySem.W.make_core (PySem.W.makes_of X hm) (PySem.W.looks_findIn X hi) (fun self=>PySem.W.bind_fn X self hf) (.inl rfl) h
end
def putF (f:Str) (v:V):List (Str×V)→List (Str×V)
 | []=>[(f,v)]
 | (g,x)::r=>if g=f then (g,v)::r else (g,x)::putF f v r
theorem va(f g:Str)(v:V): ∀fs:List (Str×V),(putF f v fs).lookup g=if g=f then some v else fs.lookup g
 | []=>by
  show List.lookup g [(f,v)]=_;by_cases h:g=f
  ·have hb:(g==f)=true:=beq_iff_eq.mpr h;simp only[List.lookup,hb,if_pos h]
  ·have hb:(g==f)=false:=beq_eq_false_iff_ne.mpr h;simp only[List.lookup,hb,if_neg h]
 | (k,x)::r=>by
  have ih:=va f g v r;rw[show putF f v ((k,x)::r)=(if k=f then (k,v)::r else (k,x)::putF f v r) from rfl];by_cases hk:k=f
  ·rw[if_pos hk];by_cases h:g=k
   ·have hb:(g==k)=true:=beq_iff_eq.mpr h;simp only[List.lookup,hb,if_pos (h.trans hk)]
   ·have hb:(g==k)=false:=beq_eq_false_iff_ne.mpr h;simp only[List.lookup,hb,if_neg (fun e:g=f=>h (e.trans hk.symm))]
  ·rw[if_neg hk];by_cases h:g=k
   ·have hb:(g==k)=true:=beq_iff_eq.mpr h;simp only[List.lookup,hb,if_neg (fun e:g=f=>hk (h.symm.trans e))]
   ·have hb:(g==k)=false:=beq_eq_false_iff_ne.mpr h;simp only[List.lookup,hb];exact ih
theorem wV(f:Str)(v:V): ∀fs:List (Str×V),f∈(putF f v fs).map (·.1)∧ ∀g,g∈fs.map (·.1)→g∈(putF f v fs).map (·.1)
 | []=>⟨by simp[putF],fun g h=>by simp at h⟩
 | (k,x)::r=>by
  obtain⟨i1,i2⟩:=wV f v r;rw[show putF f v ((k,x)::r)=(if k=f then (k,v)::r else (k,x)::putF f v r) from rfl];by_cases hk:k=f
  ·rw[if_pos hk];subst hk;exact⟨by simp,fun g h=>by simpa using h⟩
  ·rw[if_neg hk];refine⟨?_,fun g h=>?_⟩
   ·rw[List.map_cons];exact List.mem_cons_of_mem _ i1
   ·rw[List.map_cons] at h ⊢;rcases List.mem_cons.mp h with e | e
    ·exact List.mem_cons.mpr (.inl e)
    ·exact List.mem_cons_of_mem _ (i2 g e)
theorem vb(f:Str)(v:V): ∀fs:List (Str×V),(putF f v fs).length≤fs.length+1
 | []=>by simp[putF]
 | (k,x)::r=>by
  have ih:=vb f v r;rw[show putF f v ((k,x)::r)=(if k=f then (k,v)::r else (k,x)::putF f v r) from rfl];by_cases hk:k=f
  ·rw[if_pos hk,List.length_cons,List.length_cons]; omega
  ·rw[if_neg hk,List.length_cons,List.length_cons]; omega
theorem RelO.some_of(r:RelO (some v) o): ∃u,o=some u∧RelV v u:=by
 cases o with
 | none=>exact(show False from r).elim
 | some u=>exact⟨u,rfl,r⟩
theorem RelO.none_of(r:RelO none o):o=none:=by
 cases o with
 | none=>rfl
 | some u=>exact(show False from r).elim
theorem handed_of(r:RelV v u):PySem.W.handedIn u=true:=by
 cases v with
 | non=>cases (show u=Value.none from r); rfl
 | bl b=>cases (show u=Value.bool b from r); rfl
 | int i=>obtain⟨t,e⟩:=(show∃t,u=Value.int i t from r); cases e; rfl
 | str x=>obtain⟨t,e⟩:=(show∃t,u=Value.str x t from r); cases e; rfl
 | byt b=>obtain⟨t,e⟩:=(show∃t,u=Value.bytes b t from r); cases e; rfl
 | flt b=>obtain⟨t,e⟩:=(show∃t,u=Value.float b t from r); cases e; rfl
 | ref a=>cases (show u=Value.ref a from r); rfl
 | ty n=>cases (show u=Value.type n from r); rfl
section
variable {P:Program} {w:World} {H H':Hp} {h h':Heap} {a C dx:Addr} {fs fs':List (Str×V)}
theorem vj(hok:HOk P w H h)(e:H a=some (.ins C dx fs)): ∃mA,ObjM h a dx C mA∧(∀f,RelO (fs.lookup f) (mA f))∧PySem.Within mA (fs.map (·.1))∧fs.length≤1000∧H dx=some (.own a):=by
 obtain⟨d,z,ne,ob,mA,n,r,q⟩:=(show ObjOk P w H h a (.ins C dx fs) from hok a _ e);exact⟨mA,⟨ob,n,ne⟩,r,q,z,d⟩
end
structure Cls (K:W.Frag) (C:Addr):Prop where
 pg:PySem.W.plainGet K C Str.empty=true
 hd:PySem.W.hasDictIn K C=true
 po:PySem.W.plainOver K C=true
 sa:PySem.W.findIn K (.ref C) "__setattr__"=some (some (.builtin "object.__setattr__"))
theorem Cls.get{K:W.Frag}{C:Addr}(c:Cls K C)(f:Str):PySem.W.plainGet K C f=true:=c.pg
def NoAttr (K:W.Frag) (C:Addr) (f:Str):Prop:=PySem.W.findIn K (.ref C) f=some none
theorem NoAttr.taker{K:W.Frag}{C:Addr}{f:Str}(n:NoAttr K C f):PySem.W.takerIn K C f=some none:=by
 unfold PySem.W.takerIn;rw[show PySem.W.findIn K (.ref C) f=some none from n];rfl
structure Con (K:W.Frag) (C:Addr) (f:Str) (v:V) (u:Value):Prop where
 at_:PySem.W.findIn K (.ref C) f=some (some u)
 rel:RelV v u
 get:PySem.W.specialIn K u "__get__"=some none
 cp:PySem.W.copiedNames.contains f=false
structure Meth (K:W.Frag) (C:Addr) (m:Str) (f:Addr):Prop where
 at_:PySem.W.findIn K (.ref C) m=some (some (.ref f))
 fn:PySem.W.isFn K (.ref f)=true
 kp:PySem.W.keepIn K (.ref f)=true
section
variable {X:Cx} {pins:List (Addr×Obj)} {σ:St} {H:Hp} {s:Shared} {a C dx:Addr} {fs:List (Str×V)} {f:Str} {v:V} {A:Around} {E:Value→Shared→Prop}
theorem vG{Q:Value→Shared→Prop}(I:Inv X pins σ H s)(e:H a=some (.ins C dx fs))(c:Cls X.K C)(n:NoAttr X.K C f)(l:fs.lookup f=some v)
  (h: ∀u s',Inv X pins σ H s'→RelV v u→Q u s'):wpAny (model X.prog X.w) A (getAttr (.ref a) f b) Q E s:=by
 obtain⟨mA,O,r,_,_,_⟩:=vj I.hok e;obtain⟨u,hu,ru⟩:=RelO.some_of (v:=v) (o:=mA f) (by rw[←l]; exact r f);exact get_map I.kIn O (c.get f) c.hd n hu (handed_of ru) (h u _ (I.tok _) ru)
theorem vF{Q:Value×List Value→Shared→Prop}(I:Inv X pins σ H s)(e:H a=some (.ins C dx fs))(c:Cls X.K C)(k:Meth X.K C m g)(l:fs.lookup m=none)
  (h:Q (.ref g,[.ref a]) s):wpAny (model X.prog X.w) A (getMethod (.ref a) m pl) Q E s:=by
 obtain⟨mA,O,r,_,_,_⟩:=vj I.hok e;have hn:mA m=none:=RelO.none_of (by rw[←l]; exact r m);exact get_meth I.kIn O (c.get m) k.at_ k.fn hn h
theorem vq{Q:Unit→Shared→Prop}(I:Inv X pins σ H s)(e:H a=some (.ins C dx fs))(c:Cls X.K C)(n:NoAttr X.K C f)(hl:fs.length<1000)(ry:RelV y u)
  (h: ∀s',Inv X pins σ (upd H a (.ins C dx (putF f y fs))) s'→Q () s'):wpAny (model X.prog X.w) A (setAttr (.ref a) f u) Q E s:=by
 obtain⟨mA,O,r,wi,_,ho⟩:=vj I.hok e;have hz:(fs.map (·.1)).length≤sizeLine:=by rw[List.length_map,sizeLine_eq]; omega
 refine set_map I.kIn O c.sa c.po n.taker c.hd wi hz fun h' O' sb=>h _ ?_;have hd: ∃o,h'.get? dx=some o:=let ⟨o,_,_,e',_⟩:=O'.ns; ⟨o,e'⟩
 refine I.write (x:=a) (e:=dx) (by rw[e]; exact True.intro) (.inr ho) (fun b q hb z=>(sb.2 b hb).trans z) hd ?_;refine⟨by rw[zh O.ne]; exact ho,?_,O.ne,O'.obj,_,O'.ns,fun g=>?_,fun g hg=>?_⟩
 ·have:=vb f y fs; omega
 ·show RelO ((putF f y fs).lookup g) (if g=f then some u else mA g);rw[va];by_cases q:g=f
  ·rw[if_pos q,if_pos q]; exact ry
  ·rw[if_neg q,if_neg q]; exact r g
 ·by_cases q:g=f
  ·rw[q]; exact(wV f y fs).1
  ·refine(wV f y fs).2 g (wi g fun z=>hg ?_);show(if g=f then some u else mA g)=none;rw[if_neg q]; exact z
theorem Inv.made(I:Inv X pins σ H s):Inv X pins σ (upd (upd H s.heap.objs.size (.own (s.heap.objs.size+1))) (s.heap.objs.size+1) (.ins C s.heap.objs.size []))
  {s with heap:=(s.heap.push PySem.W.emptyDict).push (PySem.W.instObj C s.heap.objs.size)}:=by
 have e1:(s.heap.push PySem.W.emptyDict).get? s.heap.objs.size=some PySem.W.emptyDict:=Heap.get?_push_size s.heap rfl;have e2:((s.heap.push PySem.W.emptyDict).push (PySem.W.instObj C s.heap.objs.size)).get? (s.heap.objs.size+1)=some (PySem.W.instObj C s.heap.objs.size):=by
  have:=Heap.get?_push_size (s.heap.push PySem.W.emptyDict) (o:=PySem.W.instObj C s.heap.objs.size) rfl
  rwa [Heap.size_push] at this
 have e3:(s.heap.push PySem.W.emptyDict).Ns s.heap.objs.size (fun _=>none):=⟨PySem.W.emptyDict,#[],_,e1,rfl,(fun e he=>absurd he (by simp)),fun _=>rfl⟩;have I1:=I.laid (a:=s.heap.objs.size) (o:= .own (s.heap.objs.size+1)) (h':=s.heap.push PySem.W.emptyDict) (t':=s.toks) (fun b u q=>Heap.get?_push_of_some _ q) (Nat.le_refl _) ⟨_,e1⟩;refine I1.laid (a:=s.heap.objs.size+1) (o:= .ins C s.heap.objs.size []) (t':=s.toks) (fun b u q=>Heap.get?_push_of_some _ q) (Nat.le_of_eq (Heap.size_push _ _)) ?_;have ne:s.heap.objs.size≠s.heap.objs.size+1:=Nat.ne_of_lt (Nat.lt_succ_self _);refine⟨by rw[zh ne,zf],Nat.zero_le _,ne,e2,fun _=>none,(Heap.Ns1.of_empty e3).at fun o q=>Heap.get?_push_of_some _ q,fun _=>True.intro,fun y hy=>absurd rfl hy⟩
theorem attr_of{Q:Value→Shared→Prop}(hb:attributeBase e f env (eval e env)=eval e env)
  (h:wpAny (model prog w) A (eval e env) (fun o s₁=>wpAny (model prog w) A (getAttr o f true) Q E s₁) E s):wpAny (model prog w) A (eval (.Attribute e f pos) env) Q E s:=
 Attribute_any_ h (by rw[arm_eval_Attribute,hb])
end
def tFld (K:W.Frag) (ta:TE) (f:Str):TE:=fun σ H Q=>ta σ H fun x H1=> ∃a C dx fs v,x= .ref a∧H1 a=some (.ins C dx fs)∧Cls K C∧NoAttr K C f∧fs.lookup f=some v∧Q v H1
def sFld (K:W.Frag) (ta tv:TE) (f:Str):TS:=fun D σ H=>tv σ H fun y H1=>ta σ H1 fun x H2=> ∃a C dx fs,x= .ref a∧H2 a=some (.ins C dx fs)∧Cls K C∧NoAttr K C f∧fs.length<1000∧
 D.nx σ (upd H2 a (.ins C dx (putF f y fs)))
def InOp (X:Cx) (op:Operator) (rd:V→V→Hp→VK→Prop):Prop:=
 ∀(pins:List (Addr×Obj)) (s:Shared) (σ:St) (H:Hp) (x y:V) (u v:Value) (Q:VK),Inv X pins σ H s→RelV x u→RelV y v→rd x y H Q→wpAny (model X.prog X.w) X.A (inplaceOp op u v) (EP X pins σ Q) X.xe s
def Yx (K:W.Frag) (ta tv:TE) (rd:V→V→Hp→VK→Prop) (f:Str):TS:=fun D σ H=>ta σ H fun x H1=> ∃a C dx fs v,x= .ref a∧H1 a=some (.ins C dx fs)∧Cls K C∧NoAttr K C f∧fs.lookup f=some v∧
 tv σ H1 fun y H2=>rd v y H2 fun z H3=> ∃dx' fs',H3 a=some (.ins C dx' fs')∧fs'.length<1000∧D.nx σ (upd H3 a (.ins C dx' (putF f z fs')))
section
variable {X:Cx} {o e value:Expr} {f:Str} {pos pos' tpos:Pos} {ta tv:TE}
theorem zG(he:PE X e ta)(hb:attributeBase e f X.env (eval e X.env)=eval e X.env):PE X (.Attribute e f pos) (tFld X.K ta f):=by
 intro pins s σ H Q I h;refine attr_of hb (thn (he pins s σ H _ I h) fun u s1 ⟨x,H1,I1,rx,a,C,dx,fs,v,ex,ea,c,n,l,q⟩=>?_);subst ex;obtain rfl:u=Value.ref a:=rx;exact vG I1 ea c n l fun u' s2 I2 ru=>⟨v,H1,I2,ru,q⟩
theorem xN(ha:PE X o ta)(hv:PE X value tv)(hs:swapsWith value (some (.Attribute o f pos')) pos.line X.env=pure false):PS X (.Assign [.Attribute o f pos'] value pos) (sFld X.K ta tv f):=by
 intro pins s σ H D I h;refine plainObj_wpAny_Assign_Attribute (thn (hv pins s σ H _ I h) fun u s1 ⟨y,H1,I1,ry,q⟩=>thn (ha pins s1 σ H1 _ I1 q) fun ov s2 ⟨x,H2,I2,rx,a,C,dx,fs,ex,ea,c,n,l,q2⟩=>?_) hs;subst ex;obtain rfl:ov=Value.ref a:=rx;exact vq I2 ea c n l ry fun s3 I3=>⟨σ,_,I3,q2⟩
theorem ps_fldaug{rd:V→V→Hp→VK→Prop}(ha:PE X o ta)(hv:PE X value tv)(hop:InOp X op rd):PS X (.AugAssign (.Attribute o f tpos) op value pos) (Yx X.K ta tv rd f):=by
 intro pins s σ H D I h;refine wpAny_AugAssign_AttributeAny (thn (ha pins s σ H _ I h) fun ov s1 ⟨x,H1,I1,rx,a,C,dx,fs,v,ex,ea,c,n,l,q⟩=>?_);subst ex;obtain rfl:ov=Value.ref a:=rx;refine vG I1 ea c n l fun u s2 I2 ru=>thn (hv pins s2 σ H1 _ I2 q) fun w3 s3 ⟨y,H2,I3,ry,q3⟩=>thn (hop pins s3 σ H2 v y u w3 _ I3 ru ry q3) fun w4 s4 ⟨z,H3,I4,rz,dx',fs',ea',l',q4⟩=>?_;exact vq I4 ea' c n l' rz fun s5 I5=>⟨σ,_,I5,q4⟩
def rAdd:V→V→Hp→VK→Prop:=fun x y H Q=> ∃i j,x= .int i∧y= .int j∧Q (.int (i+j)) H
theorem in_add:InOp X .Add rAdd:=by
 rintro pins s σ H x y u v Q I rx ry ⟨i,j,rfl,rfl,q⟩;obtain⟨t,rfl⟩:=(show∃t,u=Value.int i t from rx);obtain⟨t',rfl⟩:=(show∃t',v=Value.int j t' from ry);exact PyProof.Rows.iadd_int ⟨.int (i+j),H,I.tok _,⟨_,rfl⟩,q⟩
end
section
variable {X:Cx} {pins:List (Addr×Obj)} {σ:St} {H:Hp} {s:Shared} {A:Around} {E:Value→Shared→Prop} {Q:Value→Shared→Prop} {c:Value} {b:Bool}
inductive TyOf (K:W.Frag) (H:Hp):V→Value→Prop where
 | non:TyOf K H .non (.type "NoneType")
 | bl (x:Bool):TyOf K H (.bl x) (.type "bool")
 | int (i:Int):TyOf K H (.int i) (.type "int")
 | str (x:Str):TyOf K H (.str x) (.type "str")
 | flt (x:UInt64):TyOf K H (.flt x) (.type "float")
 | lst {a:Addr} {xs:List V} (e:H a=some (.lst xs)):TyOf K H (.ref a) (.type "list")
 | frz {a:Addr} {o:Obj} {xs:List V} (e:H a=some (.frz o (.lst xs))):TyOf K H (.ref a) (.type "list")
 | tup {a:Addr} {xs:List V} (e:H a=some (.tup xs)):TyOf K H (.ref a) (.type "tuple")
 | dK {a:Addr} {kvs:List (Key×V)} (e:H a=some (.dK kvs)):TyOf K H (.ref a) (.type "dict")
 | dT {a:Addr} {kvs:List (List Key×V)} (e:H a=some (.dT kvs)):TyOf K H (.ref a) (.type "dict")
 | ins {a C dx:Addr} {fs:List (Str×V)} (e:H a=some (.ins C dx fs)) (cl:Cls K C) (ha:PySem.W.findIn K (.ref C) "__class__"=some (some (.builtin "object.__class__")))
   (hn:PySem.W.specialIn K (.builtin "object.__class__") "__get__"=some (some (.builtin "getset_descriptor.__get__"))) (htk:PySem.W.takesIn K (.builtin "object.__class__")=some true)
   (hm:PySem.W.mroIn K C (.type "object")=some true):TyOf K H (.ref a) (.ref C)
theorem isinst_ok(I:Inv X pins σ H s)(rx:RelV x u)(ty:TyOf X.K H x t)(e:PySem.W.kitOne X.K t c=some b)(h: ∀tk,Q (.bool b) {s with toks:=tk}):
  wpAny (model X.prog X.w) A (call (.builtin "isinstance") [u,c]) Q E s:=by
 cases ty with
 | non=>cases (show u=Value.none from rx); exact PySem.W.kia_one PySem.W.kitx_none I.kIn True.intro e (fun z=>nomatch z) h
 | bl y=>cases (show u=Value.bool y from rx); exact PySem.W.kia_one PySem.W.kitx_bool I.kIn True.intro e (fun z=>nomatch z) h
 | int i=>obtain⟨t,q⟩:=(show∃t,u=Value.int i t from rx); cases q; exact PySem.W.kia_one PySem.W.kitx_int I.kIn True.intro e (fun z=>nomatch z) h
 | str y=>obtain⟨t,q⟩:=(show∃t,u=Value.str y t from rx); cases q; exact PySem.W.kia_one PySem.W.kitx_str I.kIn True.intro e (fun z=>nomatch z) h
 | flt y=>obtain⟨t,q⟩:=(show∃t,u=Value.float y t from rx); cases q; exact PySem.W.kia_one PySem.W.kitx_float I.kIn True.intro e (fun z=>nomatch z) h
 | @lst a xs ea=>
  cases (show u=Value.ref a from rx)
  obtain⟨_,_,n,_,h1⟩:=(show ObjOk X.prog X.w H s.heap a (.lst xs) from I.hok a _ ea);exact PySem.W.kia_one PySem.W.kitx_list I.kIn ⟨_,h1,rfl⟩ e (fun z=>nomatch z) h
 | @frz a ob xs ea=>
  cases (show u=Value.ref a from rx)
  obtain⟨_,_,_,n,_,h1⟩:=(show ObjOk X.prog X.w H s.heap a (.frz ob (.lst xs)) from I.hok a _ ea);exact PySem.W.kia_one PySem.W.kitx_list I.kIn ⟨_,h1,rfl⟩ e (fun z=>nomatch z) h
 | @tup a xs ea=>
  cases (show u=Value.ref a from rx)
  obtain⟨_,_,_,p⟩:=(show ObjOk X.prog X.w H s.heap a (.tup xs) from I.hok a _ ea);obtain⟨o,h1,h2,_⟩:=p;exact PySem.W.kia_one PySem.W.kitx_tuple I.kIn ⟨o,h1,h2⟩ e (fun z=>nomatch z) h
 | @dK a kvs ea=>
  cases (show u=Value.ref a from rx)
  obtain⟨_,_,vs,_,p⟩:=(show ObjOk X.prog X.w H s.heap a (.dK kvs) from I.hok a _ ea);obtain⟨o,es,ep,h1,h2,_⟩:=p;exact PySem.W.kia_one PySem.W.kitx_dict I.kIn ⟨o,h1,h2.1⟩ e (fun z=>nomatch z) h
 | @dT a kvs ea=>
  cases (show u=Value.ref a from rx)
  obtain⟨_,_,xs,_,o,es,ep,h1,h2,_⟩:=(show ObjOk X.prog X.w H s.heap a (.dT kvs) from I.hok a _ ea);exact PySem.W.kia_one PySem.W.kitx_dict I.kIn ⟨o,h1,h2.1⟩ e (fun z=>nomatch z) h
 | @ins a C dx fs ea cl ha hn htk hm=>
  cases (show u=Value.ref a from rx)
  obtain⟨mA,O,_⟩:=vj I.hok ea;obtain⟨od,J,_⟩:=O.look;exact PySem.W.kia_one (PySem.W.kitx_own (cl.get _) cl.hd ha hn htk hm) I.kIn J e (fun z=>nomatch z) h
end
structure Room (k:Nat) (A:Around):Prop where
 hd:A.handled=none
 dp:A.depth+3*k+5<recursionLimit
 un:A.units+16*k+200<cLine
 gd:A.guards=some []
theorem Room.mono(r:Room k A)(h:j≤k):Room j A:=⟨r.hd,by have:=r.dp; omega,by have:=r.un; omega,r.gd⟩
theorem Room.deeper(r:Room (k+1) A)(env:Env):Room k (A.deeper env):=
 ⟨r.hd,by have:=r.dp; show A.depth+1+3*k+5<_; omega,by have:=r.un; show A.units+3+16*k+200<_; omega,r.gd⟩
theorem make_depth{A:Around}:(A.under (.builtin "type.__call__" ⟨.ref C::us,kw⟩)).depth=A.depth+1:=by
 first | rfl | simp[Around.under,Code.weight,Code.isCreation,Code.isGuard,Code.isCaller,Code.frames,Code.isFrame,guardIds]
theorem make_units{A:Around}:(A.under (.builtin "type.__call__" ⟨.ref C::us,kw⟩)).units=A.units+1:=by
 first | rfl | simp[Around.under,Code.cUnits,Code.frames,Code.isFrame]
theorem Room.make(r:Room (k+1) A)(C:Addr)(us:List Value)(kw:List (Str×Value)):Room k (A.under (.builtin "type.__call__" ⟨.ref C::us,kw⟩)):=
 ⟨r.hd,by have:=r.dp; rw[make_depth]; omega,by have:=r.un; rw[make_units]; omega,by first | exact r.gd | simpa[Around.under,Code.isGuard,Code.isFrame,guardIds] using r.gd⟩
theorem Room.depth(r:Room k A):A.depth<recursionLimit:=by have:=r.dp; omega
theorem Room.units(r:Room k A):A.units+64<cLine:=by have:=r.un; omega
def tNil:TA:=fun _ H Q=>Q [] H
def y0 (ta:TE) (tr:TA):TA:=fun σ H Q=>ta σ H fun x H1=>tr σ H1 fun xs H2=>Q (x::xs) H2
section
variable {X:Cx} {e:Expr} {es:List Expr} {te:TE} {t:TA} {pos:Pos}
theorem zE:PA X [] tNil:=fun _ _ _ _ H Q I h=>Calls.spliced_nil ⟨[],H,I,.nil,h⟩
theorem zw(ha:PE X e te)(hr:PA X es t)(hs:starEach (e::es) X.env=(false,eval e X.env)::starEach es X.env:=by rfl):PA X (e::es) (y0 te t):=by
 intro pos pins s σ H Q I h;rw[hs];show wpAny _ _ (spliced ((false,eval e X.env)::backTo pos (starEach es X.env))) _ _ s;refine Calls.spliced_cons (thn (ha pins s σ H _ I h) fun u s1 ⟨x,H1,I1,r1,q1⟩=>?_);exact thn (hr pos pins s1 σ H1 _ I1 q1) fun us s2 ⟨xs,H2,I2,r2,q2⟩=>⟨x::xs,H2,I2,.cons r1 r2,q2⟩
def tTup (t:TA):TE:=fun σ H Q=>t σ H fun xs H1=>xs.length≤sizeLine∧ ∀p,H1 p=none→Q (.ref p) (upd H1 p (.tup xs))
def tLst (t:TA):TE:=fun σ H Q=>t σ H fun xs H1=>xs.length≤sizeLine∧ ∀p,H1 p=none→Q (.ref p) (upd H1 p (.lst xs))
theorem z0{x1}(h:PA X es t):PE X (.Tuple es x1 pos) (tTup t):=by
 intro pins s σ H Q I hq;refine wpAny_Tuple_spliced (thn (h pos pins s σ H _ I hq) fun us s1 ⟨xs,H1,I1,r,z,q⟩=>⟨by rw[←r.length]; exact z,?_⟩);have hf:H1 s1.heap.objs.size=none:=I1.hok.fresh (Nat.le_refl _);refine⟨.ref s1.heap.objs.size,upd H1 s1.heap.objs.size (.tup xs),I1.laid (t':=s1.toks) (fun b u e=>Heap.get?_push_of_some _ e) (Nat.le_refl _) ?_,rfl,q _ hf⟩;exact⟨z,us,r,⟨_,Heap.get?_push_size _ rfl,rfl,_,rfl⟩⟩
theorem yk(h:PA X es t):PE X (.List es pos) (tLst t):=by
 intro pins s σ H Q I hq;refine wpAny_List_spliced (thn (h pos pins s σ H _ I hq) fun us s1 ⟨xs,H1,I1,r,z,q⟩=>⟨by rw[←r.length]; exact z,?_⟩);have hf:H1 s1.heap.objs.size=none:=I1.hok.fresh (Nat.le_refl _);refine⟨.ref s1.heap.objs.size,upd H1 s1.heap.objs.size (.lst xs),I1.laid (t':=s1.toks) (fun b u e=>Heap.get?_push_of_some _ e) (Nat.le_refl _) ?_,rfl,q _ hf⟩;exact⟨z,us,0,r,Heap.get?_push_size _ rfl⟩
end
abbrev Sp:=List V→Hp→VK→XK→Prop
abbrev CXT:=List Env→Hp→Shared→XK→Value→Shared→Prop
structure Env0 (P:Program) (w:World) (K:W.Frag) (mg:Str→Option Value) (base:Heap) (A:Around) (outer:List Env) (s:Shared) (H:Hp):Prop where
 frames:A.frames=some outer
 mod:Mod K mg base
 bs: ∀b o,base.get? b=some o→s.heap.get? b=some o∧H b=none
 bsz:base.objs.size≤s.heap.objs.size
 funs:s.heap.FunFrames base outer
 frf: ∀b∈frs outer,H b=none
 hok:HOk P w H s.heap
 bare:AllBare s.gens
def CE (outer:List Env) (P:Program) (w:World) (H:Hp) (s:Shared) (Q:VK) (u:Value) (s':Shared):Prop:=
 ∃v H',s'.os=s.os∧AllBare s'.gens∧Un (frs outer) [] H H' s.heap s'.heap∧HOk P w H' s'.heap∧RelV v u∧Q v H'
def CR (CX:CXT) (outer:List Env) (P:Program) (w:World) (H:Hp) (s:Shared) (Q:VK) (E:XK) (r:Result) (s':Shared):Prop:=
 match r with
 | .ok (.ret u)=>CE outer P w H s Q u s'
 | .ok _=>False
 | .error e=>CX outer H s E e s'
structure FnOk (P:Program) (w:World) (K:W.Frag) (mg:Str→Option Value) (base:Heap) (CX:CXT) (k:Nat) (f:Addr) (fd:FuncData) (ps:List Str) (sp:Sp):Prop where
 len: ∀vs H Q E,sp vs H Q E→vs.length=ps.length
 run: ∀(A:Around) (outer:List Env) (s:Shared) (H:Hp) (args:Args) (us:List Value) (vs:List V) (Q:VK) (E:XK),Room k A→Env0 P w K mg base A outer s H→BindsTo s fd args (ps.zip us)→Vals vs us→sp vs H Q E→
  codeAny (model P w) A (.call (.ref f) args) (CR CX outer P w H s Q E) s
theorem Env0.make{P:Program}{w:World}{K:W.Frag}{mg:Str→Option Value}{base:Heap}{A:Around}{outer:List Env}{s:Shared}{H:Hp}(e:Env0 P w K mg base A outer s H)(C:Addr)(us:List Value)(kw:List (Str×Value)):
  Env0 P w K mg base (A.under (.builtin "type.__call__" ⟨.ref C::us,kw⟩)) outer s H:=⟨by first | exact e.frames | (simpa[Around.under,Code.envs,Code.isFrame,pushEnvs] using e.frames),e.mod,e.bs,e.bsz,e.funs,e.frf,e.hok,e.bare⟩
section
variable {X:Cx} {pins:List (Addr×Obj)} {σ:St} {H:Hp} {s s':Shared}
theorem Inv.env0(I:Inv X pins σ H s):Env0 X.prog X.w X.K X.mg X.base X.A X.stack s H:=
 ⟨I.ok.frames,I.ok.mod,I.bs,Nat.le_trans I.ok.bsz I.sz,I.stack,I.stkFree,I.hok,I.bare⟩
theorem Inv.after(I:Inv X pins σ H s)(h:CE X.stack X.prog X.w H s Q u s'):EP X pins σ Q u s':=by
 obtain⟨v,H',os,bare,un,hok,r,q⟩:=h;obtain⟨hh,g,d,t,os'⟩:=s';obtain rfl:os'=s.os:=os;exact⟨v,H',I.call (h':=hh) (g':=g) (d':=d) (t':=t) (ch:=[]) un hok bare (fun b z=>absurd z (by simp)),r,q⟩
end
def Yr (sp:Sp) (dvs:List V) (E:XK) (t:TA):TE:=fun σ H Q=>t σ H fun vs H1=>sp (vs++dvs) H1 Q E
def ZG (C:Addr) (m:Str) (sp:Sp) (dvs:List V) (E:XK) (ta:TE) (t:TA):TE:=fun σ H Q=>ta σ H fun x H1=> ∃a dx fs,x= .ref a∧H1 a=some (.ins C dx fs)∧fs.lookup m=none∧
 t σ H1 fun vs H2=>sp (x::(vs++dvs)) H2 Q E
def Y2 (C:Addr) (sp:Sp) (dvs:List V) (E:XK) (t:TA):TE:=fun σ H Q=>t σ H fun vs H1=> ∀x dx,H1 x=none→H1 dx=none→dx≠x→
 sp (.ref x::(vs++dvs)) (upd (upd H1 dx (.own x)) x (.ins C dx [])) (fun v H2=>v= .non∧Q (.ref x) H2) E
def Binds (K:W.Frag) (fd:FuncData) (ps:List Str) (ds:List Value):Prop:=
 ∀(s:Shared) (us:List Value),K.In s.heap→(us++ds).length=ps.length→BindsTo s fd ⟨us,[]⟩ (ps.zip (us++ds))
theorem Binds.all{K:W.Frag}{fd:FuncData}{ps:List Str}(h: ∀us:List Value,us.length=ps.length→bindArgs fd ⟨us,[]⟩=pure (ps.zip us)):Binds K fd ps []:=fun s us _ hl=>by
 rw[List.append_nil] at hl ⊢;exact .of_eq (h us hl)
def wg (CX:CXT) (X:Cx) (E:XK):Prop:= ∀(pins:List (Addr×Obj)) (σ:St) (H:Hp) (s:Shared) (e:Value) (s':Shared),Inv X pins σ H s→CX X.stack H s E e s'→X.xe e s'
section
variable {X:Cx} {CX:CXT} {k:Nat} {f C:Addr} {fd:FuncData} {ps:List Str} {sp:Sp} {dvs:List V} {ds:List Value} {E:XK} {x m:Str} {p pos apos:Pos} {e o:Expr} {es:List Expr} {ta:TE} {t:TA}
theorem Z7(F:FnOk X.prog X.w X.K X.mg X.base CX k f fd ps sp)(hr:Room k X.A)(hb:Binds X.K fd ps ds)(hd:Vals dvs ds)(hx:wg CX X E)
  (I:Inv X pins σ H s) (r:Vals vs us) (h:sp (vs++dvs) H Q E):wpAny (model X.prog X.w) X.A (call (.ref f) us) (EP X pins σ Q) X.xe s:=by
 have r2:Vals (vs++dvs) (us++ds):=r.append hd;have hl:(us++ds).length=ps.length:=by rw[←r2.length]; exact F.len _ _ _ _ h
 refine wpAny_call (codeAny_mono (F.run X.A X.stack s H ⟨us,[]⟩ (us++ds) (vs++dvs) Q E hr I.env0 (hb s us I.kIn hl) r2 h) fun r s' hq=>?_);cases r with
 | error e=>exact hx pins σ H s e s' I hq
 | ok fl=>
  cases fl with
  | ret u=>exact I.after hq
  | next=>exact False.elim hq
  | brk=>exact False.elim hq
  | cont=>exact False.elim hq
theorem pe_call(F:FnOk X.prog X.w X.K X.mg X.base CX k f fd ps sp)(hr:Room k X.A)(hg:Gl X x)(hm:X.mg x=some (.ref f))(hk:PySem.W.keepIn X.K (.ref f)=true)(hb:Binds X.K fd ps ds)(hd:Vals dvs ds)(hx:wg CX X E)
  (ha:PA X (e::es) t) (hdb:(x==("__debug__":Str))=false:=by decide) (he:starEach (e::es) X.env=(false,eval e X.env)::starEach es X.env:=by rfl) (hpl:(backTo pos (starEach es X.env)).any (·.1)=false:=by rfl):
  PE X (.Call (.Name x p) (e::es) [] pos) (Yr sp dvs E t):=by
 intro pins s σ H Q I h;refine wpAny_Call_Name_kw (Zs I hg hm ?_ hdb);refine PySem.W.callWith_K (h₀:=X.base) I.ok.mod.kin hk (thn (ha pos pins s σ H _ I h) fun us s1 ⟨vs,H1,I1,r,q⟩=>⟨I1.kIn,?_⟩) he hpl;exact Z7 F hr hb hd hx I1 r q
theorem pe_meth(he:PE X o ta)(c:Cls X.K C)(hm:Meth X.K C m f)(F:FnOk X.prog X.w X.K X.mg X.base CX k f fd ps sp)(hr:Room k X.A)(hb:Binds X.K fd ps ds)(hd:Vals dvs ds)(hx:wg CX X E)(ha:PA X (e::es) t)
  (hst:starEach (e::es) X.env=(false,eval e X.env)::starEach es X.env:=by rfl) (hpl:(backTo pos (starEach es X.env)).any (·.1)=false:=by rfl)
  (ht:eval (.Call (.Attribute o m apos) (e::es) [] pos) X.env=(do
   let ov←eval o X.env
   standAt apos.atName
   let (f,first)←holding [ov] (getMethod ov m pl)
   callWith pos f first (backTo pos (starEach (e::es) X.env)) (backToKw pos (keywordEach [] X.env))):=by rfl):
  PE X (.Call (.Attribute o m apos) (e::es) [] pos) (ZG C m sp dvs E ta t):=by
 intro pins s σ H Q I h;refine PySem.W.methodCall_KW (pl:=pl) (thn (he pins s σ H _ I h) fun u s1 ⟨x,H1,I1,rx,a,dx,fs,ex,ea,l,q⟩=>?_) ht;subst ex;obtain rfl:u=Value.ref a:=rx;refine vF I1 ea c hm l ?_;refine PySem.W.callWith_K (first:=[.ref a]) (h₀:=X.base) I.ok.mod.kin hm.kp (thn (ha pos pins s1 σ H1 _ I1 q) fun us s2 ⟨vs,H2,I2,r,q2⟩=>⟨I2.kIn,?_⟩) hst hpl;exact Z7 (us:= .ref a::us) (vs:= .ref a::vs) F hr hb hd hx I2 (.cons rfl r) q2
theorem pe_meth0(he:PE X o ta)(c:Cls X.K C)(hm:Meth X.K C m f)(F:FnOk X.prog X.w X.K X.mg X.base CX k f fd ps sp)(hr:Room k X.A)(hb:Binds X.K fd ps ds)(hd:Vals dvs ds)(hx:wg CX X E)
  (ht:eval (.Call (.Attribute o m apos) [] [] pos) X.env=(do
   let ov←eval o X.env
   standAt apos.atName
   let (f,first)←holding [ov] (getMethod ov m pl)
   callWith pos f first (backTo pos (starEach [] X.env)) (backToKw pos (keywordEach [] X.env))):=by rfl):
  PE X (.Call (.Attribute o m apos) [] [] pos) (ZG C m sp dvs E ta tNil):=by
 intro pins s σ H Q I h;refine PySem.W.methodCall_KW (pl:=pl) (thn (he pins s σ H _ I h) fun u s1 ⟨x,H1,I1,rx,a,dx,fs,ex,ea,l,q⟩=>?_) ht;subst ex;obtain rfl:u=Value.ref a:=rx;refine vF I1 ea c hm l ?_;exact PySem.W.callWith_K0 (first:=[.ref a]) I1.kIn hm.kp (Z7 (us:=[.ref a]) (vs:=[.ref a]) F hr hb hd hx I1 (.cons rfl .nil) q)
structure Mk (K:W.Frag) (C f:Addr):Prop where
 makes:PySem.W.makesIn K C=true
 init:PySem.W.findIn K (.ref C) "__init__"=some (some (.ref f))
 fn:PySem.W.isFn K (.ref f)=true
 kp:PySem.W.keepIn K (.ref C)=true
theorem run_make(M:Mk X.K C f)(F:FnOk X.prog X.w X.K X.mg X.base CX k f fd ps sp)(hr:Room (k+1) X.A)(hb:Binds X.K fd ps ds)(hd:Vals dvs ds)
  (hx:wg CX X E) (I:Inv X pins σ H s) (r:Vals vs us)
  (h: ∀x dx,H x=none→H dx=none→dx≠x→sp (.ref x::(vs++dvs)) (upd (upd H dx (.own x)) x (.ins C dx [])) (fun v H2=>v= .non∧Q (.ref x) H2) E):
  wpAny (model X.prog X.w) X.A (call (.ref C) us) (EP X pins σ Q) X.xe s:=by
 have hq:=h (s.heap.objs.size+1) s.heap.objs.size (I.hok.fresh (Nat.le_succ _)) (I.hok.fresh (Nat.le_refl _)) (Nat.ne_of_lt (Nat.lt_succ_self _));have I2:=Inv.made (C:=C) I;have r2:Vals (V.ref (s.heap.objs.size+1)::(vs++dvs)) (Value.ref (s.heap.objs.size+1)::(us++ds)):= .cons rfl (r.append hd);have hl:(Value.ref (s.heap.objs.size+1)::us++ds).length=ps.length:=by
  have e:=r2.length;rw[F.len _ _ _ _ hq] at e;exact e.symm
 refine wpAny_call (make_map (f:=f) I.kIn M.makes M.init (beq_iff_eq.mp M.fn) (codeAny_mono (F.run _ X.stack _ _ ⟨Value.ref (s.heap.objs.size+1)::us,[]⟩ (Value.ref (s.heap.objs.size+1)::(us++ds)) _ _ E (hr.make C us [])
  (I2.env0.make C us []) (hb _ (Value.ref (s.heap.objs.size+1)::us) I2.kIn hl) r2 hq) fun r s' hq'=>?_))
 cases r with
 | error e=>exact hx pins σ _ _ e s' I2 hq'
 | ok fl=>
  cases fl with
  | ret u=>
   obtain⟨v,H',I3,rv,ev,q3⟩:=I2.after hq';subst ev;exact⟨rv,⟨V.ref (s.heap.objs.size+1),H',I3,rfl,q3⟩⟩
  | next=>exact False.elim hq'
  | brk=>exact False.elim hq'
  | cont=>exact False.elim hq'
theorem pe_make(M:Mk X.K C f)(F:FnOk X.prog X.w X.K X.mg X.base CX k f fd ps sp)(hr:Room (k+1) X.A)(hg:Gl X x)(hm:X.mg x=some (.ref C))(hb:Binds X.K fd ps ds)(hd:Vals dvs ds)(hx:wg CX X E)
  (ha:PA X (e::es) t) (hdb:(x==("__debug__":Str))=false:=by decide) (he:starEach (e::es) X.env=(false,eval e X.env)::starEach es X.env:=by rfl) (hpl:(backTo pos (starEach es X.env)).any (·.1)=false:=by rfl):
  PE X (.Call (.Name x p) (e::es) [] pos) (Y2 C sp dvs E t):=by
 intro pins s σ H Q I h;refine wpAny_Call_Name_kw (Zs I hg hm ?_ hdb);refine PySem.W.callWith_K (h₀:=X.base) I.ok.mod.kin M.kp (thn (ha pos pins s σ H _ I h) fun us s1 ⟨vs,H1,I1,r,q⟩=>⟨I1.kIn,?_⟩) he hpl;exact run_make M F hr hb hd hx I1 r q
end
def PK (X:Cx) (kws:List Keyword) (t:TA):Prop:=
 ∀(pos:Pos) (pins:List (Addr×Obj)) (s:Shared) (σ:St) (H:Hp) (Q:List V→Hp→Prop),Inv X pins σ H s→t σ H Q→wpAny (model X.prog X.w) X.A (evalAll ((backToKw pos (keywordEach kws X.env)).map (·.2))) (AP X pins σ Q) X.xe s
section
variable {X:Cx} {CX:CXT} {k:Nat} {f C:Addr} {fd:FuncData} {ps ks:List Str} {sp:Sp} {E:XK} {x m:Str} {p pos apos kpos:Pos} {e o:Expr} {es:List Expr} {kws:List Keyword} {te ta:TE} {t tk:TA} {nm:Option Str}
theorem Xc:PK X [] tNil:=fun _ _ _ _ H Q I h=>wpAny_evalAll_nil ⟨[],H,I,.nil,h⟩
theorem vf(ha:PE X e te)(hr:PK X kws t):PK X (⟨nm,e,kpos⟩::kws) (y0 te t):=by
 intro pos pins s σ H Q I h;show wpAny _ _ (evalAll ((do let v←eval e X.env; standAt pos; pure v)::(backToKw pos (keywordEach kws X.env)).map (·.2))) _ _ s;refine wpAny_evalAll_cons (wpAny_bind (thn (ha pins s σ H _ I h) fun u s1 ⟨x,H1,I1,r1,q1⟩=>wpAny_bind (wpAny_standAt (wpAny_pure ?_))));exact thn (hr pos pins s1 σ H1 _ I1 q1) fun us s2 ⟨xs,H2,I2,r2,q2⟩=>⟨x::xs,H2,I2,.cons r1 r2,q2⟩
structure KBinds (K:W.Frag) (fd:FuncData) (ps ks:List Str) (g:List Value→List Value→List Value) (gV:List V→List V→List V):Prop where
 to: ∀(s:Shared) (us ws:List Value),K.In s.heap→(g us ws).length=ps.length→BindsTo s fd ⟨us,ks.zip ws⟩ (ps.zip (g us ws))
 rel: ∀{vs:List V} {us:List Value} {zs:List V} {ws:List Value},Vals vs us→Vals zs ws→Vals (gV vs zs) (g us ws)
variable {g:List Value→List Value→List Value} {gV:List V→List V→List V}
end
structure FnScope (N P:List Str) (sc:Scope):Prop where
 kind:sc.kind= .function
 co:sc.isCoroutine=false
 gen:sc.isGenerator=false
 nd:N.Nodup
 pre:N.take P.length=P
 par: ∀x∈P,sc.names.lookup x=some .local∨sc.names.lookup x=some .cell
 nofree: ∀y∈sc.names,y.2≠.free
theorem Zc{kindOf:Str→Option NameKind}: ∀{binds:List (Str×Value)} {m:Str→Option Value},(∀v,(x,v)∉binds)→bindL kindOf binds m x=m x
 | [],_,_=>rfl
 | (n,v)::r,m,h=>by
  unfold bindL;rw[Zc fun w hw=>h w (List.mem_cons_of_mem _ hw)];split
  ·have:x≠n:=by rintro rfl; exact h v List.mem_cons_self
   simp[this]
  ·rfl
theorem Ze{kindOf:Str→Option NameKind}: ∀{binds:List (Str×Value)} {m:Str→Option Value},(∀v,(x,v)∉binds)→bindC kindOf binds m x=m x
 | [],_,_=>rfl
 | (n,v)::r,m,h=>by
  unfold bindC;rw[Ze fun w hw=>h w (List.mem_cons_of_mem _ hw)];split
  ·rfl
  ·have:x≠n:=by rintro rfl; exact h v List.mem_cons_self
   simp[this]
theorem Zd{kindOf:Str→Option NameKind}: ∀{P:List Str} {vs:List Value} {i:Nat} {m:Str→Option Value},P.Nodup→P[i]? =some x→vs[i]? =some v→kindOf x=some .local→
  bindL kindOf (P.zip vs) m x=some v
 | [],_,_,_,_,h,_,_=>by simp at h
 | _::_,[],_,_,_,_,h,_=>by simp at h
 | p::P,w::vs,0,m,nd,h1,h2,hk=>by
  simp at h1 h2; subst h1; subst h2;show bindL kindOf ((p,w)::P.zip vs) m p=_;unfold bindL;rw[Zc fun v hv=>(List.nodup_cons.mp nd).1 (List.of_mem_zip hv).1,if_pos hk];simp
 | p::P,w::vs,i+1,m,nd,h1,h2,hk=>by
  show bindL kindOf ((p,w)::P.zip vs) m x=_;unfold bindL;exact Zd (i:=i) (List.nodup_cons.mp nd).2 (by simpa using h1) (by simpa using h2) hk
theorem Zf{kindOf:Str→Option NameKind}: ∀{P:List Str} {vs:List Value} {i:Nat} {m:Str→Option Value},P.Nodup→P[i]? =some x→vs[i]? =some v→kindOf x≠some .local→
  bindC kindOf (P.zip vs) m x=some v
 | [],_,_,_,_,h,_,_=>by simp at h
 | _::_,[],_,_,_,_,h,_=>by simp at h
 | p::P,w::vs,0,m,nd,h1,h2,hk=>by
  simp at h1 h2; subst h1; subst h2;show bindC kindOf ((p,w)::P.zip vs) m p=_;unfold bindC;rw[Ze fun v hv=>(List.nodup_cons.mp nd).1 (List.of_mem_zip hv).1,if_neg hk];simp
 | p::P,w::vs,i+1,m,nd,h1,h2,hk=>by
  show bindC kindOf ((p,w)::P.zip vs) m x=_;unfold bindC;exact Zf (i:=i) (List.nodup_cons.mp nd).2 (by simpa using h1) (by simpa using h2) hk
def wm (N:List Str) (vs:List V):St:=vs.map some++List.replicate (N.length-vs.length) none
def cxOf (CX:CXT) (P:Program) (w:World) (K:W.Frag) (mg:Str→Option Value) (base:Heap) (N:List Str) (qual:Str) (scope:Scope) (f:Addr) (cd:Value) (A:Around) (outer:List Env) (s:Shared) (H:Hp) (E:XK):Cx where
 prog:=P
 w:=w
 K:=K
 mg:=mg
 base:=base
 A:=A.deeper (envOfC qual scope s.heap.objs.size f cd)
 N:=N
 s₀:=s
 H₀:=H
 env:=envOfC qual scope s.heap.objs.size f cd
 outer:=outer
 stack:=envOfC qual scope s.heap.objs.size f cd::outer
 ex:=[]
 calm:=true
 fn:=fun _=>true
 pn:=[]
 xe:=fun e s'=>wpAny (model P w) (A.deeper (envOfC qual scope s.heap.objs.size f cd)) (leaving (envOfC qual scope s.heap.objs.size f cd) e) (fun _ s''=>CX outer H s E e s'') (fun e' s''=>CX outer H s E e' s'') s'
theorem wH{sc:Scope}(h:sc.names.lookup x=some .cell): ∃c,(cellsFrom n sc.names []).lookup x=some c:=by
 have q:=PySem.W.cellsFrom_some sc.names n [] (.inl h);exact Option.isSome_iff_exists.mp q
theorem inv_start{CX:CXT}{P:Program}{w:World}{K:W.Frag}{mg:Str→Option Value}{base:Heap}{N ps:List Str}{qual:Str}{scope:Scope}{f:Addr}{cd:Value}{A:Around}{outer:List Env}{s s1:Shared}{H:Hp}{E:XK}{us:List Value}{vs:List V}
  (S:FnScope N ps scope) (hd:A.handled=none) (e0:Env0 P w K mg base A outer s H) (hl:vs.length=ps.length) (r:Vals vs us)
  (x:InCallC s s.heap.objs.size (bindL (envOfC qual scope s.heap.objs.size f cd).kindOf (ps.zip us) fun _=>none) (cellsFrom (s.heap.objs.size+1) scope.names []) (bindC (envOfC qual scope s.heap.objs.size f cd).kindOf (ps.zip us) fun _=>none) s1):
  Inv (cxOf CX P w K mg base N qual scope f cd A outer s H E) [] (wm N vs) H s1:=by
 have hpl:ps.length≤N.length:=by have:=congrArg List.length S.pre; rw[List.length_take] at this; omega
 obtain⟨h1,tk,rfl,hk⟩:=x.done;have noA: ∀b:Addr,b∉(cxOf CX P w K mg base N qual scope f cd A outer s H E).ex:=fun b z=>absurd (show b∈([]:List Addr) from z) (by simp);refine⟨⟨e0.mod,S.kind,rfl,rfl,Nat.le_refl _,fun y z c h1 h2=>?_,fun y hy=>?_,fun y c _ h=>?_,fun _=>hd,Around.frames_deeper e0.frames,.inr ⟨rfl,rfl⟩,fun b z=>absurd z (noA b),e0.bs,e0.bsz,fun b _ _=>noA b,fun b z=>absurd z (noA b),e0.funs,e0.frf⟩,
  rfl,e0.bare,Un.kept hk,⟨_,x.toInCall.ns,fun i y v h1 h2 h3=>?_⟩,fun y c h=>⟨_,x.cell y c h⟩,e0.hok.fresh (Nat.le_refl _),fun y c h=>?_,fun p hp=>absurd (show p∈([]:List (Addr×Obj)) from hp) (by simp),e0.hok.kept hk,?_⟩
 ·exact name_of_addr x.apart (PySem.mem_of_lookup h1) (PySem.mem_of_lookup h2)
 ·have hy:scope.names.lookup y=some .cell∨scope.names.lookup y=some .free:=hy;rcases hy with hy | hy
  ·exact wH hy
  ·exact absurd rfl (S.nofree _ (PySem.mem_of_lookup hy))
 ·exact Nat.le_of_lt (x.above y c (PySem.mem_of_lookup h))
 ·have hi:i<vs.length:=by
   unfold wm at h2;by_cases hi:i<vs.length
   ·exact hi
   ·rw[List.getElem?_append_right (by simpa using hi)] at h2;rw[List.getElem?_replicate] at h2;split at h2<;>cases h2
  have ha:vs[i]? =some v:=by
   unfold wm at h2;rw[List.getElem?_append_left (by simpa using hi),List.getElem?_map] at h2;cases e:vs[i]? with
   | none=>rw[e] at h2; cases h2
   | some a=>rw[e] at h2; cases h2; rfl
  obtain⟨u,hu,rv⟩:=r.get ha;have hp:ps[i]? =some y:=by
   rw[←S.pre,List.getElem?_take_of_lt (by omega)]; exact h1
  have ndP:ps.Nodup:=by rw[←S.pre]; exact S.nd.sublist (List.take_sublist _ _)
  refine⟨u,rv,?_⟩;rcases S.par y (List.mem_of_getElem? hp) with k | k
  ·exact .inl ⟨k,Zd ndP hp hu k⟩
  ·obtain⟨c,e⟩:=wH (n:=s.heap.objs.size+1) k;refine .inr ⟨.inl k,c,e,?_⟩;have q:=x.cell y c e;rw[Zf ndP hp hu (by show scope.names.lookup y≠_; rw[k]; decide)] at q;exact q
 ·exact e0.hok.fresh (Nat.le_of_lt (x.above y c (PySem.mem_of_lookup h)))
 ·unfold wm;show _=N.length;rw[List.length_append,List.length_map,List.length_replicate];omega
theorem X5{CX:CXT}{P:Program}{w:World}{K:W.Frag}{mg:Str→Option Value}{base:Heap}{k:Nat}{f:Addr}{name qual:Str}{params:Arguments}{body:List Stmt}{scope:Scope}{dV kV doc pm cdv ct oc:Value}{an od:Option Addr}
  {osl:Array (Option Value)} {N ps:List Str} {sp:Sp} (lk:K.lookup f=some ⟨oc,od,.func (PySem.W.fnOf name qual params body scope dV kV doc pm an cdv ct),osl⟩) (hcd:PySem.W.codeIn K cdv qual=true) (S:FnScope N ps scope)
  (len: ∀vs H Q E,sp vs H Q E→vs.length=ps.length)
  (hbody: ∀(A:Around) (outer:List Env) (s:Shared) (H:Hp) (vs:List V) (Q:VK) (E:XK),Room k (A.deeper (envOfC qual scope s.heap.objs.size f cdv))→sp vs H Q E→
   ∃t,PSs (cxOf CX P w K mg base N qual scope f cdv A outer s H E) body t∧t {nx:=fun _ H'=>Q .non H',rt:=Q} (wm N vs) H):
  FnOk P w K mg base CX (k+1) f (PySem.W.fnOf name qual params body scope dV kV doc pm an cdv ct) ps sp:=by
 refine⟨len,fun A outer s H args us vs Q E hr e0 hb r hsp=>?_⟩;have hl:=len _ _ _ _ hsp;have KX:K.In s.heap:=e0.mod.kin.keeps fun b o e=>(e0.bs b o e).1;have lim:s.heap.NoLimit:=e0.mod.nolimit.keeps fun b o e=>(e0.bs b o e).1;have hkind: ∀y∈ps.zip us,scope.names.lookup y.1=some .local∨(scope.names.lookup y.1=some .cell∧((cellsFrom (s.heap.objs.size+1) scope.names []).lookup y.1).isSome=true):=fun⟨n,v⟩ hy=>by
  rcases S.par n (List.of_mem_zip hy).1 with q | q
  ·exact .inl q
  ·exact .inr ⟨q,PySem.W.cellsFrom_some _ _ _ (.inl q)⟩
 refine codeAny_call_function hr.depth (KX _ _ lk) rfl S.co S.gen rfl (PySem.W.codeRec_of KX hcd) (hb _ _ _ _ ?_);refine wpAny_newFunctionEnv_cells S.kind hkind fun env he s1 x=>?_;subst he;refine⟨lim.keeps x.toInCall.keep,codeAny_func ?_⟩;obtain⟨t,ht,hq⟩:=hbody A outer s H vs Q E (hr.deeper _) hsp;have I:Inv (cxOf CX P w K mg base N qual scope f cdv A outer s H E) [] (wm N vs) H s1:=inv_start S hr.hd e0 hl r x;refine wpAny_mono (ht [] s1 (wm N vs) H _ I hq) (fun fl s' hs=>?_) fun e s' hs=>hs;have fin: ∀{σ':St} {H':Hp} {v:V} {u:Value},Inv (cxOf CX P w K mg base N qual scope f cdv A outer s H E) [] σ' H' s'→RelV v u→Q v H'→CE outer P w H s Q u s':=
  fun {σ' H' v u} J rv q=>⟨v,H',J.os,J.bare,J.base,J.hok,rv,q⟩
 cases fl with
 | ret u=>
  obtain⟨v,σ',H',J,rv,q⟩:=hs;exact fin J rv q
 | next=>
  obtain⟨σ',H',J,q⟩:=hs;exact fin (v:=V.non) (u:=Value.none) J rfl q
 | brk=>
  obtain⟨_,_,_,q⟩:=hs;exact False.elim q
 | cont=>
  obtain⟨_,_,_,q⟩:=hs;exact False.elim q
section
variable {X:Cx} {x:Str} {p pos:Pos} {e:Expr} {es:List Expr} {t:TA} {id T:String} {r:List V→Hp→VK→Prop}
def tCB (r:List V→Hp→VK→Prop) (t:TA):TE:=fun σ H Q=>t σ H fun vs H1=>r vs H1 Q
theorem wB(hc:yn X (.builtin id) r)(hg:Gl X x)(hm:X.mg x=none)(hv:bootBuiltins x=some (.builtin id))(ha:PA X (e::es) t)(hn:x≠"__name__":=by decide)(hdb:(x==("__debug__":Str))=false:=by decide)
  (he:starEach (e::es) X.env=(false,eval e X.env)::starEach es X.env:=by rfl) (hpl:(backTo pos (starEach es X.env)).any (·.1)=false:=by rfl):PE X (.Call (.Name x p) (e::es) [] pos) (tCB r t):=by
 intro pins s σ H Q I h;refine wpAny_Call_Name_kw (xR I hg hm hv ?_ hn hdb);exact PyProof.Rows.callWith_builtin1 (thn (ha pos pins s σ H _ I h) fun us s1 ⟨vs,H1,I1,r1,q1⟩=>hc pins s1 σ H1 vs us Q I1 r1 q1) he hpl
theorem xY(hc:yn X (.type T) r)(hg:Gl X x)(hm:X.mg x=none)(hv:bootBuiltins x=some (.type T))(ha:PA X (e::es) t)(hn:x≠"__name__":=by decide)(hdb:(x==("__debug__":Str))=false:=by decide)
  (he:starEach (e::es) X.env=(false,eval e X.env)::starEach es X.env:=by rfl) (hpl:(backTo pos (starEach es X.env)).any (·.1)=false:=by rfl):PE X (.Call (.Name x p) (e::es) [] pos) (tCB r t):=by
 intro pins s σ H Q I h;refine wpAny_Call_Name_kw (xR I hg hm hv ?_ hn hdb);exact PyProof.Rows.callWith_type1 (thn (ha pos pins s σ H _ I h) fun us s1 ⟨vs,H1,I1,r1,q1⟩=>hc pins s1 σ H1 vs us Q I1 r1 q1) he hpl
end
end L2
namespace HT
open PySem PyProof.Rows
section
open PySem.SeqAt
open PySem.AutoSeq1 (wpAny_loadPart')
open PySem.MeetsSeq PySem.MeetsSeq2 PySem.MeetsSeq3
end
section
variable {prog:Program} {w:World} {A:Around} {E:Value→Shared→Prop} {s:Shared}
theorem cat_tup{vs ws:List Value}{Q:Value→Shared→Prop}(ht:IsTup s.heap t vs.toArray)(hb:IsTup s.heap b ws.toArray)(hv:vs≠[])
  (h1:ws=[]→Q (.ref t) s) (h2:ws≠[]→Q (.ref s.heap.objs.size) {s with heap:=s.heap.push {cls:= .type "tuple",data:= .seq (vs++ws).toArray}})
  (hsz:vs.length+ws.length≤sizeLine):wpAny (model prog w) A (binaryOp .Add (.ref t) (.ref b)) Q E s:=by
 obtain⟨⟨cls,dd,data,sl⟩,ho,hc,n,hd⟩:=id ht;obtain⟨⟨cls2,dd2,data2,sl2⟩,ho2,hc2,n2,hd2⟩:=id hb;simp only at hc hd hc2 hd2;subst hc hd hc2 hd2;have e:vs.toArray++ws.toArray=(vs++ws).toArray:=by simp
 by_cases hw:ws=[]
 ·exact concat_meets ⟨_,ho,rfl⟩ ⟨_,ho2,rfl⟩ noFill_tuple_add seq_tuple_add PySem.F.slot_tuple_add PySem.F.entry_tuple_add (PySem.F.args_tuple_add_2 _ _)
   (tuple_addW1 t b vs.toArray ws.toArray n n2 dd dd2 sl sl2 (by simpa using hv) (by simp[hw])) ⟨ho,ho2,h1 hw⟩
 ·refine concat_meets ⟨_,ho,rfl⟩ ⟨_,ho2,rfl⟩ noFill_tuple_add seq_tuple_add PySem.F.slot_tuple_add PySem.F.entry_tuple_add (PySem.F.args_tuple_add_2 _ _)
   (tuple_addW2 t b vs.toArray ws.toArray n n2 dd dd2 sl sl2 (by simpa using hv) (by simpa using hw) (by rw[List.size_toArray,List.size_toArray]; exact hsz)) ⟨ho,ho2,?_⟩
  rw[e];exact h2 hw
def sIx (n d:Nat):Option Int→Nat
 | none=>d
 | some v=>if v<0 then (v+(n:Int)).toNat else min v.toNat n
theorem sIx_le(n d:Nat)(hd:d≤n)(o:Option Int):sIx n d o≤n:=by
 cases o with
 | none=>exact hd
 | some v=>
  show(if v<0 then (v+(n:Int)).toNat else min v.toNat n)≤n;by_cases hv:v<0
  ·rw[if_pos hv]; omega
  ·rw[if_neg hv]; exact Nat.min_le_right _ _
theorem YT(v:Int)(n d:Nat):(if v<0 then max (v+(n:Int)) 0 else min v (n:Int))=((sIx n d (some v):Nat):Int):=by
 show(if v<0 then max (v+(n:Int)) 0 else min v (n:Int))=(((if v<0 then (v+(n:Int)).toNat else min v.toNat n):Nat):Int);by_cases hv:v<0
 ·simp only[if_pos hv]; omega
 ·simp only[if_neg hv]; omega
theorem adjust_gen(lo hi:Option Int)(n:Nat):Builtin.Slice.sliceAdjust lo hi 1 (n:Int)=(((sIx n 0 lo:Nat):Int),((sIx n n hi:Nat):Int)):=by
 have h1: ¬((1:Int)<0):=by omega
 unfold Builtin.Slice.sliceAdjust;simp only[h1,if_false];refine Prod.ext ?_ ?_
 ·cases lo with
  | none=>rfl
  | some v=>exact YT v n 0
 ·cases hi with
  | none=>rfl
  | some v=>exact YT v n n
theorem places_gen(i j:Nat):Builtin.Slice.slicePlaces (i:Int) (j:Int) 1=j-i:=by
 unfold Builtin.Slice.slicePlaces;have h1:(1:Int)>0:=by omega
 simp only[h1,if_true,Int.ediv_one];split<;>omega
theorem vp{Q:Option Int→Shared→Prop}(p:IsPart v o)(h:Q o s):wpAny (model prog w) A (Builtin.Slice.slicePartIndex v) Q E s:=by
 cases p with
 | none=>exact slicePart_none h
 | int i t=>exact slicePart_int h
theorem xz{sl:Addr}{vl vu:Value}{lo hi:Option Int}{n:Nat}{Q:Int×Int×Nat→Shared→Prop}(hs:s.heap.IsSliceOf sl vl vu .none)(pl:IsPart vl lo)(pu:IsPart vu hi)
  (h:Q (((sIx n 0 lo:Nat):Int),1,sIx n n hi-sIx n 0 lo) s):wpAny (model prog w) A (Builtin.Slice.sliceApplied (.ref sl) (pure (n:Int))) Q E s:=by
 obtain⟨os,hos,hcs,hds⟩:=id hs;unfold Builtin.Slice.sliceApplied Builtin.Slice.sliceFields;refine wpAny_bind (wpAny_bind (wpAny_field hos hds (x:=vl) rfl (wpAny_bind (wpAny_field hos hds (x:=vu) rfl (wpAny_bind (wpAny_field hos hds (x:= .none) rfl (wpAny_pure ?_)))))));refine wpAny_bind (slicePart_none ?_);show wpAny _ _ (if ((1:Int)==0)=true then _ else _) _ _ s;rw[if_neg (by decide)];refine wpAny_bind (vp pl (wpAny_bind (vp pu (wpAny_bind (wpAny_pure ?_)))));show wpAny _ _ (match Builtin.Slice.sliceAdjust lo hi 1 (n:Int) with | (lo,hi)=>pure (lo,(1:Int),Builtin.Slice.slicePlaces lo hi 1)) _ _ s;rw[adjust_gen lo hi n];show wpAny _ _ (pure (((sIx n 0 lo:Nat):Int),(1:Int),Builtin.Slice.slicePlaces ((sIx n 0 lo:Nat):Int) ((sIx n n hi:Nat):Int) 1)) _ _ s;rw[places_gen];exact wpAny_pure h
theorem pick_gen(xs:Array Value)(i k:Nat):((List.range k).filterMap fun(m:Nat)=>xs[((i:Int)+(m:Int)*1).toNat]?).toArray=((xs.toList.drop i).take k).toArray:=by
 have e:(fun(m:Nat)=>xs[((i:Int)+(m:Int)*1).toNat]?)=fun m=>xs[i+m]? :=by
  funext m
  have:((i:Int)+(m:Int)*1).toNat=i+m:=by omega
  rw[this]
 rw[e];have:=pick_run xs i k;rw[List.filterMap_map] at this;have e2:((fun x=>xs[x]?) ∘ fun x=>i+x)=fun m=>xs[i+m]? :=rfl;rw[e2] at this;rw[this]
theorem getItem_tuple_cut{t sl:Addr}{items:Array Value}{vl vu:Value}{lo hi:Option Int}{Q:Value→Shared→Prop}(ht:IsTup s.heap t items)(hs:s.heap.IsSliceOf sl vl vu .none)(pl:IsPart vl lo)(pu:IsPart vu hi)
  (hw: ¬(sIx items.size 0 lo=0∧sIx items.size items.size hi=items.size))
  (h:Q (.ref s.heap.objs.size) {s with heap:=s.heap.push {cls:= .type "tuple",data:= .seq ((items.toList.drop (sIx items.size 0 lo)).take (sIx items.size items.size hi - sIx items.size 0 lo)).toArray}})
  (hsz:items.size≤sizeLine):wpAny (model prog w) A (getItem (.ref t) (.ref sl)) Q E s:=by
 have htake:sizeOk (.seq ((items.toList.drop (sIx items.size 0 lo)).take (sIx items.size items.size hi-sIx items.size 0 lo)).toArray):=by
  show((items.toList.drop (sIx items.size 0 lo)).take (sIx items.size items.size hi-sIx items.size 0 lo)).toArray.size≤sizeLine;rw[List.size_toArray,List.length_take,List.length_drop,Array.length_toList];omega
 have hj:sIx items.size items.size hi≤items.size:=sIx_le _ _ (Nat.le_refl _) hi;obtain⟨os,hos,hcs,hds⟩:=id hs;have hTs:s.TypeIs (.ref sl) "slice":=⟨os,hos,hcs⟩;unfold getItem
 try with_reducible refine wpAny_holding ?_
 first | refine wpAny_bind (wpAny_pure ?_) | skip
 refine wpAny_bind (wpAny_sequenceKey ht.typeIs (by decide) ?_);refine wpAny_bind (wpAny_callSpecial?_slot (name:=Str.ofString "__getitem__") ht.typeIs PyProof.Rows.slot_tuple_getitem
  (wpAny_call_entry PyProof.Rows.slot_tuple_getitem ht.typeIs entry_tuple_getitem ?_ (args_tuple_getitem _ _)))
 show wpAny _ _ (Builtin.Tuple.tupleItemsOf (.ref t)>>=_) _ _ s;refine wpAny_bind (tupleItemsOf_ ht ?_);refine wpAny_bind (wpAny_typeOf hTs ?_);rw[if_pos (by decide)];refine wpAny_bind (xz hs pl pu ?_);have hno: ¬((((sIx items.size 0 lo:Nat):Int)==0&&(1:Int)==1&&(sIx items.size items.size hi-sIx items.size 0 lo)==items.size)=true):=by
  intro q;rw[Bool.and_eq_true,Bool.and_eq_true] at q;have q1:((sIx items.size 0 lo:Nat):Int)=0:=eq_of_beq q.1.1;have q2:sIx items.size items.size hi-sIx items.size 0 lo=items.size:=eq_of_beq q.2;exact hw ⟨by omega,by omega⟩
 show wpAny _ _ (if (((sIx items.size 0 lo:Nat):Int)==0&&(1:Int)==1&&(sIx items.size items.size hi-sIx items.size 0 lo)==items.size)=true then _ else _) _ _ s;rw[if_neg hno,pick_gen]
 first
  | exact wpAny_bind (m:=Builtin.Tuple.tupleExact _) (wpAny_newObj_type (wpAny_pure ⟨_,rfl,wpAny_pure h⟩) htake)
  | exact wpAny_bind (m:=Builtin.Tuple.tupleExact _) (wpAny_newObj_type (wpAny_bind (wpAny_pure (wpAny_pure ⟨_,rfl,wpAny_pure h⟩))) htake)
  | exact wpAny_bind (wpAny_bind (m:=Builtin.Tuple.tupleExact _) (wpAny_newObj_type (wpAny_pure (wpAny_pure ⟨_,rfl,wpAny_pure h⟩)) htake))
  | exact wpAny_bind (wpAny_bind (m:=Builtin.Tuple.tupleExact _) (wpAny_newObj_type (wpAny_pure ⟨_,rfl,wpAny_pure h⟩) htake))
end
end HT
namespace L2
open PySem PySem.Spec PyProof.Rows
abbrev TO:=St→Hp→(Option Int→Hp→Prop)→Prop
def PO (X:Cx) (e:Option Expr) (t:TO):Prop:=
 ∀(pins:List (Addr×Obj)) (s:Shared) (σ:St) (H:Hp) (Q:Option Int→Hp→Prop),Inv X pins σ H s→t σ H Q→
  wpAny (model X.prog X.w) X.A (evalPart e X.env) (fun u s'=> ∃o H',Inv X pins σ H' s'∧IsPart u o∧Q o H') X.xe s
def xV:TO:=fun _ H Q=>Q none H
def vQ (t:TE):TO:=fun σ H Q=>t σ H fun x H1=> ∃i,x= .int i∧Q (some i) H1
section
variable {X:Cx} {e:Expr} {te:TE} {lo hi:Option Expr} {tl th:TO} {pos p2:Pos}
theorem y4:PO X none xV:=by
 intro pins s σ H Q I h;rw[evalPart_none];exact wpAny_pure ⟨none,H,I,.none,h⟩
theorem y3(h:PE X e te):PO X (some e) (vQ te):=by
 intro pins s σ H Q I hw;rw[evalPart_some];refine thn (h pins s σ H _ I hw) fun u s1 ⟨x,H1,I1,r1,q1⟩=>?_;obtain⟨i,rfl,q⟩:=q1;obtain⟨t,rfl⟩:=r1;exact⟨some i,H1,I1,.int i t,q⟩
def SlR (X:Cx) (r:V→Option Int→Option Int→Hp→VK→Prop):Prop:=
 ∀(pins:List (Addr×Obj)) (s:Shared) (σ:St) (H:Hp) (x:V) (v vl vu:Value) (lo hi:Option Int) (sl:Addr) (Q:VK),Inv X pins σ H s→RelV x v→s.heap.IsSliceOf sl vl vu .none→IsPart vl lo→IsPart vu hi→r x lo hi H Q→
  ∃T id,typeLookup (.type T) "__getitem__"=pure (some (.builtin id))∧s.TypeIs v T∧wpAny (model X.prog X.w) X.A (getItem v (.ref sl)) (EP X pins σ Q) X.xe s
def tSl (r:V→Option Int→Option Int→Hp→VK→Prop) (te:TE) (tl th:TO):TE:=fun σ H Q=>te σ H fun x H1=>tl σ H1 fun l H2=>th σ H2 fun u H3=>r x l u H3 Q
theorem yA{r:V→Option Int→Option Int→Hp→VK→Prop}(hr:SlR X r)(he:PE X e te)(hl:PO X lo tl)(hu:PO X hi th):PE X (.Subscript e (.Slice lo hi none p2) pos) (tSl r te tl th):=by
 intro pins s σ H Q I h;refine Subscript_ (thn (he pins s σ H _ I h) fun v s1 ⟨x,H1,I1,r1,q1⟩=>?_);refine wpAny_Slice (thn (hl pins s1 σ H1 _ I1 q1) fun vl s2 ⟨l,H2,I2,pl,q2⟩=>thn (hu pins s2 σ H2 _ I2 q2) fun vu s3 ⟨u,H3,I3,pu,q3⟩=>?_);rw[evalPart_none];refine wpAny_pure ?_;have I4:Inv X pins σ H3 {s3 with heap:=s3.heap.push {cls:= .type "slice",data:= .fields #[vl,vu,.none]}}:=I3.kept (t':=s3.toks) fun b ob q=>Heap.get?_push_of_some _ q;obtain⟨T,id,hT,ht,hg⟩:=hr pins {s3 with heap:=s3.heap.push {cls:= .type "slice",data:= .fields #[vl,vu,.none]}} σ H3 x v vl vu l u s3.heap.objs.size Q I4 r1 (Heap.IsSliceOf.new ..) pl pu q3;show wpAny (model X.prog X.w) X.A (subscriptTail e (.Slice lo hi none p2) v (.ref s3.heap.objs.size)) (EP X pins σ Q) X.xe {s3 with heap:=s3.heap.push {cls:= .type "slice",data:= .fields #[vl,vu,.none]}};exact tail_any (ops:=[.ref s3.heap.objs.size,v]) ht hT hg (by with_unfolding_all rfl)
def cutV (xs:List V) (lo hi:Option Int):List V:=(xs.drop (HT.sIx xs.length 0 lo)).take (HT.sIx xs.length xs.length hi-HT.sIx xs.length 0 lo)
theorem vc(xs:List V)(lo hi:Option Int):(cutV xs lo hi).length≤xs.length:=by
 unfold cutV;rw[List.length_take,List.length_drop];omega
def rSlT (K:W.Frag):V→Option Int→Option Int→Hp→VK→Prop:=fun x lo hi H Q=> ∃a xs,x= .ref a∧SqT K H a xs∧
 ¬(HT.sIx xs.length 0 lo=0∧HT.sIx xs.length xs.length hi=xs.length)∧ ∀p,H p=none→Q (.ref p) (upd H p (.tup (cutV xs lo hi)))
theorem Z6:SlR X (rSlT X.K):=by
 intro pins s σ H x v vl vu lo hi sl Q I rx hs pl pu h;obtain⟨a,xs,rfl,hx,hw,q⟩:=h;cases rx
 obtain⟨its,r,ht,hz⟩:=I.tuple hx;have hlen:its.toArray.size=xs.length:=by rw[List.size_toArray]; exact r.length.symm
 refine⟨"tuple",_,PyProof.Rows.slot_tuple_getitem.lookup,ht.typeIs,?_⟩;refine HT.getItem_tuple_cut ht hs pl pu (by rw[hlen]; exact hw) ?_ (by rw[hlen]; exact hz);rw[hlen];refine⟨.ref s.heap.objs.size,_,I.laid (t':=s.toks) (o:= .tup (cutV xs lo hi)) (fun b ob q=>Heap.get?_push_of_some _ q) (Nat.le_refl _) ?_,rfl,q _ (I.hok.fresh (Nat.le_refl _))⟩;exact⟨Nat.le_trans (vc xs lo hi) hz,_,(r.drop (HT.sIx xs.length 0 lo)).take (HT.sIx xs.length xs.length hi - HT.sIx xs.length 0 lo),IsTup.new _ _⟩
def XX (K:W.Frag):R2:=fun x y H Q=> ∃a b xs ys,x= .ref a∧y= .ref b∧SqT K H a xs∧SqT K H b ys∧xs≠[]∧xs.length+ys.length≤sizeLine∧
 (ys=[]→Q (.ref a) H)∧(ys≠[]→ ∀p,H p=none→Q (.ref p) (upd H p (.tup (xs++ys))))
theorem Vals.nil_iff(r:Vals xs us):us=[]↔xs=[]:=by
 cases r with
 | nil=>simp
 | cons _ _=>simp
theorem Zr:OpR X (binaryOp .Add) (XX X.K):=by
 intro pins s σ H x y v u Q I rx ry h;obtain⟨a,b,xs,ys,rfl,rfl,ha,hb,hx,hz,q1,q2⟩:=h;cases rx
 cases ry
 obtain⟨its,r1,p1,_⟩:=I.tuple ha;obtain⟨its2,r2,p2,_⟩:=I.tuple hb;refine HT.cat_tup p1 p2 (fun z=>hx (r1.nil_iff.mp z)) (fun z=>⟨.ref a,H,I,rfl,q1 (r2.nil_iff.mp z)⟩) (fun z=>?_) (by rw[←r1.length,←r2.length]; exact hz);refine⟨.ref s.heap.objs.size,_,I.laid (t':=s.toks) (o:= .tup (xs++ys)) (fun b ob q=>Heap.get?_push_of_some _ q) (Nat.le_refl _) ?_,rfl,q2 (fun w=>z (r2.nil_iff.mpr w)) _ (I.hok.fresh (Nat.le_refl _))⟩;exact⟨by rw[List.length_append]; exact hz,_,r1.append r2,IsTup.new _ _⟩
end
def ixN (n:Nat) (i:Int):Option Nat:=if 0≤i then (if i<n then some i.toNat else none) else if -(n:Int)≤i then some (i+n).toNat else none
def atI {α:Type} (xs:List α) (i:Int):Option α:=(ixN xs.length i).bind fun j=>xs[j]?
theorem Zt(h:ixN n i=some j):seqIndex? i n=some j∧j<n∧ -(n:Int)≤i∧i<n:=by
 unfold ixN at h;by_cases h0:0≤i
 ·rw[if_pos h0] at h;by_cases h1:i<n
  ·rw[if_pos h1] at h;have e:i.toNat=j:=Option.some.inj h;exact⟨by rw[seqIndex_of h0 h1,e],by omega,by omega,h1⟩
  ·rw[if_neg h1] at h; cases h
 ·rw[if_neg h0] at h;by_cases h1: -(n:Int)≤i
  ·rw[if_pos h1] at h;have e:(i+n).toNat=j:=Option.some.inj h;exact⟨by rw[seqIndex_neg (by omega) h1,e],by omega,h1,by omega⟩
  ·rw[if_neg h1] at h; cases h
theorem ZC{xs:List α}{v:α}(h:atI xs i=some v): ∃j,seqIndex? i xs.length=some j∧xs[j]? =some v∧j<xs.length∧ -(xs.length:Int)≤i∧i<xs.length:=by
 unfold atI at h;cases e:ixN xs.length i with
 | none=>rw[e] at h; cases h
 | some j=>
  rw[e] at h;obtain⟨h1,h2,h3,h4⟩:=Zt e;exact⟨j,h1,h,h2,h3,h4⟩
theorem zz{α:Type}{xs:List α}{j:Nat}{v:α}(h:xs[j]? =some v):atI xs (j:Int)=some v:=by
 have hj:j<xs.length:=(List.getElem?_eq_some_iff.mp h).1;have e:ixN xs.length (j:Int)=some j:=by
  unfold ixN;rw[if_pos (by omega),if_pos (by omega)]; simp
 unfold atI; rw[e]; exact h
def PlainIx (b:Expr):Prop:= ∀o i,subscripted b false o i=operate [o,i] (getItem o i)
def IxR (X:Cx) (r:R2):Prop:=
 ∀(value slice:Expr) (pins:List (Addr×Obj)) (s:Shared) (σ:St) (H:Hp) (x y:V) (v u:Value) (Q:VK),Inv X pins σ H s→RelV x v→RelV y u→r x y H Q→
  subscripted slice false v u=operate [v,u] (getItem v u)→wpAny (model X.prog X.w) X.A (subscriptTail value slice v u) (EP X pins σ Q) X.xe s
def MtR (X:Cx) (id:String) (r:V→List V→Hp→VK→Prop):Prop:=
 ∀(pins:List (Addr×Obj)) (s:Shared) (σ:St) (H:Hp) (x:V) (xs:List V) (v:Value) (us:List Value) (Q:VK),Inv X pins σ H s→RelV x v→Vals xs us→r x xs H Q→
  wpAny (model X.prog X.w) X.A (call (.builtin id) (v::us)) (EP X pins σ Q) X.xe s
section
variable {X:Cx} {a b:Expr} {ta tb:TE} {pos:Pos}
theorem IxR.or(h:IxR X r)(h':IxR X r'):IxR X (fun x y H Q=>r x y H Q∨r' x y H Q):=by
 intro value slice pins s σ H x y v u Q I rx ry q hs;rcases q with q | q
 ·exact h value slice pins s σ H x y v u Q I rx ry q hs
 ·exact h' value slice pins s σ H x y v u Q I rx ry q hs
theorem zp(hr:IxR X r)(ha:PE X a ta)(hb:PE X b tb)(hs:PlainIx b):PE X (.Subscript a b pos) (tOp r ta tb):=by
 intro pins s σ H Q I h;exact Subscript_ (binT ha hb I h fun v u s2 x y H2 I2 rx ry q=>hr a b pins s2 σ H2 x y v u Q I2 rx ry q (hs _ _))
def rIxL (K:W.Frag):R2:=fun x y H Q=> ∃p xs i v,x= .ref p∧y= .int i∧SqL K H p xs∧atI xs i=some v∧Q v H
def rIxT (K:W.Frag):R2:=fun x y H Q=> ∃p xs i v,x= .ref p∧y= .int i∧SqT K H p xs∧atI xs i=some v∧Q v H
def rIxS:R2:=fun x y H Q=> ∃z i c,x= .str z∧y= .int i∧z.length≤sizeLine∧atI z.cps.toList i=some c∧Q (.str ⟨#[c]⟩) H
theorem ix_list:IxR X (rIxL X.K):=by
 intro value slice pins s σ H x y v u Q I rx ry h hs;obtain⟨p,xs,i,z,rfl,rfl,hq,he,q⟩:=h;cases rx
 obtain⟨t,rfl⟩:=ry;obtain⟨its,r,pl,hz⟩:=I.list hq;obtain⟨j,h1,h2,h3,h4,h5⟩:=ZC he;obtain⟨w,ew,rw'⟩:=r.get h2;have hl:=r.length;have hn:=vD;have fin:EP X pins σ Q w s:=⟨z,H,I,rw',q⟩;by_cases h0:0≤i
 ·have hj:i.toNat=j:=by
   rw[seqIndex_of h0 h5] at h1;exact Option.some.inj h1
  exact item_listR pl.isList h0 (by omega) (by rw[hj]; simpa using ew) fin hs
 ·have hj:(i+(its.toArray.size:Int)).toNat=j:=by
   rw[seqIndex_neg (by omega) h4] at h1;rw[List.size_toArray,←hl];exact Option.some.inj h1
  exact subscriptTail_builtinR (x:=w) pl.isList.typeIs slot_list_getitem.lookup
   (wpAny_getItem_list_neg (Q:=fun r s'=>r=w∧EP X pins σ Q r s') pl.isList (by omega) (by rw[List.size_toArray]<;>omega) (by omega) (by rw[hj]; simpa using ew) ⟨rfl,fin⟩) hs
theorem ix_tup:IxR X (rIxT X.K):=by
 intro value slice pins s σ H x y v u Q I rx ry h hs;obtain⟨p,xs,i,z,rfl,rfl,hq,he,q⟩:=h;cases rx
 obtain⟨t,rfl⟩:=ry;obtain⟨its,r,pl,hz⟩:=I.tuple hq;obtain⟨j,h1,h2,h3,h4,h5⟩:=ZC he;obtain⟨w,ew,rw'⟩:=r.get h2;have hl:=r.length;have hn:=vD;have fin:EP X pins σ Q w s:=⟨z,H,I,rw',q⟩;exact subscriptTail_builtinR (x:=w) pl.typeIs slot_tuple_getitem.lookup
  (getItem_tuple (j:=j) (Q:=fun r s'=>r=w∧EP X pins σ Q r s') pl (by omega) (by omega) (by rw[List.size_toArray,←hl]; exact h1) (by simpa using ew) ⟨rfl,fin⟩) hs
theorem ix_str:IxR X rIxS:=by
 intro value slice pins s σ H x y v u Q I rx ry h hs;obtain⟨z,i,c,rfl,rfl,hz,he,q⟩:=h;obtain⟨t,rfl⟩:=rx;obtain⟨t',rfl⟩:=ry;obtain⟨j,h1,h2,h3,h4,h5⟩:=ZC he;have hl:z.cps.toList.length=z.length:=by simp[Str.length]
 rw[hl] at h1 h4 h5;have hn:=vD;exact tail_any (typeIs_str s z t) slot_str_getitem.lookup (getItem_str (c:=c) (by
  have e1:decide (i< -(2^63:Int))=false:=decide_eq_false (by omega);have e2:decide (i≥2^63)=false:=decide_eq_false (by omega);rw[e1,e2,Bool.or_false]) (by rw[h1]; simpa using h2) ⟨.str ⟨#[c]⟩,H,I.tok _,⟨_,rfl⟩,q⟩) hs
def rIx (K:W.Frag):R2:=fun x y H Q=>rIxL K x y H Q∨rIxT K x y H Q∨rIxS x y H Q
theorem ix_seq:IxR X (rIx X.K):=ix_list.or (ix_tup.or ix_str)
theorem mapSeq_set(its:List Value)(n j:Nat)(u:Value):Obj.mapSeq (·.setIfInBounds j u) {cls:= .type "list",data:= .seq its.toArray n}={cls:= .type "list",data:= .seq (its.set j u).toArray n}:=by
 simp[Obj.mapSeq]
theorem Inv.lst(I:Inv X pins σ H s)(h:H p=some (.lst xs)):
  ∃(its:List Value) (n:Nat),Vals xs its∧s.heap.get? p=some {cls:= .type "list",data:= .seq its.toArray n}∧xs.length≤sizeLine:=by
 obtain⟨z,its,n,r,e⟩:=I.hok p _ h;exact⟨its,n,r,e,z⟩
theorem Inv.lstUpd{its its':List Value}{f:Obj→Obj}(I:Inv X pins σ H s)(h:H p=some (.lst xs))
  (ho:s.heap.get? p=some {cls:= .type "list",data:= .seq its.toArray n}) (hf:f {cls:= .type "list",data:= .seq its.toArray n}={cls:= .type "list",data:= .seq its'.toArray n'}) (r:Vals ys its') (hz:ys.length≤sizeLine) (t:Nat):
  Inv X pins σ (upd H p (.lst ys)) {s with heap:=s.heap.update p f,toks:=t}:=by
 have e:(s.heap.update p f).get? p=some {cls:= .type "list",data:= .seq its'.toArray n'}:=by
  rw[Heap.get?_update_self f ho (by rw[hf]<;>rfl),hf]
 refine I.write (x:=p) (e:=p) (by rw[h]; trivial) (.inl rfl) (fun b u hb q=>(Heap.get?_update_other _ _ (Ne.symm hb)).trans q) ⟨_,e⟩ ?_;exact⟨hz,its',n',r,e⟩
def rSetL:V→V→V→Hp→(Hp→Prop)→Prop:=fun o i v H Q=> ∃p xs k j,o= .ref p∧i= .int k∧H p=some (.lst xs)∧ixN xs.length k=some j∧Q (upd H p (.lst (xs.set j v)))
theorem set_list:PSet X rSetL:=by
 intro pins s σ H o i v ov iv u Q I ro ri rv h;obtain⟨p,xs,k,j,rfl,rfl,hp,hj,q⟩:=h;cases ro
 obtain⟨t,rfl⟩:=ri;obtain⟨its,n,r,ho,hz⟩:=I.lst hp;obtain⟨h1,h2,h3,h4⟩:=Zt hj;have hl:=r.length;have hn:=vD;have I':Inv X pins σ (upd H p (.lst (xs.set j v))) {s with heap:=s.heap.update p (Obj.mapSeq (·.setIfInBounds j u))}:=
  I.lstUpd hp ho (mapSeq_set its n j u) (r.set rv j) (by rw[List.length_set]; exact hz) s.toks
 by_cases h0:0≤k
 ·have hk:k.toNat=j:=by
   rw[seqIndex_of h0 h4] at h1;exact Option.some.inj h1
  exact PySem.W.ki_setAt ho h0 (by omega) (by rw[List.size_toArray,←hl]; exact h4) (by rw[hk]; exact⟨_,I',q⟩)
 ·have hk:(k+(its.toArray.size:Int)).toNat=j:=by
   rw[seqIndex_neg (by omega) h3] at h1;rw[List.size_toArray,←hl];exact Option.some.inj h1
  exact PySem.W.ki_setBack ho (by omega) (by rw[List.size_toArray,←hl]; exact h3) (by omega) (by rw[hk]; exact⟨_,I',q⟩)
theorem slice_bounds(lo hi:Option Int)(n:Nat):(sliceBounds lo hi none n).1=((HT.sIx n 0 lo:Nat):Int)∧(sliceBounds lo hi none n).2.1=((HT.sIx n n hi:Nat):Int)∧(sliceBounds lo hi none n).2.2=1:=by
 refine⟨?_,?_,rfl⟩
 ·cases lo with
  | none=>simp[sliceBounds,HT.sIx]
  | some i=>
   simp only[sliceBounds,HT.sIx,Option.getD_none,show(1:Int)>0 by decide,if_true];by_cases h:i<0
   ·simp only[h,if_true]<;>omega
   ·simp only[h,if_false]<;>omega
 ·cases hi with
  | none=>simp[sliceBounds,HT.sIx]
  | some i=>
   simp only[sliceBounds,HT.sIx,Option.getD_none,show(1:Int)>0 by decide,if_true];by_cases h:i<0
   ·simp only[h,if_true]<;>omega
   ·simp only[h,if_false]<;>omega
theorem slicePick_cut(its:List Value)(lo hi:Option Int):slicePick its.toArray lo hi none=((its.drop (HT.sIx its.length 0 lo)).take (HT.sIx its.length its.length hi-HT.sIx its.length 0 lo)).toArray:=by
 obtain⟨h1,h2,h3⟩:=slice_bounds lo hi its.toArray.size;unfold slicePick;rw[h1,h2,h3];simp only[sliceRange_one,pick_run,List.size_toArray]<;>rfl
def rSlL (K:W.Frag):V→Option Int→Option Int→Hp→VK→Prop:=fun x lo hi H Q=> ∃a xs,x= .ref a∧SqL K H a xs∧ ∀p,H p=none→Q (.ref p) (upd H p (.lst (cutV xs lo hi)))
theorem sl_list:SlR X (rSlL X.K):=by
 intro pins s σ H x v vl vu lo hi sl Q I rx hs pl pu h;obtain⟨a,xs,rfl,hx,q⟩:=h;cases rx
 obtain⟨its,r,ht,hz⟩:=I.list hx;have hlen:=r.length;refine⟨"list",_,slot_list_getitem.lookup,ht.isList.typeIs,?_⟩;refine wpAny_getItem_list_slice ht.isList hs pl pu .none (by simp) ?_ (by rw[List.size_toArray]<;>omega);rw[slicePick_cut,←hlen];refine⟨.ref s.heap.objs.size,_,I.laid (t':=s.toks) (o:= .lst (cutV xs lo hi)) (fun b ob q=>Heap.get?_push_of_some _ q) (Nat.le_refl _) ?_,rfl,q _ (I.hok.fresh (Nat.le_refl _))⟩;exact⟨Nat.le_trans (vc xs lo hi) hz,_,0,(r.drop (HT.sIx xs.length 0 lo)).take (HT.sIx xs.length xs.length hi - HT.sIx xs.length 0 lo),Heap.get?_push_size _ rfl⟩
def X6:V→Bool
 | .non=>true
 | .bl _=>true
 | .int _=>true
 | .str _=>true
 | _=>false
def eqV:V→V→Bool
 | .non,.non=>true
 | .bl a,.bl b=>a==b
 | .bl a,.int b=>(if a then 1 else 0)==b
 | .int a,.bl b=>a==(if b then 1 else 0)
 | .int a,.int b=>a==b
 | .str a,.str b=>a==b
 | _,_=>false
def inV (x:V) (xs:List V):Bool:=xs.any fun y=>eqV y x
def rIn (K:W.Frag) (neg:Bool):R2:=fun x y H Q=> ∃p xs,y= .ref p∧(SqL K H p xs∨SqT K H p xs)∧X6 x=true∧xs.all X6=true∧Q (.bl (if neg then !inV x xs else inV x xs)) H
theorem zq:yn X (.builtin "len") (fun xs H Q=> ∃p ys,xs=[.ref p]∧(SqL X.K H p ys∨SqT X.K H p ys)∧Q (.int ys.length) H):=by
 intro pins s σ H xs us Q I r h;obtain⟨p,ys,rfl,hq,q⟩:=h;obtain⟨u,rfl,rx⟩:=vO r;cases rx
 have hn:=vD;rcases hq with hq | hq
 ·obtain⟨its,r',pl,hz⟩:=I.list hq;have hlen:=r'.length;exact Calls.call_len_list pl.isList (by simp only[List.size_toArray]<;>omega) ⟨.int ys.length,H,I.tok _,⟨s.toks+1,by rw[List.size_toArray,hlen]⟩,q⟩
 ·obtain⟨its,r',pl,hz⟩:=I.tuple hq;have hlen:=r'.length;exact len_tuple pl (by simp only[List.size_toArray]<;>omega) ⟨.int ys.length,H,I.tok _,⟨s.toks+1,by rw[List.size_toArray,hlen]⟩,q⟩
theorem wK:yn X (.type "list") (fun xs H Q=> ∃p ys,xs=[.ref p]∧(SqL X.K H p ys∨SqT X.K H p ys)∧ ∀l,H l=none→Q (.ref l) (upd H l (.lst ys))):=by
 intro pins s σ H xs us Q I r h;obtain⟨p,ys,rfl,hq,q⟩:=h;obtain⟨u,rfl,rx⟩:=vO r;cases rx
 have fin: ∀(its:List Value),Vals ys its→ys.length≤sizeLine→ ∀(h':Heap) (c':Nat),(∀b o',s.heap.get? b=some o'→h'.get? b=some o')→
   h'.get? s.heap.objs.size=some {cls:= .type "list",dict:=none,data:= .seq its.toArray c',slots:=#[]}→EP X pins σ Q (.ref s.heap.objs.size) {s with heap:=h'}:=fun its r' hz h' c' kp e=>
  ⟨.ref s.heap.objs.size,_,I.laid (t':=s.toks) kp (Nat.le_refl _) (show ObjOk X.prog X.w _ h' _ (.lst ys) from⟨hz,its,c',r',e⟩),rfl,q _ (I.hok.fresh (Nat.le_refl _))⟩
 rcases hq with hq | hq
 ·obtain⟨its,r',pl,hz⟩:=I.list hq;have hlen:=r'.length;obtain⟨o,ho,hc,n,hd⟩:=pl.isList;exact call_list_seq p (.inl rfl) ho hc hd (fun h' c' kp e=>fin its r' hz h' c' kp e) (by simp only[List.size_toArray]<;>omega)
 ·obtain⟨its,r',pl,hz⟩:=I.tuple hq;have hlen:=r'.length;obtain⟨o,ho,hc,n,hd⟩:=pl;exact call_list_seq p (.inr rfl) ho hc hd (fun h' c' kp e=>fin its r' hz h' c' kp e) (by simp only[List.size_toArray]<;>omega)
theorem zK:yn X (.type "tuple") (fun xs H Q=> ∃p ys,xs=[.ref p]∧((SqL X.K H p ys∧ ∀l,H l=none→Q (.ref l) (upd H l (.tup ys)))∨(SqT X.K H p ys∧Q (.ref p) H))):=by
 intro pins s σ H xs us Q I r h;obtain⟨p,ys,rfl,h⟩:=h;obtain⟨u,rfl,rx⟩:=vO r;cases rx
 rcases h with ⟨hq,q⟩ | ⟨hq,q⟩
 ·obtain⟨its,r',pl,hz⟩:=I.list hq;have hlen:=r'.length;refine call_tuple_list pl.isList (fun h' kp=>?_) (by simp only[List.size_toArray]<;>omega);have I1:Inv X pins σ H {s with heap:=h'}:=I.kept (t':=s.toks) kp;have I2:Inv X pins σ (upd H h'.objs.size (.tup ys)) {s with heap:=h'.push {cls:= .type "tuple",data:= .seq its.toArray}}:=
   I1.laid (t':=s.toks) (fun b o e=>Heap.get?_push_of_some _ e) (Nat.le_refl _) (show ObjOk X.prog X.w _ _ _ (.tup ys) from⟨hz,its,r',IsTup.new _ _⟩)
  exact⟨.ref h'.objs.size,_,I2,rfl,q _ (I1.hok.fresh (Nat.le_refl _))⟩
 ·obtain⟨its,r',pl,hz⟩:=I.tuple hq;exact call_tuple_same pl ⟨.ref p,H,I,rfl,q⟩
def tyV (K:W.Frag) (T:String) (x:V) (H:Hp):Prop:=match x with
 | .str _=>T="str"
 | .int _=>T="int"
 | .ref p=>(T="list"∧ ∃xs,SqL K H p xs)∨(T="tuple"∧ ∃o,K.lookup p=some o∧o.cls= .type "tuple"∧o.dict=none)∨
   (T="dict"∧((∃kvs,H p=some (.dK kvs))∨ ∃kvs,H p=some (.dT kvs)))∨(T="set"∧ ∃S n,H p=some (.set S n))
 | _=>False
theorem tyV_is(I:Inv X pins σ H s)(r:RelV x v)(ty:tyV X.K T x H):
  s.TypeIs v T∧ ∀a,v= .ref a→ ∃ob,s.heap.get? a=some ob∧ob.dict=none:=by
 cases x with
 | str z=>
  obtain⟨t,rfl⟩:=r;cases (show T="str" from ty)
  exact⟨typeIs_str s z t,fun _ e=>nomatch e⟩
 | int i=>
  obtain⟨t,rfl⟩:=r;cases (show T="int" from ty)
  exact⟨typeIs_int s i t,fun _ e=>nomatch e⟩
 | ref p=>
  cases r
  rcases ty with ⟨rfl,xs,hq⟩ | ⟨rfl,o,hk,hc,hd⟩ | ⟨rfl,hk⟩ | ⟨rfl,S,n,hk⟩
  ·obtain⟨its,_,pl,_⟩:=I.list hq;refine⟨pl.isList.typeIs,fun a e=>?_⟩;cases e
   obtain⟨o,n,e,c,hd,_⟩:=pl;exact⟨o,e,hd⟩
  ·refine⟨⟨o,I.kIn p o hk,hc⟩,fun a e=>?_⟩;cases e
   exact⟨o,I.kIn _ o hk,hd⟩
  ·have z: ∃o,s.heap.get? p=some o∧o.ExactDict:=by
    rcases hk with ⟨kvs,hk⟩ | ⟨kvs,hk⟩
    ·obtain⟨_,_,_,_,o,_,_,e,ex,_⟩:=I.hok p _ hk;exact⟨o,e,ex⟩
    ·obtain⟨_,_,_,_,o,_,_,e,ex,_⟩:=I.hok p _ hk;exact⟨o,e,ex⟩
   obtain⟨o,e,ex⟩:=z;refine⟨⟨o,e,ex.1⟩,fun a e2=>?_⟩;cases e2
   exact⟨o,e,ex.2.1⟩
  ·obtain⟨o,_,_,_,e,ex,_⟩:=I.hok p _ hk;refine⟨⟨o,e,ex.1⟩,fun a e2=>?_⟩;cases e2
   exact⟨o,e,ex.2.1⟩
 | _=>exact False.elim ty
def tBM (K:W.Frag) (T:String) (r:V→List V→Hp→VK→Prop) (to:TE) (t:TA):TE:=fun σ H Q=>to σ H fun x H1=>tyV K T x H1∧t σ H1 fun xs H2=>r x xs H2 Q
variable {o e:Expr} {es:List Expr} {to:TE} {t:TA} {name:Str} {apos cpos:Pos} {T id:String} {r:V→List V→Hp→VK→Prop}
theorem ZJ(pa:PlainAttrs T)(slot:Slot T name id)(hty:typeOf (.builtin id)=pure (.type "method_descriptor"))(hm:MtR X id r)(ho:PE X o to)(ha:PA X (e::es) t)
  (hbase:attributeBase o name X.env (eval o X.env)=eval o X.env:=by rfl)
  (hfew:((backTo cpos (starEach (e::es) X.env)).all (fun x=> !x.1)&&(backToKw cpos (keywordEach [] X.env)).all (fun x=>x.1.isSome)
   &&decide ((e::es).length+([]:List Keyword).length+(if ([]:List Keyword).isEmpty then 0 else 1)<30))=true:=by rfl)
  (hline:(apos.endLine==cpos.line)=true:=by rfl) (hs:starEach (e::es) X.env=(false,eval e X.env)::starEach es X.env:=by rfl) (hplain:(backTo cpos (starEach es X.env)).any (·.1)=false:=by rfl):
  PE X (.Call (.Attribute o name apos) (e::es) [] cpos) (tBM X.K T r to t):=by
 intro pins s σ H Q I h;refine wpAny_Call_method_late hbase hfew hline rfl (thn (ho pins s σ H _ I h) fun v s1 ⟨x,H1,I1,r1,ty,q1⟩=>?_);obtain⟨h1,h2⟩:=tyV_is I1 r1 ty;refine⟨T,id,pa,slot,hty,h1,h2,?_⟩;have hA:=ha cpos pins s1 σ H1 _ I1 q1;rw[hs] at hA ⊢;refine Calls.callWith_builtin (by show(false || (backTo cpos (starEach es X.env)).any (·.1))=false; rw[hplain]<;>rfl) (Calls.evalArgs_plain ?_);exact thn hA fun us s2 ⟨vs,H2,I2,r2,q2⟩=>hm pins s2 σ H2 x vs v us Q I2 r1 r2 q2
/- xs.append(e),list.index on a module's tuple .. are MtR facts of 06m -/
end
def MtM (X:Cx) (id:String) (r:V→List V→Hp→VK→Prop):Prop:=
 ∀(pins:List (Addr×Obj)) (s:Shared) (σ:St) (H:Hp) (x:V) (xs:List V) (v:Value) (us:List Value) (Q:VK),Inv X pins σ H s→RelV x v→Vals xs us→r x xs H Q→
  wpAny (model X.prog X.w) X.A (call (.builtin id) (v::us)) (EP X pins σ Q) X.xe s
theorem Vals.one: ∀{x:V} {us:List Value},Vals [x] us→ ∃u,us=[u]∧RelV x u
 | _,_,.cons r .nil=>⟨_,rfl,r⟩
theorem Vals.eraseIdx: ∀{xs:List V} {us:List Value} (i:Nat),Vals xs us→Vals (xs.eraseIdx i) (us.eraseIdx i)
 | _,_,_,.nil=> .nil
 | _,_,0,.cons _ t=>t
 | _,_,i+1,.cons r t=> .cons r (Vals.eraseIdx i t)
theorem Vals.rep(h:Vals xs us): ∀k:Nat,Vals (List.replicate k xs).flatten (List.replicate k us).flatten
 | 0=> .nil
 | k+1=>by
  rw[List.replicate_succ,List.replicate_succ,List.flatten_cons,List.flatten_cons];exact Vals.append h (Vals.rep h k)
theorem vZ: ∀(l:List α) (i:Nat),(l.eraseIdx i).length≤l.length
 | [],_=>Nat.le_refl _
 | _::_,0=>Nat.le_succ _
 | _::r,i+1=>Nat.succ_le_succ (vZ r i)
theorem Za(its:List Value): ∀(k:Nat) (acc:List Value),
  List.foldl (fun x1 x2=>x1++x2) acc.toArray (List.replicate k its.toArray)=(acc++(List.replicate k its).flatten).toArray
 | 0,acc=>by simp
 | k+1,acc=>by
  have e:acc.toArray++its.toArray=(acc++its).toArray:=by simp
  have e2:(acc++its)++(List.replicate k its).flatten=acc++(List.replicate (k+1) its).flatten:=by
   rw[List.replicate_succ,List.flatten_cons,List.append_assoc]
  rw[←e2,←Za its k (acc++its),←e,List.replicate_succ,List.foldl_cons]
section
variable {X:Cx} {pins:List (Addr×Obj)} {σ:St} {H:Hp} {s:Shared} {l b:Addr} {xs ys zs:List V}
theorem Inv.lset{its its':List Value}{f:Array Value→Array Value}(I:Inv X pins σ H s)(hH:H l=some (.lst xs))
  (e:s.heap.get? l=some {cls:= .type "list",data:= .seq its.toArray n}) (hf:f its.toArray=its'.toArray) (hv:Vals ys its') (hz:ys.length≤sizeLine):
  Inv X pins σ (upd H l (.lst ys)) {s with heap:=s.heap.update l (Obj.mapSeq f),toks:=t'}:=by
 have q:=PySem.IsL.update e f;rw[hf] at q;refine I.write (x:=l) (e:=l) (by rw[hH]; exact trivial) (.inl rfl) (fun b' u hb hu=>(Heap.get?_update_other s.heap (Obj.mapSeq f) (Ne.symm hb)).trans hu) ⟨_,q⟩ ?_;exact⟨hz,its',_,hv,q⟩
theorem Inv.lnew(I:Inv X pins σ H s)(hv:Vals ys its)(hz:ys.length≤sizeLine):
  Inv X pins σ (upd H s.heap.objs.size (.lst ys)) {s with heap:=s.heap.push {cls:= .type "list",data:= .seq its.toArray},toks:=t'}:=
 I.laid (fun _ _ q=>Heap.get?_push_of_some _ q) (Nat.le_refl _) ⟨hz,its,0,hv,Heap.get?_push_size _ rfl⟩
theorem Inv.fresh(I:Inv X pins σ H s):H s.heap.objs.size=none:=I.hok.fresh (Nat.le_refl _)
theorem Inv.lstM(I:Inv X pins σ H s)(hH:H l=some (.lst xs)):xs.length≤sizeLine∧ ∃(its:List Value) (n:Nat),Vals xs its∧xs.length=its.length∧s.heap.get? l=some {cls:= .type "list",data:= .seq its.toArray n}:=by
 obtain⟨z,its,n,r,e⟩:=I.hok l _ hH;exact⟨z,its,n,r,r.length,e⟩
theorem notLongL(h:n≤sizeLine):Builtin.List.listTooLong n=false:=by
 unfold Builtin.List.listTooLong;exact decide_eq_false (by omega)
end
section
variable {X:Cx}
def rAppend:V→List V→Hp→VK→Prop:=fun x vs H Q=> ∃l xs y,x= .ref l∧vs=[y]∧H l=some (.lst xs)∧xs.length<sizeLine∧Q .non (upd H l (.lst (xs++[y])))
theorem wU:MtM X "list.append" rAppend:=by
 intro pins s σ H x vs v us Q I rx rv h;obtain⟨l,xs,y,rfl,rfl,hH,hz,q⟩:=h;cases rx
 obtain⟨u,rfl,ru⟩:=rv.one;obtain⟨z,its,n,r,hl,e⟩:=I.lstM hH;refine call_meets F.slot_list_append ⟨_,e,rfl⟩ F.entry_list_append (F.args_list_append_2 _ _) (PySem.list_append l its.toArray n u (by rw[List.size_toArray]; omega)) ⟨e,?_⟩;refine⟨.non,_,I.lset (its':=its++[u]) hH e (by simp) (r.append (.cons ru .nil)) ?_,rfl,q⟩;rw[List.length_append,List.length_singleton];omega
def rPopAt:V→List V→Hp→VK→Prop:=fun x vs H Q=> ∃l xs i k y,x= .ref l∧vs=[.int i]∧H l=some (.lst xs)∧ -(2^63)≤i∧i<2^63∧seqIndex? i xs.length=some k∧xs[k]? =some y∧Q y (upd H l (.lst (xs.eraseIdx k)))
theorem mt_popAt:MtM X "list.pop" rPopAt:=by
 intro pins s σ H x vs v us Q I rx rv h;obtain⟨l,xs,i,k,y,rfl,rfl,hH,h1,h2,hk,hy,q⟩:=h;cases rx
 obtain⟨u,rfl,ru⟩:=rv.one;obtain⟨t,rfl⟩:=ru;obtain⟨z,its,n,r,hl,e⟩:=I.lstM hH;obtain⟨w,hw,rw'⟩:=r.get hy;refine call_meets F.slot_list_pop ⟨_,e,rfl⟩ F.entry_list_pop (F.args_list_pop_2 _ _)
  (MeetsSeq.list_pop_at l its.toArray n i t k w (fitsIndex_both h1 h2) (by rw[List.size_toArray,←hl]; exact hk) (by rw[←Array.getElem?_toList]; exact hw) (by rw[List.size_toArray]; omega)) ⟨e,?_⟩
 refine⟨y,_,I.lset (its':=its.eraseIdx k) hH e ?_ (r.eraseIdx k) ?_,rw',q⟩
 ·show its.toArray.eraseIdxIfInBounds k=(its.eraseIdx k).toArray;rw[List.eraseIdxIfInBounds_toArray]
 ·have:=vZ xs k;omega
def rCat:R2:=fun x y H Q=> ∃l b xs zs,x= .ref l∧y= .ref b∧H l=some (.lst xs)∧H b=some (.lst zs)∧xs.length+zs.length≤sizeLine∧ ∀p,H p=none→Q (.ref p) (upd H p (.lst (xs++zs)))
theorem Yb:OpR X (binaryOp .Add) rCat:=by
 intro pins s σ H x y v u Q I rx ry h;obtain⟨l,b,xs,zs,rfl,rfl,hH,hB,hz,q⟩:=h;cases rx
 cases ry
 obtain⟨z,its,n,r,hl,e⟩:=I.lstM hH;obtain⟨z2,its2,n2,r2,hl2,e2⟩:=I.lstM hB;refine PySem.P.add_list e e2 ?_ (by rw[List.size_toArray,List.size_toArray]; omega);have ea:its.toArray++its2.toArray=(its++its2).toArray:=by simp
 rw[ea];exact⟨.ref _,_,I.lnew (t':=s.toks) (r.append r2) (by rw[List.length_append]; omega),rfl,q _ I.fresh⟩
def rRep:R2:=fun x y H Q=> ∃l k xs,x= .ref l∧y= .int k∧H l=some (.lst xs)∧ -(2^63)≤k∧k<2^63∧xs.length*k.toNat≤sizeLine∧
 ∀p,H p=none→Q (.ref p) (upd H p (.lst (List.replicate k.toNat xs).flatten))
theorem len_rep(xs:List α)(k:Nat):(List.replicate k xs).flatten.length=k*xs.length:=by
 induction k with
 | zero=>simp
 | succ k ih=>rw[List.replicate_succ,List.flatten_cons,List.length_append,ih,Nat.succ_mul,Nat.add_comm]
theorem Zp:OpR X (binaryOp .Mult) rRep:=by
 intro pins s σ H x y v u Q I rx ry h;obtain⟨l,k,xs,rfl,rfl,hH,h1,h2,hz,q⟩:=h;cases rx
 obtain⟨t,rfl⟩:=ry;obtain⟨z,its,n,r,hl,e⟩:=I.lstM hH;have hlen:its.toArray.size*k.toNat≤sizeLine:=by rw[List.size_toArray,←hl]; exact hz
 have hcap: ¬its.toArray.size*k.toNat>(2^63-1) / 8:=by
  have:(sizeLine:Nat)≤(2^63-1) / 8:=by decide
  omega
 have hfit: ¬(!Builtin.List.listFitsIndex k)=true:=by
  rw[fitsIndex_both h1 h2];exact Bool.false_ne_true
 have hlong: ¬Builtin.List.listTooLong (its.toArray.size*k.toNat)=true:=by
  rw[notLongL hlen];exact Bool.false_ne_true
 have hnew:List.foldl (fun x1 x2=>x1++x2) #[] (List.replicate (if its.toArray.isEmpty=true then 0 else k.toNat) its.toArray)=(List.replicate k.toNat its).flatten.toArray:=by
  have f0: ∀m:Nat,List.foldl (fun x1 x2=>x1++x2) #[] (List.replicate m its.toArray)=(List.replicate m its).flatten.toArray:=fun m=>by
   have:=Za its m [];rw[List.nil_append] at this;exact this
  rw[f0];cases its with
  | nil=>simp
  | cons a r'=>rw[if_neg (by simp)]
 refine wpAny_binaryOp_repeat_ref (T:="list") (U:="int") (by decide) ⟨_,e,rfl⟩ (fun s'=>typeIs_int s' k t) noFill_list_mul F.fills_int_mul F.slot_int_rmul repeat_list F.slot_int_index.lookup
  (call_meets F.slot_int_rmul (typeIs_int s k t) F.entry_int_rmul (F.args_int_rmul_2 _ _) (int___rmul___int_list k t l its.toArray n)
   ⟨e,rfl,⟨_,e,rfl⟩,call_meets F.slot_list_mul ⟨_,e,rfl⟩ F.entry_list_mul (F.args_list_mul_2 _ _) (AutoListH.list___mul___list_int_3 l its.toArray n k t hfit hcap hlong) ⟨e,?_⟩⟩)
 rw[hnew];exact⟨.ref _,_,I.lnew (t':=s.toks) (r.rep k.toNat) (by rw[len_rep,Nat.mul_comm]; exact hz),rfl,q _ I.fresh⟩
end
end L2
namespace Att
open PySem PySem.W PySem.Calls PyProof.Rows
theorem ints_of_wellAll: ∀(ns:List Int) (vs:List Value),WellAll P h vs (ns.map WData.int)→IntsAre vs ns:=by
 intro ns
 induction ns with
 | nil=>
  intro vs w;rw[List.map_nil] at w;cases w
  exact .nil
 | cons n ns ih=>
  intro vs w;rw[List.map_cons] at w;cases w with
  | cons a b=>
   cases a
   exact .cons _ _ (ih _ b)
theorem script_of{l:OpenLaw}(hn:l.most=some n)
  (hpre:l.row.toRowW.claim.pre args=true) (hwl:WellAll P h vals args):
  ∃a vs ns,vals=[Value.ref a]∧args=[WData.list (ns.map WData.int)]∧h.get? a=some {cls:= .type "list",data:= .seq vs.toArray}∧IntsAre vs ns∧ns.length≤n:=by
 have hsh:WShape.hasAll [] args [.list .int]=true:=(pre_splitW hpre).1;have hc:l.pre.holds [] {args:=args}=true:=(pre_splitW hpre).2;obtain⟨d,r,rfl,h1,h2⟩:=hasAllW_cons hsh;obtain rfl:=hasAllW_nil h2;obtain⟨xs,rfl,h3⟩:=hasW_list h1;obtain⟨ns,rfl⟩:=items_int h3;have hlen:ns.length≤n:=by
  unfold OpenLaw.pre at hc;have h4:(WTm.not (.lt (.lit (.int (n:Int))) (.len (.arg 0)))).holds [] {args:=[.list (ns.map .int)]}=true:=by
   have h4:=(holds_andW hc).1;rw[hn] at h4;exact h4
  have h5:=condW_of h4 (w_not (w_lt w_lit (w_len_list (w_arg rfl))));rw[List.length_map] at h5;refine Nat.le_of_not_lt fun q=>?_;have q':(n:Int)<((ns.length:Nat):Int):=by omega
  first
   | (rw[decide_eq_true q'] at h5; exact absurd h5 (by decide))
   | (simp at h5; omega)
 cases hwl with
 | cons w1 w2=>
  cases w2
  cases w1 with
  | list ho hall=>exact⟨_,_,ns,rfl,rfl,ho,ints_of_wellAll ns _ hall,hlen⟩
theorem post_true(l:OpenLaw)(args:List WData):l.row.toRowW.claim.post args (.bool true) args=true:=
 postW_of (r:=l.row.toRowW) (X:=(true==true))
  (show WShape.has [] (.bool true) .bool=true by first | rfl | decide | simp[WShape.has,WShape.arms,WShape.armsAll])
  (show(WTm.eq .res (.lit (.bool true))).value [] {args:=args,res:=some (.bool true),after:=args}=some (.bool (true==true)) from w_eq_bool (w_res rfl) w_lit) rfl
theorem attach_call{l:OpenLaw}{XP:(Str→Option Value)→Heap→Prop}{YP:World→Heap→Prop}{d:DefRec}
  (hn:l.most=some n) (hdf:d.params.defaults=[])
  (call: ∀(w:World) (s₀ s₁:Shared) (mg mb:Str→Option Value) (fa:Addr) (o:Obj) (pm cd doc:Value) (a:Addr) (vs:List Value) (ns:List Int),
   Ground q loose [] XP w s₀ mg mb s₁.heap→YP w s₁.heap→
   s₁.heap.get? fa=some o→o.data= .func (docDef d.name d.params d.body d.scope pm cd doc)→s₁.heap.CodeRec cd d.name→mg d.name=some (.ref fa)→
   s₁.heap.get? a=some {cls:= .type "list",data:= .seq vs.toArray}→IntsAre vs ns→ns.length≤n→s₁.gens=#[]→
   codeAny (model l.prog w) callerA (.call (.ref fa) ⟨[.ref a],[]⟩) (fun r s'=>r= .ok (.ret (.bool true))∧OldK s₁.heap s'.heap∧s'.os=s₁.os∧AllBare s'.gens) s₁):
  WalkO q loose XP YP l.row.toRowW d [] (fun f vs=>PySem.call f vs):=by
 intro w s₀ s₁ mg mb G Y fa o pm cd doc dV kV ho hd hcd hD hmg hg args vals as hpre hlay hrd hwl hlo;obtain rfl:dV= .none:=Dflts.none hD hdf;obtain rfl:kV= .none:=Dflts.noKw hD;obtain⟨a,vs,ns,rfl,rfl,hobj,hints,hlen⟩:=script_of hn hpre hwl;refine enter_call (codeAny_mono (call w s₀ s₁ mg mb fa o pm cd doc a vs ns G Y ho (fd_plain hd) hcd hmg hobj hints hlen hg) fun r s' hq=>?_);obtain⟨rfl,h2,h3,h4⟩:=hq;exact⟨.inl ⟨.bool true,.bool true,[],rfl,fun _=>rfl,.bool true,post_true l _,fun _=>⟨List.Pairwise.nil,fun _ hm=>(nomatch hm)⟩⟩,h2,h3,h4⟩
end Att
namespace L2
open PySem PySem.Spec PyProof.Rows
theorem wN: ∀{vs:List Value} {ns:List Int},IntsAre vs ns→Vals (ns.map V.int) vs
 | _,_,.nil=> .nil
 | _,_,.cons n t h=> .cons ⟨t,rfl⟩ (wN h)
def Only (H:Hp):Prop:= ∀b,H b=none∨ ∃o xs,H b=some (.frz o (.lst xs))
theorem law_call{K:W.Frag}{mg mb:Str→Option Value}{s₁:Shared}{vs:List Value}
  (KX:K.In s₁.heap) (hns:s₁.heap.Ns mainGlobals mg) (hb:s₁.heap.Ns builtinsNs mb) (hbb: ∀x:Str,x≠"__name__"→mb x=bootBuiltins x) (hlim:s₁.heap.NoLimit) (hg:s₁.gens=#[])
  (ha:s₁.heap.get? a=some {cls:= .type "list",data:= .seq vs.toArray}) (hi:IntsAre vs ns) (hl:ns.length≤sizeLine) (hr:Room k callerA)
  (F: ∀base:Heap,K.In base→base.Ns mainGlobals mg→FnOk P w K mg base CX k fa fd [x] sp) (hbind: ∀(s:Shared) (u:Value),BindsTo s fd ⟨[u],[]⟩ [(x,u)])
  (hsp: ∀H:Hp,Only H→SqL K H a (ns.map V.int)→sp [.ref a] H (fun v _=>v= .bl true) fun _ _ _=>False)
  (hCX: ∀H e s',CX [] H s₁ (fun _ _ _=>False) e s'→False):
  codeAny (model P w) callerA (.call (.ref fa) ⟨[.ref a],[]⟩) (fun r s'=>r= .ok (.ret (.bool true))∧OldK s₁.heap s'.heap∧s'.os=s₁.os∧AllBare s'.gens) s₁:=by
 have rv:=wN hi;have lenV:=hi.length
 -- from an abstract heap in which nothing but the script may be tracked
 have core: ∀H:Hp,Only H→SqL K H a (ns.map V.int)→HOk P w H s₁.heap→(∀b,H b≠none→b=a)→(H a≠none→K.lookup a=none)→
   codeAny (model P w) callerA (.call (.ref fa) ⟨[.ref a],[]⟩) (fun r s'=>r= .ok (.ret (.bool true))∧OldK s₁.heap s'.heap∧s'.os=s₁.os∧AllBare s'.gens) s₁:=by
  intro H hO hS hok hA hK;have base_of: ∀{b:Addr} {o:Obj},s₁.heap.get? b=some o→H b=none→(hidT s₁.heap H).get? b=some o:=fun e n=>ZR e n;have noA: ∀{b:Addr} {o:Obj} {es:Array DictEntry} {ep:Nat},s₁.heap.get? b=some o→o.data= .dict es ep→H b=none:=fun {b o es ep} e d=>by
   cases q:H b with
   | none=>rfl
   | some u=>
    have e':b=a:=hA b (by rw[q]; simp);subst e';rw[ha] at e; cases e;have d':Data.seq vs.toArray _=Data.dict es ep:=d;cases d'
  have nsK: ∀{b:Addr} {m:Str→Option Value},s₁.heap.Ns b m→(hidT s₁.heap H).Ns b m:=fun {b m} ⟨o,es,ep,e,d,r⟩=>⟨o,es,ep,base_of e (noA e d),d,r⟩;have hKb:K.In (hidT s₁.heap H):=fun b o e=>base_of (KX b o e) (by
   cases q:H b with
   | none=>rfl
   | some u=>
    have e':b=a:=hA b (by rw[q]; simp);subst e';rw[hK (by rw[q]; simp)] at e; cases e)
  have hM:Mod K mg (hidT s₁.heap H):=⟨hKb,nsK hns,⟨mb,nsK hb,hbb⟩,let ⟨mc,h1,h2⟩:=hlim; ⟨mc,nsK h1,h2⟩⟩;have e0:Env0 P w K mg (hidT s₁.heap H) callerA [] s₁ H:=⟨rfl,hM,fun b o e=>YC e,Nat.le_of_eq (v9 _ _),trivial,fun b hb=>absurd (show b∈([]:List Addr) from hb) (by simp),hok,.of_eq hg⟩;refine codeAny_mono ((F _ hKb (nsK hns)).run callerA [] s₁ H ⟨[.ref a],[]⟩ [.ref a] [.ref a] _ _ hr e0 (hbind s₁ (.ref a)) (.cons rfl .nil) (hsp H hO hS)) fun r s' h=>?_;cases r with
  | error e=>exact(hCX H e s' h).elim
  | ok fl=>
   cases fl with
   | next=>exact False.elim h
   | brk=>exact False.elim h
   | cont=>exact False.elim h
   | ret u=>
    obtain⟨v,H',os,bare,un,hok',r',q⟩:=h;have q':v= .bl true:=q;subst q';obtain rfl:u=Value.bool true:=r';refine⟨rfl,OldK.of_keep fun b o e=>?_,os,bare⟩;cases q:H b with
    | none=>exact un.keep b o e q (by intro z; exact absurd (show b∈([]:List Addr) from z) (by simp)) (by simp)
    | some u=>
     rcases hO b with z | ⟨ob,xs,z⟩
     ·rw[q] at z; cases z
     ·have z2:=un.frzs b ob _ z;obtain⟨e1,_⟩:=hok b _ z;obtain⟨e2,_⟩:=hok' b _ z2;rw[e] at e1; cases e1;exact e2
 cases hk:K.lookup a with
 | some o=>
  -- the script is one of the module's own objects
  have e:=KX a o hk;rw[ha] at e;cases e
  refine core (fun _=>none) (fun _=> .inl rfl) (.inr ⟨_,vs.toArray,_,hk,rfl,rfl,rfl,by rw[List.size_toArray,lenV]; exact hl,by simpa using rv⟩) (fun b u z=>by have z':(none:Option HO)=some u:=z; cases z') (fun b z=>absurd rfl z) fun z=>absurd rfl z
 | none=>
  refine core (fun b=>if b=a then some (.frz {cls:= .type "list",data:= .seq vs.toArray} (.lst (ns.map V.int))) else none) (fun b=>?_) (.inl (.inr ⟨{cls:= .type "list",data:= .seq vs.toArray},if_pos rfl⟩)) (fun b u z=>?_) (fun b z=>?_) fun _=>hk
  ·by_cases hb:b=a
   ·exact .inr ⟨_,_,if_pos hb⟩
   ·exact .inl (if_neg hb)
  ·by_cases hb:b=a
   ·have z':=(if_pos hb).symm.trans z;cases z'
    subst hb;exact⟨ha,by rw[List.length_map]; exact hl,vs,_,rv,ha⟩
   ·have z':=(if_neg hb).symm.trans z;cases z'
  ·by_cases hb:b=a
   ·exact hb
   ·exact absurd (if_neg hb) z
abbrev KOf {K:W.Frag} {h:Heap} (_:K.In h):W.Frag:=K
theorem walk_of{l:PySem.W.OpenLaw}{XP:(Str→Option Value)→Heap→Prop}{YP:World→Heap→Prop}{d:DefRec}{K:Params→W.Frag}{CX:World→CXT}{sp:World→Sp}
  (hn:l.most=some n) (hn2:n≤sizeLine) (hdf:d.params.defaults=[]) (hr:Room k callerA)
  (hY: ∀(w:World) (h:Heap),YP w h→(K w.params).In h)
  (F: ∀(w:World) (mg:Str→Option Value) (fa:Addr) (h:Heap),(K w.params).In h→h.Ns mainGlobals mg→mg d.name=some (.ref fa)→
   ∃fd:FuncData,(∀(s:Shared) (u:Value),BindsTo s fd ⟨[u],[]⟩ [(x,u)])∧
    ∀base:Heap,(K w.params).In base→base.Ns mainGlobals mg→FnOk l.prog w (K w.params) mg base (CX w) k fa fd [x] (sp w))
  (hsp: ∀(w:World) (H:Hp) (a:Addr) (ns:List Int),ns.length≤n→Only H→SqL (K w.params) H a (ns.map V.int)→sp w [.ref a] H (fun v _=>v= .bl true) fun _ _ _=>False)
  (hCX: ∀(w:World) (H:Hp) (s:Shared) (e:Value) (s':Shared),CX w [] H s (fun _ _ _=>False) e s'→False):
  PySem.W.WalkO q loose XP YP l.row.toRowW d [] (fun f vs=>PySem.call f vs):=by
 refine Att.attach_call hn hdf fun w s₀ s₁ mg mb fa o pm cd doc a vs ns G Y ho hd hcd hmg hobj hints hlen hg=>?_;have KX:=hY w _ Y;obtain⟨fd,hb,hF⟩:=F w mg fa _ KX G.T.g hmg;exact law_call KX G.T.g G.T.b G.T.builtins G.T.nolimit hg hobj hints (Nat.le_trans hlen hn2) hr hF hb (fun H hO hS=>hsp w H a ns hlen hO hS) fun H e s'=>hCX w H s₁ e s'
end L2
/- THE LAST THEOREM (shape; LID,My.*are yours):
   My.Adr:a structure of the addresses that your layer names (classes,functions); My.Txt K t:a structure (Prop) of the equations over K;
   My.txt_mk:{K} {implicit addresses ..} (e1:nsIn K mainGlobals "law"=some (some (.ref f))) (e2:K.lookup f=some ⟨oc,od,.func (fnOf "law" "law" params body scope dV kV doc pm an cdv ct),sl⟩) (e3:codeIn K cdv "law"=true) .. : ∃t,My.Txt K t
set_option maxRecDepth 100000 in
set_option maxHeartbeats 0 in
theorem PySem.Challenge.cw_LID_holds : PySem.Challenge.rw_LID.Holds := by
 w_on; o_law; k_head; (case hw=>w_witness2)
 k_fill
 refine L2.walk_of (l:=PySem.Challenge.rw_LID) (n:=63) (k:=40) (x:="script") (CX:=fun w=> ..) (sp:=fun _=>My.sp_law) rfl (by decide) rfl ⟨rfl,by decide,by decide⟩ (fun w h Y=>PySem.W.kIn_of Y) ?F ?S ?C
 case F=>
  intro w mg fa h KX G hmg;have T: ∃t,My.Txt (L2.KOf KX) t:=by
   dsimp only[L2.KOf]                          -- K must stand as «<heap const>w.params» for k_is;refine' My.txt_mk ?e1 ?e2 ?e3 ..
   (case e1=>PySem.W.k_is)                    -- in the order:a name ->its address ->its object ->its parts
   (case e2=>PySem.W.k_is)
   ..
  obtain⟨t,T⟩:=T;have e0:=hmg.symm.trans (PySem.W.mg_of KX G T.law);cases e0                                       -- fa is the law's own address
  exact⟨_,fun s u=> .of_eq rfl,fun base kb nb=>My.law_fn T kb nb⟩     -- if «.of_eq rfl» comes too early:refine'⟨_,?b,fun base kb nb=>My.law_fn T kb nb⟩; exact fun s u=> .of_eq rfl
 case S=>exact fun w H a ns hl hO hS=> ..
 case C=>exact ..
(the tactic k_is has no namespace:write k_is) -/
namespace L2
open PySem PySem.Spec PyProof.Rows
def zS (s:Stmt):Arguments:=match s with
 | .FunctionDef _ a _ _ _ _ _ _ _ _=>a
 | _=>{posonlyargs:=[],args:=[],vararg:=none,kwonlyargs:=[],kw_defaults:=[],kwarg:=none,defaults:=[]}
def zm (s:Stmt):List Stmt:=match s with
 | .FunctionDef _ _ b _ _ _ _ _ _ _=>b
 | _=>[]
def nsc:PySem.Scope:={kind:= .function,names:=[],isGenerator:=false,isCoroutine:=false}
def ze (s:Stmt):Scope:=match s with
 | .FunctionDef _ _ _ _ _ _ sc _ _ _=>sc
 | _=>nsc
abbrev CX0:CXT:=fun _ _ _ _ _ _=>False
abbrev E0:XK:=fun _ _ _=>False
theorem YB:wg CX0 X E0:=fun _ _ _ _ _ _ _ h=>h.elim
structure Fun (K:W.Frag) (x qual:Str) (st:Stmt) (f:Addr) (fd:FuncData):Prop where
 ex: ∃(oc:Value) (od:Option Addr) (kV doc pm:Value) (an:Option Addr) (cdv ct:Value) (osl:Array (Option Value)),
  fd=PySem.W.fnOf x qual (zS st) (zm st) (ze st) .none kV doc pm an cdv ct∧K.lookup f=some ⟨oc,od,.func fd,osl⟩∧PySem.W.codeIn K cdv qual=true
 kp:PySem.W.keepIn K (.ref f)=true
section
variable {P:Program} {w:World} {K:W.Frag} {mg:Str→Option Value} {base:Heap}
theorem Fun.ok{x qual:Str}{st:Stmt}{f:Addr}{fd:FuncData}{N ps:List Str}{k:Nat}{sp:Sp}(F:Fun K x qual st f fd)(S:FnScope N ps (ze st))(len: ∀vs H Q E,sp vs H Q E→vs.length=ps.length)
  (hbody: ∀(cdv:Value) (A:Around) (outer:List Env) (s:Shared) (H:Hp) (vs:List V) (Q:VK) (E:XK),Room k (A.deeper (envOfC qual (ze st) s.heap.objs.size f cdv))→sp vs H Q E→
   ∃t,PSs (cxOf CX0 P w K mg base N qual (ze st) f cdv A outer s H E).nox (zm st) t∧t {nx:=fun _ H'=>Q .non H',rt:=Q} (wm N vs) H):FnOk P w K mg base CX0 (k+1) f fd ps sp:=by
 obtain⟨oc,od,kV,doc,pm,an,cdv,ct,osl,rfl,lk,hcd⟩:=F.ex;refine X5 lk hcd S len fun A outer s H vs Q E hr hsp=>?_;obtain⟨t,h,q⟩:=hbody cdv A outer s H vs Q E hr hsp;exact⟨t,h.nox,q⟩
theorem Fun.binds{x qual:Str}{st:Stmt}{f:Addr}{fd:FuncData}{ps:List Str}(F:Fun K x qual st f fd)
  (h: ∀(kV doc pm:Value) (an:Option Addr) (cdv ct:Value) (us:List Value),us.length=ps.length→bindArgs (PySem.W.fnOf x qual (zS st) (zm st) (ze st) .none kV doc pm an cdv ct) ⟨us,[]⟩=pure (ps.zip us)):Binds K fd ps []:=by
 obtain⟨oc,od,kV,doc,pm,an,cdv,ct,osl,rfl,lk,hcd⟩:=F.ex;exact .all (h kV doc pm an cdv ct)
theorem Zv{x qual:Str}{st:Stmt}{f:Addr}{oc:Value}{od an:Option Addr}{osl:Array (Option Value)}{kV doc pm cdv ct:Value}(l:K.lookup f=some ⟨oc,od,.func (PySem.W.fnOf x qual (zS st) (zm st) (ze st) .none kV doc pm an cdv ct),osl⟩)
  (c:PySem.W.codeIn K cdv qual=true) (k:PySem.W.keepIn K (.ref f)=true):Fun K x qual st f (PySem.W.fnOf x qual (zS st) (zm st) (ze st) .none kV doc pm an cdv ct):=⟨⟨oc,od,kV,doc,pm,an,cdv,ct,osl,rfl,l,c⟩,k⟩
end
theorem zu(h:n≤1000):n<sizeLine:=Nat.lt_of_le_of_lt h (by decide)
section
variable {X:Cx}
theorem pv(i:Nat){x:Str}(hN:X.N[i]? =some x:=by rfl)(hv:Vis X.env.scope x:=by first | exact Or.inl rfl | exact Or.inr (Or.inl rfl) | exact Or.inr (Or.inr rfl))(hd:(x==("__debug__":Str))=false:=by decide)
  (hcd:(x==("__classdict__":Str))=false:=by decide):PE X (.Name x pos) (tVar i):=vz hN hv hd hcd
end
theorem iteF{A B:Prop}(h:B):if false=true then A else B:=by
 rw[if_neg Bool.false_ne_true];exact h
theorem iteT{A B:Prop}(h:A):if true=true then A else B:=by
 rw[if_pos rfl];exact h
theorem iteNS{c A B:Prop}[Decidable c](hc:c)(h:B):if (!decide c)=true then A else B:=by
 rw[decide_eq_true hc];exact iteF h
def Same (H H':Hp):Prop:= ∀b o,H b=some o→H' b=some o
theorem Same.refl(H:Hp):Same H H:=fun _ _ h=>h
theorem Same.trans(a:Same H H1)(b:Same H1 H2):Same H H2:=fun c o h=>b c o (a c o h)
theorem Same.free(e:Same H H')(h:H' l=Option.none):H l=Option.none:=by
 cases q:H l with
 | none=>rfl
 | some o=>
  rw[e l o q] at h;cases h
end L2
namespace L2
open PySem
def xE (s:Stmt) (i:Nat):Stmt:=match s with
 | .ClassDef _ _ _ body _ _ _ _ _ _ _=>body.getD i (.Pass ⟨0,0,0,0⟩)
 | _=> .Pass ⟨0,0,0,0⟩
end L2
namespace K16
open PySem L2
def top (i:Nat):Stmt:=PySem.Challenge.pw_dropsums_k16_falls_or_a_round.main.body.getD i (.Pass ⟨0,0,0,0⟩)
def dEo (P:Params) (x:Str) (t:Nat) (v:Value):DictEntry:=⟨PyData.keyHash P x,.str x t,v⟩
def cO (n:Str) (t:Nat) (q:Str) (t1 t2:Nat) (l a f:Int) (r s x y z:Value) (k:Int) (t3:Nat):Obj:=
 ⟨.type "code",none,.fields #[.str n t,.str q t1,.str "/claim/cut.py" t2,.int l 0,.int a 0,.int 0 0,.int 0 0,.int f 0,r,.bool true,.int 181 0,s,.none,x,y,z,.int k 0,.int l 0,.str "/claim/cut.py" t3],#[]⟩
def fO (n q:Str) (s:Stmt) (m:Str) (t c:Nat):Obj:=⟨.type "function",none,.func (PySem.W.fnOf n q (zS s) (zm s) (ze s) .none .none .none (.str m t) none (.ref c) .none),#[]⟩
def KK:Params→W.Frag:=fun P=>
 (nat_lit 3,⟨(.type "dict"),none,(.dict #[dEo P "__name__" 165 (.str "law_dropsums_k16_falls_or_a_round" 335),dEo P "__doc__" 166 .none,dEo P "__package__" 167 .none,dEo P "__loader__" 168 (.builtin "__main__.__loader__#opaque"),dEo P "__spec__" 169 .none,dEo P "__annotations__" 170 (.ref 6),dEo P "__builtins__" 171 (.ref 4),dEo P "__file__" 173 (.str "/claim/cut.py" 172),dEo P "__cached__" 174 .none,dEo P "common_divisor" 199 (.ref 21),dEo P "without_divisor" 205 (.ref 26),dEo P "SORTS" 207 (.int 0 206),dEo P "RULES" 209 (.int 1 208),dEo P "TAKES" 211 (.int 0 210),dEo P "GIVES" 213 (.int 1 212),dEo P "QUICK_TURNS" 217 (.int 200 216),dEo P "Tableau" 301 (.ref 85),dEo P "weighed" 314 (.ref 96),dEo P "falls" 322 (.ref 101),dEo P "sorts_rows" 328 (.ref 106),dEo P "rules_rows" 334 (.ref 111),dEo P "_law_feed" 346 (.ref 118),dEo P "_law_draw" 356 (.ref 125),dEo P "_law_names" 362 (.ref 130),dEo P "_law_rule" 368 (.ref 135),dEo P "_law_pot" 374 (.ref 140),dEo P "_law_kept_pot" 380 (.ref 145),dEo P "_law_changes" 386 (.ref 150),dEo P "_law_dot" 392 (.ref 155),dEo P "_law_lowered" 398 (.ref 160),dEo P "_law_circled" 413 (.ref 167),dEo P "_law_is_round" 419 (.ref 172),dEo P "_law_kind" 425 (.ref 177),dEo P "law" 431 (.ref 182)] 34),#[]⟩)::
 (nat_lit 20,cO "common_divisor" 189 "common_divisor" 190 191 2 1 3 (.ref 15) (.ref 16) (.ref 17) (.ref 18) (.ref 19) 197 198)::
 (nat_lit 21,fO "common_divisor" "common_divisor" (top 1) "dropsums.wholes" 187 20)::
 (nat_lit 25,cO "without_divisor" 200 "without_divisor" 201 202 11 1 3 (.ref 22) (.ref 23) .none .none (.ref 24) 203 204)::
 (nat_lit 26,fO "without_divisor" "without_divisor" (top 2) "dropsums.wholes" 187 25)::
 (nat_lit 37,cO "__init__" 230 "Tableau.__init__" 231 232 22 3 3 (.ref 34) (.ref 35) .none .none (.ref 36) 233 234)::
 (nat_lit 38,fO "__init__" "Tableau.__init__" (xE (top 9) 0) "dropsums.tableau" 214 37)::
 (nat_lit 42,cO "low_row" 236 "Tableau.low_row" 237 238 30 1 3 (.ref 39) (.ref 40) .none .none (.ref 41) 239 240)::
 (nat_lit 43,fO "low_row" "Tableau.low_row" (xE (top 9) 1) "dropsums.tableau" 214 42)::
 (nat_lit 49,cO "is_low" 242 "Tableau.is_low" 243 244 36 2 3 (.ref 44) (.ref 45) (.ref 46) (.ref 47) (.ref 48) 247 248)::
 (nat_lit 50,fO "is_low" "Tableau.is_low" (xE (top 9) 2) "dropsums.tableau" 214 49)::
 (nat_lit 54,cO "column_for" 250 "Tableau.column_for" 251 252 39 2 3 (.ref 51) (.ref 52) .none .none (.ref 53) 253 254)::
 (nat_lit 55,fO "column_for" "Tableau.column_for" (xE (top 9) 3) "dropsums.tableau" 214 54)::
 (nat_lit 61,cO "is_sought" 256 "Tableau.is_sought" 257 258 48 2 3 (.ref 56) (.ref 57) (.ref 58) (.ref 59) (.ref 60) 261 262)::
 (nat_lit 62,fO "is_sought" "Tableau.is_sought" (xE (top 9) 4) "dropsums.tableau" 214 61)::
 (nat_lit 66,cO "turn" 264 "Tableau.turn" 265 266 51 3 3 (.ref 63) (.ref 64) .none .none (.ref 65) 267 268)::
 (nat_lit 67,fO "turn" "Tableau.turn" (xE (top 9) 5) "dropsums.tableau" 214 66)::
 (nat_lit 71,cO "turned" 270 "Tableau.turned" 271 272 64 5 3 (.ref 68) (.ref 69) .none .none (.ref 70) 273 274)::
 (nat_lit 72,fO "turned" "Tableau.turned" (xE (top 9) 6) "dropsums.tableau" 214 71)::
 (nat_lit 76,cO "met" 276 "Tableau.met" 277 278 71 1 3 (.ref 73) (.ref 74) .none .none (.ref 75) 279 280)::
 (nat_lit 77,fO "met" "Tableau.met" (xE (top 9) 7) "dropsums.tableau" 214 76)::
 (nat_lit 81,cO "borne" 282 "Tableau.borne" 283 284 79 2 3 (.ref 78) (.ref 79) .none .none (.ref 80) 285 286)::
 (nat_lit 82,fO "borne" "Tableau.borne" (xE (top 9) 8) "dropsums.tableau" 214 81)::
 (nat_lit 84,⟨(.type "dict"),none,(.dict #[dEo P "__module__" 225 (.str "dropsums.tableau" 214),dEo P "__firstlineno__" 229 (.int 20 228),dEo P "__init__" 235 (.ref 38),dEo P "low_row" 241 (.ref 43),dEo P "is_low" 249 (.ref 50),dEo P "column_for" 255 (.ref 55),dEo P "is_sought" 263 (.ref 62),dEo P "turn" 269 (.ref 67),dEo P "turned" 275 (.ref 72),dEo P "met" 281 (.ref 77),dEo P "borne" 287 (.ref 82),dEo P "__static_attributes__" 294 (.ref 83),dEo P "__dict__" 296 (.ref 86),dEo P "__weakref__" 298 (.ref 87),dEo P "__doc__" 299 .none] 4),#[]⟩)::
 (nat_lit 85,⟨(.type "type"),none,(.cls ⟨"Tableau",[(.type "object")],[(.ref 85),(.type "object")],84,"Tableau",true,[],[],false,none,false⟩),#[none,none,(some (.str "Tableau" 218)),(some (.str "Tableau" 226)),(some (.builtin "object.__new__")),(some (.bool true))]⟩)::
 (nat_lit 95,cO "weighed" 304 "weighed" 305 306 87 2 3 (.ref 90) (.ref 91) (.ref 92) (.ref 93) (.ref 94) 312 313)::
 (nat_lit 96,fO "weighed" "weighed" (top 11) "dropsums.weighing" 302 95)::
 (nat_lit 100,cO "falls" 317 "falls" 318 319 98 1 3 (.ref 97) (.ref 98) .none .none (.ref 99) 320 321)::
 (nat_lit 101,fO "falls" "falls" (top 13) "dropsums.falling" 315 100)::
 (nat_lit 105,cO "sorts_rows" 323 "sorts_rows" 324 325 108 1 3 (.ref 102) (.ref 103) .none .none (.ref 104) 326 327)::
 (nat_lit 106,fO "sorts_rows" "sorts_rows" (top 14) "dropsums.falling" 315 105)::
 (nat_lit 110,cO "rules_rows" 329 "rules_rows" 330 331 110 1 3 (.ref 107) (.ref 108) .none .none (.ref 109) 332 333)::
 (nat_lit 111,fO "rules_rows" "rules_rows" (top 15) "dropsums.falling" 315 110)::
 (nat_lit 117,cO "_law_feed" 337 "_law_feed" 338 339 113 2 3 (.ref 112) (.ref 113) (.ref 114) (.ref 115) (.ref 116) 344 345)::
 (nat_lit 118,fO "_law_feed" "_law_feed" (top 17) "law_dropsums_k16_falls_or_a_round" 335 117)::
 (nat_lit 124,cO "_law_draw" 347 "_law_draw" 348 349 119 2 3 (.ref 119) (.ref 120) (.ref 121) (.ref 122) (.ref 123) 354 355)::
 (nat_lit 125,fO "_law_draw" "_law_draw" (top 18) "law_dropsums_k16_falls_or_a_round" 335 124)::
 (nat_lit 129,cO "_law_names" 357 "_law_names" 358 359 128 2 3 (.ref 126) (.ref 127) .none .none (.ref 128) 360 361)::
 (nat_lit 130,fO "_law_names" "_law_names" (top 19) "law_dropsums_k16_falls_or_a_round" 335 129)::
 (nat_lit 134,cO "_law_rule" 363 "_law_rule" 364 365 133 2 3 (.ref 131) (.ref 132) .none .none (.ref 133) 366 367)::
 (nat_lit 135,fO "_law_rule" "_law_rule" (top 20) "law_dropsums_k16_falls_or_a_round" 335 134)::
 (nat_lit 139,cO "_law_pot" 369 "_law_pot" 370 371 151 1 3 (.ref 136) (.ref 137) .none .none (.ref 138) 372 373)::
 (nat_lit 140,fO "_law_pot" "_law_pot" (top 21) "law_dropsums_k16_falls_or_a_round" 335 139)::
 (nat_lit 144,cO "_law_kept_pot" 375 "_law_kept_pot" 376 377 161 1 3 (.ref 141) (.ref 142) .none .none (.ref 143) 378 379)::
 (nat_lit 145,fO "_law_kept_pot" "_law_kept_pot" (top 22) "law_dropsums_k16_falls_or_a_round" 335 144)::
 (nat_lit 149,cO "_law_changes" 381 "_law_changes" 382 383 182 1 3 (.ref 146) (.ref 147) .none .none (.ref 148) 384 385)::
 (nat_lit 150,fO "_law_changes" "_law_changes" (top 23) "law_dropsums_k16_falls_or_a_round" 335 149)::
 (nat_lit 154,cO "_law_dot" 387 "_law_dot" 388 389 184 2 3 (.ref 151) (.ref 152) .none .none (.ref 153) 390 391)::
 (nat_lit 155,fO "_law_dot" "_law_dot" (top 24) "law_dropsums_k16_falls_or_a_round" 335 154)::
 (nat_lit 159,cO "_law_lowered" 393 "_law_lowered" 394 395 186 2 3 (.ref 156) (.ref 157) .none .none (.ref 158) 396 397)::
 (nat_lit 160,fO "_law_lowered" "_law_lowered" (top 25) "law_dropsums_k16_falls_or_a_round" 335 159)::
 (nat_lit 166,cO "_law_circled" 399 "_law_circled" 400 401 190 2 3 (.ref 161) (.ref 162) (.ref 163) (.ref 164) (.ref 165) 411 412)::
 (nat_lit 167,fO "_law_circled" "_law_circled" (top 26) "law_dropsums_k16_falls_or_a_round" 335 166)::
 (nat_lit 171,cO "_law_is_round" 414 "_law_is_round" 415 416 205 2 3 (.ref 168) (.ref 169) .none .none (.ref 170) 417 418)::
 (nat_lit 172,fO "_law_is_round" "_law_is_round" (top 27) "law_dropsums_k16_falls_or_a_round" 335 171)::
 (nat_lit 176,cO "_law_kind" 420 "_law_kind" 421 422 213 1 3 (.ref 173) (.ref 174) .none .none (.ref 175) 423 424)::
 (nat_lit 177,fO "_law_kind" "_law_kind" (top 28) "law_dropsums_k16_falls_or_a_round" 335 176)::
 (nat_lit 181,cO "law" 426 "law" 427 428 225 1 3 (.ref 178) (.ref 179) .none .none (.ref 180) 429 430)::
 (nat_lit 182,fO "law" "law" (top 29) "law_dropsums_k16_falls_or_a_round" 335 181)::[]
def KB:W.Frag:=(nat_lit 40,PySem.W.tabObj #[])::(nat_lit 52,PySem.W.tabObj #[])::[]
def KT:Params→W.Frag:=fun P=>KK P++KB
def KA:List Addr:=3::20::21::25::26::37::38::42::43::49::50::54::55::61::62::66::67::71::72::76::77::81::82::84::85::95::96::100::101::105::106::110::111::117::118::124::125::129::130::134::135::139::140::144::145::149::150::154::155::159::160::166::167::171::172::176::177::181::182::40::52::[]
theorem ke: ∀P,KA=(KT P).map (·.1):=fun _=>by kernel_rfl
def VW:Program:={PySem.Challenge.pw_dropsums_k16_falls_or_a_round with main:={PySem.Challenge.pw_dropsums_k16_falls_or_a_round.main with body:=([1,2,3,4,5,6,8,9,11,13,14,15,17,18,19,20,21,22,23,24,25,26,27,28,29]:List Nat).map top}}
abbrev RR:=PySem.Challenge.rw_dropsums_k16_falls_or_a_round.row
theorem said0:PySem.Challenge.rw_dropsums_k16_falls_or_a_round.wellSaid=true:=by decide+kernel
theorem left0:PySem.W.LeftO RR.prog VW [] (fun s=>PySem.W.xlAt VW [] s&&PySem.W.recOk (PySem.W.RowW.records RR.toRowW) s) (PySem.W.Hook.obs (PySem.W.kHook KT KA ke)) (PySem.W.Hook.val (PySem.W.kHook KT KA ke)) 2278:=fun w=>by kernel_rfl
end K16
namespace L2
open PySem PySem.Spec PyProof.Rows
section
variable {P:Program} {w:World} {A:Around} {R:Result→Shared→Prop} {s:Shared}
theorem Zb(J:Nat→Shared→Prop)
  (turn: ∀n s,J n s→wpAny (model P w) A (pyNext it) (fun r c₁=>match r with
   | none=>R (.ok .next) c₁
   | some v=>wpAny (model P w) A (letOwnedTupleGo tgt it v) (fun _ d₁=>wpAny (model P w) A (assign tgt env v) (fun _ c₂=>
     wpAny (model P w) A (forIn ifs true fun c r=>if r=true then do let ok←isTrue c env (eval c env); pure (ForInStep.yield ok) else pure (ForInStep.yield r)) (fun ok c₃=>
      if ok=true then wpAny (model P w) A (eval elt env) (fun x c₄=>
       wpAny (model P w) A (call (.builtin "list.append") [acc,x]) (fun _ c₅=> ∃m,m<n∧J m c₅) (notedBy (model P w) A env fun e s'=>R (.error e) s') c₄) (notedBy (model P w) A env fun e s'=>R (.error e) s') c₃
      else∃m,m<n∧J m c₃) (notedBy (model P w) A env fun e s'=>R (.error e) s') c₂) (notedBy (model P w) A env fun e s'=>R (.error e) s') d₁) (notedBy (model P w) A env fun e s'=>R (.error e) s') c₁) (notedBy (model P w) A env fun e s'=>R (.error e) s') s)
  (n:Nat) (hn:J n s):
  codeAny (model P w) A (.compLoop (.ListComp elt [⟨tgt,iter,ifs,0⟩] scope pos) 0 it acc env) R s:=by
 refine codeAny_loop rfl J (fun n s hJ=>?_) n hn;show wpAny _ A ((compTurn (.ListComp elt [⟨tgt,iter,ifs,0⟩] scope pos) 0 it acc env).onRaise (fun x=>do noteFrame x env; theTreesLotGoes x)) _ _ s;refine wpAny_noted ?_;rw[compTurn_list];refine wpAny_bind (wpAny_standAt (wpAny_bind (wpAny_mono (turn n s hJ) (fun r c₁ e₁=>?_) fun _ _ z=>z)));cases r with
 | none=>exact wpAny_pure e₁
 | some v=>
  refine wpAny_bind (wpAny_mono e₁ (fun _ d₁ f₁=>?_) fun _ _ z=>z);refine wpAny_bind (wpAny_mono f₁ (fun _ c₂ e₂=>wpAny_bind (wpAny_mono e₂ (fun ok c₃ e₃=>?_) fun _ _ z=>z)) fun _ _ z=>z);cases ok with
  | false=>exact wpAny_pure ⟨rfl,e₃⟩
  | true=>
   exact wpAny_bind (wpAny_bind (wpAny_mono e₃ (fun x c₄ e₄=>wpAny_bind (wpAny_mono e₄ (fun _ c₅ e₅=>wpAny_pure (wpAny_pure ⟨rfl,e₅⟩)) fun _ _ z=>z)) fun _ _ z=>z))
end
def cloF (env:Env):List (Str×NameKind)→List (Str×Addr)→List (Str×Addr)
 | [],acc=>acc
 | (n,k)::r,acc=>if k= .free then cloF env r ((n,(env.cells.lookup n).getD 0)::acc) else cloF env r acc
theorem vL{env:Env}: ∀(names:List (Str×NameKind)) (acc:List (Str×Addr)),(∀x∈names,x.2= .free→ ∃c,env.cells.lookup x.1=some c)→
  (forIn names acc (fun(x:Str×NameKind) (cs:List (Str×Addr))=>(if (x.2==NameKind.free)=true then do let a←cellOf env x.1; pure (ForInStep.yield ((x.1,a)::cs)) else pure (ForInStep.yield cs):Sem (ForInStep (List (Str×Addr))))):Sem (List (Str×Addr)))=pure (cloF env names acc)
 | [],acc,_=>by simp[cloF]
 | (n,k)::r,acc,h=>by
  have ih:=fun acc=>vL (env:=env) r acc fun x hx=>h x (List.mem_cons_of_mem _ hx);rw[List.forIn_cons];by_cases hk:k= .free
  ·subst hk;obtain⟨c,hc⟩:=h (n,.free) List.mem_cons_self rfl;have hc':env.cells.lookup n=some c:=hc;have e:cellOf env n=pure c:=by unfold cellOf; rw[hc']
   simp only[cloF,if_true,hc',Option.getD_some,beq_self_eq_true,e,pure_bind];exact ih _
  ·have hb:(k==NameKind.free)=false:=by simpa using hk
   simp only[cloF,hk,if_false,hb,Bool.false_eq_true,pure_bind];exact ih _
theorem wf{env:Env}{scope:Scope}(h: ∀x∈scope.names,x.2= .free→ ∃c,env.cells.lookup x.1=some c):closureFor scope env=pure (cloF env scope.names []):=by
 rw[←vL scope.names [] h];unfold closureFor;simp only[bind_pure]
theorem ye: ∀(names:List (Str×NameKind)) (acc:List (Str×Addr)),(cloF env names acc).lookup y=if (y,NameKind.free)∈names then some ((env.cells.lookup y).getD 0) else acc.lookup y
 | [],acc=>by simp[cloF]
 | (n,k)::r,acc=>by
  unfold cloF;by_cases hk:k= .free
  ·subst hk;rw[if_pos rfl,ye r];by_cases hy:y=n
   ·subst hy;simp[List.lookup_cons]
   ·have hb:(y==n)=false:=by simpa using hy
    simp[List.lookup_cons,hb,hy]
  ·rw[if_neg hk,ye r];have: ¬((y,NameKind.free)=(n,k)):=by
    intro e;exact hk (Prod.mk.inj e).2.symm
   simp[this]
structure CScope (o sc:Scope) (TN F:List Str):Prop where
 okind:o.kind= .function
 kind:sc.kind= .function
 nocell: ∀y∈sc.names,y.2≠.cell
 names: ∀y∈sc.names,y.2= .local→sc.names.lookup y.1=some .local
 fr: ∀y∈sc.names,y.2= .free→o.names.lookup y.1=some .cell∧sc.names.lookup y.1=some .free
 ff: ∀y∈F,(y,NameKind.free)∈sc.names
theorem xB{env:Env}{y:Str}(hk:env.scope.kind= .function)(hc:env.kindOf y=some .cell): ∀{names:List (Str×NameKind)},names.lookup y=some .free→
  (names.map fun(n,k)=>if (k==NameKind.free&&env.scope.kind== .function&&env.kindOf n==some .cell) then (n,NameKind.cell) else (n,k)).lookup y=some .cell
 | [],h=>by simp at h
 | (n,k)::r,h=>by
  have ih:=@xB env y hk hc r;show List.lookup y ((if (k==NameKind.free&&env.scope.kind== .function&&env.kindOf n==some .cell)=true then (n,NameKind.cell) else (n,k))::_)=_;cases hx:y==n with
  | true=>
   rw[List.lookup_cons,hx] at h;cases h
   have e:y=n:=by simpa using hx
   subst e;rw[if_pos (by simp[hk,hc])];simp[List.lookup_cons]
  | false=>
   rw[List.lookup_cons,hx] at h;by_cases hc':(k==NameKind.free&&env.scope.kind== .function&&env.kindOf n==some .cell)=true
   ·rw[if_pos hc']; simp only[List.lookup_cons,hx]; exact ih h
   ·rw[if_neg hc']; simp only[List.lookup_cons,hx]; exact ih h
theorem ww{env:Env}{y:Str}: ∀{names:List (Str×NameKind)},(∀z∈names,z.2≠.cell)→
    ((names.map fun(n,k)=>if (k==NameKind.free&&env.scope.kind== .function&&env.kindOf n==some .cell) then (n,NameKind.cell) else (n,k)).lookup y=some .cell∨
     (names.map fun(n,k)=>if (k==NameKind.free&&env.scope.kind== .function&&env.kindOf n==some .cell) then (n,NameKind.cell) else (n,k)).lookup y=some .free)→(y,NameKind.free)∈names
  | [],_,h=>by simp at h
  | (n,k)::r,hn,h=>by
    have ih:=@ww env y r fun z hz=>hn z (List.mem_cons_of_mem _ hz);have h':List.lookup y ((if (k==NameKind.free&&env.scope.kind== .function&&env.kindOf n==some .cell)=true then (n,NameKind.cell) else (n,k))::(r.map fun(n,k)=>if (k==NameKind.free&&env.scope.kind== .function&&env.kindOf n==some .cell) then (n,NameKind.cell) else (n,k)))=some .cell∨
      List.lookup y ((if (k==NameKind.free&&env.scope.kind== .function&&env.kindOf n==some .cell)=true then (n,NameKind.cell) else (n,k))::(r.map fun(n,k)=>if (k==NameKind.free&&env.scope.kind== .function&&env.kindOf n==some .cell) then (n,NameKind.cell) else (n,k)))=some .free:=h
    clear h;cases hx:y==n with
    | true=>
      have e:y=n:=by simpa using hx
      subst e;by_cases hc':(k==NameKind.free&&env.scope.kind== .function&&env.kindOf y==some .cell)=true
      · have hk:k= .free:=by
          have:=(Bool.and_eq_true _ _▸(Bool.and_eq_true _ _▸hc').1).1;simpa using this
        subst hk;exact List.mem_cons_self
      · rw[if_neg hc'] at h'
        simp only[List.lookup_cons,beq_self_eq_true] at h';rcases h' with h' | h'
        · cases h'
          exact absurd rfl (hn _ List.mem_cons_self)
        · cases h'
          exact List.mem_cons_self
    | false=>
      by_cases hc':(k==NameKind.free&&env.scope.kind== .function&&env.kindOf n==some .cell)=true
      · rw[if_pos hc'] at h'; simp only[List.lookup_cons,hx] at h'; exact List.mem_cons_of_mem _ (ih h')
      · rw[if_neg hc'] at h'; simp only[List.lookup_cons,hx] at h'; exact List.mem_cons_of_mem _ (ih h')
def cxC (X:Cx) (N:List Str) (sc:Scope) (cl:List (Str×Addr)) (C:Addr) (fp:List Addr) (s₃:Shared) (H₃:Hp) (xe:Value→Shared→Prop):Cx:=
 {X with N:=N,s₀:=s₃,H₀:=H₃,env:=compEnvC sc cl C X.env,outer:=X.stack,ex:=fp,fn:=fun _=>false,pn:=[],xe:=xe}
def sub (ix:List Nat) (σ:St):St:=ix.map fun i=>(σ[i]?).join
theorem inv_comp{X:Cx}{ix:List Nat}{h4:Heap}{m:Str→Option Value}{xe:Value→Shared→Prop}
  (S:CScope X.env.scope sc TN F) (hix:ix.map (fun i=>X.N[i]?)=F.map some) (I:Inv X pins σ H s) (hf: ∀b∈fp,FpOk X pins H b) (ho: ∀b∈fp,∃o,s.heap.get? b=some o)
  (hk: ∀b o,s.heap.get? b=some o→h4.get? b=some o) (hn:h4.Ns s.heap.objs.size m):
  Inv (cxC X (TN++F) sc (cloF X.env sc.names []) s.heap.objs.size fp s H xe) [] (List.replicate TN.length none++sub ix σ) H {s with heap:=h4,toks:=tk}:=by
 have cl: ∀x c,(cloF X.env sc.names []).lookup x=some c→X.env.cells.lookup x=some c:=fun x c e=>by
  rw[ye] at e;by_cases hx:(x,NameKind.free)∈sc.names
  ·rw[if_pos hx] at e;obtain⟨c',hc'⟩:=I.ok.has x (.inl (S.fr _ hx rfl).1);rw[hc'] at e ⊢;exact e
  ·rw[if_neg hx] at e;cases e
 have cl': ∀x,(x,NameKind.free)∈sc.names→(cloF X.env sc.names []).lookup x=X.env.cells.lookup x:=fun x hx=>by
  rw[ye,if_pos hx];obtain⟨c',hc'⟩:=I.ok.has x (.inl (S.fr _ hx rfl).1);rw[hc'];rfl
 have hlen:ix.length=F.length:=by
  have:=congrArg List.length hix;simpa using this
 refine⟨⟨I.ok.mod,S.kind,I.ok.glob,I.ok.blt,Nat.le_refl _,fun x y c h1 h2=>I.ok.inj x y c (cl x c h1) (cl y c h2),fun x hx=>?_,fun x c z=>(nomatch z),I.ok.hd,I.ok.frames,.inl rfl,fun b hb=>⟨?_,fun x c e=>(hf b hb).2.2.2.2.1 x c (cl x c e)⟩,
  I.bs,Nat.le_trans I.ok.bsz I.sz,fun b o e hb=>?_,fun b hb hfs=>?_,I.stack,I.stkFree⟩,rfl,I.bare,Un.kept hk,⟨m,hn,fun i x v h1 h2 h3=>?_⟩,fun x c e=>?_,I.hok.fresh (Nat.le_refl _),fun x c e=>I.freeC x c (cl x c e),fun p hp=>absurd (show p∈([]:List (Addr×Obj)) from hp) (by simp),I.hok.kept hk,?_⟩
 ·have hx':(x,NameKind.free)∈sc.names:=ww (env:=X.env) S.nocell hx;obtain⟨c,hc⟩:=I.ok.has x (.inl (S.fr _ hx' rfl).1);exact⟨c,(cl' x hx').trans hc⟩
 ·obtain⟨o,e⟩:=ho b hb;exact Nat.ne_of_lt (Heap.lt_size e)
 ·rcases(hf b hb).2.2.2.1 with z | z
  ·exact I.ok.noex b o e z
  ·exact absurd (Nat.lt_of_lt_of_le (Heap.lt_size e) (Nat.le_trans I.ok.bsz z)) (Nat.lt_irrefl _)
 ·rcases List.mem_cons.mp (I.stkSub b hfs) with z | z
  ·exact(hf b hb).2.1 z
  ·exact(hf b hb).2.2.1 z
 ·have hi:TN.length≤i:=by
   apply Nat.le_of_not_lt
   intro hlt;rw[List.getElem?_append_left (by simpa using hlt),List.getElem?_replicate] at h2;split at h2<;>cases h2
  rw[List.getElem?_append_right (by simpa using hi),List.length_replicate] at h2;have h1':F[i-TN.length]? =some x:=by
   have:(TN++F)[i]? =some x:=h1;rw[List.getElem?_append_right hi] at this;exact this
  have e3:=congrArg (fun l=>l[i-TN.length]?) hix;simp only[List.getElem?_map,h1',Option.map_some] at e3;unfold sub at h2;rw[List.getElem?_map] at h2;cases ej:ix[i-TN.length]? with
  | none=>rw[ej] at h2; cases h2
  | some k=>
   rw[ej] at h2 e3;have h2':(σ[k]?).join=some v:=Option.some.inj h2;have e3':X.N[k]? =some x:=Option.some.inj e3;have hσ:σ[k]? =some (some v):=by
    cases e:σ[k]? with
    | none=>rw[e] at h2'; cases h2'
    | some q=>
     rw[e] at h2';have:q=some v:=h2';rw[this]
   have hfr:=S.ff x (List.mem_of_getElem? h1');have hcell:=(S.fr _ hfr rfl).1;obtain⟨m0,hn0,hl0⟩:=I.loc;obtain⟨u,r,l⟩:=hl0 k x v e3' hσ (.inr (.inl hcell));refine⟨u,r,?_⟩;rcases l with ⟨l1,_⟩ | ⟨_,c,hc,o,ho',hd⟩
   ·have l1':X.env.scope.names.lookup x=some .local:=l1;rw[hcell] at l1';cases l1'
   ·exact .inr ⟨.inl (xB (env:=X.env) S.okind hcell (S.fr _ hfr rfl).2),c,(cl' x hfr).trans hc,o,hk c o ho',hd⟩
 ·obtain⟨v,o,ho',hd⟩:=I.cell x c (cl x c e);exact⟨v,o,hk c o ho',hd⟩
 ·show _=(TN++F).length;rw[List.length_append,List.length_append,List.length_replicate];unfold sub;rw[List.length_map,hlen]
def PTs (X:Cx) (ifs:List Expr) (tc:TT):Prop:=
 ∀(pins:List (Addr×Obj)) (s:Shared) (σ:St) (H:Hp) (Q:Bool→Hp→Prop),Inv X pins σ H s→tc σ H Q→
  wpAny (model X.prog X.w) X.A (forIn ifs true fun c r=>if r=true then do let ok←isTrue c X.env (eval c X.env); pure (ForInStep.yield ok) else pure (ForInStep.yield r)) (TP X pins σ Q) X.xe s
def tAll:TT:=fun _ H Q=>Q true H
theorem zB:PTs X [] tAll:=fun _ _ _ H _ I h=>wpAny_tests_nil ⟨H,I,h⟩
theorem xC(hc:PT X c tc):PTs X [c] tc:=fun pins s σ H Q I h=>wpAny_tests_one (hc pins s σ H Q I h)
def CGo (J:It) (D:Addr) (g:TG) (tc:TT) (te:TE) (Q:VK) (σ:St) (H:Hp):Prop:=
 ∃W:Nat→Nat→St→List V→Hp→Prop,(∃m,W 0 m σ [] (upd H D (.lst [])))∧ ∀i m τ ys H,W i m τ ys H→H D=some (.lst ys)∧
  ((J.stop i H∧Q (.ref D) H)∨(J.go i H∧ ∀v H',J.yld i H v H'→g v τ H' fun τ2 H2=>tc τ2 H2 fun b H3=>
   if b=true then te τ2 H3 fun y H4=>H4 D=some (.lst ys)∧ys.length<sizeLine∧ ∃m',m'<m∧W (i+1) m' τ2 (ys++[y]) (upd H4 D (.lst (ys++[y])))
   else∃m',m'<m∧W (i+1) m' τ2 ys H3))
def wY (wi:TI) (n:Nat) (ix:List Nat) (g:TG) (tc:TT) (te:TE):TE:=fun σ H Q=>wi σ H fun J H1=> ∀D,H1 D=none→CGo J D g tc te Q (List.replicate n none++sub ix σ) H1
theorem Zg{Q:Value→Shared→Prop}{E:Value→Shared→Prop}(I:Inv X pins σ H s)(hD:H D=some (.lst ys))(hz:ys.length<sizeLine)(r:RelV y u)
  (h: ∀s',Inv X pins σ (upd H D (.lst (ys++[y]))) s'→Q .none s'):wpAny (model X.prog X.w) X.A (call (.builtin "list.append") [.ref D,u]) Q E s:=by
 obtain⟨z,its,n,rr,hl,e⟩:=I.lstM hD;refine call_meets F.slot_list_append ⟨_,e,rfl⟩ F.entry_list_append (F.args_list_append_2 _ _) (PySem.list_append D its.toArray n u (by rw[List.size_toArray]; omega)) ⟨e,?_⟩;refine h _ (I.lset (its':=its++[u]) hD e (by simp) (rr.append (.cons r .nil)) ?_);rw[List.length_append,List.length_singleton];omega
theorem vJ{X:Cx}{ix:List Nat}{tn:Nat→Heap→Prop}
  {RR:Value→Addr→Result→Shared→Prop} {E:Value→Shared→Prop}
  (S:CScope X.env.scope sc TN F) (hix:ix.map (fun i=>X.N[i]?)=F.map some) (hc:X.calm=true) (I:Inv X pins σ H s) (T:Turn X.prog X.w X.K tg J fp it tn) (st:tn 0 s.heap) (hf: ∀b∈fp,FpOk X pins H b)
  (hg: ∀cl C fp s3 H3 xe,PG (cxC X (TN++F) sc cl C fp s3 H3 xe) tg g) (ht: ∀cl C fp s3 H3 xe,PTs (cxC X (TN++F) sc cl C fp s3 H3 xe) ifs tc) (he: ∀cl C fp s3 H3 xe,PE (cxC X (TN++F) sc cl C fp s3 H3 xe) elt te)
  (hW: ∀D,H D=none→CGo J D g tc te Q (List.replicate TN.length none++sub ix σ) H)
  (fin: ∀D C H' s',Inv X pins σ H' s'→(∃m,s'.heap.Ns C m)→H' C=none→C≠X.env.locals→X.s₀.heap.objs.size≤C→(∀x c,X.env.cells.lookup x=some c→c≠C)→(∀p∈X.pn++pins,p.1≠C)→Q (.ref D) H'→RR (.ref D) C (.ok .next) s'):
  wpAny (model X.prog X.w) X.A (newList []) (fun acc s₃=>wpAny (model X.prog X.w) X.A (newFunctionEnv sc X.env.globals (cloF X.env sc.names []) [] X.env.qual none .none (some X.env)) (fun cenv s₄=>
   codeAny (model X.prog X.w) X.A (.compStart (.ListComp elt [⟨tg,iter,ifs,0⟩] sc pos) 0 (.ref it) acc {cenv with scope:=relabel sc X.env}) (RR acc cenv.locals) s₄) E s₃) E s:=by
 have hfo: ∀b∈fp,∃o,s.heap.get? b=some o:=fun b hb=>let ⟨o,e,_⟩:=T.obj 0 _ st b hb; ⟨o,e⟩
 refine wpAny_newObj_type ?_;obtain⟨W,⟨m0,w0⟩,go⟩:=hW s.heap.objs.size I.fresh;have I3:Inv X pins σ (upd H s.heap.objs.size (.lst [])) {s with heap:=s.heap.push {cls:= .type "list",data:= .seq ([]:List Value).toArray}}:=I.lnew (its:=[]) (ys:=[]) (t':=s.toks) .nil (Nat.zero_le _);generalize hs3:({s with heap:=s.heap.push {cls:= .type "list",data:= .seq ([]:List Value).toArray}}:Shared)=s3 at I3;have hk3: ∀b o,s.heap.get? b=some o→s3.heap.get? b=some o:=fun b o e=>by
  rw[←hs3];exact Heap.get?_push_of_some _ e
 have hf3: ∀b∈fp,FpOk X pins (upd H s.heap.objs.size (.lst [])) b:=fun b hb=>by
  obtain⟨o,e⟩:=hfo b hb;exact⟨by rw[zh (Nat.ne_of_lt (Heap.lt_size e))]; exact(hf b hb).1,(hf b hb).2⟩
 have st3:tn 0 s3.heap:=T.keep 0 _ _ st fun b hb o e=>hk3 b o e;show wpAny _ _ _ _ _ s3;refine wpAny_newFunctionEnv S.nocell (by intro y hy; simp at hy) (fun h4 hn4 hsb=>?_) S.kind;have hk4: ∀b o,s3.heap.get? b=some o→h4.get? b=some o:=fun b o e=>(hsb.2 b (Nat.ne_of_lt (Heap.lt_size e))).trans (Heap.get?_push_of_some _ e);generalize hR:RR (.ref s.heap.objs.size) s3.heap.objs.size=R;have loop: ∀s4:Shared,s4={s3 with heap:=h4,toks:=s3.toks+([]:List (Str×Value)).length}→
   codeAny (model X.prog X.w) X.A (.compLoop (.ListComp elt [⟨tg,iter,ifs,0⟩] sc pos) 0 (.ref it) (.ref s.heap.objs.size) (compEnvC sc (cloF X.env sc.names []) s3.heap.objs.size X.env)) R s4:=by
  rintro s4 rfl
  let X':Cx:=cxC X (TN++F) sc (cloF X.env sc.names []) s3.heap.objs.size fp s3 (upd H s.heap.objs.size (.lst [])) (notedBy (model X.prog X.w) X.A (compEnvC sc (cloF X.env sc.names []) s3.heap.objs.size X.env) fun e s'=>R (.error e) s')
  have I4:Inv X' [] (List.replicate TN.length none++sub ix σ) (upd H s.heap.objs.size (.lst [])) {s3 with heap:=h4,toks:=s3.toks+([]:List (Str×Value)).length}:=
   inv_comp S hix I3 hf3 (fun b hb=>let ⟨o,e⟩:=hfo b hb; ⟨o,hk3 b o e⟩) hk4 hn4
  have fpx: ∀{H':Hp},(∀b∈fp,H' b=none)→ ∀b∈fp,FpOk X' [] H' b:=fun {H'} hn b hb=>by
   refine⟨hn b hb,(I4.ok.exf b hb).1,fun z=>I4.ok.exfs b hb z,.inl hb,fun x c e=>(I4.ok.exf b hb).2 x c e,fun p hp=>absurd (show p∈([]:List (Addr×Obj)) from hp) (by simp)⟩
  refine Zb (fun n s'=> ∃i τ ys H',Inv X' [] τ H' s'∧tn i s'.heap∧(∀b∈fp,H' b=none)∧W i n τ ys H') ?_ m0 ⟨0,_,[],_,I4,T.keep 0 _ _ st3 fun b hb o e=>hk4 b o e,fun b hb=>(hf3 b hb).1,w0⟩;rintro n s5 ⟨i,τ,ys,H5,I5,st5,fr5,w5⟩;obtain⟨hD,hgo⟩:=go i n τ ys H5 w5;rcases hgo with ⟨stop,q⟩ | ⟨hgo,step⟩
  ·refine thn (T.done X' rfl rfl rfl hc i [] s5 τ H5 X'.xe I5 (fpx fr5) st5 stop) fun r s6 ⟨hr,I6⟩=>?_;subst hr;show R (.ok .next) s6;rw[←hR];have J6:Inv X pins σ H5 s6:=I3.call' (ch:=fp) I6.os I6.base I6.hok I6.bare fun b hb=>⟨(hf3 b hb).2.2.2.1,(hf3 b hb).2.1,(hf3 b hb).2.2.2.2.1,(hf3 b hb).2.2.2.2.2⟩;refine fin s.heap.objs.size s3.heap.objs.size H5 s6 J6 (let ⟨m,hn,_⟩:=I6.loc; ⟨m,hn⟩) I6.free (Nat.ne_of_gt I3.lt) I3.sz (fun x c e z=>?_) (fun p hp z=>?_) q
   ·obtain⟨v,o,ho,_⟩:=I3.cell x c e;exact absurd (Heap.lt_size ho) (by rw[z]; exact Nat.lt_irrefl _)
   ·exact absurd (Heap.lt_size (I3.pin p hp).1) (by rw[z]; exact Nat.lt_irrefl _)
  ·refine thn (T.item X' rfl rfl rfl hc i [] s5 τ H5 X'.xe I5 (fpx fr5) st5 hgo) fun r s6 ⟨u,hr,h6⟩=>?_;subst hr;refine thn h6 fun _ s7 ⟨v,H7,I7,r7,y7,st7,fr7⟩=>?_;have I7':=I7.pinned (fpx fr7) (T.obj _ _ st7);refine thn (hg _ _ _ _ _ _ _ s7 τ H7 v u _ I7' r7 (step v H7 y7)) fun _ s8 ⟨τ8,H8,I8,q8⟩=>?_;refine thn (ht _ _ _ _ _ _ _ s8 τ8 H8 _ I8 q8) fun ok s9 ⟨H9,I9,q9⟩=>?_;have again: ∀{ys':List V} {H':Hp} {s':Shared},Inv X' ([]++wS fp s7.heap) τ8 H' s'→(∃m',m'<n∧W (i+1) m' τ8 ys' H')→ ∃m,m<n∧ ∃i τ ys H'',Inv X' [] τ H'' s'∧tn i s'.heap∧(∀b∈fp,H'' b=none)∧W i m τ ys H'':=fun {ys' H' s'} I' ⟨m',hm,w'⟩=>by
    refine⟨m',hm,i+1,τ8,ys',H',I'.unpinned,T.keep _ _ _ st7 fun b hb o e=>(I'.pin (b,o) (List.mem_append_right _ (List.mem_append_right _ (yD hb e)))).1,fun b hb=>?_,w'⟩;obtain⟨o,e,d⟩:=T.obj _ _ st7 b hb;exact(I'.pin (b,o) (List.mem_append_right _ (List.mem_append_right _ (yD hb e)))).2.1
   cases ok with
   | false=>
    exact again I9 q9
   | true=>
    refine thn (he _ _ _ _ _ _ _ s9 τ8 H9 _ I9 q9) fun x s10 ⟨y,H10,I10,r10,hD10,hz10,q10⟩=>?_;exact Zg (X:=X') I10 hD10 hz10 r10 fun s11 I11=>again I11 q10
 subst hR;exact codeAny_compStart_list (loop _ rfl) (T.self X.A 0 _ _ _ (T.keep 0 _ _ st3 fun b hb o e=>hk4 b o e) (loop _ rfl))
section
variable {X:Cx} {sc:Scope} {TN F:List Str} {ix:List Nat} {elt tg iter:Expr} {ifs:List Expr} {pos:Pos} {g:TG} {tc:TT} {te:TE} {wi:TI}
theorem vK(S:CScope X.env.scope sc TN F)(I:Inv X pins σ H s):closureFor sc X.env=pure (cloF X.env sc.names []):=
 wf fun x hx hk=>I.ok.has x.1 (.inl (S.fr x hx hk).1)
theorem zR(S:CScope X.env.scope sc TN F)(hix:ix.map (fun i=>X.N[i]?)=F.map some)(hc:X.calm=true)(hi:PI X tg iter wi)
  (hg: ∀cl C fp s3 H3 xe,PG (cxC X (TN++F) sc cl C fp s3 H3 xe) tg g) (ht: ∀cl C fp s3 H3 xe,PTs (cxC X (TN++F) sc cl C fp s3 H3 xe) ifs tc) (he: ∀cl C fp s3 H3 xe,PE (cxC X (TN++F) sc cl C fp s3 H3 xe) elt te)
  (hs: ∀x,foldedSetIterable iter X.env x=pure x:=by intro _; rfl):PE X (.ListComp elt [⟨tg,iter,ifs,0⟩] sc pos) (wY wi TN.length ix g tc te):=by
 intro pins s σ H Q I h;rw[eval_ListComp];refine wpAny_comprehension_free (use:=none) rfl hs (vK S I) S.kind S.names (thn (hi pins s σ H _ I h) fun v s1 h1=>thn h1 fun itv s2 h2=>?_);obtain⟨it,fp,tn,J,H2,e,I2,T,st2,f2,q2⟩:=h2;subst e;refine vJ (RR:=fun acc C=>compPost (model X.prog X.w) X.A X.xe none (EP X pins σ Q) acc C) S hix hc I2 T st2 f2 hg ht he q2 fun D C H' s' I' hn hC1 hC2 hC3 hC4 hC5 q=>?_;obtain⟨m,hn⟩:=hn;exact⟨m,hn,fun h' hs'=>⟨.ref D,H',I'.turned (t':=s'.toks) (fun b o hb e=>(hs'.2 b hb).trans e) hC1 hC2 (.inr hC3) hC4 hC5,rfl,q⟩⟩
theorem yj{spos:Pos}(hN:X.N.Nodup)(hiy:X.N[i]? =some y)(hy:X.env.scope.names.lookup y=some .local)(S:CScope X.env.scope sc TN F)(hix:ix.map (fun i=>X.N[i]?)=F.map some)(hc:X.calm=true)(hi:PI X tg iter wi)
  (hg: ∀cl C fp s3 H3 xe,PG (cxC X (TN++F) sc cl C fp s3 H3 xe) tg g) (ht: ∀cl C fp s3 H3 xe,PTs (cxC X (TN++F) sc cl C fp s3 H3 xe) ifs tc) (he: ∀cl C fp s3 H3 xe,PE (cxC X (TN++F) sc cl C fp s3 H3 xe) elt te)
  (hsw:swapsWith (.ListComp elt [⟨tg,iter,ifs,0⟩] sc pos) (some (.Name y py)) spos.line X.env=pure true:=by rfl)
  (hs: ∀x,foldedSetIterable iter X.env x=pure x:=by intro _; rfl):PS X (.Assign [.Name y py] (.ListComp elt [⟨tg,iter,ifs,0⟩] sc pos) spos) (tAsg (wY wi TN.length ix g tc te) (zI i)):=by
 intro pins s σ H D I h;rw[exec_Assign_Name_used _ _ _ _ hsw]; refine wpAny_bind (wpAny_standAt (wpAny_bind ?_));show wpAny _ X.A (do let _←comprehension (.ListComp elt [⟨tg,iter,ifs,0⟩] sc pos) sc X.env _ (newList []) false (eval iter X.env) (some (assign (.Name y py) X.env))) _ _ s;refine wpAny_bind (wpAny_mono (wpAny_comprehension_free (use:=some (assign (.Name y py) X.env)) (Q:=fun _ s'=>SP X pins D .next s') rfl hs (vK S I) S.kind S.names
  (thn (hi pins s σ H _ I h) fun v s1 h1=>thn h1 fun itv s2 h2=>?_)) (fun _ s' hq=>wpAny_pure (wpAny_pure hq)) fun _ _ e=>e)
 obtain⟨it,fp,tn,J,H2,e,I2,T,st2,f2,q2⟩:=h2;subst e;refine vJ (RR:=fun acc C=>compPost (model X.prog X.w) X.A X.xe (some (assign (.Name y py) X.env)) (fun _ s'=>SP X pins D .next s') acc C) S hix hc I2 T st2 f2 hg ht he q2 fun Dl C H' s' I' hn hC1 hC2 hC3 hC4 hC5 q=>?_;obtain⟨m,hn⟩:=hn;show wpAny _ X.A (assign (.Name y py) X.env (.ref Dl)) _ _ _;refine wpAny_assign_Name (vR I' hN hiy (.inl hy) (show RelV (.ref Dl) (.ref Dl) from rfl) (fun s'' I'' ⟨a,hsb,ha⟩=>?_) (.inr hy));have haC:C≠a:=by
  rcases ha with z | z
  ·rw[z]; exact hC2
  ·exact fun z'=>hC4 y a z z'.symm
 refine⟨m,hn.sameBut hsb haC,fun h' hs'=>?_⟩;exact⟨_,H',I''.turned (t':=s''.toks) (fun b o hb e=>(hs'.2 b hb).trans e) hC1 hC2 (.inr hC3) hC4 hC5,q⟩
end
def Yw (H:Hp) (p:Addr):Option (List V):=match H p with
 | some (.lst xs)=>some xs
 | some (.tup xs)=>some xs
 | _=>none
def dAt (H:Hp) (x y:V):Option V:=match x,y with
 | .ref p,.int i=>(Yw H p).bind fun xs=>atI xs i
 | _,_=>none
def rIxd:R2:=fun x y H Q=> ∃v,dAt H x y=some v∧Q v H
section
variable {X:Cx}
theorem ix_d:IxR X rIxd:=by
 intro value slice pins s σ H x y v u Q I rx ry h hs;refine ix_seq value slice pins s σ H x y v u Q I rx ry ?_ hs;obtain⟨z,e,q⟩:=h;unfold dAt at e;split at e
 case h_2=>cases e
 case h_1 p i=>
  unfold Yw at e;split at e
  case h_1 xs hp=>exact .inl ⟨_,xs,_,z,rfl,rfl,SqL.of hp,e,q⟩
  case h_2 xs hp=>exact .inr (.inl ⟨_,xs,_,z,rfl,rfl,SqT.of hp,e,q⟩)
  case h_3=>cases e
theorem ziq(ha:PE X a ta)(hb:PE X b tb)(hs:PlainIx b:=by exact fun _ _=>rfl):PE X (.Subscript a b pos) (tOp rIxd ta tb):=zp ix_d ha hb hs
def dSet (H:Hp) (o i v:V):Option Hp:=match o,i with
 | .ref p,.int k=>match H p with
  | some (.lst xs)=>(ixN xs.length k).map fun j=>upd H p (.lst (xs.set j v))
  | _=>none
 | _,_=>none
def Xa:V→V→V→Hp→(Hp→Prop)→Prop:=fun o i v H Q=> ∃H',dSet H o i v=some H'∧Q H'
theorem yl:PSet X Xa:=by
 intro pins s σ H o i v ov iv u Q I ro ri rv h;refine set_list pins s σ H o i v ov iv u Q I ro ri rv ?_;obtain⟨H',e,q⟩:=h;unfold dSet at e;split at e
 case h_2=>cases e
 case h_1 p k=>
  split at e
  case h_2=>cases e
  case h_1 xs hp=>
   cases ej:ixN xs.length k with
   | none=>rw[ej] at e; cases e
   | some j=>
    rw[ej] at e;cases e
    exact⟨p,xs,k,j,rfl,rfl,hp,ej,q⟩
end
section
variable {σ:St} {H:Hp} {Q:VK} {D:Ends} {t u:TS} {te ta tb:TE} {tr:TA} {g:TG} {r:R2} {x y v:V} {c:TT} {QB:Bool→Hp→Prop} {QL:List V→Hp→Prop} {QG:St→Hp→Prop} {n:Nat}
theorem xg(h:t {D with nx:=u D} σ H):tSeq t u D σ H:=h
theorem yg(h:D.nx σ H):XN D σ H:=h
theorem yL(h:te σ H fun x H1=>g x σ H1 D.nx):tAsg te g D σ H:=h
theorem zM(h:QG (σ.set i (some v)) H):zI i v σ H QG:=h
theorem w_op(h:ta σ H fun x H1=>tb σ H1 fun y H2=>r x y H2 Q):tOp r ta tb σ H Q:=h
theorem yt(e:σ[i]? =some (some v))(h:Q v H):tVar i σ H Q:=⟨v,e,h⟩
theorem w_c(h:Q v H):tC v σ H Q:=h
theorem xF{k:Int→Int→V}(h:Q (k i j) H):rI0 k (.int i) (.int j) H Q:=⟨i,j,rfl,rfl,h⟩
theorem w_rI{C:Int→Int→Prop}{k:Int→Int→V}(hc:C i j)(h:Q (k i j) H):rI C k (.int i) (.int j) H Q:=⟨i,j,rfl,rfl,hc,h⟩
theorem xG(h:c σ H fun b' H1=>if b'=true then t D σ H1 else b D σ H1):tIfS c t b D σ H:=h
theorem xH(h:c σ H fun b' H1=>if b'=true then ta σ H1 Q else tb σ H1 Q):tIf c ta tb σ H Q:=h
theorem yP(h:te σ H fun x H'=> ∃k,x= .bl k∧QB k H'):XM te σ H QB:=h
theorem w_tb(h:te σ H fun x H'=> ∃k,x= .bl k∧QB k H'):tB te σ H QB:=h
theorem w_bl{P:Bool→Prop}(h:P b): ∃k,V.bl b= .bl k∧P k:=⟨b,rfl,h⟩
theorem w_not(h:c σ H fun b H1=>QB (!b) H1):tNot c σ H QB:=h
theorem xj(h:te σ H D.rt):tRet te D σ H:=h
theorem yK(h:QL [] H):tNil σ H QL:=h
theorem yh(h:te σ H fun x H1=>tr σ H1 fun xs H2=>QL (x::xs) H2):y0 te tr σ H QL:=h
theorem xu(h:tr σ H fun xs H1=>xs.length≤sizeLine∧ ∀p,H1 p=none→Q (.ref p) (upd H1 p (.lst xs))):tLst tr σ H Q:=h
theorem y9(h:tr σ H fun xs H1=>xs.length≤sizeLine∧ ∀p,H1 p=none→Q (.ref p) (upd H1 p (.tup xs))):tTup tr σ H Q:=h
theorem w_cb{r:List V→Hp→VK→Prop}(h:tr σ H fun vs H1=>r vs H1 Q):tCB r tr σ H Q:=h
theorem yV(h:tr σ H fun vs H1=>sp (vs++dvs) H1 Q E):Yr sp dvs E tr σ H Q:=h
theorem yQ(h:to σ H fun o H1=>ti σ H1 fun i H2=>ts o i v H2 fun H3=>QG σ H3):gSub to ti ts v σ H QG:=h
theorem zA(hp:H p=some (.lst xs))(e:atI xs i=some v)(h:Q v H):rIxd (.ref p) (.int i) H Q:=⟨v,by simp only[dAt,Yw,hp,Option.bind_some,e],h⟩
theorem zN(hp:H p=some (.tup xs))(e:atI xs i=some v)(h:Q v H):rIxd (.ref p) (.int i) H Q:=⟨v,by simp only[dAt,Yw,hp,Option.bind_some,e],h⟩
theorem yx{QH:Hp→Prop}(hp:H p=some (.lst xs))(e:ixN xs.length i=some j)(h:QH (upd H p (.lst (xs.set j v)))):Xa (.ref p) (.int i) v H QH:=
 ⟨_,by simp only[dSet,hp,e,Option.map_some],h⟩
theorem xI(h:c σ H fun b H1=>if b=true then d σ H1 QB else QB false H1):tAnd c d σ H QB:=h
theorem w_or(h:c σ H fun b H1=>if b=true then QB true H1 else d σ H1 QB):tOr c d σ H QB:=h
theorem iteD{p A B:Prop}[Decidable p](h1:p→A)(h2: ¬p→B):if decide p=true then A else B:=by
 by_cases h:p
 ·rw[decide_eq_true h,if_pos rfl];exact h1 h
 ·rw[decide_eq_false h,if_neg Bool.false_ne_true];exact h2 h
theorem iteDN{p A B:Prop}[Decidable p](h1: ¬p→A)(h2:p→B):if (!decide p)=true then A else B:=by
 by_cases h:p
 ·rw[decide_eq_true h];exact iteF (h2 h)
 ·rw[decide_eq_false h];exact iteT (h1 h)
end
def Has (P:Program) (w:World) (K:W.Frag) (mg:Str→Option Value) (base:Heap) (k:Nat) (x:Str) (ps:List Str) (sp:Sp):Prop:=
 ∃f fd,FnOk P w K mg base CX0 k f fd ps sp∧mg x=some (.ref f)∧PySem.W.keepIn K (.ref f)=true∧Binds K fd ps []
theorem xQ{X:Cx}(h:Has X.prog X.w X.K X.mg X.base k x ps sp)(hr:Room j X.A)(hkj:k≤j)(ha:PA X (e::es) t)(hg:Gl X x:=by rfl)
  (hdb:(x==("__debug__":Str))=false:=by decide) (he:starEach (e::es) X.env=(false,eval e X.env)::starEach es X.env:=by rfl) (hpl:(backTo pos (starEach es X.env)).any (·.1)=false:=by rfl):
  PE X (.Call (.Name x p) (e::es) [] pos) (Yr sp [] E0 t):=by
 obtain⟨f,fd,F,hm,hk,hb⟩:=h;exact pe_call F (hr.mono hkj) hg hm hk hb .nil YB ha hdb he hpl
section
variable {lo:Int} {n:Nat} {D:Addr} {te:TE} {tc:TT} {Q:VK} {ρ:St} {H:Hp}
theorem yw(Pv:Nat→List V→Hp→Prop)(h0:Pv 0 [] (upd H D (.lst [])))
  (hs: ∀i ys H',i<n→Pv i ys H'→H' D=some (.lst ys)→ ∀(R:V→Hp→Prop) (S:Hp→Prop),(∀y H4,H4 D=some (.lst ys)→ys.length<sizeLine→Pv (i+1) (ys++[y]) (upd H4 D (.lst (ys++[y])))→R y H4)→(∀H3,H3 D=some (.lst ys)→Pv (i+1) ys H3→S H3)→
   tc (some (.int (lo+i))::ρ) H' fun b H3=>if b=true then te (some (.int (lo+i))::ρ) H3 R else S H3)
  (hd: ∀ys H',Pv n ys H'→H' D=some (.lst ys)→Q (.ref D) H'):CGo (Itr lo n) D (zI 0) tc te Q (none::ρ) H:=by
 refine⟨fun i m τ ys H'=>m=n-i∧i≤n∧(∃tv,τ=tv::ρ)∧Pv i ys H'∧H' D=some (.lst ys),⟨n,by omega,Nat.zero_le _,⟨_,rfl⟩,h0,zf⟩,?_⟩;rintro i m τ ys H' ⟨rfl,hi,⟨tv,rfl⟩,hp,hD⟩;refine⟨hD,?_⟩;by_cases hlt:i<n
 ·refine .inr ⟨hlt,?_⟩;rintro v H'' ⟨rfl,rfl⟩;show tc (some (.int (lo+i))::ρ) _ _;exact hs i ys _ hlt hp hD _ _ (fun y H4 a b c=>⟨a,b,n-(i+1),by omega,rfl,hlt,⟨_,rfl⟩,c,zf⟩) fun H3 a c=>⟨n-(i+1),by omega,rfl,hlt,⟨_,rfl⟩,c,a⟩
 ·have e:i=n:=by omega
  subst e;exact .inl ⟨Nat.le_refl _,hd ys _ hp hD⟩
theorem vk{K:W.Frag}{a:Addr}{xs:List V}(Pv:Nat→List V→Hp→Prop)(h0:Pv 0 [] (upd H D (.lst [])))(hl: ∀i ys H',i≤xs.length→Pv i ys H'→SqT K H' a xs)
  (hs: ∀i x ys H',xs[i]? =some x→Pv i ys H'→H' D=some (.lst ys)→ ∀(R:V→Hp→Prop) (S:Hp→Prop),(∀y H4,H4 D=some (.lst ys)→ys.length<sizeLine→Pv (i+1) (ys++[y]) (upd H4 D (.lst (ys++[y])))→R y H4)→(∀H3,H3 D=some (.lst ys)→Pv (i+1) ys H3→S H3)→
   tc (some x::ρ) H' fun b H3=>if b=true then te (some x::ρ) H3 R else S H3)
  (hd: ∀ys H',Pv xs.length ys H'→H' D=some (.lst ys)→Q (.ref D) H'):CGo (Itt K a) D (zI 0) tc te Q (none::ρ) H:=by
 refine⟨fun i m τ ys H'=>m=xs.length-i∧i≤xs.length∧(∃tv,τ=tv::ρ)∧Pv i ys H'∧H' D=some (.lst ys),⟨xs.length,by omega,Nat.zero_le _,⟨_,rfl⟩,h0,zf⟩,?_⟩;rintro i m τ ys H' ⟨rfl,hi,⟨tv,rfl⟩,hp,hD⟩;refine⟨hD,?_⟩;have sq:=hl i ys H' hi hp;by_cases hlt:i<xs.length
 ·refine .inr ⟨⟨xs,xs[i],sq,by simp[hlt]⟩,?_⟩;rintro v H'' ⟨rfl,hv⟩;have hv':=hv xs sq;show tc (some v::ρ) _ _;exact hs i v ys _ hv' hp hD _ _ (fun y H4 a b c=>⟨a,b,xs.length-(i+1),by omega,rfl,hlt,⟨_,rfl⟩,c,zf⟩) fun H3 a c=>⟨xs.length-(i+1),by omega,rfl,hlt,⟨_,rfl⟩,c,a⟩
 ·have e:i=xs.length:=by omega
  subst e;exact .inl ⟨⟨xs,sq,Nat.le_refl _⟩,hd ys _ hp hD⟩
end
theorem zZ{Q:Bool→Hp→Prop}(h:Q true H):tAll σ H Q:=h
def ym (sc o:Scope):Scope:=
 {sc with names:=sc.names.map fun(n,k)=>if (k== .free&&o.kind== .function&&o.names.lookup n==some .cell) then (n,.cell) else (n,k)}
instance {sc:Scope} {x:Str}:Decidable (Vis sc x):=by unfold Vis; infer_instance
structure BScope (o sc:Scope) (TN F G:List Str):Prop extends CScope o sc TN F where
 nd:(TN++F).Nodup
 vis: ∀x∈TN++F,Vis (ym sc o) x
 loc: ∀x∈TN,(ym sc o).names.lookup x=some .local
 gl: ∀x∈G,(ym sc o).names.lookup x=some .globalImplicit
section
variable {X:Cx} {sc:Scope} {TN F G:List Str} {cl:List (Str×Addr)} {C:Addr} {fp:List Addr} {s3:Shared} {H3:Hp} {xe:Value→Shared→Prop} {x:Str} {pos:Pos}
theorem pvb(S:BScope X.env.scope sc TN F G)(i:Nat)(hN:(TN++F)[i]? =some x:=by rfl)(hd:(x==("__debug__":Str))=false:=by decide)(hcd:(x==("__classdict__":Str))=false:=by decide):PE (cxC X (TN++F) sc cl C fp s3 H3 xe) (.Name x pos) (tVar i):=
 vz hN (S.vis x (List.mem_of_getElem? hN)) hd hcd
theorem pgb(S:BScope X.env.scope sc TN F G)(i:Nat)(hN:(TN++F)[i]? =some x:=by rfl)(hT:TN[i]? =some x:=by rfl):PG (cxC X (TN++F) sc cl C fp s3 H3 xe) (.Name x pos) (zI i):=
 vg S.nd hN (.inl (S.loc x (List.mem_of_getElem? hT))) (.inr (S.loc x (List.mem_of_getElem? hT)))
theorem BScope.g(S:BScope X.env.scope sc TN F G)(i:Nat)(hG:G[i]? =some x:=by rfl):Gl (cxC X (TN++F) sc cl C fp s3 H3 xe) x:=S.gl x (List.mem_of_getElem? hG)
end
def XB:Expr→Option V
 | .Constant (.int n) _ _=>some (.int n)
 | .Constant (.str y) _ _=>some (.str y)
 | .Constant (.bool b) _ _=>some (.bl b)
 | .Constant .none _ _=>some .non
 | _=>none
def wG:List Expr→Option (List V)
 | []=>some []
 | e::r=>match XB e,wG r with
  | some v,some vs=>some (v::vs)
  | _,_=>none
def Yq (vs:List V):TA:=fun _ H Q=>Q vs H
theorem vU: ∀{es:List Expr} {vs:List V},wG es=some vs→PA X es (Yq vs)
 | [],vs,h=>by
  cases h
  exact zE
 | e::r,vs,h=>by
  unfold wG at h;split at h
  case h_2=>cases h
  case h_1 v vs' h1 h2=>
   cases h
   have ih:=vU (X:=X) h2;have go: ∀{te:TE},PE X e te→(starEach (e::r) X.env=(false,eval e X.env)::starEach r X.env)→(∀σ H Q,Q v H→te σ H Q)→PA X (e::r) (Yq (v::vs')):=fun {te} he hs hq=>by
    have q:=zw he ih hs;intro pos pins s σ H Q I hh;exact q pos pins s σ H Q I (hq σ H _ hh)
   unfold XB at h1;split at h1
   case h_1=>cases h1; exact go zg rfl fun _ _ _ h=>h
   case h_2=>cases h1; exact go yY rfl fun _ _ _ h=>h
   case h_3=>cases h1; exact go vT rfl fun _ _ _ h=>h
   case h_4=>cases h1; exact go xO rfl fun _ _ _ h=>h
   case h_5=>cases h1
theorem wA(h:wG es=some vs):PE X (.List es pos) (tLst (Yq vs)):=yk (vU h)
theorem yO{Q:List V→Hp→Prop}(h:Q vs H):Yq vs σ H Q:=h
instance {sc:Scope} {x:Str}:Decidable (Loc sc x):=by unfold Loc; infer_instance
structure Nm (N:List Str) (sc:Scope):Prop where
 nd:N.Nodup
 loc: ∀x∈N,Loc sc x
section
variable {X:Cx} {x:Str} {pos:Pos}
theorem Loc.vis(h:Loc sc x):Vis sc x:=h.elim .inl fun z=> .inr (.inl z)
theorem pvd(M:Nm X.N X.env.scope)(i:Nat)(hN:X.N[i]? =some x:=by rfl)(hd:(x==("__debug__":Str))=false:=by decide)(hcd:(x==("__classdict__":Str))=false:=by decide):PE X (.Name x pos) (tVar i):=
 vz hN (M.loc x (List.mem_of_getElem? hN)).vis hd hcd
theorem zk(M:Nm X.N X.env.scope)(i:Nat)(he:PE X e te)(hi:X.N[i]? =some x:=by rfl)(hs:swapsWith e (some (.Name x pos')) pos.line X.env=pure false:=by rfl)(hf:X.fn x=true:=by rfl):
  PS X (.Assign [.Name x pos'] e pos) (tAsg te (zI i)):=wa M.nd hi (M.loc x (List.mem_of_getElem? hi)) he hs (.inl hf)
theorem pgd(M:Nm X.N X.env.scope)(i:Nat)(hi:X.N[i]? =some x:=by rfl)(hf:X.fn x=true:=by rfl):PG X (.Name x pos) (zI i):=vg M.nd hi (M.loc x (List.mem_of_getElem? hi)) (.inl hf)
end
section
variable {ta:TA} {tl:TE} {n:Nat} {ix:List Nat} {g:TG} {tc:TT} {te:TE} {σ:St} {H:Hp} {Q:VK}
theorem yp(h:ta σ H fun vs H1=> ∃j:Int,vs=[.int j]∧ -(2^62)≤j∧j<2^62∧ ∀D,H1 D=none→CGo (Itr 0 j.toNat) D g tc te Q (List.replicate n none++sub ix σ) H1):wY (YL ta) n ix g tc te σ H Q:=h
theorem yo{K:W.Frag}(h:tl σ H fun x H1=> ∃a,x= .ref a∧(∃xs,SqT K H1 a xs)∧ ∀D,H1 D=none→CGo (Itt K a) D g tc te Q (List.replicate n none++sub ix σ) H1):wY (iTup K tl) n ix g tc te σ H Q:=h
end
def ForJ (J:It) (g:TG) (tb:TS) (D:Ends) (σ:St) (H1:Hp):Prop:= ∃W:Nat→Nat→St→Hp→Prop,(∃m,W 0 m σ H1)∧ ∀i m σ H,W i m σ H→
 (J.stop i H∧D.nx σ H)∨(J.go i H∧ ∃N:St→Hp→Prop,(∀σ' H',N σ' H'→ ∃m',m'<m∧W (i+1) m' σ' H')∧ ∀x H',J.yld i H x H'→g x σ H' fun σ2 H2=>tb {D with nx:=N,ct:=N,bk:=D.nx} σ2 H2)
theorem yS(h:ta σ H fun vs H1=> ∃j:Int,vs=[.int j]∧ -(2^62)≤j∧j<2^62∧ForJ (Itr 0 j.toNat) g tb D σ H1):tFor (YL ta) g tb D σ H:=h
theorem yR{K:W.Frag}{tl:TE}{g:TG}{tb:TS}{D:Ends}{σ:St}{H:Hp}(h:tl σ H fun x H1=> ∃a,x= .ref a∧(∃xs,SqT K H1 a xs)∧ForJ (Itt K a) g tb D σ H1):tFor (iTup K tl) g tb D σ H:=h
theorem yT{K:W.Frag}{tl:TE}{g:TG}{tb:TS}{D:Ends}{σ:St}{H:Hp}(h:tl σ H fun x H1=> ∃a,x= .ref a∧(∃xs,SqL K H1 a xs)∧ForJ (Itl K a) g tb D σ H1):tFor (Xs K tl) g tb D σ H:=h
def yc:Expr→Bool
 | .Starred .. =>true
 | _=>false
theorem wn(h:yc e=false):starEach (e::es) env=(false,eval e env)::starEach es env:=by
 cases e<;>first | rfl | cases h
theorem xy: ∀{es:List Expr},es.all (fun e=> !yc e)=true→(backTo pos (starEach es env)).any (·.1)=false
 | [],_=>rfl
 | e::es,h=>by
  rw[List.all_cons,Bool.and_eq_true] at h; rw[wn (by simpa using h.1)];cases es with
  | nil=>rfl
  | cons a r=>
   have ih:=xy (env:=env) (pos:=pos) (es:=a::r) h.2;rw[wn (by simpa using (by simpa using h.2:yc a=false∧_).1)] at ih ⊢;exact ih
section
variable {X:Cx} {e a:Expr} {es:List Expr} {te:TE} {t ta:TA} {x:Str} {p pos:Pos} {tg:Expr} {id T:String} {r:List V→Hp→VK→Prop}
theorem pa_c(ha:PE X e te)(hr:PA X es t)(h:yc e=false:=by rfl):PA X (e::es) (y0 te t):=zw ha hr (wn h)
theorem yN(hm:X.mg "range"=none)(ha:PA X [a] ta)(hg:Gl X "range":=by rfl)(h:yc a=false:=by rfl):PI X tg (.Call (.Name "range" p) [a] [] pos) (YL ta):=y8 hg hm ha (wn h)
theorem zU(hc:yn X (.builtin id) r)(hm:X.mg x=none)(hv:bootBuiltins x=some (.builtin id))(ha:PA X (e::es) t)(hg:Gl X x:=by rfl)(h:yc e=false:=by rfl)(h2:es.all (fun e=> !yc e)=true:=by rfl)(hn:x≠"__name__":=by decide)(hdb:(x==("__debug__":Str))=false:=by decide):
  PE X (.Call (.Name x p) (e::es) [] pos) (tCB r t):=wB hc hg hm hv ha hn hdb (wn h) (xy h2)
theorem ya(hc:yn X (.type T) r)(hm:X.mg x=none)(hv:bootBuiltins x=some (.type T))(ha:PA X (e::es) t)(hg:Gl X x:=by rfl)(h:yc e=false:=by rfl)(h2:es.all (fun e=> !yc e)=true:=by rfl)(hn:x≠"__name__":=by decide)(hdb:(x==("__debug__":Str))=false:=by decide):
  PE X (.Call (.Name x p) (e::es) [] pos) (tCB r t):=xY hc hg hm hv ha hn hdb (wn h) (xy h2)
theorem pe_f(h:Has X.prog X.w X.K X.mg X.base k x ps sp)(hr:Room j X.A)(hkj:k≤j)(ha:PA X (e::es) t)(hg:Gl X x:=by rfl)(h1:yc e=false:=by rfl)(h2:es.all (fun e=> !yc e)=true:=by rfl)
  (hdb:(x==("__debug__":Str))=false:=by decide):PE X (.Call (.Name x p) (e::es) [] pos) (Yr sp [] E0 t):=xQ h hr hkj ha hg hdb (wn h1) (xy h2)
end
end L2
namespace L2
theorem pa_1(ha:PE X e te)(h:yc e=false:=by rfl):PA X [e] (y0 te tNil):=pa_c ha zE h
theorem pa_2(ha:PE X e te)(hb:PE X e' te')(h:yc e=false:=by rfl)(h':yc e'=false:=by rfl):PA X [e,e'] (y0 te (y0 te' tNil)):=pa_c ha (pa_1 hb h') h
end L2
namespace L2
open PySem PySem.Spec PyProof.Rows
theorem yU{D:Ends}(h:te σ H fun _ H1=>D.nx σ H1):XR te D σ H:=h
theorem w_bm{K:W.Frag}{T:String}{r:V→List V→Hp→VK→Prop}{to:TE}{t:TA}{σ:St}{H:Hp}{Q:VK}(h:to σ H fun x H1=>tyV K T x H1∧t σ H1 fun xs H2=>r x xs H2 Q):tBM K T r to t σ H Q:=h
def codH (c:Addr) (q:Str):HO:= .ext fun h=>h.CodeRec (.ref c) q
def TabAt (H:Hp) (P:Addr) (q:Str):Prop:= ∃ps:Array Value,H P=some (.tbl ps)∧TriplesOk ps.toList∧ ∀pos cv,codeAmong pos ps.toList=some cv→ ∃c,cv= .ref c∧H c=some (codH c q)
def SameB (P:Addr) (H H':Hp):Prop:= ∀a o,a≠P→H a=some o→H' a=some o
theorem SameB.refl:SameB P H H:=fun _ _ _ e=>e
theorem SameB.trans(a:SameB P H H1)(b:SameB P H1 H2):SameB P H H2:=fun x o n e=>b x o n (a x o n e)
theorem among_snoc(l:List Value)(h:TriplesOk l)(e:codeAmong pos (l++[rawInt a,rawInt b,c])=some cv):codeAmong pos l=some cv∨cv=c:=by
 fun_induction TriplesOk l with
 | case1=>
  simp only[List.nil_append,codeAmong,rawInt] at e;split at e
  ·exact .inr (Option.some.inj e).symm
  ·cases e
 | case2 a' t b' u x rest ih=>
  simp only[List.cons_append,codeAmong] at e ⊢;split at e
  ·rename_i hc; rw[if_pos hc]; exact .inl e
  ·rename_i hc; rw[if_neg hc]; exact ih h e
 | case3 l h1 h2=>exact h.elim
structure LamOk (X:Cx) (c P:Addr):Prop where
 code:X.env.code= .ref c
 hd:PySem.W.CodeHd X.base c P
 bm: ∃bm ob,X.mg "__builtins__"=some (.ref bm)∧bm≠builtinsNs∧X.base.get? bm=some ob∧ob.cls= .type "module"∧ob.dict=some builtinsNs∧ob.data= .plain
abbrev lamQ (X:Cx):Str:=X.env.qual++"<lambda>"
def lamO (X:Cx) (ps:Arguments) (body:Expr) (sc:Scope) (pm:Value) (c:Addr) (ct:Value):Obj:=PySem.W.kla_obj "<lambda>" (lamQ X) ps body sc (cloF X.env sc.names []) pm c ct
def x9 (X:Cx) (ps:Arguments) (body:Expr) (sc:Scope) (H:Hp) (f:Addr):Prop:=
 ∃pm c ct,H f=some (.ext fun h=>h.get? f=some (lamO X ps body sc pm c ct))∧H c=some (codH c (lamQ X))
def tLam (X:Cx) (ps:Arguments) (body:Expr) (sc:Scope) (P:Addr):TE:=fun _ H Q=>TabAt H P (lamQ X)∧ ∀f H',SameB P H H'→TabAt H' P (lamQ X)→x9 X ps body sc H' f→H f=none→Q (.ref f) H'
theorem TabAt.sameB(h:TabAt H P q)(k:SameB P H H')(e:H' P=H P):TabAt H' P q:=by
 obtain⟨ps,h1,h2,h3⟩:=h;refine⟨ps,e.trans h1,h2,fun pos cv e'=>?_⟩;obtain⟨c,rfl,hc⟩:=h3 pos cv e';refine⟨c,rfl,k c _ (fun z=>?_) hc⟩;rw[z,h1] at hc;cases hc
theorem TabAt.same(h:TabAt H P q)(k:Same H H'):TabAt H' P q:=by
 obtain⟨ps,h1,h2,h3⟩:=h;refine⟨ps,k _ _ h1,h2,fun pos cv e'=>?_⟩;obtain⟨c,rfl,hc⟩:=h3 pos cv e';exact⟨c,rfl,k _ _ hc⟩
section
variable {X:Cx} {ps:Arguments} {body:Expr} {sc:Scope} {pos:Pos} {c P:Addr}
theorem Yi{φ:Heap→Prop}(h1:φ h)(h2: ∃o,h.get? a=some o)(h3: ∀h1 h2:Heap,φ h1→(∀o,h1.get? a=some o→h2.get? a=some o)→φ h2):ObjOk X.prog X.w H h a (.ext φ):=⟨h1,h2,h3⟩
theorem Xf(L:LamOk X c P)(hfr: ∀y∈sc.names,y.2= .free→X.env.scope.names.lookup y.1=some .cell)(hdef:defaultsOf ps X.env=([],[]):=by rfl):PE X (.Lambda ps body sc pos) (tLam X ps body sc P):=by
 intro pins s σ H Q I h;obtain⟨⟨tb,hP,ht,hc⟩,k⟩:=h;have eP:s.heap.get? P=some (PySem.W.tabObj tb):=I.hok P _ hP;have hcl:closureFor sc X.env=pure (cloF X.env sc.names []):=wf fun x hx hk=>I.ok.has x.1 (.inl (hfr x hx hk));have hg:=I.mod.glob.keeps I.bk;have hgP:mainGlobals≠P:=fun q=>by
  obtain⟨o,es,ep,e,hd,_⟩:=hg;rw[q,eP] at e; cases e; cases hd
 obtain⟨bm,ob,b1,b2,b3,b4,b5,b6⟩:=L.bm;have b3':=I.bk _ _ b3;have hbP:bm≠P:=fun q=>by rw[q,eP] at b3'; cases b3'; cases b6
 have hbG:bm≠mainGlobals:=fun q=>by
  obtain⟨o,es,ep,e,hd,_⟩:=hg;rw[q,e] at b3'; cases b3'; rw[hd] at b6; cases b6
 have hB:s.heap.BuiltinsAt X.mg P:=⟨bm,ob,b1,b2,hbG,hbP,b3',b4,b5,b6⟩;refine PySem.W.kla_eval hdef ?_;cases hf:codeAmong pos tb.toList with
 | some cv=>
  obtain⟨c',rfl,e'⟩:=hc pos cv hf;refine PySem.W.kla_makeFunctionHit (mg:=X.mg) hcl I.ok.glob hg L.code (L.hd.keeps I.bk) eP ht hf hB fun ct h' tk hk hsz=>?_;have hnew:H h'.objs.size=none:=I.hok.fresh hsz;have hk': ∀b o,s.heap.get? b=some o→(h'.push (lamO X ps body sc ((X.mg "__name__").getD .none) c' ct)).get? b=some o:=fun b o e=>Heap.get?_push_of_some _ (hk b o e);have I':=I.laid (t':=tk) (a:=h'.objs.size) (o:= .ext fun h=>h.get? h'.objs.size=some (lamO X ps body sc ((X.mg "__name__").getD .none) c' ct)) hk' hsz
   (Yi (Heap.get?_push_size _ rfl) ⟨_,Heap.get?_push_size _ rfl⟩ fun h1 h2 e1 e2=>e2 _ e1)
  refine⟨.ref h'.objs.size,_,I',rfl,k _ _ (fun a o _ e=>?_) ?_ ⟨_,c',ct,zf,?_⟩ hnew⟩
  ·rw[zh (zi e hnew)]; exact e
  ·exact TabAt.sameB ⟨tb,hP,ht,hc⟩ (fun a o _ e=>by rw[zh (zi e hnew)]; exact e) (by rw[zh (zi hP hnew)])
  ·rw[zh (zi e' hnew)]; exact e'
 | none=>
  refine PySem.W.kla_makeFunction (mg:=X.mg) hcl I.ok.glob hg L.code (L.hd.keeps I.bk) eP ht hf hgP hB fun c' ct h' tk hx hge hlt hrec htb=>?_;have hcn:H c'=none:=I.hok.fresh hge;have hcP:c'≠P:=Ne.symm (zi hP hcn)
  let H1:Hp:=upd (upd H P (.tbl (tb++#[rawInt pos.line,rawInt pos.col,.ref c']))) c' (codH c' (lamQ X))
  have hsz:s.heap.objs.size≤h'.objs.size:=Nat.le_trans hge (Nat.le_of_lt hlt);have e1c:H1 c'=some (codH c' (lamQ X)):=zf;have e1P:H1 P=some (.tbl (tb++#[rawInt pos.line,rawInt pos.col,.ref c'])):=by show upd _ _ _ _=_; rw[zh (Ne.symm hcP),zf]
  have e1: ∀b,b≠P→b≠c'→H1 b=H b:=fun b n1 n2=>by show upd _ _ _ _=_; rw[zh n2,zh n1]
  have e1s: ∀b u,b≠P→H b=some u→H1 b=some u:=fun b u n e=>by rw[e1 b n (zi e hcn)]; exact e
  have nP: ∀b,H b=none→b≠P:=fun b e z=>by rw[z,hP] at e; cases e
  have nC: ∀b o,s.heap.get? b=some o→b≠c':=fun b o e=>Nat.ne_of_lt (Nat.lt_of_lt_of_le (Heap.lt_size e) hge);have I1:Inv X pins σ H1 {s with heap:=h',toks:=tk}:=by
   refine I.step (g':=s.gens) (d':=s.drawn) (ch:=[]) (fun _ z=>nomatch z) (fun b o _ _ _ e n=>hx b o (nP b n) e) (fun b o _ _ _ e n=>⟨o.slots,hx b o (nP b n) e⟩) (fun b o _ e n=>by rw[e1 b (nP b n) (nC b o e)]; exact n)
    (fun b o _ e=>?_) (fun b xs e=>e1s b _ (fun z=>by rw[z,hP] at e; cases e) e) (fun b o u e=>e1s b _ (fun z=>by rw[z,hP] at e; cases e) e) (fun b qs e=>?_) (fun m hm=>?_) (fun b u e=>?_) I.bare
   ·by_cases hb:b=P
    ·exact⟨_,hb▸htb⟩
    ·exact⟨o,hx b o hb e⟩
   ·by_cases hb:b=P
    ·subst hb;rw[hP] at e;cases e
     exact⟨#[rawInt pos.line,rawInt pos.col,.ref c'],e1P⟩
    ·exact⟨#[],by rw[e1s b _ hb e]; simp⟩
   ·obtain⟨o,es,ep,eo,r⟩:=hm;exact⟨o,es,ep,hx _ _ (nP _ I.free) eo,r⟩
   ·by_cases hb:b=c'
    ·subst hb;rw[e1c] at e;cases e
     obtain⟨c2,oc,vs,t,e2,hoc,hd,hv⟩:=hrec;cases e2
     exact Yi ⟨b,oc,vs,t,rfl,hoc,hd,hv⟩ ⟨oc,hoc⟩ fun h1 h2 ⟨c3,oc3,vs3,t3,e3,hoc3,r3⟩ k3=>by cases e3; exact⟨b,oc3,vs3,t3,rfl,k3 _ hoc3,r3⟩
    ·by_cases hb2:b=P
     ·subst hb2;rw[e1P] at e;cases e
      exact htb
     ·rw[e1 b hb2 hb] at e;refine(I.hok b u e).stay (fun a v ha q=>hx a v (fun z=>?_) q) (fun a q=>e1s a _ (fun z=>by rw[z,hP] at q; cases q) q) fun a xs q=>e1s a _ (fun z=>by rw[z,hP] at q; cases q) q;rcases ha with rfl | ha
      ·exact hb2 z
      ·rw[z,hP] at ha; cases ha
  have hnew:H1 h'.objs.size=none:=I1.hok.fresh (Nat.le_refl _);have hnew0:H h'.objs.size=none:=I.hok.fresh hsz;have I':=I1.laid (t':=tk) (a:=h'.objs.size) (o:= .ext fun h=>h.get? h'.objs.size=some (lamO X ps body sc ((X.mg "__name__").getD .none) c' ct)) (h':=h'.push (lamO X ps body sc ((X.mg "__name__").getD .none) c' ct)) (fun b o e=>Heap.get?_push_of_some _ e) (Nat.le_refl _)
   (Yi (Heap.get?_push_size _ rfl) ⟨_,Heap.get?_push_size _ rfl⟩ fun h1 h2 e1 e2=>e2 _ e1)
  have kk:SameB P H (upd H1 h'.objs.size (.ext fun h=>h.get? h'.objs.size=some (lamO X ps body sc ((X.mg "__name__").getD .none) c' ct))):=fun a o n e=>by
   rw[zh (zi e hnew0)]; exact e1s a o n e
  refine⟨.ref h'.objs.size,_,I',rfl,k _ _ kk ⟨tb++#[rawInt pos.line,rawInt pos.col,.ref c'],?_,?_,fun p2 cv e2=>?_⟩ ⟨_,c',ct,zf,?_⟩ hnew0⟩
  ·rw[zh (zi e1P hnew)]; exact e1P
  ·have:=TriplesOk_snoc pos.line pos.col (.ref c') _ ht;simpa using this
  ·have e2':codeAmong p2 (tb.toList++[rawInt pos.line,rawInt pos.col,.ref c'])=some cv:=by simpa using e2
   rcases among_snoc _ ht e2' with e3 | rfl
   ·obtain⟨c3,rfl,h3⟩:=hc p2 cv e3;exact⟨c3,rfl,kk _ _ (fun z=>by rw[z,hP] at h3; cases h3) h3⟩
   ·exact⟨c',rfl,by rw[zh (zi e1c hnew)]; exact e1c⟩
  ·rw[zh (zi e1c hnew)]; exact e1c
end
structure LScope (o sc:Scope) (v:Str) (F:List Str):Prop where
 kind:sc.kind= .function
 co:sc.isCoroutine=false
 gen:sc.isGenerator=false
 nocell: ∀y∈sc.names,y.2≠.cell
 par:sc.names.lookup v=some .local
 fr: ∀y∈sc.names,y.2= .free→o.names.lookup y.1=some .cell
 ff: ∀y∈F,(y,NameKind.free)∈sc.names∧sc.names.lookup y=some .free
 nv:v∉F
abbrev lamE (X:Cx) (sc:Scope) (cl:List (Str×Addr)) (L f:Addr) (cd:Value):Env:=PySem.W.envX (lamQ X) sc L f cd cl
def cxL (X:Cx) (N:List Str) (sc:Scope) (cl:List (Str×Addr)) (L f:Addr) (cd:Value) (A:Around) (s₃:Shared) (H₃:Hp) (xe:Value→Shared→Prop):Cx:=
 {X with A:=A.deeper (lamE X sc cl L f cd),N:=N,s₀:=s₃,H₀:=H₃,env:=lamE X sc cl L f cd,outer:=X.stack,stack:=lamE X sc cl L f cd::X.stack,ex:=[],fn:=fun _=>false,pn:=[],xe:=xe}
section
variable {X:Cx} {pins:List (Addr×Obj)} {σ:St} {H:Hp} {s:Shared} {sc:Scope} {v:Str} {F:List Str} {ix:List Nat}
theorem inv_lam{A:Around}{h4:Heap}{m:Str→Option Value}{xe:Value→Shared→Prop}
  (S:LScope X.env.scope sc v F) (hix:ix.map (fun i=>X.N[i]?)=F.map some) (I:Inv X pins σ H s) (hA:A.frames=some X.stack) (hh:A.handled=none)
  (hk: ∀b o,s.heap.get? b=some o→h4.get? b=some o) (hn:h4.Ns s.heap.objs.size m) (hm:m v=some u) (r:RelV y u):
  Inv (cxL X (v::F) sc (cloF X.env sc.names []) s.heap.objs.size f cd A s H xe) [] (some y::sub ix σ) H {s with heap:=h4,toks:=tk}:=by
 have cl: ∀x c,(cloF X.env sc.names []).lookup x=some c→X.env.cells.lookup x=some c:=fun x c e=>by
  rw[ye] at e;by_cases hx:(x,NameKind.free)∈sc.names
  ·rw[if_pos hx] at e;obtain⟨c',hc'⟩:=I.ok.has x (.inl (S.fr _ hx rfl));rw[hc'] at e ⊢;exact e
  ·rw[if_neg hx] at e;cases e
 have cl': ∀x,(x,NameKind.free)∈sc.names→(cloF X.env sc.names []).lookup x=X.env.cells.lookup x:=fun x hx=>by
  rw[ye,if_pos hx];obtain⟨c',hc'⟩:=I.ok.has x (.inl (S.fr _ hx rfl));rw[hc'];rfl
 have hlen:ix.length=F.length:=by
  have:=congrArg List.length hix;simpa using this
 have noE: ∀b:Addr,b∉(cxL X (v::F) sc (cloF X.env sc.names []) s.heap.objs.size f cd A s H xe).ex:=fun b z=>absurd (show b∈([]:List Addr) from z) (by simp);refine⟨⟨I.ok.mod,S.kind,rfl,rfl,Nat.le_refl _,fun x y c h1 h2=>I.ok.inj x y c (cl x c h1) (cl y c h2),fun x hx=>?_,fun x c z=>(nomatch z),fun _=>hh,Around.frames_deeper hA,.inr ⟨rfl,rfl⟩,fun b hb=>absurd hb (noE b),
  I.bs,Nat.le_trans I.ok.bsz I.sz,fun b o e=>noE b,fun b hb=>absurd hb (noE b),I.stack,I.stkFree⟩,rfl,I.bare,Un.kept hk,⟨m,hn,fun i x w h1 h2 h3=>?_⟩,fun x c e=>?_,I.hok.fresh (Nat.le_refl _),fun x c e=>I.freeC x c (cl x c e),fun p hp=>absurd (show p∈([]:List (Addr×Obj)) from hp) (by simp),I.hok.kept hk,?_⟩
 ·have hx:sc.names.lookup x=some .cell∨sc.names.lookup x=some .free:=hx;rcases hx with hx | hx
  ·exact absurd rfl (S.nocell _ (PySem.mem_of_lookup hx))
  ·have hx':=PySem.mem_of_lookup hx;obtain⟨c,hc⟩:=I.ok.has x (.inl (S.fr _ hx' rfl));exact⟨c,(cl' x hx').trans hc⟩
 ·cases i with
  | zero=>
   have e1:v=x:=Option.some.inj h1;have e2:y=w:=Option.some.inj (Option.some.inj h2);subst e1; subst e2;exact⟨u,r,.inl ⟨S.par,hm⟩⟩
  | succ i=>
   have h1':F[i]? =some x:=h1;have h2:(sub ix σ)[i]? =some (some w):=h2;have e3:=congrArg (fun l=>l[i]?) hix;simp only[List.getElem?_map,h1',Option.map_some] at e3;unfold sub at h2;rw[List.getElem?_map] at h2;cases ej:ix[i]? with
   | none=>rw[ej] at h2; cases h2
   | some k=>
    rw[ej] at h2 e3;have h2':(σ[k]?).join=some w:=Option.some.inj h2;have e3':X.N[k]? =some x:=Option.some.inj e3;have hσ:σ[k]? =some (some w):=by
     cases e:σ[k]? with
     | none=>rw[e] at h2'; cases h2'
     | some q=>
      rw[e] at h2';have:q=some w:=h2';rw[this]
    have hfr:=S.ff x (List.mem_of_getElem? h1');have hcell:=S.fr _ hfr.1 rfl;obtain⟨m0,hn0,hl0⟩:=I.loc;obtain⟨u',r',l⟩:=hl0 k x w e3' hσ (.inr (.inl hcell));refine⟨u',r',?_⟩;rcases l with ⟨l1,_⟩ | ⟨_,c,hc,o,ho',hd⟩
    ·have l1':X.env.scope.names.lookup x=some .local:=l1;rw[hcell] at l1';cases l1'
    ·exact .inr ⟨.inr hfr.2,c,(cl' x hfr.1).trans hc,o,hk c o ho',hd⟩
 ·obtain⟨v',o,ho',hd⟩:=I.cell x c (cl x c e);exact⟨v',o,hk c o ho',hd⟩
 ·show _=(v::F).length;rw[List.length_cons,List.length_cons];unfold sub;rw[List.length_map,hlen]
theorem ZP{E:Value→Shared→Prop}(hr:Room k X.A)(S:LScope X.env.scope sc v F)(hix:ix.map (fun i=>X.N[i]?)=F.map some)
  (hb: ∀pm c ct u,bindArgs (PySem.W.kla_fn "<lambda>" (lamQ X) ps body sc (cloF X.env sc.names []) pm (.ref c) ct) ⟨[u],[]⟩=pure [(v,u)])
  (he: ∀cl L f cd A s3 H3 xe,PE (cxL X (v::F) sc cl L f cd A s3 H3 xe) body te) (I:Inv X pins σ H s) (hf:x9 X ps body sc H f) (r:RelV y u) (h:te (some y::sub ix σ) H Q):
  wpAny (model X.prog X.w) X.A.in1 (call (.ref f) [u]) (EP X pins σ Q) E s:=by
 obtain⟨pm,c,ct,h1,h2⟩:=hf;have ho:s.heap.get? f=some (lamO X ps body sc pm c ct):=(I.hok f _ h1).1;have hcd:s.heap.CodeRec (.ref c) (lamQ X):=(I.hok c _ h2).1;refine wpAny_call (PySem.W.kla_callFunE (fd:=PySem.W.kla_fn "<lambda>" (lamQ X) ps body sc (cloF X.env sc.names []) pm (.ref c) ct) (body:=body) hr.depth ho rfl S.co S.gen rfl hcd ?_);rw[hb];refine wpAny_pure (wpAny_newFunctionEnv S.nocell (fun x hx=>?_) (fun h4 hns hsb=>⟨I.nolimit.fresh _ hsb,?_⟩) S.kind)
 ·rw[List.mem_singleton.mp hx]; exact S.par
 have hk: ∀b o,s.heap.get? b=some o→h4.get? b=some o:=fun b o e=>hsb.extBut b o (Nat.ne_of_lt (Heap.lt_size e)) (Heap.get?_push_of_some _ e);show codeAny _ _ (.expr body (lamE X sc (cloF X.env sc.names []) s.heap.objs.size f (.ref c))) _ _;refine PySem.W.kla_codeExpr ?_;have I4:=inv_lam (f:=f) (cd:= .ref c) (A:=X.A.in1) (tk:=s.toks+[(v,u)].length) (xe:=fun e' s'=>wpAny (model X.prog X.w) (X.A.in1.deeper (lamE X sc (cloF X.env sc.names []) s.heap.objs.size f (.ref c))) (leaving (lamE X sc (cloF X.env sc.names []) s.heap.objs.size f (.ref c)) e') (fun _ s''=>E e' s'') (fun e'' s''=>E e'' s'') s')
  S hix I I.ok.frames hr.hd hk hns (show [(v,u)].reverse.lookup v=some u by simp) r
 refine wpAny_mono (he _ _ _ _ _ _ _ _ _ _ _ _ _ I4 h) (fun x s5 ⟨z,H5,I5,rz,q5⟩=>?_) fun _ _ z=>z;exact⟨z,H5,I.call' (ch:=[]) I5.os I5.base I5.hok I5.bare (fun _ z=>nomatch z),rz,q5⟩
end
def bsK (kf:Int→Int):Option Int→List V
 | none=>[]
 | some b=>[.int b,.int (kf b)]
theorem wO(r:Vals [a,b] us): ∃u w,us=[u,w]∧RelV a u∧RelV b w:=by
 cases r with
 | cons h1 r=>cases r with
  | cons h2 r=>cases r; exact⟨_,_,rfl,h1,h2⟩
theorem min_lt{Q:Value→Shared→Prop}{E:Value→Shared→Prop}(h:Q (.bool (decide (i<j))) s):wpAny (model prog w) A (richCompare .Lt (.int i t) (.int j u)) Q E s:=
 CmpOf.ints_lt (prog:=prog) (w:=w) (A:=A) (P:=fun n v=> ∃t,v= .int ([i,j].getD n 0) t) (fun n=>[i,j].getD n 0) (fun _ _ z=>z) 0 1 _ _ s Q E ⟨t,rfl⟩ ⟨u,rfl⟩ h
section
variable {X:Cx} {pins:List (Addr×Obj)} {σ:St} {sc:Scope} {v:Str} {F:List Str} {ix:List Nat} {k:Nat} {ps:Arguments} {body:Expr} {te:TE} {l f it S P:Addr} {ns:List Int} {kf:Int→Int} {H0:Hp} {R:Result→Shared→Prop}
theorem minK_loop(hr:Room k X.A)(LS:LScope X.env.scope sc v F)(hix:ix.map (fun i=>X.N[i]?)=F.map some)
  (hb: ∀pm c ct u,bindArgs (PySem.W.kla_fn "<lambda>" (lamQ X) ps body sc (cloF X.env sc.names []) pm (.ref c) ct) ⟨[u],[]⟩=pure [(v,u)])
  (he: ∀cl L f cd A s3 H3 xe,PE (cxL X (v::F) sc cl L f cd A s3 H3 xe) body te)
  (hte: ∀H',Same H0 H'→ ∀i∈ns,te (some (.int i)::sub ix σ) H' (fun y H''=>H''=H'∧y= .int (kf i)))
  (hl0:H0 l=some (.lst (ns.map V.int))) (hS0:H0 S=none)
  (i1:X.s₀.heap.objs.size≤it) (i2: ∀x c,X.env.cells.lookup x=some c→c≠it) (i3: ∀p∈X.pn++pins,p.1≠it) (i4:it≠X.env.locals) (i5:it∉X.fs)
  (fin: ∀ob H' s' u,Inv X pins σ H' s'→Same H0 H'→(ob=none→ns=[])→(∀b,ob=some b→b∈ns∧ ∀i∈ns,kf b≤kf i)→RelV (ob.elim V.non V.int) u→R (.ok (.ret u)) s'):
  ∀(r j:Nat) (ob:Option Int) (H:Hp) (s:Shared) (oI:Obj),ns.length-j=r→j≤ns.length→Inv X ((it,oI)::pins) σ H s→s.heap.IsListIter it l j→Same H0 H→x9 X ps body sc H f→H S=some (.lst (bsK kf ob))→
   (∀i∈ns.take j,∃b,ob=some b∧kf b≤kf i)→(∀b,ob=some b→b∈ns)→
   codeAny (model X.prog X.w) X.A (.builtin "min.loop" ⟨[.ref it,.ref f,.ref S],[(Str.ofString "default",.none)]⟩) R s:=by
 have hname:(toString "min"++toString ".loop":String)="min.loop":=by decide
 intro r
 induction r with
 | zero=>
  intro j ob H s oI hr' hj I hit hs hf hS hbest hob;have J:Inv X pins σ H s:=I.pins_of fun p hp=>I.pin p (List.mem_append_right _ (List.mem_cons_of_mem _ hp));obtain⟨_,p2,_⟩:=I.pin (it,oI) (List.mem_append_right _ List.mem_cons_self);obtain⟨its,n,rv,eS,_⟩:=I.lst hS;obtain⟨vs,nl,rl,el,zl⟩:=I.lst (hs l _ hl0);have hL:s.heap.IsList l vs.toArray:=⟨_,el,rfl,nl,rfl⟩;have hlen:vs.length=ns.length:=by rw[←rl.length,List.length_map]
  have hli:l≠it:=fun z=>by rw[z] at hl0; have:=hs it _ hl0; rw[p2] at this; cases this
  have W:=Walks.list (prog:=X.prog) (w:=X.w) (A:=X.A.in1) hr.hd it l hli vs.toArray;refine codeAny_builtin PySem.F.entry_min_loop ?_;rw[Around.under_plainId PySem.F.plain_min_loop _];show wpAny _ X.A.in1 (seqItems? (.ref S)>>=_) _ _ _;refine wpAny_bind (wpAny_seqItems eS rfl ?_);show wpAny _ X.A.in1 (tryCatch (pyNext (.ref it)) _>>=_) _ _ _;refine wpAny_bind (wpAny_tryCatch (W.done _ _ _ ⟨by rw[List.size_toArray,hlen,show ns.length=j by omega]; exact hit,hL⟩ fun h' tk' hk'=>?_));have J':Inv X pins σ H {s with heap:=h',toks:=tk'}:=J.turned (fun b o hb' e=>hk' b o (by simpa using hb') e) p2 i4 (.inr i1) i2 i3;have hall:ns.take j=ns:=List.take_of_length_le (by omega);rw[hall] at hbest;cases ob with
  | none=>
   cases rv
   have hnil:ns=[]:=by
    cases ns with
    | nil=>rfl
    | cons a b=>obtain⟨_,e,_⟩:=hbest a List.mem_cons_self; cases e
   show wpAny _ X.A.in1 (do rule _; ret _) _ _ _;refine wpAny_bind (wpAny_rule (wpAny_pure ?_));exact fin none H _ .none J' hs (fun _=>hnil) (fun b e=>nomatch e) rfl
  | some b=>
   obtain⟨u1,u2,rfl,⟨t1,rfl⟩,⟨t2,rfl⟩⟩:=wO rv;have eS':=hk' S _ (by simpa using fun z:S=it=>by rw[z,p2] at hS; cases hS) eS;show wpAny _ X.A.in1 (updateSeq S (fun _=>#[])>>=_) _ _ _;refine wpAny_bind (wpAny_updateSeq eS' rfl (wpAny_bind (wpAny_letGo (wpAny_pure ?_))));have J2:=J'.lset (f:=fun _=>#[]) (its':=[]) (ys:=[]) (t':=tk') hS eS' rfl .nil (Nat.zero_le _);refine fin (some b) _ _ (.int b t1) J2 (fun a o e=>?_) (fun z=>nomatch z) (fun b' e=>?_) ⟨t1,rfl⟩
   ·rw[zh (zi e hS0)]; exact hs a o e
   ·cases e
    refine⟨hob b rfl,fun i hi=>?_⟩;obtain⟨b',e,hle⟩:=hbest i hi;cases e
    exact hle
 | succ r ih=>
  intro j ob H s oI hr' hj I hit hs hf hS hbest hob;have J:Inv X pins σ H s:=I.pins_of fun p hp=>I.pin p (List.mem_append_right _ (List.mem_cons_of_mem _ hp));obtain⟨_,p2,_⟩:=I.pin (it,oI) (List.mem_append_right _ List.mem_cons_self);obtain⟨its,n,rv,eS,_⟩:=I.lst hS;obtain⟨vs,nl,rl,el,zl⟩:=I.lst (hs l _ hl0);have hL:s.heap.IsList l vs.toArray:=⟨_,el,rfl,nl,rfl⟩;have hlen:vs.length=ns.length:=by rw[←rl.length,List.length_map]
  have hli:l≠it:=fun z=>by rw[z] at hl0; have:=hs it _ hl0; rw[p2] at this; cases this
  have hSi:S≠it:=fun z=>by rw[z,p2] at hS; cases hS
  have W:=Walks.list (prog:=X.prog) (w:=X.w) (A:=X.A.in1) hr.hd it l hli vs.toArray;refine codeAny_builtin PySem.F.entry_min_loop ?_;rw[Around.under_plainId PySem.F.plain_min_loop _];show wpAny _ X.A.in1 (seqItems? (.ref S)>>=_) _ _ _;refine wpAny_bind (wpAny_seqItems eS rfl ?_);show wpAny _ X.A.in1 (tryCatch (pyNext (.ref it)) _>>=_) _ _ _;refine wpAny_bind (wpAny_tryCatch (W.item j _ _ _ (by rw[List.size_toArray,hlen]; omega) ⟨hit,hL⟩ fun x h' tk' hP hst' hk'=>?_));have hj2:j<ns.length:=by omega
  obtain⟨i,hi⟩: ∃i,ns[j]? =some i:=⟨_,List.getElem?_eq_getElem hj2⟩;have hx:vs[j]? =some x:=by simpa using hP
  obtain⟨x',hx',rx⟩:=rl.get (i:=j) (x:= .int i) (by rw[List.getElem?_map,hi]; rfl);rw[hx] at hx';cases hx'
  have him:i∈ns:=List.mem_of_getElem? hi;have htake:ns.take (j+1)=ns.take j++[i]:=by rw[List.take_add_one,hi]; rfl
  have J':Inv X pins σ H {s with heap:=h',toks:=tk'}:=J.turned (fun b o hb' e=>hk' b o (by simpa using hb') e) p2 i4 (.inr i1) i2 i3;obtain⟨oI',hoI',hoc,hod⟩:=id hst'.1;have I':Inv X ((it,oI')::pins) σ H {s with heap:=h',toks:=tk'}:=J'.pins_of fun p hp=>by
   rcases List.mem_cons.mp hp with rfl | hp
   ·exact⟨hoI',p2,i4,i5,fun v z=>by rw[hod] at z; cases z⟩
   ·exact J'.pin p (List.mem_append_right _ hp)
  show wpAny _ X.A.in1 (tryCatch (holding [x] (call (.ref f) [x])) _>>=_) _ _ _;refine wpAny_bind (wpAny_tryCatch (wpAny_holding (wpAny_mono (ZP (E:=fun _ _=>False) hr LS hix hb he I' hf rx (hte H hs i him)) (fun y s2 ⟨yv,H2,I2,ry,q2⟩=>?_) fun _ _ z=>z.elim)));obtain⟨rfl,rfl⟩:=q2;obtain⟨t3,rfl⟩:=ry;obtain⟨hoI2,_⟩:=I2.pin (it,oI') (List.mem_append_right _ List.mem_cons_self);have hit2:s2.heap.IsListIter it l (j+1):=⟨oI',hoI2,hoc,hod⟩;obtain⟨its2,n2,rv2,eS2,zz2⟩:=I2.lst hS;have hz2:its2.toArray.size≤sizeLine:=by rw[List.size_toArray,←rv2.length]; exact zz2
  obtain⟨t0,rfl⟩:=rx;have grow: ∀{b':Int} {H':Hp} {s':Shared},Inv X ((it,oI')::pins) σ H' s'→s'.heap.IsListIter it l (j+1)→Same H0 H'→x9 X ps body sc H' f→H' S=some (.lst (bsK kf (some b')))→b'∈ns→(∀i∈ns.take (j+1),kf b'≤kf i)→
    codeAny (model X.prog X.w) X.A (.builtin "min.loop" ⟨[.ref it,.ref f,.ref S],[(Str.ofString "default",.none)]⟩) R s':=fun {b' H' s'} I3 h3 hs3 hf3 hS3 hb3 hle3=>
   ih (j+1) (some b') H' s' oI' (by omega) (by omega) I3 h3 hs3 hf3 hS3 (fun i hi=>⟨b',rfl,hle3 i hi⟩) fun b e=>by cases e; exact hb3
  have put: ∀{tx ty:Tok},let s3:Shared:={s2 with heap:=s2.heap.update S (Obj.mapSeq fun _=>#[.int i tx,.int (kf i) ty])}
    Inv X ((it,oI')::pins) σ (upd H2 S (.lst (bsK kf (some i)))) s3∧s3.heap.IsListIter it l (j+1)∧Same H0 (upd H2 S (.lst (bsK kf (some i))))∧x9 X ps body sc (upd H2 S (.lst (bsK kf (some i)))) f:=fun {tx ty}=>by
   have I3:=I2.lset (f:=fun _=>#[Value.int i tx,.int (kf i) ty]) (its':=[Value.int i tx,.int (kf i) ty]) (ys:=bsK kf (some i)) (t':=s2.toks) hS eS2 rfl (.cons ⟨tx,rfl⟩ (.cons ⟨ty,rfl⟩ .nil)) (sz2);refine⟨I3,⟨oI',(Heap.get?_update_other s2.heap _ hSi).trans hoI2,hoc,hod⟩,fun a o e=>?_,?_⟩
   ·rw[zh (zi e hS0)]; exact hs a o e
   ·obtain⟨pm,c,ct,e1,e2⟩:=hf;refine⟨pm,c,ct,?_,?_⟩
    ·rw[zh (fun z=>by rw[z,hS] at e1; cases e1)]; exact e1
    ·rw[zh (fun z=>by rw[z,hS] at e2; cases e2)]; exact e2
  cases ob with
  | none=>
   cases rv
   have hj0:ns.take j=[]:=by
    cases e:ns.take j with
    | nil=>rfl
    | cons a b=>obtain⟨_,e',_⟩:=hbest a (by rw[e]; exact List.mem_cons_self); cases e'
   show wpAny _ X.A.in1 (updateSeq S (fun _=>#[.int i t0,.int (kf i) t3])>>=_) _ _ _;refine wpAny_bind (wpAny_updateSeq eS2 rfl ?_ hz2);rw[hname];obtain⟨a1,a2,a3,a4⟩:=put (tx:=t0) (ty:=t3);refine wpAny_pure ⟨plainId_quiet PySem.F.plain_min_loop _,grow a1 a2 a3 a4 zf him fun i' hi'=>?_⟩;rw[htake,hj0] at hi';have e:i'=i:=by simpa using hi'
   rw[e];exact Int.le_refl _
  | some b=>
   obtain⟨u1,u2,rfl,⟨t1,rfl⟩,⟨t2,rfl⟩⟩:=wO rv;show wpAny _ X.A.in1 (tryCatch (holding [.int i t0,.int (kf i) t3] (richCompare .Lt (.int (kf i) t3) (.int (kf b) t2)>>=_)) _>>=_) _ _ _;refine wpAny_bind (wpAny_tryCatch (wpAny_holding (wpAny_bind (min_lt ?_))));refine wpAny_bind (wpAny_holding (wpAny_truthy_bool ?_));refine wpAny_bind (wpAny_letGo (wpAny_pure ?_));by_cases hlt:kf i<kf b
   ·simp only[hlt,decide_true,if_true];refine wpAny_bind (wpAny_updateSeq eS2 rfl (wpAny_bind (wpAny_letGo ?_)) hz2);rw[hname];obtain⟨a1,a2,a3,a4⟩:=put (tx:=t0) (ty:=t3);refine wpAny_pure ⟨plainId_quiet PySem.F.plain_min_loop _,grow a1 a2 a3 a4 zf him fun i' hi'=>?_⟩;rw[htake] at hi';rcases List.mem_append.mp hi' with hi' | hi'
    ·obtain⟨b',e,hle⟩:=hbest i' hi';cases e
     omega
    ·have e:i'=i:=by simpa using hi'
     rw[e];exact Int.le_refl _
   ·simp only[hlt,decide_false,Bool.false_eq_true,if_false];refine wpAny_bind (wpAny_letGo ?_);rw[hname];refine wpAny_pure ⟨plainId_quiet PySem.F.plain_min_loop _,grow I2 hit2 hs hf hS (hob b rfl) fun i' hi'=>?_⟩;rw[htake] at hi';rcases List.mem_append.mp hi' with hi' | hi'
    ·obtain⟨b',e,hle⟩:=hbest i' hi';cases e
     exact hle
    ·have e:i'=i:=by simpa using hi'
     rw[e];omega
theorem args_minK(a v d:Value):argsOk "min" ⟨[a],[(Str.ofString "key",v),(Str.ofString "default",d)]⟩:=by unfold argsOk; kernel_rfl
def XO (X:Cx) (P:Addr) (ix:List Nat) (ta te:TE):TE:=fun σ H Q=>ta σ H fun x H1=> ∃(l:Addr) (ns:List Int) (kf:Int→Int),x= .ref l∧H1 l=some (.lst (ns.map V.int))∧TabAt H1 P (lamQ X)∧
 (∀H',SameB P H1 H'→ ∀i∈ns,te (some (.int i)::sub ix σ) H' (fun y H''=>H''=H'∧y= .int (kf i)))∧
 ∀H' ob,SameB P H1 H'→TabAt H' P (lamQ X)→(ob=none→ns=[])→(∀b,ob=some b→b∈ns∧ ∀i∈ns,kf b≤kf i)→Q (ob.elim V.non V.int) H'
theorem Zo(hr:Room k X.A)(L:LamOk X c P)(LS:LScope X.env.scope sc v F)(hix:ix.map (fun i=>X.N[i]?)=F.map some)
  (hb: ∀pm c ct u,bindArgs (PySem.W.kla_fn "<lambda>" (lamQ X) ps body sc (cloF X.env sc.names []) pm (.ref c) ct) ⟨[u],[]⟩=pure [(v,u)])
  (he: ∀cl L f cd A s3 H3 xe,PE (cxL X (v::F) sc cl L f cd A s3 H3 xe) body te) (ha:PE X e ta) (hm:X.mg "min"=none) (hg:Gl X "min":=by rfl) (hdef:defaultsOf ps X.env=([],[]):=by rfl)
  (hst:starEach [e] X.env=[(false,eval e X.env)]:=by rfl):
  PE X (.Call (.Name "min" p) [e] [⟨some "key",.Lambda ps body sc lp,kp⟩,⟨some "default",.Constant .none ck cp,kp'⟩] pos) (XO X P ix ta te):=by
 have hname:(toString "min"++toString ".loop":String)="min.loop":=by decide
 intro pins s σ H Q I h;refine wpAny_Call_Name_kw (xR I hg hm PyProof.Rows.boot_min ?_);refine PyProof.Rows.callWith_kw (e:=e) (rest:=[]) ?_ (by rw[hst]; rfl) (by rw[hst]; rfl);rw[show backTo pos (starEach [e] X.env)=(false,eval e X.env)::[] by rw[hst]; rfl];refine Calls.spliced_cons (thn (ha pins s σ H _ I h) fun u s1 ⟨x,H1,I1,r1,q1⟩=>Calls.spliced_nil ?_);obtain⟨l,ns,kf,rfl,hl,hT,hte,hQ⟩:=q1;cases r1
 have hk:PK X [⟨some "key",.Lambda ps body sc lp,kp⟩,⟨some "default",.Constant .none ck cp,kp'⟩] (y0 (tLam X ps body sc P) (y0 (tC .non) tNil)):=vf (Xf L LS.fr hdef) (vf xO Xc);refine thn (hk pos pins s1 σ H1 (fun zs H2=> ∃f,zs=[.ref f,.non]∧SameB P H1 H2∧TabAt H2 P (lamQ X)∧x9 X ps body sc H2 f) I1 ⟨hT,fun f H2 h1 h2 h3 _=>⟨f,rfl,h1,h2,h3⟩⟩) fun ws s2 ⟨zs,H2,I2,rz,f,ez,k12,hT2,hf2⟩=>?_;subst ez;obtain⟨w1,w2,rfl,rfl,rfl⟩:=wO rz;show wpAny _ X.A (call (.builtin "min") [.ref l] [(Str.ofString "key",.ref f),(Str.ofString "default",.none)]) _ _ s2;have hlP:l≠P:=fun z=>by obtain⟨tb,e,_⟩:=hT; rw[z,e] at hl; cases hl
 have hl2:=k12 l _ hlP hl;obtain⟨its,nl,rl,el,zl⟩:=I2.lst hl2;have hL:s2.heap.IsList l its.toArray:=⟨_,el,rfl,nl,rfl⟩;refine PyProof.Rows.kmk_tree PySem.F.kind_min PySem.F.plain_min PySem.F.entry_min (args_minK _ _ _) ?_;show wpAny _ X.A.in1 (Builtin.Builtins.bindParams "min" ["key","default"] 0 ⟨[],[(Str.ofString "key",.ref f),(Str.ofString "default",.none)]⟩>>=_) _ _ s2;refine wpAny_bind (wpAny_of_eq (show Builtin.Builtins.bindParams "min" ["key","default"] 0 ⟨[],[(Str.ofString "key",.ref f),(Str.ofString "default",.none)]⟩=pure [some (.ref f),some .none] from rfl) ?_);refine wpAny_bind (wpAny_pure ?_);refine wpAny_bind (wpAny_pyIter_list hL ?_);refine wpAny_bind (wpAny_newList ?_ (Nat.zero_le _));rw[hname];have I3:Inv X pins σ H2 {s2 with heap:=s2.heap.push {cls:= .type "list_iterator",data:= .fields #[.ref l,.int 0 0]}}:=I2.kept (t':=s2.toks) fun b o e=>Heap.get?_push_of_some _ e;have hn:H2 s2.heap.objs.size=none:=I2.fresh;have I4:Inv X ((s2.heap.objs.size,{cls:= .type "list_iterator",data:= .fields #[.ref l,.int 0 0]})::pins) σ H2 {s2 with heap:=s2.heap.push {cls:= .type "list_iterator",data:= .fields #[.ref l,.int 0 0]}}:=I3.pins_of fun p hp=>by
  rcases List.mem_cons.mp hp with rfl | hp
  ·exact⟨Heap.get?_push_size _ rfl,hn,Nat.ne_of_gt I2.lt,I2.nofs (Nat.le_refl _),fun v z=>by cases z⟩
  ·exact I3.pin p (List.mem_append_right _ hp)
 have I5:=I4.lnew (t':=s2.toks) (its:=[]) (ys:=[]) .nil (Nat.zero_le _);have hS0:=I3.fresh;refine wpAny_pure ⟨plainId_quiet PySem.F.plain_min_loop _,minK_loop (H0:=H2) (ns:=ns) (kf:=kf) (l:=l) (f:=f) hr LS hix hb he (fun H' k2 i hi=>hte H' (k12.trans fun a o _ e=>k2 a o e) i hi) hl2 hS0
  (it:=s2.heap.objs.size) I2.sz (fun x c e z=>?_) (fun p hp z=>?_) (Nat.ne_of_gt I2.lt) (I2.nofs (Nat.le_refl _)) (fun ob H' s' u I' k' h1 h2 ru=>?_) _ 0 none _ _ _ rfl (Nat.zero_le _) I5 ⟨_,Heap.get?_push_of_some _ (Heap.get?_push_size _ rfl),rfl,rfl⟩ (fun a o e=>by rw[zh (zi e hS0)]; exact e) ?_ zf (fun i hi=>by simp at hi) (fun b z=>nomatch z)⟩
 ·obtain⟨v',o,ho,_⟩:=I2.cell x c e;exact absurd (Heap.lt_size ho) (by rw[z]; exact Nat.lt_irrefl _)
 ·exact absurd (Heap.lt_size (I2.pin p hp).1) (by rw[z]; exact Nat.lt_irrefl _)
 ·exact⟨_,H',I',ru,hQ H' ob (k12.trans fun a o _ e=>k' a o e) (hT2.same k') h1 h2⟩
 ·obtain⟨pm,c,ct,e1,e2⟩:=hf2;exact⟨pm,c,ct,by rw[zh (zi e1 hS0)]; exact e1,by rw[zh (zi e2 hS0)]; exact e2⟩
theorem max_lt{Q:Value→Shared→Prop}{E:Value→Shared→Prop}(h:Q (.bool (decide (i>j))) s):wpAny (model prog w) A (richCompare .Gt (.int i t) (.int j u)) Q E s:=
 CmpOf.ints_gt (prog:=prog) (w:=w) (A:=A) (P:=fun n v=> ∃t,v= .int ([i,j].getD n 0) t) (fun n=>[i,j].getD n 0) (fun _ _ z=>z) 0 1 _ _ s Q E ⟨t,rfl⟩ ⟨u,rfl⟩ h
theorem maxK_loop(hr:Room k X.A)(LS:LScope X.env.scope sc v F)(hix:ix.map (fun i=>X.N[i]?)=F.map some)
  (hb: ∀pm c ct u,bindArgs (PySem.W.kla_fn "<lambda>" (lamQ X) ps body sc (cloF X.env sc.names []) pm (.ref c) ct) ⟨[u],[]⟩=pure [(v,u)])
  (he: ∀cl L f cd A s3 H3 xe,PE (cxL X (v::F) sc cl L f cd A s3 H3 xe) body te)
  (hte: ∀H',Same H0 H'→ ∀i∈ns,te (some (.int i)::sub ix σ) H' (fun y H''=>H''=H'∧y= .int (kf i)))
  (hl0:H0 l=some (.lst (ns.map V.int))) (hS0:H0 S=none)
  (i1:X.s₀.heap.objs.size≤it) (i2: ∀x c,X.env.cells.lookup x=some c→c≠it) (i3: ∀p∈X.pn++pins,p.1≠it) (i4:it≠X.env.locals) (i5:it∉X.fs)
  (fin: ∀ob H' s' u,Inv X pins σ H' s'→Same H0 H'→(ob=none→ns=[])→(∀b,ob=some b→b∈ns∧ ∀i∈ns,kf i≤kf b)→RelV (ob.elim V.non V.int) u→R (.ok (.ret u)) s'):
  ∀(r j:Nat) (ob:Option Int) (H:Hp) (s:Shared) (oI:Obj),ns.length-j=r→j≤ns.length→Inv X ((it,oI)::pins) σ H s→s.heap.IsListIter it l j→Same H0 H→x9 X ps body sc H f→H S=some (.lst (bsK kf ob))→
   (∀i∈ns.take j,∃b,ob=some b∧kf i≤kf b)→(∀b,ob=some b→b∈ns)→
   codeAny (model X.prog X.w) X.A (.builtin "max.loop" ⟨[.ref it,.ref f,.ref S],[(Str.ofString "default",.none)]⟩) R s:=by
 have hname:(toString "max"++toString ".loop":String)="max.loop":=by decide
 intro r
 induction r with
 | zero=>
  intro j ob H s oI hr' hj I hit hs hf hS hbest hob;have J:Inv X pins σ H s:=I.pins_of fun p hp=>I.pin p (List.mem_append_right _ (List.mem_cons_of_mem _ hp));obtain⟨_,p2,_⟩:=I.pin (it,oI) (List.mem_append_right _ List.mem_cons_self);obtain⟨its,n,rv,eS,_⟩:=I.lst hS;obtain⟨vs,nl,rl,el,zl⟩:=I.lst (hs l _ hl0);have hL:s.heap.IsList l vs.toArray:=⟨_,el,rfl,nl,rfl⟩;have hlen:vs.length=ns.length:=by rw[←rl.length,List.length_map]
  have hli:l≠it:=fun z=>by rw[z] at hl0; have:=hs it _ hl0; rw[p2] at this; cases this
  have W:=Walks.list (prog:=X.prog) (w:=X.w) (A:=X.A.in1) hr.hd it l hli vs.toArray;refine codeAny_builtin PySem.F.entry_max_loop ?_;rw[Around.under_plainId PySem.F.plain_max_loop _];show wpAny _ X.A.in1 (seqItems? (.ref S)>>=_) _ _ _;refine wpAny_bind (wpAny_seqItems eS rfl ?_);show wpAny _ X.A.in1 (tryCatch (pyNext (.ref it)) _>>=_) _ _ _;refine wpAny_bind (wpAny_tryCatch (W.done _ _ _ ⟨by rw[List.size_toArray,hlen,show ns.length=j by omega]; exact hit,hL⟩ fun h' tk' hk'=>?_));have J':Inv X pins σ H {s with heap:=h',toks:=tk'}:=J.turned (fun b o hb' e=>hk' b o (by simpa using hb') e) p2 i4 (.inr i1) i2 i3;have hall:ns.take j=ns:=List.take_of_length_le (by omega);rw[hall] at hbest;cases ob with
  | none=>
   cases rv
   have hnil:ns=[]:=by
    cases ns with
    | nil=>rfl
    | cons a b=>obtain⟨_,e,_⟩:=hbest a List.mem_cons_self; cases e
   show wpAny _ X.A.in1 (do rule _; ret _) _ _ _;refine wpAny_bind (wpAny_rule (wpAny_pure ?_));exact fin none H _ .none J' hs (fun _=>hnil) (fun b e=>nomatch e) rfl
  | some b=>
   obtain⟨u1,u2,rfl,⟨t1,rfl⟩,⟨t2,rfl⟩⟩:=wO rv;have eS':=hk' S _ (by simpa using fun z:S=it=>by rw[z,p2] at hS; cases hS) eS;show wpAny _ X.A.in1 (updateSeq S (fun _=>#[])>>=_) _ _ _;refine wpAny_bind (wpAny_updateSeq eS' rfl (wpAny_bind (wpAny_letGo (wpAny_pure ?_))));have J2:=J'.lset (f:=fun _=>#[]) (its':=[]) (ys:=[]) (t':=tk') hS eS' rfl .nil (Nat.zero_le _);refine fin (some b) _ _ (.int b t1) J2 (fun a o e=>?_) (fun z=>nomatch z) (fun b' e=>?_) ⟨t1,rfl⟩
   ·rw[zh (zi e hS0)]; exact hs a o e
   ·cases e
    refine⟨hob b rfl,fun i hi=>?_⟩;obtain⟨b',e,hle⟩:=hbest i hi;cases e
    exact hle
 | succ r ih=>
  intro j ob H s oI hr' hj I hit hs hf hS hbest hob;have J:Inv X pins σ H s:=I.pins_of fun p hp=>I.pin p (List.mem_append_right _ (List.mem_cons_of_mem _ hp));obtain⟨_,p2,_⟩:=I.pin (it,oI) (List.mem_append_right _ List.mem_cons_self);obtain⟨its,n,rv,eS,_⟩:=I.lst hS;obtain⟨vs,nl,rl,el,zl⟩:=I.lst (hs l _ hl0);have hL:s.heap.IsList l vs.toArray:=⟨_,el,rfl,nl,rfl⟩;have hlen:vs.length=ns.length:=by rw[←rl.length,List.length_map]
  have hli:l≠it:=fun z=>by rw[z] at hl0; have:=hs it _ hl0; rw[p2] at this; cases this
  have hSi:S≠it:=fun z=>by rw[z,p2] at hS; cases hS
  have W:=Walks.list (prog:=X.prog) (w:=X.w) (A:=X.A.in1) hr.hd it l hli vs.toArray;refine codeAny_builtin PySem.F.entry_max_loop ?_;rw[Around.under_plainId PySem.F.plain_max_loop _];show wpAny _ X.A.in1 (seqItems? (.ref S)>>=_) _ _ _;refine wpAny_bind (wpAny_seqItems eS rfl ?_);show wpAny _ X.A.in1 (tryCatch (pyNext (.ref it)) _>>=_) _ _ _;refine wpAny_bind (wpAny_tryCatch (W.item j _ _ _ (by rw[List.size_toArray,hlen]; omega) ⟨hit,hL⟩ fun x h' tk' hP hst' hk'=>?_));have hj2:j<ns.length:=by omega
  obtain⟨i,hi⟩: ∃i,ns[j]? =some i:=⟨_,List.getElem?_eq_getElem hj2⟩;have hx:vs[j]? =some x:=by simpa using hP
  obtain⟨x',hx',rx⟩:=rl.get (i:=j) (x:= .int i) (by rw[List.getElem?_map,hi]; rfl);rw[hx] at hx';cases hx'
  have him:i∈ns:=List.mem_of_getElem? hi;have htake:ns.take (j+1)=ns.take j++[i]:=by rw[List.take_add_one,hi]; rfl
  have J':Inv X pins σ H {s with heap:=h',toks:=tk'}:=J.turned (fun b o hb' e=>hk' b o (by simpa using hb') e) p2 i4 (.inr i1) i2 i3;obtain⟨oI',hoI',hoc,hod⟩:=id hst'.1;have I':Inv X ((it,oI')::pins) σ H {s with heap:=h',toks:=tk'}:=J'.pins_of fun p hp=>by
   rcases List.mem_cons.mp hp with rfl | hp
   ·exact⟨hoI',p2,i4,i5,fun v z=>by rw[hod] at z; cases z⟩
   ·exact J'.pin p (List.mem_append_right _ hp)
  show wpAny _ X.A.in1 (tryCatch (holding [x] (call (.ref f) [x])) _>>=_) _ _ _;refine wpAny_bind (wpAny_tryCatch (wpAny_holding (wpAny_mono (ZP (E:=fun _ _=>False) hr LS hix hb he I' hf rx (hte H hs i him)) (fun y s2 ⟨yv,H2,I2,ry,q2⟩=>?_) fun _ _ z=>z.elim)));obtain⟨rfl,rfl⟩:=q2;obtain⟨t3,rfl⟩:=ry;obtain⟨hoI2,_⟩:=I2.pin (it,oI') (List.mem_append_right _ List.mem_cons_self);have hit2:s2.heap.IsListIter it l (j+1):=⟨oI',hoI2,hoc,hod⟩;obtain⟨its2,n2,rv2,eS2,zz2⟩:=I2.lst hS;have hz2:its2.toArray.size≤sizeLine:=by rw[List.size_toArray,←rv2.length]; exact zz2
  obtain⟨t0,rfl⟩:=rx;have grow: ∀{b':Int} {H':Hp} {s':Shared},Inv X ((it,oI')::pins) σ H' s'→s'.heap.IsListIter it l (j+1)→Same H0 H'→x9 X ps body sc H' f→H' S=some (.lst (bsK kf (some b')))→b'∈ns→(∀i∈ns.take (j+1),kf i≤kf b')→
    codeAny (model X.prog X.w) X.A (.builtin "max.loop" ⟨[.ref it,.ref f,.ref S],[(Str.ofString "default",.none)]⟩) R s':=fun {b' H' s'} I3 h3 hs3 hf3 hS3 hb3 hle3=>
   ih (j+1) (some b') H' s' oI' (by omega) (by omega) I3 h3 hs3 hf3 hS3 (fun i hi=>⟨b',rfl,hle3 i hi⟩) fun b e=>by cases e; exact hb3
  have put: ∀{tx ty:Tok},let s3:Shared:={s2 with heap:=s2.heap.update S (Obj.mapSeq fun _=>#[.int i tx,.int (kf i) ty])}
    Inv X ((it,oI')::pins) σ (upd H2 S (.lst (bsK kf (some i)))) s3∧s3.heap.IsListIter it l (j+1)∧Same H0 (upd H2 S (.lst (bsK kf (some i))))∧x9 X ps body sc (upd H2 S (.lst (bsK kf (some i)))) f:=fun {tx ty}=>by
   have I3:=I2.lset (f:=fun _=>#[Value.int i tx,.int (kf i) ty]) (its':=[Value.int i tx,.int (kf i) ty]) (ys:=bsK kf (some i)) (t':=s2.toks) hS eS2 rfl (.cons ⟨tx,rfl⟩ (.cons ⟨ty,rfl⟩ .nil)) (sz2);refine⟨I3,⟨oI',(Heap.get?_update_other s2.heap _ hSi).trans hoI2,hoc,hod⟩,fun a o e=>?_,?_⟩
   ·rw[zh (zi e hS0)]; exact hs a o e
   ·obtain⟨pm,c,ct,e1,e2⟩:=hf;refine⟨pm,c,ct,?_,?_⟩
    ·rw[zh (fun z=>by rw[z,hS] at e1; cases e1)]; exact e1
    ·rw[zh (fun z=>by rw[z,hS] at e2; cases e2)]; exact e2
  cases ob with
  | none=>
   cases rv
   have hj0:ns.take j=[]:=by
    cases e:ns.take j with
    | nil=>rfl
    | cons a b=>obtain⟨_,e',_⟩:=hbest a (by rw[e]; exact List.mem_cons_self); cases e'
   show wpAny _ X.A.in1 (updateSeq S (fun _=>#[.int i t0,.int (kf i) t3])>>=_) _ _ _;refine wpAny_bind (wpAny_updateSeq eS2 rfl ?_ hz2);rw[hname];obtain⟨a1,a2,a3,a4⟩:=put (tx:=t0) (ty:=t3);refine wpAny_pure ⟨plainId_quiet PySem.F.plain_max_loop _,grow a1 a2 a3 a4 zf him fun i' hi'=>?_⟩;rw[htake,hj0] at hi';have e:i'=i:=by simpa using hi'
   rw[e];exact Int.le_refl _
  | some b=>
   obtain⟨u1,u2,rfl,⟨t1,rfl⟩,⟨t2,rfl⟩⟩:=wO rv;show wpAny _ X.A.in1 (tryCatch (holding [.int i t0,.int (kf i) t3] (richCompare .Gt (.int (kf i) t3) (.int (kf b) t2)>>=_)) _>>=_) _ _ _;refine wpAny_bind (wpAny_tryCatch (wpAny_holding (wpAny_bind (max_lt ?_))));refine wpAny_bind (wpAny_holding (wpAny_truthy_bool ?_));refine wpAny_bind (wpAny_letGo (wpAny_pure ?_));by_cases hlt:kf i>kf b
   ·simp only[hlt,decide_true,if_true];refine wpAny_bind (wpAny_updateSeq eS2 rfl (wpAny_bind (wpAny_letGo ?_)) hz2);rw[hname];obtain⟨a1,a2,a3,a4⟩:=put (tx:=t0) (ty:=t3);refine wpAny_pure ⟨plainId_quiet PySem.F.plain_max_loop _,grow a1 a2 a3 a4 zf him fun i' hi'=>?_⟩;rw[htake] at hi';rcases List.mem_append.mp hi' with hi' | hi'
    ·obtain⟨b',e,hle⟩:=hbest i' hi';cases e
     omega
    ·have e:i'=i:=by simpa using hi'
     rw[e];exact Int.le_refl _
   ·simp only[hlt,decide_false,Bool.false_eq_true,if_false];refine wpAny_bind (wpAny_letGo ?_);rw[hname];refine wpAny_pure ⟨plainId_quiet PySem.F.plain_max_loop _,grow I2 hit2 hs hf hS (hob b rfl) fun i' hi'=>?_⟩;rw[htake] at hi';rcases List.mem_append.mp hi' with hi' | hi'
    ·obtain⟨b',e,hle⟩:=hbest i' hi';cases e
     exact hle
    ·have e:i'=i:=by simpa using hi'
     rw[e];omega
theorem args_maxK(a v d:Value):argsOk "max" ⟨[a],[(Str.ofString "key",v),(Str.ofString "default",d)]⟩:=by unfold argsOk; kernel_rfl
def XQ (X:Cx) (P:Addr) (ix:List Nat) (ta te:TE):TE:=fun σ H Q=>ta σ H fun x H1=> ∃(l:Addr) (ns:List Int) (kf:Int→Int),x= .ref l∧H1 l=some (.lst (ns.map V.int))∧TabAt H1 P (lamQ X)∧
 (∀H',SameB P H1 H'→ ∀i∈ns,te (some (.int i)::sub ix σ) H' (fun y H''=>H''=H'∧y= .int (kf i)))∧
 ∀H' ob,SameB P H1 H'→TabAt H' P (lamQ X)→(ob=none→ns=[])→(∀b,ob=some b→b∈ns∧ ∀i∈ns,kf i≤kf b)→Q (ob.elim V.non V.int) H'
theorem pe_maxK(hr:Room k X.A)(L:LamOk X c P)(LS:LScope X.env.scope sc v F)(hix:ix.map (fun i=>X.N[i]?)=F.map some)
  (hb: ∀pm c ct u,bindArgs (PySem.W.kla_fn "<lambda>" (lamQ X) ps body sc (cloF X.env sc.names []) pm (.ref c) ct) ⟨[u],[]⟩=pure [(v,u)])
  (he: ∀cl L f cd A s3 H3 xe,PE (cxL X (v::F) sc cl L f cd A s3 H3 xe) body te) (ha:PE X e ta) (hm:X.mg "max"=none) (hg:Gl X "max":=by rfl) (hdef:defaultsOf ps X.env=([],[]):=by rfl)
  (hst:starEach [e] X.env=[(false,eval e X.env)]:=by rfl):
  PE X (.Call (.Name "max" p) [e] [⟨some "key",.Lambda ps body sc lp,kp⟩,⟨some "default",.Constant .none ck cp,kp'⟩] pos) (XQ X P ix ta te):=by
 have hname:(toString "max"++toString ".loop":String)="max.loop":=by decide
 intro pins s σ H Q I h;refine wpAny_Call_Name_kw (xR I hg hm PyProof.Rows.boot_max ?_);refine PyProof.Rows.callWith_kw (e:=e) (rest:=[]) ?_ (by rw[hst]; rfl) (by rw[hst]; rfl);rw[show backTo pos (starEach [e] X.env)=(false,eval e X.env)::[] by rw[hst]; rfl];refine Calls.spliced_cons (thn (ha pins s σ H _ I h) fun u s1 ⟨x,H1,I1,r1,q1⟩=>Calls.spliced_nil ?_);obtain⟨l,ns,kf,rfl,hl,hT,hte,hQ⟩:=q1;cases r1
 have hk:PK X [⟨some "key",.Lambda ps body sc lp,kp⟩,⟨some "default",.Constant .none ck cp,kp'⟩] (y0 (tLam X ps body sc P) (y0 (tC .non) tNil)):=vf (Xf L LS.fr hdef) (vf xO Xc);refine thn (hk pos pins s1 σ H1 (fun zs H2=> ∃f,zs=[.ref f,.non]∧SameB P H1 H2∧TabAt H2 P (lamQ X)∧x9 X ps body sc H2 f) I1 ⟨hT,fun f H2 h1 h2 h3 _=>⟨f,rfl,h1,h2,h3⟩⟩) fun ws s2 ⟨zs,H2,I2,rz,f,ez,k12,hT2,hf2⟩=>?_;subst ez;obtain⟨w1,w2,rfl,rfl,rfl⟩:=wO rz;show wpAny _ X.A (call (.builtin "max") [.ref l] [(Str.ofString "key",.ref f),(Str.ofString "default",.none)]) _ _ s2;have hlP:l≠P:=fun z=>by obtain⟨tb,e,_⟩:=hT; rw[z,e] at hl; cases hl
 have hl2:=k12 l _ hlP hl;obtain⟨its,nl,rl,el,zl⟩:=I2.lst hl2;have hL:s2.heap.IsList l its.toArray:=⟨_,el,rfl,nl,rfl⟩;refine PyProof.Rows.kmk_tree PySem.F.kind_max PySem.F.plain_max PySem.F.entry_max (args_maxK _ _ _) ?_;show wpAny _ X.A.in1 (Builtin.Builtins.bindParams "max" ["key","default"] 0 ⟨[],[(Str.ofString "key",.ref f),(Str.ofString "default",.none)]⟩>>=_) _ _ s2;refine wpAny_bind (wpAny_of_eq (show Builtin.Builtins.bindParams "max" ["key","default"] 0 ⟨[],[(Str.ofString "key",.ref f),(Str.ofString "default",.none)]⟩=pure [some (.ref f),some .none] from rfl) ?_);refine wpAny_bind (wpAny_pure ?_);refine wpAny_bind (wpAny_pyIter_list hL ?_);refine wpAny_bind (wpAny_newList ?_ (Nat.zero_le _));rw[hname];have I3:Inv X pins σ H2 {s2 with heap:=s2.heap.push {cls:= .type "list_iterator",data:= .fields #[.ref l,.int 0 0]}}:=I2.kept (t':=s2.toks) fun b o e=>Heap.get?_push_of_some _ e;have hn:H2 s2.heap.objs.size=none:=I2.fresh;have I4:Inv X ((s2.heap.objs.size,{cls:= .type "list_iterator",data:= .fields #[.ref l,.int 0 0]})::pins) σ H2 {s2 with heap:=s2.heap.push {cls:= .type "list_iterator",data:= .fields #[.ref l,.int 0 0]}}:=I3.pins_of fun p hp=>by
  rcases List.mem_cons.mp hp with rfl | hp
  ·exact⟨Heap.get?_push_size _ rfl,hn,Nat.ne_of_gt I2.lt,I2.nofs (Nat.le_refl _),fun v z=>by cases z⟩
  ·exact I3.pin p (List.mem_append_right _ hp)
 have I5:=I4.lnew (t':=s2.toks) (its:=[]) (ys:=[]) .nil (Nat.zero_le _);have hS0:=I3.fresh;refine wpAny_pure ⟨plainId_quiet PySem.F.plain_max_loop _,maxK_loop (H0:=H2) (ns:=ns) (kf:=kf) (l:=l) (f:=f) hr LS hix hb he (fun H' k2 i hi=>hte H' (k12.trans fun a o _ e=>k2 a o e) i hi) hl2 hS0
  (it:=s2.heap.objs.size) I2.sz (fun x c e z=>?_) (fun p hp z=>?_) (Nat.ne_of_gt I2.lt) (I2.nofs (Nat.le_refl _)) (fun ob H' s' u I' k' h1 h2 ru=>?_) _ 0 none _ _ _ rfl (Nat.zero_le _) I5 ⟨_,Heap.get?_push_of_some _ (Heap.get?_push_size _ rfl),rfl,rfl⟩ (fun a o e=>by rw[zh (zi e hS0)]; exact e) ?_ zf (fun i hi=>by simp at hi) (fun b z=>nomatch z)⟩
 ·obtain⟨v',o,ho,_⟩:=I2.cell x c e;exact absurd (Heap.lt_size ho) (by rw[z]; exact Nat.lt_irrefl _)
 ·exact absurd (Heap.lt_size (I2.pin p hp).1) (by rw[z]; exact Nat.lt_irrefl _)
 ·exact⟨_,H',I',ru,hQ H' ob (k12.trans fun a o _ e=>k' a o e) (hT2.same k') h1 h2⟩
 ·obtain⟨pm,c,ct,e1,e2⟩:=hf2;exact⟨pm,c,ct,by rw[zh (zi e1 hS0)]; exact e1,by rw[zh (zi e2 hS0)]; exact e2⟩
end
mutual
inductive RdV (H:Hp):V→PyData→Prop
 | non:RdV H .non .none
 | bl (b:Bool):RdV H (.bl b) (.bool b)
 | int (i:Int):RdV H (.int i) (.int i)
 | str (x:Str):RdV H (.str x) (.str x)
 | lst {p:Addr} {xs:List V} {ds:List PyData}:H p=some (.lst xs)→RdVs H xs ds→RdV H (.ref p) (.list ds)
 | tup {p:Addr} {xs:List V} {ds:List PyData}:H p=some (.tup xs)→RdVs H xs ds→RdV H (.ref p) (.tuple ds)
 | ftup {p:Addr} {o:Obj} {xs:List V} {ds:List PyData}:H p=some (.frz o (.tup xs))→RdVs H xs ds→RdV H (.ref p) (.tuple ds)
inductive RdVs (H:Hp):List V→List PyData→Prop
 | nil:RdVs H [] []
 | cons {v:V} {d:PyData} {vs:List V} {ds:List PyData}:RdV H v d→RdVs H vs ds→RdVs H (v::vs) (d::ds)
end
section
variable {X:Cx} {pins:List (Addr×Obj)} {σ:St} {H:Hp} {s:Shared}
mutual
theorem RdV.reads(I:Inv X pins σ H s):RdV H v d→ ∀{u:Value},RelV v u→ ∃as,Reads s.heap u d as
 | .non,u,r=>by
  cases r
  exact⟨[],.none⟩
 | .bl b,u,r=>by
  cases r
  exact⟨[],.bool b⟩
 | .int i,u,r=>by
  obtain⟨t,rfl⟩:=r;exact⟨[],.int i t⟩
 | .str x,u,r=>by
  obtain⟨t,rfl⟩:=r;exact⟨[],.str x t⟩
 | .lst (p:=p) hp h,u,r=>by
  cases r
  obtain⟨its,n,rv,e,z⟩:=I.lst hp;obtain⟨as,q⟩:=RdVs.reads I h rv;exact⟨p::as,.list e rfl rfl (by simpa using q)⟩
 | .tup (p:=p) hp h,u,r=>by
  cases r
  obtain⟨z,its,rv,o,e,c,n,d⟩:=I.hok p _ hp;obtain⟨as,q⟩:=RdVs.reads I h rv;exact⟨as,.tuple e c d (by simpa using q)⟩
 | .ftup (p:=p) hp h,u,r=>by
  cases r
  obtain⟨_,z,its,rv,o,e,c,n,d⟩:=I.hok p _ hp;obtain⟨as,q⟩:=RdVs.reads I h rv;exact⟨as,.tuple e c d (by simpa using q)⟩
theorem RdVs.reads(I:Inv X pins σ H s):RdVs H vs ds→ ∀{us:List Value},Vals vs us→ ∃as,ReadsAll s.heap us ds as
 | .nil,us,r=>by
  cases r
  exact⟨[],.nil⟩
 | .cons h hs,us,r=>by
  cases r with
  | cons r1 r2=>
   obtain⟨as,q⟩:=RdV.reads I h r1;obtain⟨bs,q2⟩:=RdVs.reads I hs r2;exact⟨as++bs,.cons q q2⟩
end
end
theorem vv: ∀(ns:List Int),RdVs H (ns.map V.int) (ns.map PyData.int)
 | []=> .nil
 | n::ns=> .cons (.int n) (vv ns)
section
variable {X:Cx} {k:Nat}
def rEqD:R2:=fun x y H Q=> ∃dx dy,RdV H x dx∧RdV H y dy∧dx.canLay0=true∧dy.canLay0=true∧dx.depth≤60∧Q (.bl (PyData.eqv dx dy)) H
theorem op_eqD(hr:Room k X.A):OpR X (compareOp .Eq) rEqD:=by
 intro pins s σ H x y v u Q I rx ry h;obtain⟨dx,dy,hx,hy,cx,cy,hd,q⟩:=h;obtain⟨as,ra⟩:=hx.reads I rx;obtain⟨bs,rb⟩:=hy.reads I ry;have:=hr.units;exact SeqAt.compareEq_reads ra rb cx cy (by omega) ⟨.bl _,H,I,rfl,q⟩
end
theorem vH: ∀(ns ms:List Int),PyData.eqvAll (ns.map PyData.int) (ms.map PyData.int)=decide (ns=ms)
 | [],[]=>by simp only[List.map_nil,PyData.eqvAll,decide_true]
 | [],m::ms=>by simp[PyData.eqvAll]
 | n::ns,[]=>by simp[PyData.eqvAll]
 | n::ns,m::ms=>by
  simp only[List.map_cons,PyData.eqvAll,PyData.eqv,vH ns ms];by_cases h:n=m
  ·subst h; simp
  ·simp[h]
theorem xS: ∀(ns:List Int),PyData.canLayAll0 (ns.map PyData.int)=true
 | []=>rfl
 | n::ns=>by simp[PyData.canLayAll0,PyData.canLay0,xS ns]
theorem we: ∀(ns:List Int),PyData.depthAll (ns.map PyData.int)=0
 | []=>rfl
 | n::ns=>by simp[PyData.depthAll,PyData.depth,we ns]
theorem w_eqL{ns ms:List Int}(hp:H p=some (.lst (ns.map V.int)))(hq:H q=some (.lst (ms.map V.int)))(h:Q (.bl (decide (ns=ms))) H):rEqD (.ref p) (.ref q) H Q:=by
 refine⟨_,_,.lst hp (vv ns),.lst hq (vv ms),xS ns,xS ms,?_,?_⟩
 ·show PyData.depthAll _+1≤60;rw[we];decide
 ·show Q (.bl (PyData.eqvAll _ _)) H;rw[vH];exact h
section
variable {X:Cx}
theorem Yn: ∀{xs:List V} {us:List Value},xs.length=us.length→(∀(j:Nat) (x:V) (u:Value),xs[j]? =some x→us[j]? =some u→RelV x u)→Vals xs us
 | [],[],_,_=> .nil
 | [],v::vs,h,_=>absurd h (by simp)
 | v::vs,[],h,_=>absurd h (by simp)
 | x::xs,u::us,h,k=> .cons (k 0 x u rfl rfl) (Yn (by simpa using h) fun j y v e1 e2=>k (j+1) y v (by simpa using e1) (by simpa using e2))
def rRange:List V→Hp→VK→Prop:=fun xs H Q=> ∃j:Int,xs=[.int j]∧ ∀r,H r=none→Q (.ref r) (upd H r (.rng 0 j))
theorem vd:yn X (.type "range") rRange:=by
 intro pins s σ H xs us Q I r h;obtain⟨j,rfl,q⟩:=h;obtain⟨u,rfl,ru⟩:=r.one;obtain⟨t,rfl⟩:=ru;refine call_range_1 ⟨.ref _,_,I.laid (fun b o e=>Heap.get?_push_of_some _ e) (Nat.le_refl _) ?_,rfl,q _ I.fresh⟩;exact⟨_,_,_,Heap.get?_push_size _ rfl⟩
def rListR:List V→Hp→VK→Prop:=fun xs H Q=> ∃(p:Addr) (n:Nat),xs=[.ref p]∧H p=some (.rng 0 (n:Int))∧n≤1000∧ ∀l,H l=none→Q (.ref l) (upd H l (.lst ((List.range n).map fun(i:Nat)=>V.int (i:Int))))
theorem wL(hc:X.calm=true):yn X (.type "list") rListR:=by
 intro pins s σ H xs us Q I r h;obtain⟨p,n,rfl,hp,hn,q⟩:=h;obtain⟨u,rfl,ru⟩:=r.one;cases ru
 obtain⟨t,u,v,e⟩:=I.hok p _ hp;refine call_list_range (n:=n) (I.ok.hd hc) e (small_one (by omega) (by omega) (by omega) (by omega)) (by rw[rangeSize_one]; split<;>omega) (by omega) fun h' tk acc' c' hk hS hacc=>?_;refine⟨.ref _,_,I.laid (t':=tk) hk (Nat.le_refl _) ?_,rfl,q _ I.fresh⟩;obtain⟨hsz,hit⟩:=hacc;refine⟨by rw[List.length_map,List.length_range]; exact Nat.le_of_lt (zu hn),acc'.toList,c',Yn (by simp[hsz]) fun j x u ex eu=>?_,hS⟩;have hj:j<n:=by
  have:=(List.getElem?_eq_some_iff.mp ex).1;simpa using this
 rw[List.getElem?_map,List.getElem?_range hj] at ex;have ex':V.int (j:Int)=x:=Option.some.inj ex;subst ex';obtain⟨t,ht⟩:=hit j u (by simpa using eu);exact⟨t,by rw[ht]; congr 1; omega⟩
theorem YK: ∀{ns:List Int} {us:List Value},Vals (ns.map V.int) us→ ∃xs:List (Int×Tok),us=xs.map (fun q=>Value.int q.1 q.2)∧xs.map (·.1)=ns
 | [],us,r=>by
  cases r
  exact⟨[],rfl,rfl⟩
 | n::ns,us,r=>by
  cases r with
  | cons r1 r2=>
   obtain⟨t,rfl⟩:=r1;obtain⟨xs,rfl,e⟩:=YK r2;exact⟨(n,t)::xs,rfl,by simp[e]⟩
def rSum:List V→Hp→VK→Prop:=fun xs H Q=> ∃(p:Addr) (ns:List Int),xs=[.ref p]∧H p=some (.lst (ns.map V.int))∧Q (.int ns.sum) H
theorem call_sum(hc:X.calm=true):yn X (.builtin "sum") rSum:=by
 intro pins s σ H xs us Q I r h;obtain⟨p,ns,rfl,hp,q⟩:=h;obtain⟨u,rfl,ru⟩:=r.one;cases ru
 obtain⟨its,n,rv,e,z⟩:=I.lst hp;obtain⟨ys,rfl,hy⟩:=YK rv;have hl:s.heap.IsList p (intItems ys.toArray):=⟨_,e,rfl,n,by simp[intItems]⟩;refine sum_intListG (I.ok.hd hc) hl fun h' tk t' hk=>⟨.int ns.sum,H,I.kept hk,⟨t',?_⟩,q⟩;congr 1;have hlen:ys.length=ns.length:=by rw[←hy,List.length_map]
 rw[preSum_eq];simp[hy,hlen]
end
section
variable {prog:Program} {w:World} {A:Around} {E:Value→Shared→Prop} {s:Shared}
theorem wc{Q:Value→Shared→Prop}(J:s.heap.IsTupleIter j t i)(T:s.heap.IsTuple t its)(e:its[i]? =some v)
  (k: ∀h',h'.IsTupleIter j t (i+1)→Heap.SameBut j s.heap h'→Q v {s with heap:=h'}):wpAny (model prog w) A (Builtin.SmallTypes.nextOf (.ref j)) Q E s:=by
 obtain⟨o,ho,hc,hd⟩:=id J; obtain⟨ot,hot,_,n,hdt⟩:=T;unfold Builtin.SmallTypes.nextOf; refine wpAny_bind (wpAny_callSpecial?_slot (name:=Str.ofString "__next__") J.typeIs F.slot_tuple_iterator_next (wpAny_call_entry F.slot_tuple_iterator_next J.typeIs F.entry_tuple_iterator_next ?_ (F.args_tuple_iterator_next_1 _)));show wpAny _ _ (field (.ref j) 0>>=_) _ _ s; refine wpAny_bind (wpAny_field ho hd (x:= .ref t) rfl ?_);show wpAny _ _ (if (Value.ref t==Value.none)=true then _ else _) _ _ s; rw[if_neg (show¬((Value.ref t==Value.none)=true) from Bool.false_ne_true)];show wpAny _ _ (field (.ref j) 1>>=_) _ _ s; refine wpAny_bind (wpAny_field ho hd (x:= .int i 0) rfl ?_);show wpAny _ _ (seqItems? (.ref t)>>=_) _ _ s; refine wpAny_bind (wpAny_seqItems hot hdt ?_);simp only[Int.toNat_natCast,e];refine wpAny_bind (wpAny_setField ho hd (by simp) (wpAny_pure ⟨v,rfl,wpAny_pure (k _ ?_ (Heap.SameBut.update ..))⟩));exact⟨_,Heap.get?_update_self _ ho (Obj.isFreed_of_fields (Obj.data_mapFields hd _)),(Obj.cls_mapFields ..).trans hc,by rw[Obj.data_mapFields hd]; simp[rawInt]⟩
theorem vW{Q:Value→Shared→Prop}(hh:A.handled=none)(J:s.heap.IsTupleIter j t i)(T:s.heap.IsTuple t its)(e:its[i]? =none)
  (k: ∀h' x,Heap.ExtBut j s.heap h'→(∃o,h'.get? x=some o∧o.cls= .type "StopIteration")→E (.ref x) {s with heap:=h'}):wpAny (model prog w) A (Builtin.SmallTypes.nextOf (.ref j)) Q E s:=by
 obtain⟨o,ho,hc,hd⟩:=id J; obtain⟨ot,hot,_,n,hdt⟩:=T;unfold Builtin.SmallTypes.nextOf; refine wpAny_bind (wpAny_callSpecial?_slot (name:=Str.ofString "__next__") J.typeIs F.slot_tuple_iterator_next (wpAny_call_entry F.slot_tuple_iterator_next J.typeIs F.entry_tuple_iterator_next ?_ (F.args_tuple_iterator_next_1 _)));show wpAny _ _ (field (.ref j) 0>>=_) _ _ s; refine wpAny_bind (wpAny_field ho hd (x:= .ref t) rfl ?_);show wpAny _ _ (if (Value.ref t==Value.none)=true then _ else _) _ _ s; rw[if_neg (show¬((Value.ref t==Value.none)=true) from Bool.false_ne_true)];show wpAny _ _ (field (.ref j) 1>>=_) _ _ s; refine wpAny_bind (wpAny_field ho hd (x:= .int i 0) rfl ?_);show wpAny _ _ (seqItems? (.ref t)>>=_) _ _ s; refine wpAny_bind (wpAny_seqItems hot hdt ?_);simp only[Int.toNat_natCast,e]; refine wpAny_bind (wpAny_rule (wpAny_bind (wpAny_setField ho hd (by simp) ?_)));show wpAny _ _ (newExc (.type "StopIteration") []>>=_) _ _ _; refine wpAny_bind ?_; simp only[newExc,newTuple];refine wpAny_bind (wpAny_newObj_type ?_ (by size_fits)); refine wpAny_bind (m:=firstArgMember _ _) (wpAny_of_eq (a:=Value.none) (by first | rfl | (simp only[firstArgMember]; rfl)) ?_);refine wpAny_newObj_type ?_ (by size_fits); simp only[raiseNew]; refine wpAny_bind (wpAny_handled ?_)
 (first | rw[show A.in1.handled=none from hh] | rw[hh]); refine wpAny_bind (wpAny_pure (wpAny_throw ?_)); exact k _ _ (((Heap.SameBut.update ..).extBut.push _).push _) ⟨_,Heap.get?_push_size _ rfl,rfl⟩
end
section
variable {X:Cx} {pins:List (Addr×Obj)} {σ:St} {H:Hp} {s:Shared}
theorem Inv.turnNew{h':Heap}{tk:Nat}{ch:List Addr}{T:Addr}{xs:List V}{vals:List Value}(I:Inv X pins σ H s)(hf: ∀b∈ch,FpOk X pins H b)(k: ∀b o,b∉ch→s.heap.get? b=some o→h'.get? b=some o)(ht: ∀b∈ch,∃o,h'.get? b=some o)
  (hT:s.heap.objs.size≤T) (r:Vals xs vals) (hz:xs.length≤sizeLine) (hv:h'.IsTuple T vals.toArray):Inv X pins σ (upd H T (.tup xs)) {s with heap:=h',toks:=tk}:=by
 have hn:H T=none:=I.hok.fresh hT;have nT: ∀b o,s.heap.get? b=some o→b≠T:=fun b o e z=>absurd (Nat.lt_of_lt_of_le (Heap.lt_size e) (z▸hT)) (Nat.lt_irrefl _);have nc: ∀b u,H b=some u→b∉ch:=fun b u e z=>by rw[(hf b z).1] at e; cases e
 refine I.step (g':=s.gens) (d':=s.drawn) (ch:=ch) (fun b hb=>⟨(hf b hb).2.2.2.1,(hf b hb).2.1,(hf b hb).2.2.2.2.1,(hf b hb).2.2.2.2.2⟩) (fun b o _ _ hc e _=>k b o hc e) (fun b o _ _ hc e _=>⟨o.slots,k b o hc e⟩)
  (fun b o _ e n=>by rw[zh (nT b o e)]; exact n) (fun b o hc e=>⟨o,k b o hc e⟩) (fun b ys e=>by rw[zh (zi e hn)]; exact e) (fun b o u e=>by rw[zh (zi e hn)]; exact e)
  (fun b ps e=>⟨#[],by rw[zh (zi e hn),e]; simp⟩) (fun m hm=>?_) (fun b u e=>?_) I.bare
 ·obtain⟨o,es,ep,ho,q⟩:=hm;exact⟨o,es,ep,k _ o (fun z=>(hf _ z).2.1 rfl) ho,q⟩
 ·by_cases hb:b=T
  ·subst hb;rw[zf] at e;cases e
   exact⟨hz,vals,r,hv⟩
  ·rw[zh hb] at e;refine(I.hok b u e).stay (fun c v hc q=>k c v ?_ q) (fun c q=>by rw[zh (zi q hn)]; exact q) fun c ys q=>by rw[zh (zi q hn)]; exact q
   rcases hc with z | z
   ·rw[z]; exact nc b u e
   ·exact nc c _ z
theorem Inv.turnOnly{h':Heap}{tk:Nat}{ch:List Addr}(I:Inv X pins σ H s)(hf: ∀b∈ch,FpOk X pins H b)(k: ∀b o,b∉ch→s.heap.get? b=some o→h'.get? b=some o):Inv X pins σ H {s with heap:=h',toks:=tk}:=by
 have nc: ∀b u,H b=some u→b∉ch:=fun b u e z=>by rw[(hf b z).1] at e; cases e
 refine I.step (g':=s.gens) (d':=s.drawn) (ch:=ch) (fun b hb=>⟨(hf b hb).2.2.2.1,(hf b hb).2.1,(hf b hb).2.2.2.2.1,(hf b hb).2.2.2.2.2⟩) (fun b o _ _ hc e _=>k b o hc e) (fun b o _ _ hc e _=>⟨o.slots,k b o hc e⟩)
  (fun b o _ e n=>n) (fun b o hc e=>⟨o,k b o hc e⟩) (fun b ys e=>e) (fun b o u e=>e) (fun b ps e=>⟨#[],by rw[e]; simp⟩) (fun m hm=>?_) (fun b u e=>?_) I.bare
 ·obtain⟨o,es,ep,ho,q⟩:=hm;exact⟨o,es,ep,k _ o (fun z=>(hf _ z).2.1 rfl) ho,q⟩
 ·refine(I.hok b u e).stay (fun c v hc q=>k c v ?_ q) (fun c q=>q) fun c ys q=>q;rcases hc with z | z
  ·rw[z]; exact nc b u e
  ·exact nc c _ z
end
section
variable {prog:Program} {w:World} {A:Around} {E:Value→Shared→Prop} {s:Shared}
theorem tupX{h:Heap}(T:h.IsTuple t its)(x:Heap.ExtBut a h h')(n:t≠a):h'.IsTuple t its:=let ⟨o,e,r⟩:=T; ⟨o,x t o n e,r⟩
theorem tupJ{h:Heap}(J:h.IsTupleIter j t i)(x:Heap.ExtBut a h h')(n:j≠a):h'.IsTupleIter j t i:=J.at fun o e=>x j o n e
theorem zipT_item{z TI TO i1 i2 l1 l2:Addr}{k1 k2:Nat}{xs ys:Array Value}{x y a b:Value}{Q:Value→Shared→Prop}(D:ZipApart z TI TO i1 i2 l1 l2)(hz:IsZip s.heap z TI TO .none)(hTI:IsPair s.heap TI (.ref i1) (.ref i2))(hTO:IsPair s.heap TO a b)
  (h1:s.heap.IsTupleIter i1 l1 k1) (h2:s.heap.IsTupleIter i2 l2 k2) (hl1:s.heap.IsTuple l1 xs) (hl2:s.heap.IsTuple l2 ys) (hx:xs[k1]? =some x) (hy:ys[k2]? =some y)
  (hQ: ∀h',IsZip h' z TI TO (rawInt s.heap.objs.size)→IsPair h' TO x y→h'.IsTupleIter i1 l1 (k1+1)→h'.IsTupleIter i2 l2 (k2+1)→IsPair h' s.heap.objs.size x y→
   (∀d o,d≠z→d≠TO→d≠i1→d≠i2→s.heap.get? d=some o→h'.get? d=some o)→Q (.ref s.heap.objs.size) {s with heap:=h'}):
  wpAny (model prog w) A (Builtin.«zip.__next__» ⟨[.ref z],[]⟩) (fun f s'=> ∃v,f= .done (.ret v)∧Q v s') E s:=by
 show wpAny _ _ (field (.ref z) 2>>=_) _ _ _; refine wpAny_bind (wpAny_field hz rfl (x:= .bool false) rfl ?_);show wpAny _ _ (field (.ref z) 3>>=_) _ _ _; refine wpAny_bind (wpAny_field hz rfl (x:= .ref TI) rfl ?_);refine wpAny_bind (wpAny_seqItems hTI rfl ?_); show wpAny _ _ (Builtin.SmallTypes.ownedTupleIsFree (.ref z)>>=_) _ _ _;refine wpAny_bind ?_; unfold Builtin.SmallTypes.ownedTupleIsFree;refine wpAny_bind (wpAny_field hz rfl (x:= .none) rfl (wpAny_pure ?_)); simp only[if_true];refine wpAny_bind (wpAny_rule ?_); refine wpAny_bind (wpAny_field hz rfl (x:= .ref TO) rfl ?_);refine wpAny_bind (wpAny_setField_rec hz (by simp) fun g1 zz1 s1=>?_); replace zz1:IsZip g1 z TI TO .ellipsis:=zz1;refine wpAny_bind ?_; simp only[List.zipIdx_cons,List.zipIdx_nil,List.forIn_cons,List.forIn_nil];refine wpAny_bind (wpAny_bind (wpAny_onRaise ?_)); show wpAny _ _ (Builtin.SmallTypes.nextOf (.ref i1)>>=_) _ _ _;refine wpAny_bind (wc (tupJ h1 s1.extBut D.i1z) (tupX hl1 s1.extBut D.l1z) hx fun g2 j2 s2=>wpAny_pure ?_);have o2:IsPair g2 TO a b:=s2.extBut _ _ D.TOi1 (s1.extBut _ _ D.TOz hTO);refine wpAny_bind (wpAny_seqItems o2 rfl ?_); refine wpAny_bind (wpAny_updateSeq_pair o2 fun g3 o3 s3=>?_); replace o3:IsPair g3 TO x b:=o3;refine wpAny_bind (wpAny_letGo (wpAny_pure ?_)); refine wpAny_bind (wpAny_bind (wpAny_onRaise ?_)); show wpAny _ _ (Builtin.SmallTypes.nextOf (.ref i2)>>=_) _ _ _;refine wpAny_bind (wc (tupJ (tupJ (tupJ h2 s1.extBut D.i2z) s2.extBut D.i12.symm) s3.extBut D.TOi2.symm) (tupX (tupX (tupX hl2 s1.extBut D.l2z) s2.extBut D.l2i1) s3.extBut D.l2TO) hy fun g4 j4 s4=>wpAny_pure ?_);have o4:IsPair g4 TO x b:=s4.extBut _ _ D.TOi2 o3;refine wpAny_bind (wpAny_seqItems o4 rfl ?_); refine wpAny_bind (wpAny_updateSeq_pair o4 fun g5 o5 s5=>?_); replace o5:IsPair g5 TO x y:=o5;refine wpAny_bind (wpAny_letGo (wpAny_pure (wpAny_pure ?_))); refine wpAny_bind (wpAny_seqItems o5 rfl ?_); refine wpAny_bind (wpAny_newTuple ?_);have sz:g5.objs.size=s.heap.objs.size:=by rw[s5.1,s4.1,s3.1,s2.1,s1.1]
 have z5:IsZip g5 z TI TO .ellipsis:=s5.extBut _ _ D.TOz.symm (s4.extBut _ _ D.i2z.symm (s3.extBut _ _ D.TOz.symm (s2.extBut _ _ D.i1z.symm zz1)));have k5: ∀c o,c≠z→c≠TO→c≠i1→c≠i2→s.heap.get? c=some o→g5.get? c=some o:=fun c o c1 c2 c3 c4 q=>s5.extBut _ _ c2 (s4.extBut _ _ c4 (s3.extBut _ _ c2 (s2.extBut _ _ c3 (s1.extBut _ _ c1 q))));have a5:g5.IsTupleIter i1 l1 (k1+1):=tupJ (tupJ (tupJ j2 s3.extBut D.TOi1.symm) s4.extBut D.i12) s5.extBut D.TOi1.symm;have b5:g5.IsTupleIter i2 l2 (k2+1):=tupJ j4 s5.extBut D.TOi2.symm;have zlt:z<g5.objs.size:=Heap.lt_size z5;show wpAny _ _ (Builtin.SmallTypes.ownedTupleHandOut (.ref z) (.ref g5.objs.size)>>=_) _ _ _; refine wpAny_bind ?_; unfold Builtin.SmallTypes.ownedTupleHandOut;have z6:IsZip (g5.push {cls:= .type "tuple",data:= .seq #[x,y]}) z TI TO .ellipsis:=Heap.get?_push_of_some _ z5;refine wpAny_bind (wpAny_setField_rec z6 (by simp) fun g7 z7 s7=>?_); replace z7:IsZip g7 z TI TO (rawInt g5.objs.size):=z7;refine wpAny_setField_rec z7 (by simp) fun g8 z8 s8=>?_; replace z8:IsZip g8 z TI TO (rawInt g5.objs.size):=z8;have up: ∀c o,c≠z→g5.get? c=some o→g8.get? c=some o:=fun c o c1 q=>s8.extBut _ _ c1 (s7.extBut _ _ c1 (Heap.get?_push_of_some _ q));have t8:IsPair g8 g5.objs.size x y:=s8.extBut _ _ (Nat.ne_of_gt zlt) (s7.extBut _ _ (Nat.ne_of_gt zlt) (Heap.get?_push_size _ rfl));rw[sz] at z8 t8; refine wpAny_pure ⟨_,rfl,?_⟩; show Q (.ref g5.objs.size) _; rw[sz];exact hQ g8 z8 (up _ _ D.TOz o5) (a5.at fun o q=>up _ o D.i1z q) (b5.at fun o q=>up _ o D.i2z q) t8 fun c o c1 c2 c3 c4 q=>up c o c1 (k5 c o c1 c2 c3 c4 q)
theorem zipT_end{z TI TO i1 i2 l1 l2:Addr}{k1 k2:Nat}{xs ys:Array Value}{a b:Value}{Q:Fin→Shared→Prop}(hh:A.handled=none)(D:ZipApart z TI TO i1 i2 l1 l2)(hz:IsZip s.heap z TI TO .none)(hTI:IsPair s.heap TI (.ref i1) (.ref i2))(hTO:IsPair s.heap TO a b)
  (h1:s.heap.IsTupleIter i1 l1 k1) (h2:s.heap.IsTupleIter i2 l2 k2) (hl1:s.heap.IsTuple l1 xs) (hl2:s.heap.IsTuple l2 ys) (hend:xs[k1]? =none∨ys[k2]? =none)
  (hE: ∀h' e,(∀d o,d≠z→d≠TO→d≠i1→d≠i2→s.heap.get? d=some o→h'.get? d=some o)→(∃o,h'.get? e=some o∧o.cls= .type "StopIteration")→E (.ref e) {s with heap:=h'}):wpAny (model prog w) A (Builtin.«zip.__next__» ⟨[.ref z],[]⟩) Q E s:=by
 show wpAny _ _ (field (.ref z) 2>>=_) _ _ _; refine wpAny_bind (wpAny_field hz rfl (x:= .bool false) rfl ?_);show wpAny _ _ (field (.ref z) 3>>=_) _ _ _; refine wpAny_bind (wpAny_field hz rfl (x:= .ref TI) rfl ?_);refine wpAny_bind (wpAny_seqItems hTI rfl ?_); show wpAny _ _ (Builtin.SmallTypes.ownedTupleIsFree (.ref z)>>=_) _ _ _;refine wpAny_bind ?_; unfold Builtin.SmallTypes.ownedTupleIsFree;refine wpAny_bind (wpAny_field hz rfl (x:= .none) rfl (wpAny_pure ?_)); simp only[if_true];refine wpAny_bind (wpAny_rule ?_); refine wpAny_bind (wpAny_field hz rfl (x:= .ref TO) rfl ?_);refine wpAny_bind (wpAny_setField_rec hz (by simp) fun g1 zz1 s1=>?_); replace zz1:IsZip g1 z TI TO .ellipsis:=zz1;refine wpAny_bind ?_; simp only[List.zipIdx_cons,List.zipIdx_nil,List.forIn_cons,List.forIn_nil];refine wpAny_bind (wpAny_bind (wpAny_onRaise ?_)); show wpAny _ _ (Builtin.SmallTypes.nextOf (.ref i1)>>=_) _ _ _;cases hx:xs[k1]? with
 | none=>
  refine wpAny_bind (vW hh (tupJ h1 s1.extBut D.i1z) (tupX hl1 s1.extBut D.l1z) hx fun g2 e s2 he=>?_);obtain⟨oe,hoe,hce⟩:=he; have z2:IsZip g2 z TI TO .ellipsis:=s2 _ _ D.i1z.symm zz1;have ez:e≠z:=fun q=>by subst q; rw[z2] at hoe; cases hoe; simp at hce
  refine wpAny_setField_rec z2 (by simp) fun g3 _ s3=>hE g3 e (fun c o c1 _ c3 _ q=>s3.extBut _ _ c1 (s2 _ _ c3 (s1.extBut _ _ c1 q))) ⟨oe,s3.extBut _ _ ez hoe,hce⟩
 | some x=>
  have hy:ys[k2]? =none:=by rcases hend with q | q; rw[hx] at q; cases q; exact q
  refine wpAny_bind (wc (tupJ h1 s1.extBut D.i1z) (tupX hl1 s1.extBut D.l1z) hx fun g2 j2 s2=>wpAny_pure ?_);have o2:IsPair g2 TO a b:=s2.extBut _ _ D.TOi1 (s1.extBut _ _ D.TOz hTO);refine wpAny_bind (wpAny_seqItems o2 rfl ?_); refine wpAny_bind (wpAny_updateSeq_pair o2 fun g3 o3 s3=>?_); refine wpAny_bind (wpAny_letGo (wpAny_pure ?_));refine wpAny_bind (wpAny_bind (wpAny_onRaise ?_)); show wpAny _ _ (Builtin.SmallTypes.nextOf (.ref i2)>>=_) _ _ _;refine wpAny_bind (vW hh (tupJ (tupJ (tupJ h2 s1.extBut D.i2z) s2.extBut D.i12.symm) s3.extBut D.TOi2.symm) (tupX (tupX (tupX hl2 s1.extBut D.l2z) s2.extBut D.l2i1) s3.extBut D.l2TO) hy fun g4 e s4 he=>?_);obtain⟨oe,hoe,hce⟩:=he; have z4:IsZip g4 z TI TO .ellipsis:=s4 _ _ D.i2z.symm (s3.extBut _ _ D.TOz.symm (s2.extBut _ _ D.i1z.symm zz1));have ez:e≠z:=fun q=>by subst q; rw[z4] at hoe; cases hoe; simp at hce
  refine wpAny_setField_rec z4 (by simp) fun g5 _ s5=>hE g5 e (fun c o c1 c2 c3 c4 q=>s5.extBut _ _ c1 (s4 _ _ c4 (s3.extBut _ _ c2 (s2.extBut _ _ c3 (s1.extBut _ _ c1 q))))) ⟨oe,s5.extBut _ _ ez hoe,hce⟩
abbrev zpH1 (h:Heap) (a:Addr):Heap:=h.push {cls:= .type "tuple_iterator",data:= .fields #[.ref a,.int 0 0]}
abbrev zpH2 (h:Heap) (a b:Addr):Heap:=(zpH1 h a).push {cls:= .type "tuple_iterator",data:= .fields #[.ref b,.int 0 0]}
abbrev zpH3 (h:Heap) (a b:Addr):Heap:=(zpH2 h a b).push {cls:= .type "tuple",data:= .seq #[.ref h.objs.size,.ref (zpH1 h a).objs.size]}
abbrev zpH4 (h:Heap) (a b:Addr):Heap:=(zpH3 h a b).push {cls:= .type "tuple",data:= .seq #[.none,.none]}
abbrev zpH5 (h:Heap) (a b:Addr):Heap:=(zpH4 h a b).push {cls:= .type "zip",data:= .fields #[.none,.bool false,.bool false,.ref (zpH2 h a b).objs.size,.ref (zpH3 h a b).objs.size]}
theorem zp_new(a b:Addr)(xs ys:Array Value):Meets (Builtin.«zip.__new__» ⟨[.type "zip",.ref a,.ref b],[]⟩) (fun _ R s=>s.heap.IsTuple a xs∧s.heap.IsTuple b ys∧R (.ok (.ret (.ref (zpH4 s.heap a b).objs.size))) {s with heap:=zpH5 s.heap a b}):=
 .of_wp fun prog w A R s h=>by
  obtain⟨hp,g,d,tk,os⟩:=s; obtain⟨hA,hB,h⟩:=h; have hsub:=sub_zip;have tA:Heap.IsTuple (Shared.heap ⟨hp,g,d,tk,os⟩) a xs:=hA;have tB:Heap.IsTuple (Shared.heap ⟨hp.push {cls:= .type "tuple_iterator",data:= .fields #[.ref a,.int 0 0]},g,d,tk,os⟩) b ys:=let ⟨o,e,r⟩:=hB; ⟨o,Heap.get?_push_of_some _ e,r⟩
  wp_walk using wpAny_pyIter_tuple tA,wpAny_pyIter_tuple tB
  exact⟨_,rfl,h⟩
theorem call_zp{Q:Value→Shared→Prop}(hA:s.heap.IsTuple a xs)(hB:s.heap.IsTuple b ys)
  (k: ∀h',IsZip h' (s.heap.objs.size+4) (s.heap.objs.size+2) (s.heap.objs.size+3) .none→IsPair h' (s.heap.objs.size+2) (.ref s.heap.objs.size) (.ref (s.heap.objs.size+1))→IsPair h' (s.heap.objs.size+3) .none .none→
   h'.IsTupleIter s.heap.objs.size a 0→h'.IsTupleIter (s.heap.objs.size+1) b 0→(∀c o,s.heap.get? c=some o→h'.get? c=some o)→Q (.ref (s.heap.objs.size+4)) {s with heap:=h'}):
  wpAny (model prog w) A (call (.type "zip") [.ref a,.ref b]) Q E s:=by
 refine callType_new F.called_zip (by decide) (F.typeCall_zip_2 _ _) (F.newCall_zip_2 _ _) (fun obj=>F.args_object_init_3 obj _ _) F.entry_zip_new (zp_new a b xs ys) ⟨hA,hB,?_⟩;have z1:(zpH1 s.heap a).objs.size=s.heap.objs.size+1:=Heap.size_push ..;have z2:(zpH2 s.heap a b).objs.size=s.heap.objs.size+2:=by rw[Heap.size_push,z1]
 have z3:(zpH3 s.heap a b).objs.size=s.heap.objs.size+3:=by rw[Heap.size_push,z2]
 have z4:(zpH4 s.heap a b).objs.size=s.heap.objs.size+4:=by rw[Heap.size_push,z3]
 have g5:(zpH5 s.heap a b).get? (zpH4 s.heap a b).objs.size=some _:=Heap.get?_push_size _ rfl;have g4:(zpH5 s.heap a b).get? (zpH3 s.heap a b).objs.size=some _:=Heap.get?_push_of_some _ (Heap.get?_push_size _ rfl);have g3:(zpH5 s.heap a b).get? (zpH2 s.heap a b).objs.size=some _:=Heap.get?_push_of_some _ (Heap.get?_push_of_some _ (Heap.get?_push_size _ rfl));have g2:(zpH5 s.heap a b).get? (zpH1 s.heap a).objs.size=some _:=Heap.get?_push_of_some _ (Heap.get?_push_of_some _ (Heap.get?_push_of_some _ (Heap.get?_push_size _ rfl)));have g1:(zpH5 s.heap a b).get? s.heap.objs.size=some _:=Heap.get?_push_of_some _ (Heap.get?_push_of_some _ (Heap.get?_push_of_some _ (Heap.get?_push_of_some _ (Heap.get?_push_size _ rfl))));show _∧_;rw[z2,z3,z4] at g5; rw[z1,z2] at g3; rw[z3] at g4; rw[z1] at g2;have kk: ∀c o,s.heap.get? c=some o→(zpH5 s.heap a b).get? c=some o:=fun c o q=>Heap.get?_push_of_some _ (Heap.get?_push_of_some _ (Heap.get?_push_of_some _ (Heap.get?_push_of_some _ (Heap.get?_push_of_some _ q))));rw[z4];exact⟨⟨_,g5,rfl⟩,k _ g5 g3 g4 ⟨_,g1,rfl,rfl⟩ ⟨_,g2,rfl,rfl⟩ kk⟩
end
def Itz (K:W.Frag) (a b:Addr):It:=
 ⟨fun i H=> ∃xs ys x y,SqT K H a xs∧SqT K H b ys∧xs[i]? =some x∧ys[i]? =some y,fun i H v H'=> ∃p x y,v= .ref p∧H p=none∧H'=upd H p (.tup [x,y])∧(∀xs,SqT K H a xs→xs[i]? =some x)∧ ∀ys,SqT K H b ys→ys[i]? =some y,
  fun i H=> ∃xs ys,SqT K H a xs∧SqT K H b ys∧(xs.length≤i∨ys.length≤i)⟩
theorem turn_zp{P:Program}{w:World}{K:W.Frag}{es:List Expr}{kt:Nat}{pt:Pos}(a b z TI TO i1 i2:Addr)(D:ZipApart z TI TO i1 i2 a b):
  Turn P w K (.Tuple es kt pt) (Itz K a b) [z,TI,TO,i1,i2] z (fun i h=>IsZip h z TI TO .none∧IsPair h TI (.ref i1) (.ref i2)∧(∃u v,IsPair h TO u v)∧h.IsTupleIter i1 a i∧h.IsTupleIter i2 b i) where
 mem:=by simp
 obj:=fun i h st q hq=>by
  obtain⟨hz,hI,⟨u,v,hO⟩,⟨o1,e1,c1,d1⟩,⟨o2,e2,c2,d2⟩⟩:=st;simp only[List.mem_cons,List.not_mem_nil,or_false] at hq;rcases hq with rfl | rfl | rfl | rfl | rfl
  ·exact⟨_,hz,fun v y=>by have y':Data.fields _=Data.cell v:=y; cases y'⟩
  ·exact⟨_,hI,fun v y=>by have y':Data.seq _ _=Data.cell v:=y; cases y'⟩
  ·exact⟨_,hO,fun v y=>by have y':Data.seq _ _=Data.cell v:=y; cases y'⟩
  ·exact⟨o1,e1,fun v y=>by rw[d1] at y; cases y⟩
  ·exact⟨o2,e2,fun v y=>by rw[d2] at y; cases y⟩
 keep:=fun i h h' st k=>⟨k z (by simp) _ st.1,k TI (by simp) _ st.2.1,let ⟨u,v,q⟩:=st.2.2.1; ⟨u,v,k TO (by simp) _ q⟩,st.2.2.2.1.at fun o x=>k i1 (by simp) o x,st.2.2.2.2.at fun o x=>k i2 (by simp) o x⟩
 item:=by
  intro X hP hw hK hc i pins s σ H E I hf st hg;subst hP hw hK;obtain⟨xs,ys,x,y,hqa,hqb,hx,hy⟩:=hg;obtain⟨ia,rva,pa,za⟩:=I.tuple hqa;obtain⟨ib,rvb,pb,zb⟩:=I.tuple hqb;obtain⟨u,hu,ru⟩:=rva.get hx;obtain⟨v,hv,rv⟩:=rvb.get hy;obtain⟨hz,hI,⟨ou,ov,hO⟩,h1,h2⟩:=st;have hT:s.TypeIs (.ref z) "zip":=⟨_,hz,rfl⟩; unfold pyNext;refine wpAny_bind (wpAny_attempt (wpAny_callSpecial?_slot (name:=Str.ofString "__next__") hT F.slot_zip_next (wpAny_call_entry F.slot_zip_next hT F.entry_zip_next
   (zipT_item D hz hI hO h1 h2 pa pb (x:=u) (y:=v) (by simpa using hu) (by simpa using hv) fun h' z' o' a' b' t' k'=>wpAny_pure ?_) (F.args_zip_next_1 _))))
  refine⟨_,rfl,wpAny_letOwnedTupleGo_zip z' fun h'' z'' sb=>?_⟩;have nz:s.heap.objs.size≠z:=Nat.ne_of_gt (Heap.lt_size hz);have nTO:s.heap.objs.size≠TO:=Nat.ne_of_gt (Heap.lt_size hO);have nTI:s.heap.objs.size≠TI:=Nat.ne_of_gt (Heap.lt_size hI);have n1:s.heap.objs.size≠i1:=by obtain⟨o,e,_⟩:=h1; exact Nat.ne_of_gt (Heap.lt_size e)
  have n2:s.heap.objs.size≠i2:=by obtain⟨o,e,_⟩:=h2; exact Nat.ne_of_gt (Heap.lt_size e)
  have up: ∀q o,q≠z→h'.get? q=some o→h''.get? q=some o:=fun q o hq e=>(sb.2 q hq).trans e;have hI'':IsPair h'' TI (.ref i1) (.ref i2):=up _ _ D.TIz (k' TI _ D.TIz D.TITO D.TIi1 D.TIi2 hI);have I2:Inv X pins σ (upd H s.heap.objs.size (.tup [x,y])) {s with heap:=h'',toks:=s.toks}:=I.turnNew (ch:=[z,TI,TO,i1,i2]) hf (fun q o hq e=>by
   simp only[List.mem_cons,List.not_mem_nil,or_false,not_or] at hq;exact up q o hq.1 (k' q o hq.1 hq.2.2.1 hq.2.2.2.1 hq.2.2.2.2 e)) (fun q hq=>by
   simp only[List.mem_cons,List.not_mem_nil,or_false] at hq;rcases hq with rfl | rfl | rfl | rfl | rfl
   ·exact⟨_,z''⟩
   ·exact⟨_,hI''⟩
   ·exact⟨_,up _ _ D.TOz o'⟩
   ·obtain⟨o,e,_⟩:=a'; exact⟨o,up _ o D.i1z e⟩
   ·obtain⟨o,e,_⟩:=b'; exact⟨o,up _ o D.i2z e⟩) (Nat.le_refl _) (vals:=[u,v]) (.cons ru (.cons rv .nil)) (sz2) ⟨_,up _ _ nz t',rfl,_,rfl⟩
  refine⟨.ref s.heap.objs.size,_,I2,rfl,⟨_,x,y,rfl,I.fresh,rfl,fun zs hzs=>by rw[I.tuple_inj hzs hqa]; exact hx,fun zs hzs=>by rw[I.tuple_inj hzs hqb]; exact hy⟩,
   ⟨z'',hI'',⟨_,_,up _ _ D.TOz o'⟩,a'.at fun o e=>up _ o D.i1z e,b'.at fun o e=>up _ o D.i2z e⟩,fun q hq=>?_⟩
  have hq0:=(hf q hq).1;simp only[List.mem_cons,List.not_mem_nil,or_false] at hq;rw[zh]
  ·exact hq0
  ·rcases hq with rfl | rfl | rfl | rfl | rfl
   ·exact Ne.symm nz
   ·exact Ne.symm nTI
   ·exact Ne.symm nTO
   ·exact Ne.symm n1
   ·exact Ne.symm n2
 done:=by
  intro X hP hw hK hc i pins s σ H E I hf st hg;subst hP hw hK;obtain⟨xs,ys,hqa,hqb,hx⟩:=hg;obtain⟨ia,rva,pa,za⟩:=I.tuple hqa;obtain⟨ib,rvb,pb,zb⟩:=I.tuple hqb;obtain⟨hz,hI,⟨ou,ov,hO⟩,h1,h2⟩:=st;have la:=rva.length;have lb:=rvb.length;have hT:s.TypeIs (.ref z) "zip":=⟨_,hz,rfl⟩; unfold pyNext;refine wpAny_bind (wpAny_attempt (wpAny_callSpecial?_slot (name:=Str.ofString "__next__") hT F.slot_zip_next (wpAny_call_entry F.slot_zip_next hT F.entry_zip_next
   (zipT_end (I.ok.hd hc) D hz hI hO h1 h2 pa pb (hx.elim (fun q=> .inl (by simp; omega)) fun q=> .inr (by simp; omega)) fun h' e k' he=>?_) (F.args_zip_next_1 _))))
  obtain⟨o,ho,hcl⟩:=he;refine wpAny_bind (wpAny_isInstance (T:="StopIteration") (b:=true) ⟨o,ho,hcl⟩ isSubtype_stop ?_);refine wpAny_pure ⟨rfl,I.turnOnly (tk:=s.toks) hf fun q o hq e=>?_⟩;simp only[List.mem_cons,List.not_mem_nil,or_false,not_or] at hq;exact k' q o hq.1 hq.2.2.1 hq.2.2.2.1 hq.2.2.2.2 e
 self:=fun _ _ s _ _ st h=>wpAny_pyIter_zip st.1 h
section
variable {X:Cx} {es:List Expr} {kt:Nat} {pt:Pos}
def iZp (K:W.Frag) (ta:TA):TI:=fun σ H R=>ta σ H fun vs H1=> ∃a b,vs=[.ref a,.ref b]∧(∃xs,SqT K H1 a xs)∧(∃ys,SqT K H1 b ys)∧R (Itz K a b) H1
theorem pi_zp{e e':Expr}{ta:TA}{p pos:Pos}(hm:X.mg "zip"=none)(ha:PA X [e,e'] ta)(hg:Gl X "zip":=by rfl)(h:yc e=false:=by rfl)(h':yc e'=false:=by rfl):PI X (.Tuple es kt pt) (.Call (.Name "zip" p) [e,e'] [] pos) (iZp X.K ta):=by
 intro pins s σ H R I hh;refine Call_ (xR I hg hm boot_zip (PyProof.Rows.callWith_type1 (thn (ha pos pins s σ H _ I hh) fun us s1 ⟨vs,H1,I1,r1,q1⟩=>?_) (wn h) (xy (by simp[h']))));obtain⟨a,b,rfl,⟨xs,hqa⟩,⟨ys,hqb⟩,q⟩:=q1;cases r1 with
 | cons ru r2=>
  cases r2 with
  | cons rv r3=>
   cases r3
   cases ru
   cases rv
   obtain⟨ia,rva,pa,za⟩:=I1.tuple hqa;obtain⟨ib,rvb,pb,zb⟩:=I1.tuple hqb;have la:a<s1.heap.objs.size:=by obtain⟨o,e,_⟩:=pa; exact Heap.lt_size e
   have lb:b<s1.heap.objs.size:=by obtain⟨o,e,_⟩:=pb; exact Heap.lt_size e
   refine call_zp (xs:=ia.toArray) (ys:=ib.toArray) pa pb fun g hz hI hO j1 j2 hk=>wpAny_pyIter_zip hz ?_;refine⟨_,[s1.heap.objs.size+4,s1.heap.objs.size+2,s1.heap.objs.size+3,s1.heap.objs.size,s1.heap.objs.size+1],_,_,H1,rfl,I1.kept (t':=s1.toks) hk,turn_zp a b _ _ _ _ _ (zipApart_new la lb),⟨hz,hI,⟨_,_,hO⟩,j1,j2⟩,fun q hq=>?_,by assumption⟩;have hq':s1.heap.objs.size≤q:=by
    simp only[List.mem_cons,List.not_mem_nil,or_false] at hq;rcases hq with z | z | z | z | z<;>rw[z]<;>first | exact Nat.le_refl _ | exact Nat.le_add_right _ _
   exact I1.fpOk hq' (I1.hok.fresh hq')
end
structure Apart3 (z TI TO i1 i2 i3 l1 l2 l3:Addr):Prop where
 nz:TI≠z∧TO≠z∧i1≠z∧i2≠z∧i3≠z
 nI:TI≠TO∧TI≠i1∧TI≠i2∧TI≠i3
 nO:TO≠i1∧TO≠i2∧TO≠i3
 ni:i1≠i2∧i1≠i3∧i2≠i3
 l1:l1≠z∧l1≠TO∧l1≠i1∧l1≠i2∧l1≠i3
 l2:l2≠z∧l2≠TO∧l2≠i1∧l2≠i2∧l2≠i3
 l3:l3≠z∧l3≠TO∧l3≠i1∧l3≠i2∧l3≠i3
section
variable {D:Addr} {te:TE} {tc:TT} {Q:VK} {ρ:St} {H:Hp}
theorem cgo_zip{K:W.Frag}{a b:Addr}{xs zs:List V}(hlen:xs.length=zs.length)(Pv:Nat→List V→Hp→Prop)(h0:Pv 0 [] (upd H D (.lst [])))(hl: ∀i ys H',i≤xs.length→Pv i ys H'→SqT K H' a xs∧SqT K H' b zs)
  (hs: ∀i x z ys H' p,xs[i]? =some x→zs[i]? =some z→Pv i ys H'→H' D=some (.lst ys)→H' p=none→ ∀(R:V→Hp→Prop) (S:Hp→Prop),(∀y H4,H4 D=some (.lst ys)→ys.length<sizeLine→Pv (i+1) (ys++[y]) (upd H4 D (.lst (ys++[y])))→R y H4)→(∀H3,H3 D=some (.lst ys)→Pv (i+1) ys H3→S H3)→
   tc (some x::some z::ρ) (upd H' p (.tup [x,z])) fun b H3=>if b=true then te (some x::some z::ρ) H3 R else S H3)
  (hd: ∀ys H',Pv xs.length ys H'→H' D=some (.lst ys)→Q (.ref D) H'):CGo (Itz K a b) D (gTup K 2 (yB (zI 0) (yB (zI 1) gNil))) tc te Q (none::none::ρ) H:=by
 refine⟨fun i m τ ys H'=>m=xs.length-i∧i≤xs.length∧(∃tv tw,τ=tv::tw::ρ)∧Pv i ys H'∧H' D=some (.lst ys),⟨xs.length,by omega,Nat.zero_le _,⟨_,_,rfl⟩,h0,zf⟩,?_⟩;rintro i m τ ys H' ⟨rfl,hi,⟨tv,tw,rfl⟩,hp,hD⟩;refine⟨hD,?_⟩;obtain⟨sq,sq'⟩:=hl i ys H' hi hp;by_cases hlt:i<xs.length
 ·have hlt':i<zs.length:=by omega
  refine .inr ⟨⟨xs,zs,xs[i],zs[i],sq,sq',by simp[hlt],by simp[hlt']⟩,?_⟩;rintro v H'' ⟨p,x,z,rfl,hpn,rfl,hx,hz⟩;have hx':=hx xs sq;have hz':=hz zs sq';refine⟨p,[x,z],rfl,SqT.of zf,rfl,x,[z],rfl,z,[],rfl,rfl,?_⟩;exact hs i x z ys _ p hx' hz' hp hD hpn _ _ (fun y H4 a b c=>⟨a,b,xs.length-(i+1),by omega,rfl,hlt,⟨_,_,rfl⟩,c,zf⟩) fun H3 a c=>⟨xs.length-(i+1),by omega,rfl,hlt,⟨_,_,rfl⟩,c,a⟩
 ·have e:i=xs.length:=by omega
  subst e;exact .inl ⟨⟨xs,zs,sq,sq',.inl (Nat.le_refl _)⟩,hd ys _ hp hD⟩
end
section
variable {ta:TA} {tl:TE} {n:Nat} {ix:List Nat} {g:TG} {tc:TT} {te:TE} {σ:St} {H:Hp} {Q:VK}
theorem yF{K:W.Frag}(h:ta σ H fun vs H1=> ∃a b,vs=[.ref a,.ref b]∧(∃xs,SqT K H1 a xs)∧(∃ys,SqT K H1 b ys)∧ ∀D,H1 D=none→CGo (Itz K a b) D g tc te Q (List.replicate n none++sub ix σ) H1):wY (iZp K ta) n ix g tc te σ H Q:=h
theorem yG{K:W.Frag}(h:tl σ H fun x H1=> ∃a,x= .ref a∧(∃xs,SqL K H1 a xs)∧ ∀D,H1 D=none→CGo (Itl K a) D g tc te Q (List.replicate n none++sub ix σ) H1):wY (Xs K tl) n ix g tc te σ H Q:=h
end
section
variable {X:Cx}
def rIsI (K:W.Frag):List V→Hp→VK→Prop:=fun xs H Q=> ∃v n t b,xs=[v,.ty n]∧TyOf K H v t∧PySem.W.kitOne K t (.type n)=some b∧Q (.bl b) H
theorem Z3:yn X (.builtin "isinstance") (rIsI X.K):=by
 intro pins s σ H xs us Q I r h;obtain⟨v,n,t,b,rfl,ty,e,q⟩:=h;cases r with
 | cons r1 r2=>
  obtain⟨u,rfl,ru⟩:=Vals.one r2;cases ru
  exact isinst_ok I r1 ty e fun tk=>⟨.bl b,H,I.kept (t':=tk) fun _ _ e=>e,rfl,q⟩
theorem kit_ii(K:W.Frag):PySem.W.kitOne K (.type "int") (.type "int")=some true:=by rfl
theorem kit_ib(K:W.Frag):PySem.W.kitOne K (.type "int") (.type "bool")=some false:=by rfl
end
section
variable {σ:St} {H:Hp} {Q:VK} {te ta tb tc:TE} {r r':R2} {tl th:TO}
theorem w_sl{r:V→Option Int→Option Int→Hp→VK→Prop}(h:te σ H fun x H1=>tl σ H1 fun l H2=>th σ H2 fun u H3=>r x l u H3 Q):tSl r te tl th σ H Q:=h
theorem zT{QO:Option Int→Hp→Prop}(h:QO none H):xV σ H QO:=h
theorem yy{QO:Option Int→Hp→Prop}(h:te σ H fun x H1=> ∃i,x= .int i∧QO (some i) H1):vQ te σ H QO:=h
end
theorem wz{X:Cx}{xe:Value→Shared→Prop}{n:Nat}(hc:X.calm=true)(h:PGs (cxC X N sc cl C fp s3 H3 xe) es t)
  (hn:(assignEach es (cxC X N sc cl C fp s3 H3 xe).env).length=n:=by rfl) (hst:(assignEach es (cxC X N sc cl C fp s3 H3 xe).env).findIdx? (·.1)=none:=by rfl):PG (cxC X N sc cl C fp s3 H3 xe) (.Tuple es k pos) (gTup X.K n t):=wT (X:=cxC X N sc cl C fp s3 H3 xe) hc h hn hst
theorem wt(Post:St→Hp→Prop)(h2: ∀σ' H',Post σ' H'→u D σ' H')(h1:(∀σ' H',Post σ' H'→u D σ' H')→t {D with nx:=u D} σ H):tSeq t u D σ H:=h1 h2
theorem x5{g:Int→V}(h:ta σ H fun x H1=> ∃i,x= .int i∧Q (g i) H1):tUn (rU g) ta σ H Q:=h
end L2
namespace G2
open PySem L2
structure TK (H H':Hp):Prop where
 t: ∀q xs,H q=some (.tup xs)→H' q=some (.tup xs)
 f: ∀q o u,H q=some (.frz o u)→H' q=some (.frz o u)
section
variable {p l:Addr} {H H' H'':Hp} {o:HO}
theorem TK.trans(a:TK H H')(b:TK H' H''):TK H H'':=⟨fun q xs e=>b.t q xs (a.t q xs e),fun q o u e=>b.f q o u (a.f q o u e)⟩
theorem TK.lst(h:H l=some (.lst ys)):TK H (upd H l o):=⟨fun q xs e=>by rw[zh (vX e h (by intro z; cases z))]; exact e,fun q ob u e=>by rw[zh (vX e h (by intro z; cases z))]; exact e⟩
theorem TK.same(k:Same H H'):TK H H':=⟨fun _ _ e=>k _ _ e,fun _ _ _ e=>k _ _ e⟩
end
theorem _root_.L2.Same.new(k:Same H H')(h:H' l=none):Same H (upd H' l o):=fun b u e=>by
 rw[zh (zi (k b u e) h)];exact k b u e
theorem _root_.L2.Same.put(k:Same H H')(h:H l=none):Same H (upd H' l o):=fun b u e=>by
 rw[zh (zi e h)];exact k b u e
structure Tp (H:Hp) (p l:Addr) (ns:List Int):Prop where
 ex: ∃c e:Int,H p=some (.lst [.ref l,.int c,.int e])
 hl:H l=some (.lst (ns.map V.int))
 ne:p≠l
def Sm (i:Int):Prop:=-1000000000000000<i∧i<1000000000000000
structure Shw (d:PyData) (n h:Nat):Prop where
 s:d.showable=true
 nd:d.hasDict=false
 p:d.depth≤h
 l:d.shown.length≤n
end G2
namespace L2
open PySem PySem.Spec PyProof.Rows
theorem xo:OpR X (binaryOp .Mult) (rI IntMulOk fun i j=> .int (i*j)):=opI fun _ _ _ _ _ _ _ hc q=>mul_int q hc
end L2
namespace G2
open PySem L2
section
variable {D:Addr} {te:TE} {tc:TT} {Q:VK} {ρ:St} {H:Hp} {K:W.Frag} {a b:Addr}
theorem zip_map{xs ys:List Int}(g:Int→Int→Int)(ha:H a=some (.tup (xs.map V.int)))(hb:H b=some (.tup (ys.map V.int)))(hlen:xs.length=ys.length)(hn:xs.length≤1000)
  (step: ∀(i:Nat) (x y:Int) (H':Hp),xs[i]? =some x→ys[i]? =some y→Same H H'→ ∀R:V→Hp→Prop,(∀H'',Same H' H''→R (.int (g x y)) H'')→te (some (.int x)::some (.int y)::ρ) H' R)
  (q: ∀H',Same H H'→H' D=some (.lst ((List.zipWith g xs ys).map V.int))→Q (.ref D) H') (hD:H D=none):CGo (Itz K a b) D (gTup K 2 (yB (zI 0) (yB (zI 1) gNil))) tAll te Q (none::none::ρ) H:=by
 refine cgo_zip (xs:=xs.map V.int) (zs:=ys.map V.int) (by simp[hlen]) (fun i zs H'=>zs=((List.zipWith g xs ys).take i).map V.int∧Same H H') ⟨rfl,Same.new (Same.refl H) hD⟩ (fun i zs H' _ ⟨_,k'⟩=>⟨SqT.of (k' _ _ ha),SqT.of (k' _ _ hb)⟩) ?_ ?_
 ·rintro i x z zs H' p hx hz ⟨rfl,K'⟩ hDz hp R S kR _;have hi1:i<xs.length:=by
   have:=(List.getElem?_eq_some_iff.mp hx).1;simpa using this
  have hi2:i<ys.length:=by omega
  have ex:x= .int xs[i]:=by
   rw[List.getElem?_map,List.getElem?_eq_getElem hi1] at hx;exact(Option.some.inj hx).symm
  have ez:z= .int ys[i]:=by
   rw[List.getElem?_map,List.getElem?_eq_getElem hi2] at hz;exact(Option.some.inj hz).symm
  subst ex ez;refine zZ ?_;refine iteT ?_;have hD':upd H' p (.tup [.int xs[i],.int ys[i]]) D=some (.lst (((List.zipWith g xs ys).take i).map V.int)):=by rw[zh (zi hDz hp)]; exact hDz
  refine step i _ _ _ (by simp[hi1]) (by simp[hi2]) (K'.new hp) R fun H'' K''=>?_;refine kR _ _ (K'' _ _ hD') (by rw[List.length_map,List.length_take]; exact zu (by omega)) ⟨?_,((K'.new hp).trans K'').put hD⟩;have hz':(List.zipWith g xs ys)[i]? =some (g xs[i] ys[i]):=by simp[List.getElem?_zipWith,hi1,hi2]
  rw[List.take_add_one,List.map_append,hz'];rfl
 ·rintro zs H' ⟨rfl,K'⟩ hDz;refine q H' K' ?_;rw[hDz,List.take_of_length_le];simp;omega
theorem rng_map(g:Nat→Int)(hn:n≤1000)
  (step: ∀(i:Nat) (H':Hp),i<n→Same H H'→ ∀R:V→Hp→Prop,(∀H'',Same H' H''→R (.int (g i)) H'')→te (some (.int (i:Int))::ρ) H' R)
  (q: ∀H',Same H H'→H' D=some (.lst (((List.range n).map g).map V.int))→Q (.ref D) H') (hD:H D=none):CGo (Itr 0 n) D (zI 0) tAll te Q (none::ρ) H:=by
 refine yw (fun i zs H'=>zs=((List.range i).map g).map V.int∧Same H H') ⟨rfl,Same.new (Same.refl H) hD⟩ ?_ ?_
 ·rintro i zs H' hi ⟨rfl,K'⟩ hDz R S kR _;rw[Int.zero_add];refine zZ ?_;refine iteT ?_;refine step i _ hi K' R fun H'' K''=>?_;refine kR _ _ (K'' _ _ hDz) (by rw[List.length_map,List.length_map,List.length_range]; exact zu (by omega)) ⟨?_,(K'.trans K'').put hD⟩;rw[List.range_succ,List.map_append,List.map_append];rfl
 ·rintro zs H' ⟨rfl,K'⟩ hDz;exact q H' K' hDz
theorem rng_gen(J:Hp→Prop)(Pe:V→Hp→Prop)(hn:n≤1000)(h0:J (upd H D (.lst [])))(jD: ∀H' ys zs,J H'→H' D=some (.lst ys)→J (upd H' D (.lst zs)))(pD: ∀y H' ys zs,Pe y H'→J H'→H' D=some (.lst ys)→Pe y (upd H' D (.lst zs)))
  (step: ∀(i:Nat) (H':Hp) (ys:List V),i<n→J H'→H' D=some (.lst ys)→ ∀R:V→Hp→Prop,(∀y H'',Pe y H''→J H''→H'' D=some (.lst ys)→(∀z,Pe z H'→Pe z H'')→R y H'')→te (some (.int (i:Int))::ρ) H' R)
  (q: ∀ys H',ys.length=n→(∀y∈ys,Pe y H')→J H'→H' D=some (.lst ys)→Q (.ref D) H'):CGo (Itr 0 n) D (zI 0) tAll te Q (none::ρ) H:=by
 refine yw (fun i zs H'=>zs.length=i∧(∀y∈zs,Pe y H')∧J H') ⟨rfl,(fun y h=>by cases h),h0⟩ ?_ ?_
 ·rintro i zs H' hi ⟨hl,hp,hJ⟩ hDz R S kR _;rw[Int.zero_add];refine zZ ?_;refine iteT ?_;refine step i H' zs hi hJ hDz R fun y H'' hy hJ' hD' hk=>?_;refine kR _ _ hD' (zu (by omega)) ⟨by simp[hl],fun z hz=>?_,jD _ _ _ hJ' hD'⟩;rcases List.mem_append.mp hz with old | new
  ·exact pD _ _ _ _ (hk z (hp z old)) hJ' hD'
  ·rw[List.mem_singleton.mp new];exact pD _ _ _ _ hy hJ' hD'
 ·rintro zs H' ⟨hl,hp,hJ⟩ hDz;exact q zs H' hl hp hJ hDz
end
section
variable {X:Cx} {k:Nat}
def rNeD:R2:=fun x y H Q=> ∃dx dy,RdV H x dx∧RdV H y dy∧dx.canLay0=true∧dy.canLay0=true∧dx.depth≤60∧Q (.bl (!PyData.eqv dx dy)) H
theorem op_neD(hr:Room k X.A):OpR X (compareOp .NotEq) rNeD:=by
 intro pins s σ H x y v u Q I rx ry h;obtain⟨dx,dy,hx,hy,cx,cy,hd,q⟩:=h;obtain⟨as,ra⟩:=hx.reads I rx;obtain⟨bs,rb⟩:=hy.reads I ry;have:=hr.units;exact SeqAt.compareNe_reads ra rb cx cy (by omega) ⟨.bl _,H,I,rfl,q⟩
end
structure Fm where
 ins:List Int
 sts:List Int
 plus:Int
structure FmOk (n m:Nat) (B:Int) (f:Fm):Prop where
 li:f.ins.length=n
 ls:f.sts.length=m
 bi: ∀x∈f.ins,-B≤x∧x≤B
 bs: ∀x∈f.sts,-B≤x∧x≤B
 bp: -B≤f.plus∧f.plus≤B
end G2
namespace L2
open PySem PySem.Spec PyProof.Rows
def isI (i:Int):Value→Bool
 | .int a _=>a==i
 | _=>false
theorem vM{D:Addr}{tc:TT}{te:TE}{Q:VK}{ρ:St}{H:Hp}{K:W.Frag}{a:Addr}{xs:List V}(Pv:Nat→List V→Hp→Prop)(h0:Pv 0 [] (upd H D (.lst [])))(hl: ∀i ys H',i≤xs.length→Pv i ys H'→SqL K H' a xs)
  (hs: ∀i x ys H',xs[i]? =some x→Pv i ys H'→H' D=some (.lst ys)→ ∀(R:V→Hp→Prop) (S:Hp→Prop),(∀y H4,H4 D=some (.lst ys)→ys.length<sizeLine→Pv (i+1) (ys++[y]) (upd H4 D (.lst (ys++[y])))→R y H4)→(∀H3,H3 D=some (.lst ys)→Pv (i+1) ys H3→S H3)→
   tc (some x::ρ) H' fun b H3=>if b=true then te (some x::ρ) H3 R else S H3)
  (hd: ∀ys H',Pv xs.length ys H'→H' D=some (.lst ys)→Q (.ref D) H'):CGo (Itl K a) D (zI 0) tc te Q (none::ρ) H:=by
 refine⟨fun i m τ ys H'=>m=xs.length-i∧i≤xs.length∧(∃tv,τ=tv::ρ)∧Pv i ys H'∧H' D=some (.lst ys),⟨xs.length,by omega,Nat.zero_le _,⟨_,rfl⟩,h0,zf⟩,?_⟩;rintro i m τ ys H' ⟨rfl,hi,⟨tv,rfl⟩,hp,hD⟩;refine⟨hD,?_⟩;have sq:=hl i ys H' hi hp;by_cases hlt:i<xs.length
 ·refine .inr ⟨⟨xs,xs[i],sq,by simp[hlt]⟩,?_⟩;rintro v H'' ⟨rfl,hv⟩;have hv':=hv xs sq;show tc (some v::ρ) _ _;exact hs i v ys _ hv' hp hD _ _ (fun y H4 a b c=>⟨a,b,xs.length-(i+1),by omega,rfl,hlt,⟨_,rfl⟩,c,zf⟩) fun H3 a c=>⟨xs.length-(i+1),by omega,rfl,hlt,⟨_,rfl⟩,c,a⟩
 ·have e:i=xs.length:=by omega
  subst e;exact .inl ⟨⟨xs,sq,Nat.le_refl _⟩,hd ys _ hp hD⟩
section
variable {X:Cx}
def rIns:V→List V→Hp→VK→Prop:=fun x vs H Q=> ∃(l:Addr) (xs:List V) (i:Int) (y:V),x= .ref l∧vs=[.int i,y]∧H l=some (.lst xs)∧0≤i∧i≤xs.length∧xs.length<sizeLine∧Q .non (upd H l (.lst (xs.take i.toNat++y::xs.drop i.toNat)))
theorem mt_insert:MtM X "list.insert" rIns:=by
 intro pins s σ H x vs v us Q I rx rv h;obtain⟨l,xs,i,y,rfl,rfl,hH,h0,hi,hz,q⟩:=h;cases rx
 obtain⟨u1,us',rfl,ru1,rv'⟩: ∃u1 us',us=u1::us'∧RelV (.int i) u1∧Vals [y] us':=by
  cases rv with
  | cons r1 r2=>exact⟨_,_,rfl,r1,r2⟩
 obtain⟨u2,rfl,ru2⟩:=rv'.one;obtain⟨t,rfl⟩:=ru1;obtain⟨z,its,n,r,hl,e⟩:=I.lstM hH;have hz':xs.length<2^62:=Nat.lt_of_lt_of_le hz (by decide);have hfit: ¬(!Builtin.List.listFitsIndex i)=true:=by
  rw[fitsIndex_both (k:=i) (by omega) (by omega)];decide
 have hsz:its.toArray.size≤sizeLine:=by rw[List.size_toArray,←hl]; exact Nat.le_of_lt hz
 refine call_meets F.slot_list_insert ⟨_,e,rfl⟩ F.entry_list_insert (F.args_list_insert_3 _ _ _) (AutoSeq1.list_insert_list_int_val_1 l its.toArray n i t u2 hfit hsz) ⟨e,?_⟩;refine⟨.non,_,I.lset (its':=its.take i.toNat++u2::its.drop i.toNat) hH e ?_ ((r.take i.toNat).append (.cons ru2 (r.drop i.toNat))) ?_,rfl,q⟩
 ·have hk:(if i<0 then (i+(its.toArray.size:Int)).toNat else min i.toNat its.toArray.size)=i.toNat:=by
   rw[if_neg (by omega),List.size_toArray];omega
  show Array.push (its.toArray.extract 0 (if i<0 then (i+(its.toArray.size:Int)).toNat else min i.toNat its.toArray.size)) u2++its.toArray.extract (if i<0 then (i+(its.toArray.size:Int)).toNat else min i.toNat its.toArray.size)=_;rw[hk]
  apply Array.toList_inj.mp
  simp[List.take_drop];rw[List.take_of_length_le (by omega)]
 ·rw[List.length_append,List.length_cons,List.length_take,List.length_drop];omega
end
def Itzl (K:W.Frag) (a b:Addr):It:=
 ⟨fun i H=> ∃xs ys x y,SqL K H a xs∧SqL K H b ys∧xs[i]? =some x∧ys[i]? =some y,fun i H v H'=> ∃p x y,v= .ref p∧H p=none∧H'=upd H p (.tup [x,y])∧(∀xs,SqL K H a xs→xs[i]? =some x)∧ ∀ys,SqL K H b ys→ys[i]? =some y,
  fun i H=> ∃xs ys,SqL K H a xs∧SqL K H b ys∧(xs.length≤i∨ys.length≤i)⟩
theorem turn_zpl{P:Program}{w:World}{K:W.Frag}{es:List Expr}{kt:Nat}{pt:Pos}(a b z TI TO i1 i2:Addr)(D:ZipApart z TI TO i1 i2 a b):
  Turn P w K (.Tuple es kt pt) (Itzl K a b) [z,TI,TO,i1,i2] z (fun i h=>IsZip h z TI TO .none∧IsPair h TI (.ref i1) (.ref i2)∧(∃u v,IsPair h TO u v)∧h.IsListIter i1 a i∧h.IsListIter i2 b i) where
 mem:=by simp
 obj:=fun i h st q hq=>by
  obtain⟨hz,hI,⟨u,v,hO⟩,⟨o1,e1,c1,d1⟩,⟨o2,e2,c2,d2⟩⟩:=st;simp only[List.mem_cons,List.not_mem_nil,or_false] at hq;rcases hq with rfl | rfl | rfl | rfl | rfl
  ·exact⟨_,hz,fun v y=>by have y':Data.fields _=Data.cell v:=y; cases y'⟩
  ·exact⟨_,hI,fun v y=>by have y':Data.seq _ _=Data.cell v:=y; cases y'⟩
  ·exact⟨_,hO,fun v y=>by have y':Data.seq _ _=Data.cell v:=y; cases y'⟩
  ·exact⟨o1,e1,fun v y=>by rw[d1] at y; cases y⟩
  ·exact⟨o2,e2,fun v y=>by rw[d2] at y; cases y⟩
 keep:=fun i h h' st k=>⟨k z (by simp) _ st.1,k TI (by simp) _ st.2.1,let ⟨u,v,q⟩:=st.2.2.1; ⟨u,v,k TO (by simp) _ q⟩,st.2.2.2.1.at fun o x=>k i1 (by simp) o x,st.2.2.2.2.at fun o x=>k i2 (by simp) o x⟩
 item:=by
  intro X hP hw hK hc i pins s σ H E I hf st hg;subst hP hw hK;obtain⟨xs,ys,x,y,hqa,hqb,hx,hy⟩:=hg;obtain⟨ia,rva,pa,za⟩:=I.list hqa;obtain⟨ib,rvb,pb,zb⟩:=I.list hqb;obtain⟨u,hu,ru⟩:=rva.get hx;obtain⟨v,hv,rv⟩:=rvb.get hy;obtain⟨hz,hI,⟨ou,ov,hO⟩,h1,h2⟩:=st;refine wpAny_pyNext_zip_item D hz hI hO h1 h2 pa.isList pb.isList (x:=u) (y:=v) (by simpa using hu) (by simpa using hv) fun h' z' o' a' b' t' _ k'=>?_;refine⟨_,rfl,wpAny_letOwnedTupleGo_zip z' fun h'' z'' sb=>?_⟩;have nz:s.heap.objs.size≠z:=Nat.ne_of_gt (Heap.lt_size hz);have nTO:s.heap.objs.size≠TO:=Nat.ne_of_gt (Heap.lt_size hO);have nTI:s.heap.objs.size≠TI:=Nat.ne_of_gt (Heap.lt_size hI);have n1:s.heap.objs.size≠i1:=by obtain⟨o,e,_⟩:=h1; exact Nat.ne_of_gt (Heap.lt_size e)
  have n2:s.heap.objs.size≠i2:=by obtain⟨o,e,_⟩:=h2; exact Nat.ne_of_gt (Heap.lt_size e)
  have up: ∀q o,q≠z→h'.get? q=some o→h''.get? q=some o:=fun q o hq e=>(sb.2 q hq).trans e;have hI'':IsPair h'' TI (.ref i1) (.ref i2):=up _ _ D.TIz (k' TI _ D.TIz D.TITO D.TIi1 D.TIi2 hI);have I2:Inv X pins σ (upd H s.heap.objs.size (.tup [x,y])) {s with heap:=h'',toks:=s.toks}:=I.turnNew (ch:=[z,TI,TO,i1,i2]) hf (fun q o hq e=>by
   simp only[List.mem_cons,List.not_mem_nil,or_false,not_or] at hq;exact up q o hq.1 (k' q o hq.1 hq.2.2.1 hq.2.2.2.1 hq.2.2.2.2 e)) (fun q hq=>by
   simp only[List.mem_cons,List.not_mem_nil,or_false] at hq;rcases hq with rfl | rfl | rfl | rfl | rfl
   ·exact⟨_,z''⟩
   ·exact⟨_,hI''⟩
   ·exact⟨_,up _ _ D.TOz o'⟩
   ·obtain⟨o,e,_⟩:=a'; exact⟨o,up _ o D.i1z e⟩
   ·obtain⟨o,e,_⟩:=b'; exact⟨o,up _ o D.i2z e⟩) (Nat.le_refl _) (vals:=[u,v]) (.cons ru (.cons rv .nil)) (sz2) ⟨_,up _ _ nz t',rfl,_,rfl⟩
  refine⟨.ref s.heap.objs.size,_,I2,rfl,⟨_,x,y,rfl,I.fresh,rfl,fun zs hzs=>by rw[I.list_inj hzs hqa]; exact hx,fun zs hzs=>by rw[I.list_inj hzs hqb]; exact hy⟩,
   ⟨z'',hI'',⟨_,_,up _ _ D.TOz o'⟩,a'.at fun o e=>up _ o D.i1z e,b'.at fun o e=>up _ o D.i2z e⟩,fun q hq=>?_⟩
  have hq0:=(hf q hq).1;simp only[List.mem_cons,List.not_mem_nil,or_false] at hq;rw[zh]
  ·exact hq0
  ·rcases hq with rfl | rfl | rfl | rfl | rfl
   ·exact Ne.symm nz
   ·exact Ne.symm nTI
   ·exact Ne.symm nTO
   ·exact Ne.symm n1
   ·exact Ne.symm n2
 done:=by
  intro X hP hw hK hc i pins s σ H E I hf st hg;subst hP hw hK;obtain⟨xs,ys,hqa,hqb,hx⟩:=hg;obtain⟨ia,rva,pa,za⟩:=I.list hqa;obtain⟨ib,rvb,pb,zb⟩:=I.list hqb;obtain⟨hz,hI,⟨ou,ov,hO⟩,h1,h2⟩:=st;have la:=rva.length;have lb:=rvb.length;refine wpAny_pyNext_zip_end (I.ok.hd hc) D hz hI hO h1 h2 pa.isList pb.isList (hx.elim (fun q=> .inl (by simp; omega)) fun q=> .inr (by simp; omega)) fun h' k'=>?_;refine⟨rfl,I.turnOnly (tk:=s.toks) hf fun q o hq e=>?_⟩;simp only[List.mem_cons,List.not_mem_nil,or_false,not_or] at hq;exact k' q o hq.1 hq.2.2.1 hq.2.2.2.1 hq.2.2.2.2 e
 self:=fun _ _ s _ _ st h=>wpAny_pyIter_zip st.1 h
section
variable {X:Cx} {es:List Expr} {kt:Nat} {pt:Pos}
def iZpl (K:W.Frag) (ta:TA):TI:=fun σ H R=>ta σ H fun vs H1=> ∃a b,vs=[.ref a,.ref b]∧(∃xs,SqL K H1 a xs)∧(∃ys,SqL K H1 b ys)∧R (Itzl K a b) H1
theorem Z9{e e':Expr}{ta:TA}{p pos:Pos}(hm:X.mg "zip"=none)(ha:PA X [e,e'] ta)(hg:Gl X "zip":=by rfl)(h:yc e=false:=by rfl)(h':yc e'=false:=by rfl):PI X (.Tuple es kt pt) (.Call (.Name "zip" p) [e,e'] [] pos) (iZpl X.K ta):=by
 intro pins s σ H R I hh;refine Call_ (xR I hg hm boot_zip (PyProof.Rows.callWith_type1 (thn (ha pos pins s σ H _ I hh) fun us s1 ⟨vs,H1,I1,r1,q1⟩=>?_) (wn h) (xy (by simp[h']))));obtain⟨a,b,rfl,⟨xs,hqa⟩,⟨ys,hqb⟩,q⟩:=q1;cases r1 with
 | cons ru r2=>
  cases r2 with
  | cons rv r3=>
   cases r3
   cases ru
   cases rv
   obtain⟨ia,rva,pa,za⟩:=I1.list hqa;obtain⟨ib,rvb,pb,zb⟩:=I1.list hqb;have la:a<s1.heap.objs.size:=by obtain⟨o,_,e,_⟩:=pa; exact Heap.lt_size e
   have lb:b<s1.heap.objs.size:=by obtain⟨o,_,e,_⟩:=pb; exact Heap.lt_size e
   refine call_zip_2 (xs:=ia.toArray) (ys:=ib.toArray) pa.isList pb.isList fun g hz hI hO j1 j2 _ hk=>wpAny_pyIter_zip hz ?_;refine⟨_,[s1.heap.objs.size+4,s1.heap.objs.size+2,s1.heap.objs.size+3,s1.heap.objs.size,s1.heap.objs.size+1],_,_,H1,rfl,I1.kept (t':=s1.toks) hk,turn_zpl a b _ _ _ _ _ (zipApart_new la lb),⟨hz,hI,⟨_,_,hO⟩,j1,j2⟩,fun q hq=>?_,by assumption⟩;have hq':s1.heap.objs.size≤q:=by
    simp only[List.mem_cons,List.not_mem_nil,or_false] at hq;rcases hq with z | z | z | z | z<;>rw[z]<;>first | exact Nat.le_refl _ | exact Nat.le_add_right _ _
   exact I1.fpOk hq' (I1.hok.fresh hq')
end
section
variable {D:Addr} {te:TE} {tc:TT} {Q:VK} {ρ:St} {H:Hp}
theorem cgo_zpl{K:W.Frag}{a b:Addr}{xs zs:List V}{n:Nat}(n1:n≤xs.length)(n2:n≤zs.length)(n3:xs.length≤n∨zs.length≤n)(Pv:Nat→List V→Hp→Prop)(h0:Pv 0 [] (upd H D (.lst [])))(hl: ∀i ys H',i≤n→Pv i ys H'→SqL K H' a xs∧SqL K H' b zs)
  (hs: ∀i x z ys H' p,i<n→xs[i]? =some x→zs[i]? =some z→Pv i ys H'→H' D=some (.lst ys)→H' p=none→ ∀(R:V→Hp→Prop) (S:Hp→Prop),(∀y H4,H4 D=some (.lst ys)→ys.length<sizeLine→Pv (i+1) (ys++[y]) (upd H4 D (.lst (ys++[y])))→R y H4)→(∀H3,H3 D=some (.lst ys)→Pv (i+1) ys H3→S H3)→
   tc (some x::some z::ρ) (upd H' p (.tup [x,z])) fun b H3=>if b=true then te (some x::some z::ρ) H3 R else S H3)
  (hd: ∀ys H',Pv n ys H'→H' D=some (.lst ys)→Q (.ref D) H'):CGo (Itzl K a b) D (gTup K 2 (yB (zI 0) (yB (zI 1) gNil))) tc te Q (none::none::ρ) H:=by
 refine⟨fun i m τ ys H'=>m=n-i∧i≤n∧(∃tv tw,τ=tv::tw::ρ)∧Pv i ys H'∧H' D=some (.lst ys),⟨n,by omega,Nat.zero_le _,⟨_,_,rfl⟩,h0,zf⟩,?_⟩;rintro i m τ ys H' ⟨rfl,hi,⟨tv,tw,rfl⟩,hp,hD⟩;refine⟨hD,?_⟩;obtain⟨sq,sq'⟩:=hl i ys H' hi hp;by_cases hlt:i<n
 ·have hlt':i<zs.length:=by omega
  have hlt0:i<xs.length:=by omega
  refine .inr ⟨⟨xs,zs,xs[i],zs[i],sq,sq',by simp[hlt0],by simp[hlt']⟩,?_⟩;rintro v H'' ⟨p,x,z,rfl,hpn,rfl,hx,hz⟩;have hx':=hx xs sq;have hz':=hz zs sq';refine⟨p,[x,z],rfl,SqT.of zf,rfl,x,[z],rfl,z,[],rfl,rfl,?_⟩;exact hs i x z ys _ p hlt hx' hz' hp hD hpn _ _ (fun y H4 a b c=>⟨a,b,n-(i+1),by omega,rfl,hlt,⟨_,_,rfl⟩,c,zf⟩) fun H3 a c=>⟨n-(i+1),by omega,rfl,hlt,⟨_,_,rfl⟩,c,a⟩
 ·have e:i=n:=by omega
  subst e;exact .inl ⟨⟨xs,zs,sq,sq',n3⟩,hd ys _ hp hD⟩
end
end L2
namespace G2
open PySem L2
theorem prs_mapL{as:List Addr}{xs:List α}(u v:α→V)(g:α→V)(ha:H a=some (.lst (as.map V.ref)))(hl:as.length=xs.length)(hn:xs.length≤1000)
  (hx: ∀(i:Nat) (q:Addr) (x:α),as[i]? =some q→xs[i]? =some x→H q=some (.tup [u x,v x]))
  (step: ∀(i:Nat) (x:α) (H':Hp),xs[i]? =some x→Same H H'→ ∀R:V→Hp→Prop,(∀H'',Same H' H''→R (g x) H'')→te (some (u x)::some (v x)::ρ) H' R)
  (q: ∀H',Same H H'→H' D=some (.lst (xs.map g))→Q (.ref D) H') (hD:H D=none):CGo (Itl K a) D (gTup K 2 (yB (zI 0) (yB (zI 1) gNil))) tAll te Q (none::none::ρ) H:=by
 refine⟨fun i m τ ys H'=>m=xs.length-i∧i≤xs.length∧(∃tv tw,τ=tv::tw::ρ)∧ys=(xs.map g).take i∧Same H H'∧H' D=some (.lst ys),⟨xs.length,by omega,Nat.zero_le _,⟨_,_,rfl⟩,rfl,Same.new (Same.refl H) hD,zf⟩,?_⟩;rintro i m τ ys H' ⟨rfl,hi,⟨tv,tw,rfl⟩,rfl,K',hDz⟩;refine⟨hDz,?_⟩;have sq:SqL K H' a (as.map V.ref):=SqL.of (K' _ _ ha);by_cases hlt:i<xs.length
 ·have hlt':i<as.length:=by omega
  refine .inr ⟨⟨_,.ref as[i],sq,by simp[hlt']⟩,?_⟩;rintro w' H'' ⟨rfl,hw⟩;have hw':=hw _ sq;rw[List.getElem?_map,List.getElem?_eq_getElem hlt'] at hw';cases hw'
  refine⟨as[i],_,rfl,SqT.of (K' _ _ (hx i as[i] xs[i] (by simp[hlt']) (by simp[hlt]))),rfl,_,_,rfl,_,_,rfl,rfl,?_⟩;refine zZ ?_;refine iteT ?_;refine step i xs[i] _ (by simp[hlt]) K' _ fun H3 K3=>⟨K3 _ _ hDz,by rw[List.length_take]; exact zu (by omega),xs.length-(i+1),by omega,rfl,hlt,⟨_,_,rfl⟩,?_,(K'.trans K3).put hD,zf⟩;rw[List.take_add_one];simp[hlt]
 ·have e:i=xs.length:=by omega
  subst e;refine .inl ⟨⟨_,sq,by simp[hl]⟩,q H' K' ?_⟩;rw[hDz,List.take_of_length_le];simp
end G2
namespace L2
open PySem PySem.Spec PyProof.Rows
structure NScope (o sc:Scope) (TN F:List Str):Prop where
 okind:o.kind= .function
 kind:sc.kind= .function
 names: ∀y∈sc.names,y.2= .local→sc.names.lookup y.1=some .local
 clN: ∀y∈sc.names,y.2= .cell→sc.names.lookup y.1=some .cell
 fr: ∀y∈sc.names,y.2= .free→o.names.lookup y.1=some .cell∧sc.names.lookup y.1=some .free
 ff: ∀y∈F,(y,NameKind.free)∈sc.names
theorem yJ: ∀(names:List (Str×NameKind)) (n:Nat) (acc:List (Str×Addr)),cellsFrom n names acc=cellsFrom n names []++acc
 | [],n,acc=>by simp[cellsFrom]
 | (x,k)::r,n,acc=>by
  unfold cellsFrom;split
  ·rw[yJ r (n+1) ((x,n)::acc),yJ r (n+1) [(x,n)]];simp
  ·exact yJ r n acc
theorem xi: ∀(names:List (Str×NameKind)) (n:Nat) (acc:List (Str×Addr)) (x:Str) (c:Addr),(x,c)∈cellsFrom n names acc→(x,NameKind.cell)∈names∨(x,c)∈acc
 | [],n,acc,x,c,h=> .inr h
 | (y,k)::r,n,acc,x,c,h=>by
  unfold cellsFrom at h;split at h
  ·rename_i hk
   have hk':k= .cell:=by simpa using hk
   subst hk';rcases xi r (n+1) ((y,n)::acc) x c h with z | z
   ·exact .inl (List.mem_cons_of_mem _ z)
   ·rcases List.mem_cons.mp z with e | z
    ·cases e
     exact .inl List.mem_cons_self
    ·exact .inr z
  ·rcases xi r n acc x c h with z | z
   ·exact .inl (List.mem_cons_of_mem _ z)
   ·exact .inr z
def ownC (n:Nat) (sc:Scope):List (Str×Addr):=cellsFrom (n+1) sc.names []
def allC (env:Env) (n:Nat) (sc:Scope):List (Str×Addr):=ownC n sc++cloF env sc.names []
theorem ZL{c:α}: ∀{l r:List (Str×α)},(l++r).lookup x=some c→l.lookup x=some c∨(l.lookup x=none∧r.lookup x=some c)
 | [],r,h=> .inr ⟨rfl,h⟩
 | (y,d)::l,r,h=>by
  rw[List.cons_append,List.lookup_cons] at h;rw[List.lookup_cons];cases e:x==y with
  | true=>rw[e] at h; exact .inl h
  | false=>rw[e] at h; exact ZL h
theorem Ye{c:α}: ∀{l r:List (Str×α)},l.lookup x=some c→(l++r).lookup x=some c
 | [],r,h=>by cases h
 | (y,d)::l,r,h=>by
  rw[List.lookup_cons] at h;rw[List.cons_append,List.lookup_cons];cases e:x==y with
  | true=>rw[e] at h; exact h
  | false=>rw[e] at h; exact Ye h
theorem Xp: ∀{l r:List (Str×α)},l.lookup x=none→(l++r).lookup x=r.lookup x
 | [],r,h=>rfl
 | (y,d)::l,r,h=>by
  rw[List.lookup_cons] at h;rw[List.cons_append,List.lookup_cons];cases e:x==y with
  | true=>rw[e] at h; cases h
  | false=>rw[e] at h; exact Xp h
theorem NScope.own(S:NScope o sc TN F)(h:(ownC n sc).lookup x=some c):sc.names.lookup x=some .cell:=by
 rcases xi sc.names (n+1) [] x c (PySem.mem_of_lookup h) with z | z
 ·exact S.clN _ z rfl
 ·cases z
theorem NScope.notown(S:NScope o sc TN F)(h:(x,NameKind.free)∈sc.names):(ownC n sc).lookup x=none:=by
 cases e:(ownC n sc).lookup x with
 | none=>rfl
 | some c=>
  have h1:=S.own e;rw[(S.fr _ h rfl).2] at h1;cases h1
theorem x6{env:Env}{y:Str}: ∀{names:List (Str×NameKind)},
    ((names.map fun(n,k)=>if (k==NameKind.free&&env.scope.kind== .function&&env.kindOf n==some .cell) then (n,NameKind.cell) else (n,k)).lookup y=some .cell∨
     (names.map fun(n,k)=>if (k==NameKind.free&&env.scope.kind== .function&&env.kindOf n==some .cell) then (n,NameKind.cell) else (n,k)).lookup y=some .free)→(y,NameKind.free)∈names∨(y,NameKind.cell)∈names
  | [],h=>by simp at h
  | (n,k)::r,h=>by
    have ih:=@x6 env y r;have h':List.lookup y ((if (k==NameKind.free&&env.scope.kind== .function&&env.kindOf n==some .cell)=true then (n,NameKind.cell) else (n,k))::(r.map fun(n,k)=>if (k==NameKind.free&&env.scope.kind== .function&&env.kindOf n==some .cell) then (n,NameKind.cell) else (n,k)))=some .cell∨
      List.lookup y ((if (k==NameKind.free&&env.scope.kind== .function&&env.kindOf n==some .cell)=true then (n,NameKind.cell) else (n,k))::(r.map fun(n,k)=>if (k==NameKind.free&&env.scope.kind== .function&&env.kindOf n==some .cell) then (n,NameKind.cell) else (n,k)))=some .free:=h
    clear h;have more:((y,NameKind.free)∈r∨(y,NameKind.cell)∈r)→(y,NameKind.free)∈(n,k)::r∨(y,NameKind.cell)∈(n,k)::r:=fun z=>z.elim (fun z=> .inl (List.mem_cons_of_mem _ z)) fun z=> .inr (List.mem_cons_of_mem _ z);cases hx:y==n with
    | true=>
      have e:y=n:=by simpa using hx
      subst e;by_cases hc':(k==NameKind.free&&env.scope.kind== .function&&env.kindOf y==some .cell)=true
      · have hk:k= .free:=by
          have:=(Bool.and_eq_true _ _▸(Bool.and_eq_true _ _▸hc').1).1;simpa using this
        subst hk;exact .inl List.mem_cons_self
      · rw[if_neg hc'] at h'
        simp only[List.lookup_cons,beq_self_eq_true] at h';rcases h' with h' | h'
        · cases h'
          exact .inr List.mem_cons_self
        · cases h'
          exact .inl List.mem_cons_self
    | false=>
      by_cases hc':(k==NameKind.free&&env.scope.kind== .function&&env.kindOf n==some .cell)=true
      · rw[if_pos hc'] at h'; simp only[List.lookup_cons,hx] at h'; exact more (ih h')
      · rw[if_neg hc'] at h'; simp only[List.lookup_cons,hx] at h'; exact more (ih h')
theorem newEnv_cells{E:Value→Shared→Prop}{s:Shared}{globals:Addr}{qual:Str}{env:Env}{Q:Env→Shared→Prop}
  (hQ: ∀h',h'.Ns s.heap.objs.size (fun _=>none)→(∀b o,s.heap.get? b=some o→h'.get? b=some o)→(∀x c,(ownC s.heap.objs.size scope).lookup x=some c→h'.IsCell c none∧s.heap.objs.size<c)→((ownC s.heap.objs.size scope).Pairwise fun x y=>x.2≠y.2)→
   Q {scope:=scope,locals:=s.heap.objs.size,globals:=globals,cells:=ownC s.heap.objs.size scope++cl,qual:=qual,func:=none,code:=env.code,frame:=env.frame,builtins:=env.builtins} {s with heap:=h'}):
  wpAny M A (newFunctionEnv scope globals cl [] qual none .none (some env)) Q E s:=by
 simp only[newFunctionEnv,Option.isSome_some,if_true];refine wpAny_bind (wpAny_alloc ?_);refine wpAny_bind (wpAny_layCells _ (fun name kind cells=>by cases hkc:kind==NameKind.cell<;>simp[hkc]) _ _ _ _ ?_);have ok:=cellsFrom_ok scope.names (s.heap.push {cls:= .type "dict",data:= .dict #[]}) (s.heap.objs.size+1) [] ⟨fun _ _ hm=>(nomatch hm),List.Pairwise.nil⟩ (by rw[Heap.size_push]; exact Nat.le_refl _);rw[Heap.size_push] at ok;rw[show({s with heap:=s.heap.push {cls:= .type "dict",data:= .dict #[]}}:Shared).heap.objs.size=s.heap.objs.size+1 from Heap.size_push ..];rw[yJ];refine wpAny_bind ?_;rw[List.forIn_nil];refine wpAny_pure (wpAny_pure ?_);exact hQ _ ((Heap.Ns.new s.heap (.type "dict")).keeps (pushCells_keeps _ _)) (fun b o e=>pushCells_keeps _ _ b o (Heap.get?_push_of_some _ e)) (fun x c hc=>⟨(ok.empty x c (PySem.mem_of_lookup hc)).1,(ok.empty x c (PySem.mem_of_lookup hc)).2⟩) ok.apart
def cxN (X:Cx) (N:List Str) (sc:Scope) (cl:List (Str×Addr)) (C:Addr) (fp:List Addr) (s₃:Shared) (H₃:Hp) (xe:Value→Shared→Prop):Cx:=
 {X with N:=N,s₀:=s₃,H₀:=H₃,env:=compEnvC sc cl C X.env,outer:=X.stack,ex:=fp,fn:=fun y=>sc.names.lookup y==some .cell,pn:=[],xe:=xe}
theorem inv_compN{X:Cx}{ix:List Nat}{h4:Heap}{m:Str→Option Value}{xe:Value→Shared→Prop}
  (S:NScope X.env.scope sc TN F) (hix:ix.map (fun i=>X.N[i]?)=F.map some) (I:Inv X pins σ H s) (hf: ∀b∈fp,FpOk X pins H b) (ho: ∀b∈fp,∃o,s.heap.get? b=some o)
  (hk: ∀b o,s.heap.get? b=some o→h4.get? b=some o) (hn:h4.Ns s.heap.objs.size m) (hcl: ∀x c,(ownC s.heap.objs.size sc).lookup x=some c→h4.IsCell c none∧s.heap.objs.size<c) (hap:(ownC s.heap.objs.size sc).Pairwise fun x y=>x.2≠y.2):
  Inv (cxN X (TN++F) sc (allC X.env s.heap.objs.size sc) s.heap.objs.size fp s H xe) [] (List.replicate TN.length none++sub ix σ) H {s with heap:=h4,toks:=tk}:=by
 have cl0: ∀x c,(cloF X.env sc.names []).lookup x=some c→X.env.cells.lookup x=some c:=fun x c e=>by
  rw[ye] at e;by_cases hx:(x,NameKind.free)∈sc.names
  ·rw[if_pos hx] at e;obtain⟨c',hc'⟩:=I.ok.has x (.inl (S.fr _ hx rfl).1);rw[hc'] at e ⊢;exact e
  ·rw[if_neg hx] at e;cases e
 have cl: ∀x c,(allC X.env s.heap.objs.size sc).lookup x=some c→(ownC s.heap.objs.size sc).lookup x=some c∨X.env.cells.lookup x=some c:=fun x c e=>by
  rcases ZL e with z | ⟨_,z⟩
  ·exact .inl z
  ·exact .inr (cl0 x c z)
 have old: ∀x c,X.env.cells.lookup x=some c→c<s.heap.objs.size:=fun x c e=>by
  obtain⟨v,o,ho',_⟩:=I.cell x c e;exact Heap.lt_size ho'
 have cl': ∀x,(x,NameKind.free)∈sc.names→(allC X.env s.heap.objs.size sc).lookup x=X.env.cells.lookup x:=fun x hx=>by
  unfold allC;rw[Xp (S.notown hx),ye,if_pos hx];obtain⟨c',hc'⟩:=I.ok.has x (.inl (S.fr _ hx rfl).1);rw[hc'];rfl
 have hlen:ix.length=F.length:=by
  have:=congrArg List.length hix;simpa using this
 refine⟨⟨I.ok.mod,S.kind,I.ok.glob,I.ok.blt,Nat.le_refl _,fun x y c h1 h2=>?_,fun x hx=>?_,fun x c z h=>?_,I.ok.hd,I.ok.frames,.inl rfl,fun b hb=>⟨?_,fun x c e=>?_⟩,
  I.bs,Nat.le_trans I.ok.bsz I.sz,fun b o e hb=>?_,fun b hb hfs=>?_,I.stack,I.stkFree⟩,rfl,I.bare,Un.kept hk,⟨m,hn,fun i x v h1 h2 h3=>?_⟩,fun x c e=>?_,I.hok.fresh (Nat.le_refl _),fun x c e=>?_,fun p hp=>absurd (show p∈([]:List (Addr×Obj)) from hp) (by simp),I.hok.kept hk,?_⟩
 ·rcases cl x c h1 with a | a<;>rcases cl y c h2 with b | b
  ·exact name_of_addr hap (PySem.mem_of_lookup a) (PySem.mem_of_lookup b)
  ·exact absurd (old y c b) (Nat.not_lt.mpr (Nat.le_of_lt (hcl x c a).2))
  ·exact absurd (old x c a) (Nat.not_lt.mpr (Nat.le_of_lt (hcl y c b).2))
  ·exact I.ok.inj x y c a b
 ·rcases x6 (env:=X.env) hx with hx' | hx'
  ·obtain⟨c,hc⟩:=I.ok.has x (.inl (S.fr _ hx' rfl).1);exact⟨c,(cl' x hx').trans hc⟩
  ·obtain⟨c,hc⟩:=wH (n:=s.heap.objs.size+1) (S.clN _ hx' rfl);exact⟨c,Ye hc⟩
 ·have z':sc.names.lookup x=some .cell:=by simpa[cxN] using z
  obtain⟨c',hc⟩:=wH (n:=s.heap.objs.size+1) z';have hc':(allC X.env s.heap.objs.size sc).lookup x=some c':=Ye hc;have h':(allC X.env s.heap.objs.size sc).lookup x=some c:=h;have ec:c'=c:=Option.some.inj (hc'.symm.trans h');rw[←ec];exact Nat.le_of_lt (hcl x c' hc).2
 ·obtain⟨o,e⟩:=ho b hb;exact Nat.ne_of_lt (Heap.lt_size e)
 ·rcases cl x c e with z | z
  ·obtain⟨o,eb⟩:=ho b hb;exact fun w=>absurd (Heap.lt_size eb) (by rw[←w]; exact Nat.not_lt.mpr (Nat.le_of_lt (hcl x c z).2))
  ·exact(hf b hb).2.2.2.2.1 x c z
 ·rcases(hf b hb).2.2.2.1 with z | z
  ·exact I.ok.noex b o e z
  ·exact absurd (Nat.lt_of_lt_of_le (Heap.lt_size e) (Nat.le_trans I.ok.bsz z)) (Nat.lt_irrefl _)
 ·rcases List.mem_cons.mp (I.stkSub b hfs) with z | z
  ·exact(hf b hb).2.1 z
  ·exact(hf b hb).2.2.1 z
 ·have hi:TN.length≤i:=by
   apply Nat.le_of_not_lt
   intro hlt;rw[List.getElem?_append_left (by simpa using hlt),List.getElem?_replicate] at h2;split at h2<;>cases h2
  rw[List.getElem?_append_right (by simpa using hi),List.length_replicate] at h2;have h1':F[i-TN.length]? =some x:=by
   have:(TN++F)[i]? =some x:=h1;rw[List.getElem?_append_right hi] at this;exact this
  have e3:=congrArg (fun l=>l[i-TN.length]?) hix;simp only[List.getElem?_map,h1',Option.map_some] at e3;unfold sub at h2;rw[List.getElem?_map] at h2;cases ej:ix[i-TN.length]? with
  | none=>rw[ej] at h2; cases h2
  | some k=>
   rw[ej] at h2 e3;have h2':(σ[k]?).join=some v:=Option.some.inj h2;have e3':X.N[k]? =some x:=Option.some.inj e3;have hσ:σ[k]? =some (some v):=by
    cases e:σ[k]? with
    | none=>rw[e] at h2'; cases h2'
    | some q=>
     rw[e] at h2';have:q=some v:=h2';rw[this]
   have hfr:=S.ff x (List.mem_of_getElem? h1');have hcell:=(S.fr _ hfr rfl).1;obtain⟨m0,hn0,hl0⟩:=I.loc;obtain⟨u,r,l⟩:=hl0 k x v e3' hσ (.inr (.inl hcell));refine⟨u,r,?_⟩;rcases l with ⟨l1,_⟩ | ⟨_,c,hc,o,ho',hd⟩
   ·have l1':X.env.scope.names.lookup x=some .local:=l1;rw[hcell] at l1';cases l1'
   ·exact .inr ⟨.inl (xB (env:=X.env) S.okind hcell (S.fr _ hfr rfl).2),c,(cl' x hfr).trans hc,o,hk c o ho',hd⟩
 ·rcases cl x c e with z | z
  ·exact⟨_,(hcl x c z).1⟩
  ·obtain⟨v,o,ho',hd⟩:=I.cell x c z;exact⟨v,o,hk c o ho',hd⟩
 ·rcases cl x c e with z | z
  ·exact I.hok.fresh (Nat.le_of_lt (hcl x c z).2)
  ·exact I.freeC x c z
 ·show _=(TN++F).length;rw[List.length_append,List.length_append,List.length_replicate];unfold sub;rw[List.length_map,hlen]
theorem comp_blockN{X:Cx}{ix:List Nat}{tn:Nat→Heap→Prop}
  {RR:Value→Addr→Result→Shared→Prop} {E:Value→Shared→Prop}
  (S:NScope X.env.scope sc TN F) (hix:ix.map (fun i=>X.N[i]?)=F.map some) (hc:X.calm=true) (I:Inv X pins σ H s) (T:Turn X.prog X.w X.K tg J fp it tn) (st:tn 0 s.heap) (hf: ∀b∈fp,FpOk X pins H b)
  (hg: ∀cl C fp s3 H3 xe,PG (cxN X (TN++F) sc cl C fp s3 H3 xe) tg g) (ht: ∀cl C fp s3 H3 xe,PTs (cxN X (TN++F) sc cl C fp s3 H3 xe) ifs tc) (he: ∀cl C fp s3 H3 xe,PE (cxN X (TN++F) sc cl C fp s3 H3 xe) elt te)
  (hW: ∀D,H D=none→CGo J D g tc te Q (List.replicate TN.length none++sub ix σ) H)
  (fin: ∀D C H' s',Inv X pins σ H' s'→(∃m,s'.heap.Ns C m)→H' C=none→C≠X.env.locals→X.s₀.heap.objs.size≤C→(∀x c,X.env.cells.lookup x=some c→c≠C)→(∀p∈X.pn++pins,p.1≠C)→Q (.ref D) H'→RR (.ref D) C (.ok .next) s'):
  wpAny (model X.prog X.w) X.A (newList []) (fun acc s₃=>wpAny (model X.prog X.w) X.A (newFunctionEnv sc X.env.globals (cloF X.env sc.names []) [] X.env.qual none .none (some X.env)) (fun cenv s₄=>
   codeAny (model X.prog X.w) X.A (.compStart (.ListComp elt [⟨tg,iter,ifs,0⟩] sc pos) 0 (.ref it) acc {cenv with scope:=relabel sc X.env}) (RR acc cenv.locals) s₄) E s₃) E s:=by
 have hfo: ∀b∈fp,∃o,s.heap.get? b=some o:=fun b hb=>let ⟨o,e,_⟩:=T.obj 0 _ st b hb; ⟨o,e⟩
 refine wpAny_newObj_type ?_;obtain⟨W,⟨m0,w0⟩,go⟩:=hW s.heap.objs.size I.fresh;have I3:Inv X pins σ (upd H s.heap.objs.size (.lst [])) {s with heap:=s.heap.push {cls:= .type "list",data:= .seq ([]:List Value).toArray}}:=I.lnew (its:=[]) (ys:=[]) (t':=s.toks) .nil (Nat.zero_le _);generalize hs3:({s with heap:=s.heap.push {cls:= .type "list",data:= .seq ([]:List Value).toArray}}:Shared)=s3 at I3;have hk3: ∀b o,s.heap.get? b=some o→s3.heap.get? b=some o:=fun b o e=>by
  rw[←hs3];exact Heap.get?_push_of_some _ e
 have hf3: ∀b∈fp,FpOk X pins (upd H s.heap.objs.size (.lst [])) b:=fun b hb=>by
  obtain⟨o,e⟩:=hfo b hb;exact⟨by rw[zh (Nat.ne_of_lt (Heap.lt_size e))]; exact(hf b hb).1,(hf b hb).2⟩
 have st3:tn 0 s3.heap:=T.keep 0 _ _ st fun b hb o e=>hk3 b o e;show wpAny _ _ _ _ _ s3;refine newEnv_cells (fun h4 hn4 hk4 hcl4 hap4=>?_);generalize hR:RR (.ref s.heap.objs.size) s3.heap.objs.size=R;have loop: ∀s4:Shared,s4={s3 with heap:=h4}→
   codeAny (model X.prog X.w) X.A (.compLoop (.ListComp elt [⟨tg,iter,ifs,0⟩] sc pos) 0 (.ref it) (.ref s.heap.objs.size) (compEnvC sc (allC X.env s3.heap.objs.size sc) s3.heap.objs.size X.env)) R s4:=by
  rintro s4 rfl
  let X':Cx:=cxN X (TN++F) sc (allC X.env s3.heap.objs.size sc) s3.heap.objs.size fp s3 (upd H s.heap.objs.size (.lst [])) (notedBy (model X.prog X.w) X.A (compEnvC sc (allC X.env s3.heap.objs.size sc) s3.heap.objs.size X.env) fun e s'=>R (.error e) s')
  have I4:Inv X' [] (List.replicate TN.length none++sub ix σ) (upd H s.heap.objs.size (.lst [])) {s3 with heap:=h4}:=
   inv_compN S hix I3 hf3 (fun b hb=>let ⟨o,e⟩:=hfo b hb; ⟨o,hk3 b o e⟩) hk4 hn4 hcl4 hap4
  have fpx: ∀{H':Hp},(∀b∈fp,H' b=none)→ ∀b∈fp,FpOk X' [] H' b:=fun {H'} hn b hb=>by
   refine⟨hn b hb,(I4.ok.exf b hb).1,fun z=>I4.ok.exfs b hb z,.inl hb,fun x c e=>(I4.ok.exf b hb).2 x c e,fun p hp=>absurd (show p∈([]:List (Addr×Obj)) from hp) (by simp)⟩
  refine Zb (fun n s'=> ∃i τ ys H',Inv X' [] τ H' s'∧tn i s'.heap∧(∀b∈fp,H' b=none)∧W i n τ ys H') ?_ m0 ⟨0,_,[],_,I4,T.keep 0 _ _ st3 fun b hb o e=>hk4 b o e,fun b hb=>(hf3 b hb).1,w0⟩;rintro n s5 ⟨i,τ,ys,H5,I5,st5,fr5,w5⟩;obtain⟨hD,hgo⟩:=go i n τ ys H5 w5;rcases hgo with ⟨stop,q⟩ | ⟨hgo,step⟩
  ·refine thn (T.done X' rfl rfl rfl hc i [] s5 τ H5 X'.xe I5 (fpx fr5) st5 stop) fun r s6 ⟨hr,I6⟩=>?_;subst hr;show R (.ok .next) s6;rw[←hR];have J6:Inv X pins σ H5 s6:=I3.call' (ch:=fp) I6.os I6.base I6.hok I6.bare fun b hb=>⟨(hf3 b hb).2.2.2.1,(hf3 b hb).2.1,(hf3 b hb).2.2.2.2.1,(hf3 b hb).2.2.2.2.2⟩;refine fin s.heap.objs.size s3.heap.objs.size H5 s6 J6 (let ⟨m,hn,_⟩:=I6.loc; ⟨m,hn⟩) I6.free (Nat.ne_of_gt I3.lt) I3.sz (fun x c e z=>?_) (fun p hp z=>?_) q
   ·obtain⟨v,o,ho,_⟩:=I3.cell x c e;exact absurd (Heap.lt_size ho) (by rw[z]; exact Nat.lt_irrefl _)
   ·exact absurd (Heap.lt_size (I3.pin p hp).1) (by rw[z]; exact Nat.lt_irrefl _)
  ·refine thn (T.item X' rfl rfl rfl hc i [] s5 τ H5 X'.xe I5 (fpx fr5) st5 hgo) fun r s6 ⟨u,hr,h6⟩=>?_;subst hr;refine thn h6 fun _ s7 ⟨v,H7,I7,r7,y7,st7,fr7⟩=>?_;have I7':=I7.pinned (fpx fr7) (T.obj _ _ st7);refine thn (hg _ _ _ _ _ _ _ s7 τ H7 v u _ I7' r7 (step v H7 y7)) fun _ s8 ⟨τ8,H8,I8,q8⟩=>?_;refine thn (ht _ _ _ _ _ _ _ s8 τ8 H8 _ I8 q8) fun ok s9 ⟨H9,I9,q9⟩=>?_;have again: ∀{ys':List V} {H':Hp} {s':Shared},Inv X' ([]++wS fp s7.heap) τ8 H' s'→(∃m',m'<n∧W (i+1) m' τ8 ys' H')→ ∃m,m<n∧ ∃i τ ys H'',Inv X' [] τ H'' s'∧tn i s'.heap∧(∀b∈fp,H'' b=none)∧W i m τ ys H'':=fun {ys' H' s'} I' ⟨m',hm,w'⟩=>by
    refine⟨m',hm,i+1,τ8,ys',H',I'.unpinned,T.keep _ _ _ st7 fun b hb o e=>(I'.pin (b,o) (List.mem_append_right _ (List.mem_append_right _ (yD hb e)))).1,fun b hb=>?_,w'⟩;obtain⟨o,e,d⟩:=T.obj _ _ st7 b hb;exact(I'.pin (b,o) (List.mem_append_right _ (List.mem_append_right _ (yD hb e)))).2.1
   cases ok with
   | false=>
    exact again I9 q9
   | true=>
    refine thn (he _ _ _ _ _ _ _ s9 τ8 H9 _ I9 q9) fun x s10 ⟨y,H10,I10,r10,hD10,hz10,q10⟩=>?_;exact Zg (X:=X') I10 hD10 hz10 r10 fun s11 I11=>again I11 q10
 subst hR;exact codeAny_compStart_list (loop _ rfl) (T.self X.A 0 _ _ _ (T.keep 0 _ _ st3 fun b hb o e=>hk4 b o e) (loop _ rfl))
section
variable {X:Cx} {sc:Scope} {TN F:List Str} {ix:List Nat} {elt tg iter:Expr} {ifs:List Expr} {pos:Pos} {g:TG} {tc:TT} {te:TE} {wi:TI}
theorem closure_ofN(S:NScope X.env.scope sc TN F)(I:Inv X pins σ H s):closureFor sc X.env=pure (cloF X.env sc.names []):=
 wf fun x hx hk=>I.ok.has x.1 (.inl (S.fr x hx hk).1)
theorem vA(S:NScope X.env.scope sc TN F)(hix:ix.map (fun i=>X.N[i]?)=F.map some)(hc:X.calm=true)(hi:PI X tg iter wi)
  (hg: ∀cl C fp s3 H3 xe,PG (cxN X (TN++F) sc cl C fp s3 H3 xe) tg g) (ht: ∀cl C fp s3 H3 xe,PTs (cxN X (TN++F) sc cl C fp s3 H3 xe) ifs tc) (he: ∀cl C fp s3 H3 xe,PE (cxN X (TN++F) sc cl C fp s3 H3 xe) elt te)
  (hs: ∀x,foldedSetIterable iter X.env x=pure x:=by intro _; rfl):PE X (.ListComp elt [⟨tg,iter,ifs,0⟩] sc pos) (wY wi TN.length ix g tc te):=by
 intro pins s σ H Q I h;rw[eval_ListComp];refine wpAny_comprehension_free (use:=none) rfl hs (closure_ofN S I) S.kind S.names (thn (hi pins s σ H _ I h) fun v s1 h1=>thn h1 fun itv s2 h2=>?_);obtain⟨it,fp,tn,J,H2,e,I2,T,st2,f2,q2⟩:=h2;subst e;refine comp_blockN (RR:=fun acc C=>compPost (model X.prog X.w) X.A X.xe none (EP X pins σ Q) acc C) S hix hc I2 T st2 f2 hg ht he q2 fun D C H' s' I' hn hC1 hC2 hC3 hC4 hC5 q=>?_;obtain⟨m,hn⟩:=hn;exact⟨m,hn,fun h' hs'=>⟨.ref D,H',I'.turned (t':=s'.toks) (fun b o hb e=>(hs'.2 b hb).trans e) hC1 hC2 (.inr hC3) hC4 hC5,rfl,q⟩⟩
end
structure NBScope (o sc:Scope) (TN F G:List Str):Prop extends NScope o sc TN F where
 nd:(TN++F).Nodup
 vis: ∀x∈TN++F,Vis (ym sc o) x
 loc: ∀x∈TN,(ym sc o).names.lookup x=some .local∨((ym sc o).names.lookup x=some .cell∧sc.names.lookup x=some .cell)
 gl: ∀x∈G,(ym sc o).names.lookup x=some .globalImplicit
section
variable {X:Cx} {sc:Scope} {TN F G:List Str} {cl:List (Str×Addr)} {C:Addr} {fp:List Addr} {s3:Shared} {H3:Hp} {xe:Value→Shared→Prop} {x:Str} {pos:Pos}
theorem pvbN(S:NBScope X.env.scope sc TN F G)(i:Nat)(hN:(TN++F)[i]? =some x:=by rfl)(hd:(x==("__debug__":Str))=false:=by decide)(hcd:(x==("__classdict__":Str))=false:=by decide):PE (cxN X (TN++F) sc cl C fp s3 H3 xe) (.Name x pos) (tVar i):=
 vz hN (S.vis x (List.mem_of_getElem? hN)) hd hcd
theorem pgbN(S:NBScope X.env.scope sc TN F G)(i:Nat)(hN:(TN++F)[i]? =some x:=by rfl)(hT:TN[i]? =some x:=by rfl):PG (cxN X (TN++F) sc cl C fp s3 H3 xe) (.Name x pos) (zI i):=by
 rcases S.loc x (List.mem_of_getElem? hT) with z | ⟨z,z'⟩
 ·exact vg S.nd hN (.inl z) (.inr z)
 ·exact vg S.nd hN (.inr z) (.inl (by show(sc.names.lookup x==some .cell)=true; rw[z']; rfl))
theorem pgb_tupN{n:Nat}(hc:X.calm=true)(h:PGs (cxN X N sc cl C fp s3 H3 xe) es t)
  (hn:(assignEach es (cxN X N sc cl C fp s3 H3 xe).env).length=n:=by rfl) (hst:(assignEach es (cxN X N sc cl C fp s3 H3 xe).env).findIdx? (·.1)=none:=by rfl):PG (cxN X N sc cl C fp s3 H3 xe) (.Tuple es k pos) (gTup X.K n t):=wT (X:=cxN X N sc cl C fp s3 H3 xe) hc h hn hst
theorem NBScope.g(S:NBScope X.env.scope sc TN F G)(i:Nat)(hG:G[i]? =some x:=by rfl):Gl (cxN X (TN++F) sc cl C fp s3 H3 xe) x:=S.gl x (List.mem_of_getElem? hG)
end
end L2
namespace PySem
open Sem (wp)
open Builtin
open AutoSeq1 (wpAny_loadPart')
end PySem
namespace L2
open PySem PySem.Spec PyProof.Rows
section
variable {X:Cx}
theorem YI{c A B:Prop}[Decidable c](h1: ¬c→A)(h2:c→B):if (!decide c)=true then A else B:=by
 by_cases hc:c
 ·rw[decide_eq_true hc];exact h2 hc
 ·rw[decide_eq_false hc];exact h1 hc
end
end L2
namespace HT
open PySem PyProof.Rows
section
variable {prog:Program} {w:World} {A:Around} {E:Value→Shared→Prop} {s:Shared}
theorem getItem_tuple_all{t sl:Addr}{items:Array Value}{vl vu:Value}{lo hi:Option Int}{Q:Value→Shared→Prop}(ht:IsTup s.heap t items)(hs:s.heap.IsSliceOf sl vl vu .none)(pl:IsPart vl lo)(pu:IsPart vu hi)
  (hw:sIx items.size 0 lo=0∧sIx items.size items.size hi=items.size) (h:Q (.ref t) s):wpAny (model prog w) A (getItem (.ref t) (.ref sl)) Q E s:=by
 obtain⟨os,hos,hcs,hds⟩:=id hs;have hTs:s.TypeIs (.ref sl) "slice":=⟨os,hos,hcs⟩;unfold getItem
 try with_reducible refine wpAny_holding ?_
 first | refine wpAny_bind (wpAny_pure ?_) | skip
 refine wpAny_bind (wpAny_sequenceKey ht.typeIs (by decide) ?_);refine wpAny_bind (wpAny_callSpecial?_slot (name:=Str.ofString "__getitem__") ht.typeIs PyProof.Rows.slot_tuple_getitem
  (wpAny_call_entry PyProof.Rows.slot_tuple_getitem ht.typeIs entry_tuple_getitem ?_ (args_tuple_getitem _ _)))
 show wpAny _ _ (Builtin.Tuple.tupleItemsOf (.ref t)>>=_) _ _ s;refine wpAny_bind (tupleItemsOf_ ht ?_);refine wpAny_bind (wpAny_typeOf hTs ?_);rw[if_pos (by decide)];refine wpAny_bind (xz hs pl pu ?_);have hyes:(((sIx items.size 0 lo:Nat):Int)==0&&(1:Int)==1&&(sIx items.size items.size hi-sIx items.size 0 lo)==items.size)=true:=by
  rw[hw.1,hw.2];simp
 show wpAny _ _ (if (((sIx items.size 0 lo:Nat):Int)==0&&(1:Int)==1&&(sIx items.size items.size hi-sIx items.size 0 lo)==items.size)=true then _ else _) _ _ s;rw[if_pos hyes];refine wpAny_bind (m:=Builtin.Tuple.tupleIsExact _) ?_;unfold Builtin.Tuple.tupleIsExact;refine wpAny_bind (wpAny_typeOf ht.typeIs (wpAny_pure ?_));rw[if_pos (by decide)];refine wpAny_bind (wpAny_rule ?_)
 first
  | exact wpAny_pure ⟨_,rfl,wpAny_pure h⟩
  | exact wpAny_bind (wpAny_pure (wpAny_pure ⟨_,rfl,wpAny_pure h⟩))
  | exact wpAny_bind (wpAny_pure ⟨_,rfl,wpAny_pure h⟩)
end
end HT
namespace L2
open PySem PySem.Spec PyProof.Rows
section
variable {X:Cx}
def rSlG:V→Option Int→Option Int→Hp→VK→Prop:=fun x lo hi H Q=> ∃a xs,x= .ref a∧H a=some (.tup xs)∧ ∀q H',Same H H'→H' q=some (.tup (cutV xs lo hi))→Q (.ref q) H'
theorem xX:SlR X rSlG:=by
 intro pins s σ H x v vl vu lo hi sl Q I rx hs pl pu h;obtain⟨a,xs,rfl,hH,q⟩:=h;by_cases hw:HT.sIx xs.length 0 lo=0∧HT.sIx xs.length xs.length hi=xs.length
 ·cases rx
  obtain⟨its,r,ht,hz⟩:=I.tuple (SqT.of hH);have hlen:its.toArray.size=xs.length:=by rw[List.size_toArray]; exact r.length.symm
  refine⟨"tuple",_,PyProof.Rows.slot_tuple_getitem.lookup,ht.typeIs,?_⟩;refine HT.getItem_tuple_all ht hs pl pu (by rw[hlen]; exact hw) ?_;refine⟨.ref a,H,I,rfl,q a H (Same.refl H) ?_⟩;have e:cutV xs lo hi=xs:=by
   unfold cutV;rw[hw.1,hw.2,List.drop_zero,Nat.sub_zero,List.take_length]
  rw[e];exact hH
 ·exact Z6 pins s σ H _ v vl vu lo hi sl Q I rx hs pl pu ⟨a,xs,rfl,SqT.of hH,hw,fun p hp=>q p _ (Same.new (Same.refl H) hp) zf⟩
def vS:R2:=fun x y H Q=> ∃a b xs ys,x= .ref a∧y= .ref b∧H a=some (.tup xs)∧H b=some (.tup ys)∧xs.length+ys.length≤1000∧ ∀q H',Same H H'→H' q=some (.tup (xs++ys))→Q (.ref q) H'
theorem xp:OpR X (binaryOp .Add) vS:=by
 intro pins s σ H x y v u Q I rx ry h;obtain⟨a,b,xs,ys,rfl,rfl,ha,hb,hz,q⟩:=h;have hz':xs.length+ys.length≤sizeLine:=Nat.le_trans hz (by decide);by_cases hx:xs=[]
 ·cases rx
  cases ry
  obtain⟨its,r1,p1,_⟩:=I.tuple (SqT.of ha);obtain⟨its2,r2,p2,_⟩:=I.tuple (SqT.of hb);obtain⟨⟨cls,dd,data,sl⟩,ho,hc,n,hd⟩:=id p1;obtain⟨⟨cls2,dd2,data2,sl2⟩,ho2,hc2,n2,hd2⟩:=id p2;simp only at hc hd hc2 hd2;subst hc hd hc2 hd2;have hv:its=[]:=r1.nil_iff.mpr hx;refine concat_meets ⟨_,ho,rfl⟩ ⟨_,ho2,rfl⟩ noFill_tuple_add seq_tuple_add PySem.F.slot_tuple_add PySem.F.entry_tuple_add (PySem.F.args_tuple_add_2 _ _)
   (tuple_addW0 a b its.toArray its2.toArray n n2 dd dd2 sl sl2 (by simp[hv])) ⟨ho,ho2,?_⟩
  refine⟨.ref b,H,I,rfl,q b H (Same.refl H) ?_⟩;rw[hx,List.nil_append];exact hb
 ·refine Zr pins s σ H _ _ v u Q I rx ry ⟨a,b,xs,ys,rfl,rfl,SqT.of ha,SqT.of hb,hx,hz',fun e=>?_,fun _ p hp=>q p _ (Same.new (Same.refl H) hp) zf⟩;refine q a H (Same.refl H) ?_;rw[e,List.append_nil];exact ha
end
end L2
namespace PySem
open Sem (wp)
open Builtin
open AutoSeq1 (wpAny_loadPart')
end PySem
namespace L2
open PySem PySem.Spec PyProof.Rows
section
variable {X:Cx}
def rLnT:List V→Hp→VK→Prop:=fun xs H Q=> ∃(p:Addr) (ys:List V),xs=[.ref p]∧H p=some (.tup ys)∧Q (.int ys.length) H
def XW:List V→Hp→VK→Prop:=fun xs H Q=> ∃(p:Addr) (ys:List V),xs=[.ref p]∧H p=some (.lst ys)∧ ∀q H',Same H H'→H' q=some (.tup ys)→Q (.ref q) H'
theorem yd:yn X (.type "tuple") XW:=fun pins s σ H xs us Q I r h=>zK pins s σ H xs us Q I r (let ⟨p,ys,e,hp,q⟩:=h; ⟨p,ys,e,.inl ⟨SqL.of hp,fun l hl=>q l _ (Same.new (Same.refl H) hl) zf⟩⟩)
end
end L2
namespace G2
open PySem L2
end G2
namespace L2
open PySem PySem.Spec PyProof.Rows
abbrev KT (H:Hp):List (List Key×V)→List (List Key×Addr×Value)→Prop:=Paired fun p q=>p.1=q.1∧H q.2.1=some (.tup (p.1.map kV))∧RelV p.2 q.2.2
structure M1 (X:Cx) (o:Expr) (m:Str) (apos:Pos) (e:Expr) (cpos:Pos):Prop where
 base:attributeBase o m X.env (eval o X.env)=eval o X.env
 few:((backTo cpos (starEach [e] X.env)).all (fun x=> !x.1)&&(backToKw cpos (keywordEach [] X.env)).all (fun x=>x.1.isSome)
  &&decide (([e]:List Expr).length+([]:List Keyword).length+(if ([]:List Keyword).isEmpty then 0 else 1)<30))=true
 line:(apos.endLine==cpos.line)=true
 trees:backTo cpos (starEach [e] X.env)=[(false,eval e X.env)]
structure M2 (X:Cx) (o:Expr) (m:Str) (apos:Pos) (e f:Expr) (cpos:Pos):Prop where
 base:attributeBase o m X.env (eval o X.env)=eval o X.env
 few:((backTo cpos (starEach [e,f] X.env)).all (fun x=> !x.1)&&(backToKw cpos (keywordEach [] X.env)).all (fun x=>x.1.isSome)
  &&decide (([e,f]:List Expr).length+([]:List Keyword).length+(if ([]:List Keyword).isEmpty then 0 else 1)<30))=true
 line:(apos.endLine==cpos.line)=true
 trees:backTo cpos (starEach [e,f] X.env)=[(false,eval e X.env),(false,eval f X.env)]
section
variable {X:Cx} {k:Nat}
def rEqE:R2:=fun x y H Q=> ∃(a z:Addr) (xs:List V),x= .ref a∧y= .ref z∧H a=some (.lst xs)∧H z=some (.lst [])∧Q (.bl xs.isEmpty) H
theorem Xj(hr:Room k X.A):OpR X (compareOp .Eq) rEqE:=by
 intro pins s σ H x y v u Q I rx ry h;obtain⟨a,z,xs,rfl,rfl,ha,hz,q⟩:=h;cases rx
 cases ry
 have hu:=hr.units;obtain⟨its,r,pl,_⟩:=I.list (SqL.of ha);obtain⟨its2,r2,pl2,_⟩:=I.list (SqL.of hz);have e2:its2=[]:=r2.nil_iff.mpr rfl;subst e2;cases xs with
 | nil=>
  have e1:its=[]:=r.nil_iff.mpr rfl;subst e1;have R:=SeqAt.RcAt.lists (A:=X.A) (e:=fun _=>true) pl.isList pl2.isList rfl (by omega) (fun j h1 h2=>absurd h1 (by simp));exact R X.prog X.w X.xe _ ⟨.bl _,H,I,rfl,q⟩
 | cons y ys=>
  have hne:its≠[]:=fun e=>by have:=r.nil_iff.mp e; cases this
  have R:=SeqAt.RcAt.lists_lengths (A:=X.A) pl.isList pl2.isList (by simp[hne]) (by omega);exact R X.prog X.w X.xe _ ⟨.bl _,H,I,rfl,q⟩
def rNeE:R2:=fun x y H Q=> ∃(a z:Addr) (xs:List V),x= .ref a∧y= .ref z∧H a=some (.lst xs)∧H z=some (.lst [])∧Q (.bl (!xs.isEmpty)) H
theorem op_neE(hr:Room k X.A):OpR X (compareOp .NotEq) rNeE:=by
 intro pins s σ H x y v u Q I rx ry h;obtain⟨a,z,xs,rfl,rfl,ha,hz,q⟩:=h;cases rx
 cases ry
 have hu:=hr.units;obtain⟨its,r,pl,_⟩:=I.list (SqL.of ha);obtain⟨its2,r2,pl2,_⟩:=I.list (SqL.of hz);have e2:its2=[]:=r2.nil_iff.mpr rfl;subst e2;cases xs with
 | nil=>
  have e1:its=[]:=r.nil_iff.mpr rfl;subst e1;have R:=SeqAt.RcNeAt.lists (A:=X.A) (e:=fun _=>true) pl.isList pl2.isList rfl (by omega) (fun j h1 h2=>absurd h1 (by simp));exact R X.prog X.w X.xe _ ⟨.bl _,H,I,rfl,q⟩
 | cons y ys=>
  have hne:its≠[]:=fun e=>by have:=r.nil_iff.mp e; cases this
  have R:=SeqAt.RcNeAt.lists_lengths (A:=X.A) pl.isList pl2.isList (by simp[hne]) (by omega);exact R X.prog X.w X.xe _ ⟨.bl _,H,I,rfl,q⟩
end
end L2
namespace PySem.SeqAt
open PySem.MeetsSeq PySem PySem.Spec
end PySem.SeqAt
namespace HT
open PySem PySem.Spec PyProof.Rows
end HT
namespace L2
open PySem PySem.Spec PyProof.Rows
inductive Th where
 | non
 | bl (b:Bool)
 | int (i:Int)
 | str (s:Str)
 | tup (ts:List Th)
 | lst
 | dct
mutual
inductive ThAt (H:Hp):V→Th→Prop
 | non:ThAt H .non .non
 | bl (b:Bool):ThAt H (.bl b) (.bl b)
 | int (i:Int):ThAt H (.int i) (.int i)
 | str (s:Str):ThAt H (.str s) (.str s)
 | tup {p:Addr} {vs:List V} {ts:List Th}:H p=some (.tup vs)→ThsAt H vs ts→ThAt H (.ref p) (.tup ts)
 | lst {p:Addr} {vs:List V}:H p=some (.lst vs)→ThAt H (.ref p) .lst
 | dct {p:Addr} {kvs:List (Key×V)}:H p=some (.dK kvs)→ThAt H (.ref p) .dct
inductive ThsAt (H:Hp):List V→List Th→Prop
 | nil:ThsAt H [] []
 | cons {v:V} {t:Th} {vs:List V} {ts:List Th}:ThAt H v t→ThsAt H vs ts→ThsAt H (v::vs) (t::ts)
end
structure KS (H H':Hp):Prop where
 t: ∀q xs,H q=some (.tup xs)→H' q=some (.tup xs)
 l: ∀q xs,H q=some (.lst xs)→ ∃ys,H' q=some (.lst ys)
 d: ∀q xs,H q=some (.dK xs)→ ∃ys,H' q=some (.dK ys)
section
variable {H H' H'':Hp} {a:Addr}
mutual
theorem ThAt.ks(k:KS H H'):ThAt H v t→ThAt H' v t
 | .non=> .non
 | .bl b=> .bl b
 | .int i=> .int i
 | .str s=> .str s
 | .tup h hs=> .tup (k.t _ _ h) (ThsAt.ks k hs)
 | .lst h=>let ⟨_,h'⟩:=k.l _ _ h; .lst h'
 | .dct h=>let ⟨_,h'⟩:=k.d _ _ h; .dct h'
theorem ThsAt.ks(k:KS H H'):ThsAt H vs ts→ThsAt H' vs ts
 | .nil=> .nil
 | .cons h hs=> .cons (ThAt.ks k h) (ThsAt.ks k hs)
end
end
def Th.tn:Th→String
 | .non=>"NoneType"
 | .bl _=>"bool"
 | .int _=>"int"
 | .str _=>"str"
 | .tup _=>"tuple"
 | .lst=>"list"
 | .dct=>"dict"
def Th.isI:Th→Bool
 | .bl _=>true
 | .int _=>true
 | _=>false
def Th.isT:Th→Bool
 | .tup _=>true
 | _=>false
def GTup (K:W.Frag) (mg:Str→Option Value) (x:Str) (vs:List V):Prop:= ∃(a:Addr) (o:Obj) (its:Array Value) (n:Nat),mg x=some (.ref a)∧K.lookup a=some o∧o.cls= .type "tuple"∧o.data= .seq its n∧its.size≤sizeLine∧Vals vs its.toList
end L2
namespace L2
open PySem PySem.Spec PyProof.Rows Builtin Builtin.Str
end L2
namespace L2
open PySem
end L2
namespace L2
open PySem PyProof.Rows
def sg (x:Str):List Str:=x.cps.toList.map fun c=>⟨#[c]⟩
end L2
namespace PySem.W
open PySem PySem.Calls PyProof.Rows
def KasT.eval {α:Type} (lt:Nat→Nat→Bool):KasT α→α
 | .ret a=>a
 | .ask i j k=>(k (lt i j)).eval lt
def KasT.okFor {α:Type} (lt:Nat→Nat→Bool) (n:Nat):KasT α→Bool
 | .ret _=>true
 | .ask i j k=>decide (i<n)&&(decide (j<n)&&(k (lt i j)).okFor lt n)
theorem KasT.eval_wp{cmp:Nat→Nat→(Bool→Shared→Prop)→Shared→Prop}{lt:Nat→Nat→Bool}{Q:α→Shared→Prop}(hc: ∀i j C,C (lt i j) s→i<n→j<n→cmp i j C s): ∀t:KasT α,t.okFor lt n=true→Q (t.eval lt) s→t.kasWp cmp Q s
 | .ret _,_,h=>h
 | .ask i j k,ok,h=>by
  unfold KasT.okFor at ok;rw[Bool.and_eq_true,Bool.and_eq_true] at ok;exact hc i j _ (KasT.eval_wp hc (k (lt i j)) ok.2.2 h) (of_decide_eq_true ok.1) (of_decide_eq_true ok.2.1)
def lexI (fin:Bool):List Int→List Int→Bool
 | x::xs,y::ys=>if x=y then lexI fin xs ys else decide (x<y)
 | _,_=>fin
inductive Nums:List Value→List Int→Prop
 | nil:Nums [] []
 | cons {i:Int} {t:Tok} {us:List Value} {ns:List Int}:Nums us ns→Nums (.int i t::us) (i::ns)
theorem Nums.len: ∀{us:List Value} {ns:List Int},Nums us ns→us.length=ns.length
 | _,_,.nil=>rfl
 | _,_,.cons h=>by rw[List.length_cons,List.length_cons,Nums.len h]
section
variable {prog:Program} {w:World} {A:Around} {E:Value→Shared→Prop} {s:Shared}
theorem ZM{Q:Bool→Shared→Prop}: ∀{us vs:List Value} {xs ys:List Int} (i:Nat),Nums us xs→Nums vs ys→Q (lexI fin xs ys) s→KatLex prog w A true fin Q (us.zip vs) i s
 | _,_,_,_,i,.nil,.nil,h=>h
 | _,_,_,_,i,.nil,.cons _,h=>h
 | _,_,_,_,i,.cons _,.nil,h=>h
 | _,_,x::xs,y::ys,i,.cons (t:=t) (us:=us) h1,.cons (t:=u) (us:=vs) h2,h=>by
  show KatLex prog w A true fin Q ((.int x t,.int y u)::us.zip vs) i s;refine kat_cons (SeqAt.EqAt.int_int x t y u prog w _ _ ?_);by_cases hxy:x=y
  ·rw[show(x==y)=true by simp[hxy]];refine kat_yes (ZM (i+1) h1 h2 ?_);unfold lexI at h;rw[if_pos hxy] at h;exact h
  ·rw[show(x==y)=false by simp[hxy]];unfold lexI at h;rw[if_neg hxy] at h;refine kat_no ?_;rcases Nat.eq_zero_or_pos i with hi | hi
   ·subst hi;exact oneLt_int h
   ·rw[show(true&&i==0)=false by simp; omega];exact kat_one _ _ (lt_int h)
end
end PySem.W
namespace PySem
open Sem (wp)
open AutoSeq1 (wpAny_loadPart')
end PySem
namespace L2
open PySem PySem.Spec PyProof.Rows
section
variable {X:Cx} {k:Nat}
def RowsAt (H:Hp):List Addr→List (List Int)→Prop
 | [],[]=>True
 | a::as,ks::kss=>H a=some (.tup (ks.map V.int))∧RowsAt H as kss
 | _,_=>False
theorem RowsAt.len: ∀{as:List Addr} {kss:List (List Int)},RowsAt H as kss→as.length=kss.length
 | [],[],_=>rfl
 | a::as,ks::kss,h=>by rw[List.length_cons,List.length_cons,RowsAt.len h.2]
 | [],_::_,h=>h.elim
 | _::_,[],h=>h.elim
theorem RowsAt.at: ∀{as:List Addr} {kss:List (List Int)},RowsAt H as kss→ ∀{i:Nat} {a:Addr},as[i]? =some a→ ∃ks,kss[i]? =some ks∧H a=some (.tup (ks.map V.int))
 | a::as,ks::kss,h,0,b,e=>⟨ks,rfl,by
  have:a=b:=by simpa using e
  exact this▸h.1⟩
 | a::as,ks::kss,h,i+1,b,e=>by
  obtain⟨k',h1,h2⟩:=RowsAt.at h.2 (i:=i) (a:=b) (by simpa using e);exact⟨k',by simpa using h1,h2⟩
 | [],[],_,i,b,e=>by simp at e
 | [],_::_,h,_,_,_=>h.elim
 | _::_,[],h,_,_,_=>h.elim
theorem YD: ∀{ns:List Int} {us:List Value},Vals (ns.map V.int) us→PySem.W.Nums us ns
 | [],_,r=>by
  rw[List.map_nil] at r;cases r
  exact .nil
 | n::ns,_,r=>by
  rw[List.map_cons] at r;cases r with
  | cons r1 r2=>
   obtain⟨t,rfl⟩:=r1;exact .cons (YD r2)
theorem Vals.getD(r:Vals xs us)(i:Nat):RelV (xs.getD i .non) (us.getD i .none):=by
 induction r generalizing i with
 | nil=>rfl
 | cons h _ ih=>
  cases i with
  | zero=>simpa using h
  | succ i=>simpa using ih i
theorem Vals.perm(r:Vals xs us): ∀p:List Nat,Vals (p.map fun i=>xs.getD i .non) (p.map fun i=>us.getD i .none)
 | []=> .nil
 | i::p=> .cons (Vals.getD r i) (Vals.perm r p)
end
structure Fly (lo:Nat) (h:Heap) (H:Hp) (a:Addr) (T:Option Addr) (C:Value) (d:Option Addr) (fl:Value):Prop where
 at_: ∃(vs:Array Value) (sl:Array (Option Value)),h.get? a=some ⟨C,d,.fields vs,sl⟩∧
  (match T with
   | none=>vs[1]? =some .none
   | some t=>vs[1]? =some (.ref t)∧t≠a∧ ∃oT ts,h.get? t=some oT∧oT.data= .fields ts∧ts[3]? =some fl)
 lo: ∀b∈a::T.toList,lo≤b∧H b=none
open Builtin Builtin.ObjectAttr
abbrev bmV:List Value:=[.type "ValueError",.type "Exception",.type "BaseException",.type "object"]
inductive OverV:List Value→Prop
 | base:OverV bmV
 | own (a:Addr) {l:List Value}:OverV l→OverV (.ref a::l)
structure XC (K:W.Frag) (C:Addr) (bm:List Value):Prop where
 at_: ∃(nm q:Str) (N:Addr) (bs:List Value) (sn:List Str) (sub:List Value) (ab:Bool) (col:Option Bool) (dd:Option Addr) (k0 k1 k2 k3 k5:Option Value),
  K.lookup C=some (excClassObj nm q C N bs bm true sn sub ab col dd k0 k1 k2 k3 k5 "ValueError.__new__")
 ov:OverV bm
structure XA (K:W.Frag) (C:Addr):Prop where
 bm: ∃bm,XC K C bm
 ga:PySem.W.findIn K (.ref C) "__getattribute__"=some (some (.builtin "BaseException.__getattribute__"))
 gt:PySem.W.findIn K (.ref C) "__getattr__"=some none
 sa:PySem.W.findIn K (.ref C) "__setattr__"=some (some (.builtin "object.__setattr__"))
 cl:PySem.W.findIn K (.ref C) "__class__"=some (some (.builtin "object.__class__"))
 sg:PySem.W.specialIn K (.builtin "object.__class__") "__get__"=some (some (.builtin "getset_descriptor.__get__"))
 tk:PySem.W.takesIn K (.builtin "object.__class__")=some true
end L2
namespace PySem
open Sem (wp)
open Builtin Builtin.ObjectAttr
open L2 (OverV)
section
variable {prog:Program} {w:World} {A:Around} {E:Value→Shared→Prop} {h:Heap} {g:Array GenState} {d:Drawn} {t:Nat} {os:OsState}
variable {nm q:Str} {C N:Addr} {bs bm:List Value} {sn:List Str} {sub:List Value} {ab:Bool} {col:Option Bool} {dd:Option Addr} {k0 k1 k2 k3 k5:Option Value}
end
end PySem
namespace PySem
open Sem (wp)
open Builtin Builtin.ObjectAttr
open L2 (OverV XC XA bmV)
section
variable {prog:Program} {w:World} {A:Around} {E:Value→Shared→Prop} {h:Heap} {g:Array GenState} {d:Drawn} {t:Nat} {os:OsState}
variable {nm q:Str} {C N x:Addr} {bs bm:List Value} {sn:List Str} {sub:List Value} {ab:Bool} {col:Option Bool} {dd:Option Addr} {k0 k1 k2 k3 k5:Option Value}
 {mA:Str→Option Value} {name:Str} {v:Value}
end
section
variable {prog:Program} {w:World} {A:Around} {E:Value→Shared→Prop} {h:Heap} {g:Array GenState} {d:Drawn} {t:Nat} {os:OsState} {K:W.Frag}
variable {nm q:Str} {C N x:Addr} {bs bm:List Value} {sn:List Str} {sub:List Value} {ab:Bool} {col:Option Bool} {dd:Option Addr} {k0 k1 k2 k3 k5:Option Value}
 {name:Str} {v:Value} {ox:Obj} {od:Option Obj}
end
end PySem
namespace L2
open PySem PySem.Spec PyProof.Rows
def XDct (dx:Addr) (fs:List (Str×V)):HO:= .ext fun h=> ∃mA,h.Ns1 dx mA∧(∀f,RelO (fs.lookup f) (mA f))∧PySem.Within mA (fs.map (·.1))
end L2
namespace PySem
open Sem (wp)
open L2 (OverV)
section
variable {M:Model} {A:Around} {E:Value→Shared→Prop} {env:Env}
variable {nm q:Str} {C N:Addr} {bs bm:List Value} {sn:List Str} {sub:List Value} {ab:Bool} {col:Option Bool} {dd:Option Addr} {k0 k1 k2 k3 k5:Option Value}
end
end PySem
namespace L2
open PySem PySem.Spec PyProof.Rows
structure XMk (K:W.Frag) (C f:Addr):Prop where
 init:PySem.W.findIn K (.ref C) "__init__"=some (some (.ref f))
 fn:PySem.W.isFn K (.ref f)=true
 kp:PySem.W.keepIn K (.ref C)=true
 xa:XA K C
end L2
namespace PySem
open Sem (wp)
open L2 (OverV)
end PySem
namespace L2
open PySem PySem.Spec PyProof.Rows
abbrev Cx.tr (X:Cx) (pn:List (Addr×Obj)) (xe:Value→Shared→Prop):Cx:={X with pn:=pn,xe:=xe}
end L2
namespace PySem
open Sem (wp)
open Builtin Builtin.ObjectAttr
open L2 (OverV XC XA bmV)
section
variable {prog:Program} {w:World} {A:Around} {E:Value→Shared→Prop} {h:Heap} {g:Array GenState} {d:Drawn} {t:Nat} {os:OsState} {K:W.Frag}
variable {nm q:Str} {C N x:Addr} {bs bm:List Value} {sn:List Str} {sub:List Value} {ab:Bool} {col:Option Bool} {dd:Option Addr} {k0 k1 k2 k3 k5:Option Value}
 {ox:Obj} {od:Option Obj}
end
end PySem
namespace L2
open PySem PySem.Spec PyProof.Rows
structure XUni (K:W.Frag) (mg:Str→Option Value) (D:Addr) (cs:List (Str×Addr)):Prop where
 base:XC K D bmV
 mD:mg "DropError"=some (.ref D)
 cls: ∀c∈cs,mg c.1=some (.ref c.2)∧XC K c.2 (.ref D::bmV)∧XA K c.2
 nd:(D::cs.map (·.2)).Nodup
end L2
namespace PySem
open Sem (wp)
open L2 (OverV bmV)
section
variable {prog:Program} {w:World} {A:Around} {E:Value→Shared→Prop} {h:Heap} {g:Array GenState} {d:Drawn} {t:Nat} {os:OsState}
variable {nm q:Str} {C N:Addr} {bs:List Value} {sn:List Str} {sub:List Value} {ab:Bool} {col:Option Bool} {dd:Option Addr} {k0 k1 k2 k3 k5:Option Value}
end
end PySem
namespace L2
open PySem PySem.Spec PyProof.Rows
structure FnOkH (P:Program) (w:World) (K:W.Frag) (mg:Str→Option Value) (base:Heap) (k:Nat) (f:Addr) (fd:FuncData) (ps:List Str) (sp:Sp):Prop where
 len: ∀vs H Q E,sp vs H Q E→vs.length=ps.length
 run: ∀(A:Around) (a:Addr) (outer:List Env) (s:Shared) (H:Hp) (args:Args) (us:List Value) (vs:List V) (Q:VK),Room k A→Env0 P w K mg base A outer s H→BindsTo s fd args (ps.zip us)→Vals vs us→sp vs H Q E0→
  codeAny (model P w) (A.mark (some (.ref a))) (.call (.ref f) args) (CR CX0 outer P w H s Q E0) s
structure XBase (K:W.Frag) (C:Addr):Prop where
 at_: ∃(nm q:Str) (N:Addr) (bs:List Value) (sn:List Str) (sub:List Value) (ab:Bool) (col:Option Bool) (dd:Option Addr) (k0 k1 k2 k3 k5:Option Value),
  K.lookup C=some (excClassObj nm q C N bs bmV true sn sub ab col dd k0 k1 k2 k3 k5 "ValueError.__new__")
 fi:PySem.W.findIn K (.ref C) "__init__"=some (some (.builtin "ValueError.__init__"))
 kp:PySem.W.keepIn K (.ref C)=true
section
variable {pr:Program} {wo:World} {Ar:Around} {E:Value→Shared→Prop} {s:Shared}
abbrev eS (led:Bool):Obj:={cls:= .type "set",dict:=none,data:= .set #[] 0 (.fresh 0 0 led)}
end
end L2
namespace L2
open PySem
structure Bl (mg:Str→Option Value):Prop where
 len:mg "len"=none
 range:mg "range"=none
 tuple:mg "tuple"=none
 int:mg "int"=none
 bool:mg "bool"=none
 list:mg "list"=none
 str:mg "str"=none
 all:mg "all"=none
 any:mg "any"=none
 isi:mg "isinstance"=none
 repr:mg "repr"=none
 zip:mg "zip"=none
 min:mg "min"=none
 max:mg "max"=none
 sum:mg "sum"=none
 enu:mg "enumerate"=none
 sorted:mg "sorted"=none
 set:mg "set"=none
 dict:mg "dict"=none
 abs:mg "abs"=none
def Kn (mg:Str→Option Value) (x:Str) (i:Int):Prop:= ∃t,mg x=some (Value.int i t)
def KnS (mg:Str→Option Value) (x:Str) (a:Str):Prop:= ∃t,mg x=some (Value.str a t)
theorem iteP{c A B:Prop}[Decidable c](hc:c)(h:A):if decide c=true then A else B:=by rw[decide_eq_true hc]; exact iteT h
theorem iteQ{c A B:Prop}[Decidable c](hc: ¬c)(h:B):if decide c=true then A else B:=by rw[decide_eq_false hc]; exact iteF h
end L2
namespace L2
open PySem PySem.Spec PyProof.Rows Builtin Builtin.Str
section
variable {X:Cx}
def isT (b:Str):Value→Bool
 | .str a _=>decide (a=b)
 | _=>false
end
end L2
namespace L2
open PySem PySem.Spec PyProof.Rows
theorem SqT.sm{K:W.Frag}{H H':Hp}{a:Addr}{xs:List V}(e:Same H H')(h:SqT K H a xs):SqT K H' a xs:=by
 rcases h with (h | ⟨o,h⟩) | h
 ·exact .inl (.inl (e _ _ h))
 ·exact .inl (.inr ⟨o,e _ _ h⟩)
 ·exact .inr h
theorem SqL.sm{K:W.Frag}{H H':Hp}{a:Addr}{xs:List V}(e:Same H H')(h:SqL K H a xs):SqL K H' a xs:=by
 rcases h with (h | ⟨o,h⟩) | h
 ·exact .inl (.inl (e _ _ h))
 ·exact .inl (.inr ⟨o,e _ _ h⟩)
 ·exact .inr h
section
variable {D:Addr} {te:TE} {Q:VK} {ρ:St} {H:Hp}
theorem Yj{K:W.Frag}{a:Addr}{α:Type}{ws:List α}(c r:α→V)(hs:SqT K H a (ws.map c))(hn:ws.length≤1000)(hD:H D=none)
  (h: ∀w∈ws,∀H',Same H H'→ ∀R:V→Hp→Prop,(∀H'',Same H' H''→R (r w) H'')→te (some (c w)::ρ) H' R)
  (q: ∀H',Same H H'→H' D=some (.lst (ws.map r))→Q (.ref D) H'):CGo (Itt K a) D (zI 0) tAll te Q (none::ρ) H:=by
 refine vk (xs:=ws.map c) (fun i ys H'=>ys=(ws.take i).map r∧Same H H') ⟨rfl,Same.new (Same.refl H) hD⟩ (fun i ys H' _ ⟨_,k'⟩=>SqT.sm k' hs) ?_ ?_
 ·rintro i x ys H' hx ⟨rfl,K'⟩ hDy R S kR _;have hi:i<ws.length:=by
   have:=(List.getElem?_eq_some_iff.mp hx).1;simpa using this
  have ex:x=c ws[i]:=by
   rw[List.getElem?_map,List.getElem?_eq_getElem hi] at hx;exact(Option.some.inj hx).symm
  subst ex;refine zZ (iteT ?_);refine h _ (List.getElem_mem hi) H' K' _ fun H2 K2=>?_;refine kR _ _ (K2 _ _ hDy) (by rw[List.length_map,List.length_take]; exact zu (by omega)) ⟨?_,(K'.trans K2).put hD⟩;rw[List.take_add_one,List.getElem?_eq_getElem hi,List.map_append];rfl
 ·rintro ys H1 ⟨rfl,K1⟩ e1;rw[List.length_map,List.take_length] at e1;exact q H1 K1 e1
theorem ZB{lo:Int}{n:Nat}(r:Nat→V)(hn:n≤1000)(hD:H D=none)
  (h: ∀i,i<n→ ∀H',Same H H'→ ∀R:V→Hp→Prop,(∀H'',Same H' H''→R (r i) H'')→te (some (.int (lo+i))::ρ) H' R)
  (q: ∀H',Same H H'→H' D=some (.lst ((List.range n).map r))→Q (.ref D) H'):CGo (Itr lo n) D (zI 0) tAll te Q (none::ρ) H:=by
 refine yw (n:=n) (fun i ys H'=>ys=(List.range i).map r∧Same H H') ⟨rfl,Same.new (Same.refl H) hD⟩ ?_ ?_
 ·rintro i ys H' hi ⟨rfl,K'⟩ hDy R S kR _;refine zZ (iteT ?_);refine h i hi H' K' _ fun H2 K2=>?_;refine kR _ _ (K2 _ _ hDy) (by rw[List.length_map,List.length_range]; exact zu (by omega)) ⟨?_,(K'.trans K2).put hD⟩;rw[List.range_succ,List.map_append];rfl
 ·rintro ys H1 ⟨rfl,K1⟩ e1;exact q H1 K1 e1
theorem XE{K:W.Frag}{a:Addr}{α:Type}{ws:List α}(c r:α→V)(hs:H a=some (.lst (ws.map c)))(hn:ws.length≤1000)(hD:H D=none)
  (h: ∀w∈ws,∀H',Same H H'→ ∀R:V→Hp→Prop,(∀H'',Same H' H''→R (r w) H'')→te (some (c w)::ρ) H' R)
  (q: ∀H',Same H H'→H' D=some (.lst (ws.map r))→Q (.ref D) H'):CGo (Itl K a) D (zI 0) tAll te Q (none::ρ) H:=by
 refine vM (xs:=ws.map c) (fun i ys H'=>ys=(ws.take i).map r∧Same H H') ⟨rfl,Same.new (Same.refl H) hD⟩ (fun i ys H' _ ⟨_,k'⟩=>SqL.of (k' _ _ hs)) ?_ ?_
 ·rintro i x ys H' hx ⟨rfl,K'⟩ hDy R S kR _;have hi:i<ws.length:=by
   have:=(List.getElem?_eq_some_iff.mp hx).1;simpa using this
  have ex:x=c ws[i]:=by
   rw[List.getElem?_map,List.getElem?_eq_getElem hi] at hx;exact(Option.some.inj hx).symm
  subst ex;refine zZ (iteT ?_);refine h _ (List.getElem_mem hi) H' K' _ fun H2 K2=>?_;refine kR _ _ (K2 _ _ hDy) (by rw[List.length_map,List.length_take]; exact zu (by omega)) ⟨?_,(K'.trans K2).put hD⟩;rw[List.take_add_one,List.getElem?_eq_getElem hi,List.map_append];rfl
 ·rintro ys H1 ⟨rfl,K1⟩ e1;rw[List.length_map,List.take_length] at e1;exact q H1 K1 e1
end
end L2
namespace EL
inductive Sp (S:(Nat→Int)→Prop):(Nat→Int)→Prop
 | of {v}:S v→Sp S v
 | zero:Sp S (fun _=>0)
 | add {u v}:Sp S u→Sp S v→Sp S (fun j=>u j+v j)
 | smul {u} (c:Int):Sp S u→Sp S (fun j=>c*u j)
 | div {u} {c:Int}:c≠0→Sp S (fun j=>c*u j)→Sp S u
def cf (xs:List Int):Nat→Int:=fun j=>xs.getD j 0
def SpR (rows:List (List Int)):(Nat→Int)→Prop:=Sp (fun v=> ∃r∈rows,v=cf r)
def gcdL (xs:List Int):Nat:=xs.foldl (fun g x=>Nat.gcd g x.natAbs) 0
theorem ZU: ∀(xs:List Int) (g:Nat),xs.foldl (fun g x=>Nat.gcd g x.natAbs) g ∣ g∧ ∀x∈xs,xs.foldl (fun g x=>Nat.gcd g x.natAbs) g ∣ x.natAbs
 | [],g=>⟨Nat.dvd_refl g,fun x h=>nomatch h⟩
 | y::xs,g=>by
  obtain⟨h1,h2⟩:=ZU xs (Nat.gcd g y.natAbs);refine⟨Nat.dvd_trans h1 (Nat.gcd_dvd_left _ _),fun x hx=>?_⟩;rcases List.mem_cons.mp hx with rfl | hx
  ·exact Nat.dvd_trans h1 (Nat.gcd_dvd_right _ _)
  ·exact h2 x hx
theorem xT(h:x∈xs):gcdL xs ∣ x.natAbs:=(ZU xs 0).2 x h
theorem ZX: ∀(xs:List Int) (g:Nat),d ∣ g→(∀x∈xs,d ∣ x.natAbs)→d ∣ xs.foldl (fun g x=>Nat.gcd g x.natAbs) g
 | [],_,h,_=>h
 | y::xs,g,h,k=>ZX xs _ (Nat.dvd_gcd h (k y List.mem_cons_self)) fun x hx=>k x (List.mem_cons_of_mem _ hx)
theorem dvd_gcdL(h: ∀x∈xs,d ∣ x.natAbs):d ∣ gcdL xs:=ZX xs 0 (Nat.dvd_zero d) h
theorem wW(h:gcdL xs=0): ∀x∈xs,x=0:=fun x hx=>by
 have:=xT hx;rw[h,Nat.zero_dvd] at this;omega
theorem Zu(h:x∈xs)(h0:x≠0):gcdL xs≤x.natAbs:=Nat.le_of_dvd (by omega) (xT h)
theorem gcdL_ex(h:gcdL xs≠0): ∃x∈xs,x≠0:=by
 refine Classical.byContradiction fun hn=>h ?_;have: ∀x∈xs,0 ∣ x.natAbs:=fun x hx=>by
  have:x=0:=Classical.byContradiction fun q=>hn ⟨x,hx,q⟩;rw[this];exact Nat.dvd_refl 0
 exact Nat.zero_dvd.mp (dvd_gcdL this)
def wd (xs:List Int):List Int:=xs.map fun x=>if 0<gcdL xs then x / (gcdL xs:Int) else 0
theorem YX(xs:List Int):(wd xs).length=xs.length:=List.length_map _
def dv (xs:List Int):Int:=if 0<gcdL xs then (gcdL xs:Int) else 1
theorem dv_pos(xs:List Int):0<dv xs:=by
 unfold dv;split<;>omega
theorem YW(h:x∈xs):dv xs*(if 0<gcdL xs then x / (gcdL xs:Int) else 0)=x:=by
 unfold dv;split
 ·exact Int.mul_ediv_cancel' (Int.ofNat_dvd_left.mpr (xT h))
 ·rw[wW (by omega) x h];rfl
theorem getD_mem{xs:List α}{d:α}(h:j<xs.length):xs.getD j d∈xs:=by
 rw[List.getD_eq_getElem?_getD,List.getElem?_eq_getElem h];exact List.getElem_mem h
theorem ZS{xs:List α}{d:α}(h:xs.length≤j):xs.getD j d=d:=by
 rw[List.getD_eq_getElem?_getD,List.getElem?_eq_none h];rfl
theorem getD_map'(f:α→β){xs:List α}{d:β}{e:α}(h:j<xs.length):(xs.map f).getD j d=f (xs.getD j e):=by
 rw[List.getD_eq_getElem?_getD,List.getD_eq_getElem?_getD,List.getElem?_map,List.getElem?_eq_getElem h];rfl
theorem wd_at(xs:List Int)(j:Nat):dv xs*cf (wd xs) j=cf xs j:=by
 unfold cf;by_cases h:j<xs.length
 ·unfold wd;rw[getD_map' (e:=0) _ h];exact YW (getD_mem h)
 ·rw[ZS (by rw[YX]; omega),ZS (by omega),Int.mul_zero]
theorem natAbs_le_mul{d y x:Int}(hd:0<d)(h:d*y=x):y.natAbs≤x.natAbs:=by
 rw[←h,Int.natAbs_mul];exact Nat.le_mul_of_pos_left _ (by omega)
theorem wd_abs(h:y∈wd xs): ∃x∈xs,y.natAbs≤x.natAbs:=by
 obtain⟨x,hx,rfl⟩:=List.mem_map.mp h;exact⟨x,hx,natAbs_le_mul (dv_pos xs) (YW hx)⟩
end EL
namespace EL
def ro (left:List (List Int)) (i j:Nat):Int:=cf (left.getD i []) j
def bdE (b:Nat):Nat→Nat
 | 0=>b
 | k+1=>2*bdE b k+1
structure Rd (b n:Nat) (rows:List (List Int)) (c:Nat) (left:List (List Int)) (leads:List Nat):Prop where
 len: ∀r∈left,r.length=n
 cnt:left.length=rows.length
 le:leads.length≤left.length
 sp1: ∀v,SpR left v→SpR rows v
 sp2: ∀v,SpR rows v→SpR left v
 up:leads.Pairwise (· < ·)
 lt: ∀l∈leads,l<c
 own: ∀i,i<leads.length→ro left i (leads.getD i 0)≠0
 oth: ∀i k,i<leads.length→k<left.length→k≠i→ro left k (leads.getD i 0)=0
 bef: ∀i j,i<leads.length→j<leads.getD i 0→ro left i j=0
 low: ∀k j,leads.length≤k→k<left.length→j<c→ro left k j=0
 bit: ∀r∈left,∀x∈r,x.natAbs<2^bdE b leads.length
end EL
namespace EL
def dotF:Nat→(Nat→Int)→(Nat→Int)→Int
 | 0,_,_=>0
 | n+1,u,v=>dotF n u v+u n*v n
def cm (a b:Int):Int:=((a*b).natAbs:Int) / (gcdL [a,b]:Int)
structure Vf (n:Nat) (rows:List (List Int)) (leads:List Nat) (f:Nat) (v:List Int):Prop where
 len:v.length=n
 own:cf v f≠0
 oth: ∀g,g≠f→g∉leads→cf v g=0
 ker: ∀r∈rows,dotF n (cf v) (cf r)=0
 gcd:gcdL v=1
 aft: ∀j,f<j→cf v j=0
 pos:0<cf v f
end EL
namespace EL
def lrow (lead:List Int) (p:Nat) (r:List Int):List Int:=(List.range r.length).map fun k=>cf r k*cf lead p-cf lead k*cf r p
def lrH (p:Nat) (left:List (List Int)):List (List Int):=left.filter fun r=>decide (cf r p≠0)
def lrR (p:Nat) (left:List (List Int)):List (List Int):=left.filter fun r=>decide (cf r p=0)
def lrN (p:Nat) (left:List (List Int)):List (List Int):=match lrH p left with
 | []=>lrR p left
 | lead::hs=>lrR p left++hs.map (lrow lead p)
def lrF (p:Nat) (left:List (List Int)):Nat:=if lrH p left=[] then 0 else 1
def lr (rows:List (List Int)):Nat→List (List Int)×Nat
 | 0=>(rows,0)
 | p+1=>(lrN p (lr rows p).1,(lr rows p).2+lrF p (lr rows p).1)
structure Lr (b n p:Nat) (left:List (List Int)):Prop where
 len: ∀r∈left,r.length=n
 low: ∀r∈left,∀j,j<p→cf r j=0
 bit: ∀r∈left,∀x∈r,x.natAbs<2^bdE b p
end EL
namespace EL
open PySem L2
open PySem.Builtin.Int
def Bb (x:Int):Prop:=intBits x≤60000000
theorem mulBb(hx:Bb x)(hy:Bb y):IntMulOk x y:=IntMulOk.of_le hx hy (by decide)
theorem bb_of{x:Int}(h:x.natAbs<2^m)(hm:m≤60000000):Bb x:=Nat.le_trans (intBits_le_iff.mpr h) hm
theorem op_fdivL:OpR X (binaryOp .FloorDiv) (rI (fun _ j=>0<j∧j.natAbs.log2<9000) fun i j=> .int (i / j)):=opI fun i j _ _ _ _ _ hc q=>
 PyProof.Rows.floordiv_int (by have:=hc.1; omega) (by rw[Int.fdiv_eq_ediv_of_nonneg i (Int.le_of_lt hc.1)]; exact q) (.inl (PyProof.noPylong_of_log2 hc.2))
theorem Ym(h:ta σ H fun vs H1=> ∃a b,vs=[.ref a,.ref b]∧(∃xs,SqL K H1 a xs)∧(∃ys,SqL K H1 b ys)∧ForJ (Itzl K a b) g tb D σ H1):tFor (iZpl K ta) g tb D σ H:=h
theorem Zh(h: ∃W:Nat→St→Hp→Prop,(∃m,W m σ H)∧ ∀m σ H,W m σ H→c σ H fun b H1=>if b=true then∃N:St→Hp→Prop,(∀σ' H',N σ' H'→ ∃m',m'<m∧W m' σ' H')∧tb {D with nx:=N,ct:=N,bk:=D.nx} σ H1 else D.nx σ H1):Y0 c tb D σ H:=h
theorem absN(x:Int):(if x<0 then -x else x)=(x.natAbs:Int):=by split<;>omega
theorem ZT(xs:List Int)(i:Nat)(hi:i<xs.length):gcdL (xs.take (i+1))=Nat.gcd (gcdL (xs.take i)) (xs.getD i 0).natAbs:=by
 unfold gcdL;rw[List.take_add_one,List.getElem?_eq_getElem hi,List.foldl_append,List.getD_eq_getElem?_getD,List.getElem?_eq_getElem hi];rfl
theorem itI{xs:List Int}(h:(xs.map V.int)[i]? =some x):i<xs.length∧x= .int (xs.getD i 0):=by
 have hi:i<xs.length:=by
  have:=(List.getElem?_eq_some_iff.mp h).1;simpa using this
 rw[List.getElem?_map,List.getElem?_eq_getElem hi] at h;refine⟨hi,?_⟩;rw[List.getD_eq_getElem?_getD,List.getElem?_eq_getElem hi];exact(Option.some.inj h).symm
def Xb:List V→Hp→VK→Prop:=fun xs H Q=> ∃p ys,xs=[.ref p]∧(H p=some (.tup ys)∨H p=some (.lst ys))∧ ∀l,H l=none→Q (.ref l) (upd H l (.lst ys))
theorem call_listS:yn X (.type "list") Xb:=fun pins s σ H xs us Q I r h=>wK pins s σ H xs us Q I r (let ⟨p,ys,e,hp,q⟩:=h; ⟨p,ys,e,hp.elim (fun z=> .inr (SqT.of z)) (fun z=> .inl (SqL.of z)),q⟩)
def rIsN:List V→Hp→VK→Prop:=fun xs H Q=> ∃(i:Int) (b:Bool),((xs=[.int i,.ty "int"]∧b=true)∨(xs=[.int i,.ty "bool"]∧b=false))∧Q (.bl b) H
theorem Z2:yn X (.builtin "isinstance") rIsN:=fun pins s σ H xs us Q I r h=>Z3 pins s σ H xs us Q I r (by
 obtain⟨i,b,h,q⟩:=h;rcases h with ⟨e,rfl⟩ | ⟨e,rfl⟩
 ·exact⟨_,"int",_,true,e,.int i,kit_ii _,q⟩
 ·exact⟨_,"bool",_,false,e,.int i,kit_ib _,q⟩)
end EL
namespace L2
open PySem PySem.Spec PyProof.Rows
def XG (tabs:List (Addr×Addr)) (H:Hp):Prop:= ∀b,H b=none∨(∃o xs,H b=some (.frz o (.lst xs)))∨(b∈tabs.map (·.2)∧H b=some (.tbl #[]))
def BmIn (mg:Str→Option Value) (base:Heap):Prop:= ∃bm ob,mg "__builtins__"=some (.ref bm)∧bm≠builtinsNs∧base.get? bm=some ob∧ob.cls= .type "module"∧ob.dict=some builtinsNs∧ob.data= .plain
theorem law_callT{K:W.Frag}{mg mb:Str→Option Value}{s₁:Shared}{vs:List Value}
  (KX:K.In s₁.heap) (hns:s₁.heap.Ns mainGlobals mg) (hb:s₁.heap.Ns builtinsNs mb) (hbb: ∀x:Str,x≠"__name__"→mb x=bootBuiltins x) (hlim:s₁.heap.NoLimit) (hN:s₁.heap.NoSeer) (hg:s₁.gens=#[])
  (hT:PySem.W.TabsAt tabs s₁.heap) (hKT:PySem.W.noTabs K=true) (hBm:BmIn mg s₁.heap)
  (ha:s₁.heap.get? a=some {cls:= .type "list",data:= .seq vs.toArray}) (hi:IntsAre vs ns) (hl:ns.length≤sizeLine) (hr:Room k callerA)
  (F: ∀base:Heap,K.In base→base.Ns mainGlobals mg→base.NoSeer→(∀q∈tabs,PySem.W.CodeHd base q.1 q.2)→BmIn mg base→FnOk P w K mg base CX k fa fd [x] sp) (hbind: ∀(s:Shared) (u:Value),BindsTo s fd ⟨[u],[]⟩ [(x,u)])
  (hsp: ∀H:Hp,XG tabs H→(∀q∈tabs,H q.2=some (.tbl #[]))→SqL K H a (ns.map V.int)→sp [.ref a] H (fun v _=>v= .bl true) fun _ _ _=>False)
  (hCX: ∀H e s',CX [] H s₁ (fun _ _ _=>False) e s'→False):
  codeAny (model P w) callerA (.call (.ref fa) ⟨[.ref a],[]⟩) (fun r s'=>r= .ok (.ret (.bool true))∧OldK s₁.heap s'.heap∧s'.os=s₁.os∧AllBare s'.gens) s₁:=by
 have rv:=wN hi;have lenV:=hi.length;have tabAt: ∀{b:Addr},b∈tabs.map (·.2)→s₁.heap.get? b=some (PySem.W.tabObj #[]):=fun {b} hb=>by
  obtain⟨q,hq,rfl⟩:=List.mem_map.mp hb;exact(hT q hq).2
 have haT:a∉tabs.map (·.2):=fun z=>by have:=tabAt z; rw[ha] at this; cases this
 have core: ∀H:Hp,XG tabs H→(∀q∈tabs,H q.2=some (.tbl #[]))→SqL K H a (ns.map V.int)→HOk P w H s₁.heap→(∀b,H b≠none→b=a∨b∈tabs.map (·.2))→(H a≠none→K.lookup a=none)→
   codeAny (model P w) callerA (.call (.ref fa) ⟨[.ref a],[]⟩) (fun r s'=>r= .ok (.ret (.bool true))∧OldK s₁.heap s'.heap∧s'.os=s₁.os∧AllBare s'.gens) s₁:=by
  intro H hO hTb hS hok hA hK;have base_of: ∀{b:Addr} {o:Obj},s₁.heap.get? b=some o→H b=none→(hidT s₁.heap H).get? b=some o:=fun e n=>ZR e n;have notT: ∀{b:Addr} {o:Obj},s₁.heap.get? b=some o→(o.cls≠.none)→b≠a→H b=none:=fun {b o} e hc hba=>by
   cases q:H b with
   | none=>rfl
   | some u=>
    rcases hA b (by rw[q]; simp) with e' | e'
    ·exact absurd e' hba
    ·have:=tabAt e';rw[e] at this;cases this
     exact absurd rfl hc
  have noA: ∀{b:Addr} {o:Obj} {es:Array DictEntry} {ep:Nat},s₁.heap.get? b=some o→o.data= .dict es ep→H b=none:=fun {b o es ep} e d=>by
   cases q:H b with
   | none=>rfl
   | some u=>
    rcases hA b (by rw[q]; simp) with e' | e'
    ·subst e';rw[ha] at e; cases e;have d':Data.seq vs.toArray _=Data.dict es ep:=d;cases d'
    ·have:=tabAt e';rw[e] at this;cases this
     cases d
  have nsK: ∀{b:Addr} {m:Str→Option Value},s₁.heap.Ns b m→(hidT s₁.heap H).Ns b m:=fun {b m} ⟨o,es,ep,e,d,r⟩=>⟨o,es,ep,base_of e (noA e d),d,r⟩;have hKb:K.In (hidT s₁.heap H):=fun b o e=>base_of (KX b o e) (by
   cases q:H b with
   | none=>rfl
   | some u=>
    rcases hA b (by rw[q]; simp) with e' | e'
    ·subst e';rw[hK (by rw[q]; simp)] at e; cases e
    ·have h1:=tabAt e';rw[KX b o e] at h1;have h2:=List.all_eq_true.mp hKT (b,o) (PySem.W.mem_of_lookupK e);cases h1
     exact absurd (show false=true from h2) Bool.false_ne_true)
  have ofB: ∀{bm:Addr} {ob:Obj},s₁.heap.get? bm=some ob→ob.cls= .type "module"→(hidT s₁.heap H).get? bm=some ob:=fun {bm ob} e c=>base_of e (notT e (by rw[c]; intro z; cases z) fun z=>by subst z; rw[ha] at e; cases e; simp at c);have hNb:(hidT s₁.heap H).NoSeer:=⟨let ⟨mc,a1,a2,a3⟩:=hN.statics; ⟨mc,nsK a1,a2,a3⟩,let ⟨mm,a1,a2⟩:=hN.mods; ⟨mm,nsK a1,a2⟩,let ⟨mb',a1,a2⟩:=hN.imp; ⟨mb',nsK a1,a2⟩,let ⟨mg',bm,ob,a1,a2,a3,a4,a5⟩:=hN.main; ⟨mg',bm,ob,nsK a1,a2,ofB a3 a4,a4,a5⟩⟩;have hBb:BmIn mg (hidT s₁.heap H):=let ⟨bm,ob,a1,a2,a3,a4,a5⟩:=hBm; ⟨bm,ob,a1,a2,ofB a3 a4,a4,a5⟩
  have hCb: ∀q∈tabs,PySem.W.CodeHd (hidT s₁.heap H) q.1 q.2:=fun q hq=>by
   obtain⟨o,vs',file,tf,flags,tg,inF,text,tt,e1,r1,r⟩:=(hT q hq).1;refine⟨o,vs',file,tf,flags,tg,inF,text,tt,base_of e1 (notT e1 (by rw[r1]; intro z; cases z) fun z=>?_),r1,r⟩;rw[z,ha] at e1;cases e1
   simp at r1
  have hM:Mod K mg (hidT s₁.heap H):=⟨hKb,nsK hns,⟨mb,nsK hb,hbb⟩,let ⟨mc,h1,h2⟩:=hlim; ⟨mc,nsK h1,h2⟩⟩;have e0:Env0 P w K mg (hidT s₁.heap H) callerA [] s₁ H:=⟨rfl,hM,fun b o e=>YC e,Nat.le_of_eq (v9 _ _),trivial,fun b hb=>absurd (show b∈([]:List Addr) from hb) (by simp),hok,.of_eq hg⟩;refine codeAny_mono ((F _ hKb (nsK hns) hNb hCb hBb).run callerA [] s₁ H ⟨[.ref a],[]⟩ [.ref a] [.ref a] _ _ hr e0 (hbind s₁ (.ref a)) (.cons rfl .nil) (hsp H hO hTb hS)) fun r s' h=>?_;cases r with
  | error e=>exact(hCX H e s' h).elim
  | ok fl=>
   cases fl with
   | next=>exact False.elim h
   | brk=>exact False.elim h
   | cont=>exact False.elim h
   | ret u=>
    obtain⟨v,H',os,bare,un,hok',r',q⟩:=h;have q':v= .bl true:=q;subst q';obtain rfl:u=Value.bool true:=r';have kept: ∀b o,s₁.heap.get? b=some o→s'.heap.get? b=some o∨(b∈tabs.map (·.2)∧o=PySem.W.tabObj #[]∧ ∃ps,s'.heap.get? b=some (PySem.W.tabObj ps)):=fun b o e=>by
     cases q:H b with
     | none=>exact .inl (un.keep b o e q (by intro z; exact absurd (show b∈([]:List Addr) from z) (by simp)) (by simp))
     | some u=>
      rcases hO b with z | ⟨ob,xs,z⟩ | ⟨z1,z2⟩
      ·rw[q] at z; cases z
      ·have z2:=un.frzs b ob _ z;obtain⟨e1,_⟩:=hok b _ z;obtain⟨e2,_⟩:=hok' b _ z2;rw[e] at e1; cases e1;exact .inl e2
      ·obtain⟨more,z3⟩:=un.tbls b _ z2;have e2:s'.heap.get? b=some (PySem.W.tabObj (#[]++more)):=hok' b _ z3;have e1:=tabAt z1;rw[e] at e1;exact .inr ⟨z1,Option.some.inj e1,_,e2⟩
    refine⟨rfl,⟨fun b o e=>?_,fun b o e=>?_⟩,os,bare⟩
    ·rcases kept b o e with z | ⟨z1,rfl,ps,z⟩
     ·exact .inl z
     ·obtain⟨q,hq,rfl⟩:=List.mem_map.mp z1;exact .inr (.inl ⟨((hT q hq).1.tab (hT q hq).2).isCodeTable,rfl,#[],ps,rfl,by simpa using z⟩)
    ·rcases kept b o e with z | ⟨_,_,ps,z⟩
     ·exact⟨o,z⟩
     ·exact⟨_,z⟩
 have tabMem: ∀q∈tabs,q.2∈tabs.map (·.2):=fun q hq=>List.mem_map_of_mem hq;cases hk:K.lookup a with
 | some o=>
  have e:=KX a o hk;rw[ha] at e;cases e
  refine core (fun b=>if b∈tabs.map (·.2) then some (.tbl #[]) else none) (fun b=>?_) (fun q hq=>if_pos (tabMem q hq)) (.inr ⟨_,vs.toArray,_,hk,rfl,rfl,rfl,by rw[List.size_toArray,lenV]; exact hl,by simpa using rv⟩) (fun b u z=>?_) (fun b z=>?_) fun z=>absurd (if_neg haT) z
  ·by_cases hb:b∈tabs.map (·.2)
   ·exact .inr (.inr ⟨hb,if_pos hb⟩)
   ·exact .inl (if_neg hb)
  ·by_cases hb:b∈tabs.map (·.2)
   ·have z':=(if_pos hb).symm.trans z;cases z'
    exact tabAt hb
   ·have z':=(if_neg hb).symm.trans z;cases z'
  ·by_cases hb:b∈tabs.map (·.2)
   ·exact .inr hb
   ·exact absurd (if_neg hb) z
 | none=>
  refine core (fun b=>if b∈tabs.map (·.2) then some (.tbl #[]) else if b=a then some (.frz {cls:= .type "list",data:= .seq vs.toArray} (.lst (ns.map V.int))) else none) (fun b=>?_) (fun q hq=>if_pos (tabMem q hq)) (.inl (.inr ⟨{cls:= .type "list",data:= .seq vs.toArray},(if_neg haT).trans (if_pos rfl)⟩)) (fun b u z=>?_) (fun b z=>?_) fun _=>hk
  ·by_cases hb:b∈tabs.map (·.2)
   ·exact .inr (.inr ⟨hb,if_pos hb⟩)
   ·by_cases hb2:b=a
    ·exact .inr (.inl ⟨_,_,(if_neg hb).trans (if_pos hb2)⟩)
    ·exact .inl ((if_neg hb).trans (if_neg hb2))
  ·by_cases hb:b∈tabs.map (·.2)
   ·have z':=(if_pos hb).symm.trans z;cases z'
    exact tabAt hb
   ·by_cases hb2:b=a
    ·have z':=((if_neg hb).trans (if_pos hb2)).symm.trans z;cases z'
     subst hb2;exact⟨ha,by rw[List.length_map]; exact hl,vs,_,rv,ha⟩
    ·have z':=((if_neg hb).trans (if_neg hb2)).symm.trans z;cases z'
  ·by_cases hb:b∈tabs.map (·.2)
   ·exact .inr hb
   ·by_cases hb2:b=a
    ·exact .inl hb2
    ·exact absurd ((if_neg hb).trans (if_neg hb2)) z
theorem walk_ofT{l:PySem.W.OpenLaw}{XP:(Str→Option Value)→Heap→Prop}{YP:World→Heap→Prop}{d:DefRec}{K:Params→W.Frag}{CX:World→CXT}{sp:World→Sp}
  (hn:l.most=some n) (hn2:n≤sizeLine) (hdf:d.params.defaults=[]) (hr:Room k callerA) (hi:PyProof.Rows.importsNone q=true)
  (hY: ∀(w:World) (h:Heap),YP w h→(K w.params).In h) (hYT: ∀(w:World) (h:Heap),YP w h→PySem.W.TabsAt tabs h) (hKT: ∀P,PySem.W.noTabs (K P)=true)
  (F: ∀(w:World) (mg:Str→Option Value) (fa:Addr) (h:Heap),(K w.params).In h→h.Ns mainGlobals mg→mg d.name=some (.ref fa)→
   ∃fd:FuncData,(∀(s:Shared) (u:Value),BindsTo s fd ⟨[u],[]⟩ [(x,u)])∧
    ∀base:Heap,(K w.params).In base→base.Ns mainGlobals mg→base.NoSeer→(∀q∈tabs,PySem.W.CodeHd base q.1 q.2)→BmIn mg base→FnOk l.prog w (K w.params) mg base (CX w) k fa fd [x] (sp w))
  (hsp: ∀(w:World) (H:Hp) (a:Addr) (ns:List Int),ns.length≤n→XG tabs H→(∀q∈tabs,H q.2=some (.tbl #[]))→SqL (K w.params) H a (ns.map V.int)→sp w [.ref a] H (fun v _=>v= .bl true) fun _ _ _=>False)
  (hCX: ∀(w:World) (H:Hp) (s:Shared) (e:Value) (s':Shared),CX w [] H s (fun _ _ _=>False) e s'→False):
  PySem.W.WalkO q loose XP YP l.row.toRowW d [] (fun f vs=>PySem.call f vs):=by
 refine Att.attach_call hn hdf fun w s₀ s₁ mg mb fa o pm cd doc a vs ns G Y ho hd hcd hmg hobj hints hlen hg=>?_;have KX:=hY w _ Y;obtain⟨fd,hb,hF⟩:=F w mg fa _ KX G.T.g hmg;exact law_callT KX G.T.g G.T.b G.T.builtins G.T.nolimit (G.T.seer hi) hg (hYT w _ Y) (hKT _) G.T.bmain hobj hints (Nat.le_trans hlen hn2) hr hF hb (fun H hO hT hS=>hsp w H a ns hlen hO hT hS) fun H e s'=>hCX w H s₁ e s'
def FnAt (K:W.Frag) (x:Str) (st:Stmt):Prop:= ∃(f:Addr) (oc:Value) (od:Option Addr) (kV doc pm:Value) (an:Option Addr) (cdv ct:Value) (osl:Array (Option Value)),PySem.W.nsIn K mainGlobals x=some (some (.ref f))∧
 K.lookup f=some ⟨oc,od,.func (PySem.W.fnOf x x (zS st) (zm st) (ze st) .none kV doc pm an cdv ct),osl⟩∧PySem.W.codeIn K cdv x=true∧PySem.W.keepIn K (.ref f)=true
theorem fnAt{K:W.Frag}{x:Str}{st:Stmt}{f:Addr}{oc:Value}{od:Option Addr}{kV doc pm:Value}{an:Option Addr}{cdv ct:Value}{osl:Array (Option Value)}(a:PySem.W.nsIn K mainGlobals x=some (some (.ref f)))
  (l:K.lookup f=some ⟨oc,od,.func (PySem.W.fnOf x x (zS st) (zm st) (ze st) .none kV doc pm an cdv ct),osl⟩) (c:PySem.W.codeIn K cdv x=true) (k:PySem.W.keepIn K (.ref f)=true):FnAt K x st:=⟨_,_,_,_,_,_,_,_,_,_,a,l,c,k⟩
def NoIn (K:W.Frag) (x:Str):Prop:=PySem.W.nsIn K mainGlobals x=some none
def IntIn (K:W.Frag) (x:Str) (i:Int):Prop:= ∃t,PySem.W.nsIn K mainGlobals x=some (some (.int i t))
theorem noIn{K:W.Frag}{x:Str}(h:PySem.W.nsIn K mainGlobals x=some none):NoIn K x:=h
theorem noAttr{K:W.Frag}{C:Addr}{x:Str}(h:PySem.W.findIn K (.ref C) x=some none):NoAttr K C x:=h
theorem intIn{K:W.Frag}{x:Str}{i:Int}{t:Tok}(h:PySem.W.nsIn K mainGlobals x=some (some (.int i t))):IntIn K x i:=⟨_,h⟩
section
variable {P:Program} {w:World} {K:W.Frag} {mg:Str→Option Value} {base h:Heap} {x:Str} {st:Stmt} {ps:List Str}
theorem NoIn.get(z:NoIn K x)(X:K.In h)(G:h.Ns mainGlobals mg):mg x=none:=PySem.W.mg_none_of X G z
theorem IntIn.get(z:IntIn K x i)(X:K.In h)(G:h.Ns mainGlobals mg): ∃t,mg x=some (.int i t):=let ⟨t,e⟩:=z; ⟨t,PySem.W.mg_of X G e⟩
theorem FnAt.has(A:FnAt K x st)(X:K.In h)(G:h.Ns mainGlobals mg)
  (b: ∀(kV doc pm:Value) (an:Option Addr) (cdv ct:Value) (us:List Value),us.length=ps.length→bindArgs (PySem.W.fnOf x x (zS st) (zm st) (ze st) .none kV doc pm an cdv ct) ⟨us,[]⟩=pure (ps.zip us))
  (ok: ∀{f fd},Fun K x x st f fd→FnOk P w K mg base CX0 k f fd ps sp):Has P w K mg base k x ps sp:=by
 obtain⟨f,oc,od,kV,doc,pm,an,cdv,ct,osl,a,l,c,k⟩:=A;have F:=Zv (st:=st) l c k;exact⟨f,_,ok F,PySem.W.mg_of X G a,k,F.binds b⟩
end
structure ClsIn (K:W.Frag) (C:Addr):Prop where
 c:Cls K C
 mks:PySem.W.makesIn K C=true
 kp:PySem.W.keepIn K (.ref C)=true
def MthAt (K:W.Frag) (C:Addr) (m q:Str) (st:Stmt):Prop:= ∃(f:Addr) (oc:Value) (od:Option Addr) (kV doc pm:Value) (an:Option Addr) (cdv ct:Value) (osl:Array (Option Value)),PySem.W.findIn K (.ref C) m=some (some (.ref f))∧
 K.lookup f=some ⟨oc,od,.func (PySem.W.fnOf m q (zS st) (zm st) (ze st) .none kV doc pm an cdv ct),osl⟩∧PySem.W.codeIn K cdv q=true∧PySem.W.isFn K (.ref f)=true∧PySem.W.keepIn K (.ref f)=true
theorem mthAt{K:W.Frag}{C:Addr}{m q:Str}{st:Stmt}{f:Addr}{oc:Value}{od:Option Addr}{kV doc pm:Value}{an:Option Addr}{cdv ct:Value}{osl:Array (Option Value)}(a:PySem.W.findIn K (.ref C) m=some (some (.ref f)))
  (l:K.lookup f=some ⟨oc,od,.func (PySem.W.fnOf m q (zS st) (zm st) (ze st) .none kV doc pm an cdv ct),osl⟩) (c:PySem.W.codeIn K cdv q=true) (i:PySem.W.isFn K (.ref f)=true) (k:PySem.W.keepIn K (.ref f)=true):MthAt K C m q st:=
 ⟨_,_,_,_,_,_,_,_,_,_,a,l,c,i,k⟩
theorem clsIn{K:W.Frag}{C:Addr}(a:PySem.W.plainGet K C Str.empty=true)(b:PySem.W.hasDictIn K C=true)(c:PySem.W.plainOver K C=true)(d:PySem.W.findIn K (.ref C) "__setattr__"=some (some (.builtin "object.__setattr__")))(e:PySem.W.makesIn K C=true)(f:PySem.W.keepIn K (.ref C)=true):ClsIn K C:=⟨⟨a,b,c,d⟩,e,f⟩
def HasM (P:Program) (w:World) (K:W.Frag) (mg:Str→Option Value) (base:Heap) (k:Nat) (C:Addr) (m:Str) (ps:List Str) (sp:Sp):Prop:=
 ∃f fd,FnOk P w K mg base CX0 k f fd ps sp∧Cls K C∧Meth K C m f∧Binds K fd ps []
def HasK (P:Program) (w:World) (K:W.Frag) (mg:Str→Option Value) (base:Heap) (k:Nat) (x:Str) (C:Addr) (ps:List Str) (sp:Sp):Prop:=
 ∃f fd,FnOk P w K mg base CX0 k f fd ps sp∧Mk K C f∧mg x=some (.ref C)∧Binds K fd ps []
section
variable {P:Program} {w:World} {K:W.Frag} {mg:Str→Option Value} {base h:Heap} {x m q:Str} {st:Stmt} {ps:List Str} {C:Addr}
theorem MthAt.has(A:MthAt K C m q st)(D:ClsIn K C)
  (b: ∀(kV doc pm:Value) (an:Option Addr) (cdv ct:Value) (us:List Value),us.length=ps.length→bindArgs (PySem.W.fnOf m q (zS st) (zm st) (ze st) .none kV doc pm an cdv ct) ⟨us,[]⟩=pure (ps.zip us))
  (ok: ∀{f fd},Fun K m q st f fd→FnOk P w K mg base CX0 k f fd ps sp):HasM P w K mg base k C m ps sp:=by
 obtain⟨f,oc,od,kV,doc,pm,an,cdv,ct,osl,a,l,c,i,k⟩:=A;have F:=Zv (st:=st) l c k;exact⟨f,_,ok F,D.c,⟨a,i,k⟩,F.binds b⟩
theorem MthAt.make(A:MthAt K C "__init__" q st)(D:ClsIn K C)(X:K.In h)(G:h.Ns mainGlobals mg)(n:PySem.W.nsIn K mainGlobals x=some (some (.ref C)))
  (b: ∀(kV doc pm:Value) (an:Option Addr) (cdv ct:Value) (us:List Value),us.length=ps.length→bindArgs (PySem.W.fnOf "__init__" q (zS st) (zm st) (ze st) .none kV doc pm an cdv ct) ⟨us,[]⟩=pure (ps.zip us))
  (ok: ∀{f fd},Fun K "__init__" q st f fd→FnOk P w K mg base CX0 k f fd ps sp):HasK P w K mg base k x C ps sp:=by
 obtain⟨f,oc,od,kV,doc,pm,an,cdv,ct,osl,a,l,c,i,k⟩:=A;have F:=Zv (st:=st) l c k;exact⟨f,_,ok F,⟨D.mks,a,i,D.kp⟩,PySem.W.mg_of X G n,F.binds b⟩
end
def wE (s:Stmt) (i:Nat):Stmt:=match s with
 | .ClassDef _ _ _ body _ _ _ _ _ _ _=>body.getD i (.Pass ⟨0,0,0,0⟩)
 | _=> .Pass ⟨0,0,0,0⟩
theorem pe_m{X:Cx}(h:HasM X.prog X.w X.K X.mg X.base k C m ps sp)(hr:Room j X.A)(hkj:k≤j)(he:PE X o ta)(ha:PA X (e::es) t)
  (hst:starEach (e::es) X.env=(false,eval e X.env)::starEach es X.env:=by rfl) (hpl:(backTo pos (starEach es X.env)).any (·.1)=false:=by rfl)
  (ht:eval (.Call (.Attribute o m apos) (e::es) [] pos) X.env=(do
   let ov←eval o X.env
   standAt apos.atName
   let (f,first)←holding [ov] (getMethod ov m pl)
   callWith pos f first (backTo pos (starEach (e::es) X.env)) (backToKw pos (keywordEach [] X.env))):=by rfl):PE X (.Call (.Attribute o m apos) (e::es) [] pos) (ZG C m sp [] E0 ta t):=by
 obtain⟨f,fd,F,c,hm,hb⟩:=h;exact pe_meth he c hm F (hr.mono hkj) hb .nil YB ha hst hpl ht
theorem Xe{X:Cx}(h:HasM X.prog X.w X.K X.mg X.base k C m ps sp)(hr:Room j X.A)(hkj:k≤j)(he:PE X o ta)
  (ht:eval (.Call (.Attribute o m apos) [] [] pos) X.env=(do
   let ov←eval o X.env
   standAt apos.atName
   let (f,first)←holding [ov] (getMethod ov m pl)
   callWith pos f first (backTo pos (starEach [] X.env)) (backToKw pos (keywordEach [] X.env))):=by rfl):PE X (.Call (.Attribute o m apos) [] [] pos) (ZG C m sp [] E0 ta tNil):=by
 obtain⟨f,fd,F,c,hm,hb⟩:=h;exact pe_meth0 he c hm F (hr.mono hkj) hb .nil YB ht
theorem pe_mk{X:Cx}(h:HasK X.prog X.w X.K X.mg X.base k x C ps sp)(hr:Room j X.A)(hkj:k+1≤j)(ha:PA X (e::es) t)(hg:Gl X x:=by rfl)
  (hdb:(x==("__debug__":Str))=false:=by decide) (he:starEach (e::es) X.env=(false,eval e X.env)::starEach es X.env:=by rfl) (hpl:(backTo pos (starEach es X.env)).any (·.1)=false:=by rfl):PE X (.Call (.Name x p) (e::es) [] pos) (Y2 C sp [] E0 t):=by
 obtain⟨f,fd,F,M,hm,hb⟩:=h;exact pe_make M F (hr.mono hkj) hg hm hb .nil YB ha hdb he hpl
theorem vh{X:Cx}{K:W.Frag}{e:Expr}{f:Str}{ta:TE}{pos:Pos}(hK:X.K=K)(he:PE X e ta)(hb:attributeBase e f X.env (eval e X.env)=eval e X.env:=by rfl):PE X (.Attribute e f pos) (tFld K ta f):=hK▸zG he hb
theorem w_make(h:t σ H fun vs H1=> ∀x dx,H1 x=none→H1 dx=none→dx≠x→sp (.ref x::(vs++dvs)) (upd (upd H1 dx (.own x)) x (.ins C dx [])) (fun v H2=>v= .non∧Q (.ref x) H2) E):Y2 C sp dvs E t σ H Q:=h
theorem zQ{K:W.Frag}{ta:TE}{f:Str}{σ:St}{H:Hp}{Q:VK}(h:ta σ H fun x H1=> ∃a C dx fs v,x= .ref a∧H1 a=some (.ins C dx fs)∧Cls K C∧NoAttr K C f∧fs.lookup f=some v∧Q v H1):tFld K ta f σ H Q:=h
theorem xK{K:W.Frag}{ta tv:TE}{f:Str}{D:Ends}{σ:St}{H:Hp}(h:tv σ H fun y H1=>ta σ H1 fun x H2=> ∃a C dx fs,x= .ref a∧H2 a=some (.ins C dx fs)∧Cls K C∧NoAttr K C f∧fs.length<1000∧D.nx σ (upd H2 a (.ins C dx (putF f y fs)))):sFld K ta tv f D σ H:=h
theorem w_saug{K:W.Frag}{ta tv:TE}{rd:V→V→Hp→VK→Prop}{f:Str}{D:Ends}{σ:St}{H:Hp}(h:ta σ H fun x H1=> ∃a C dx fs v,x= .ref a∧H1 a=some (.ins C dx fs)∧Cls K C∧NoAttr K C f∧fs.lookup f=some v∧
 tv σ H1 fun y H2=>rd v y H2 fun z H3=> ∃dx' fs',H3 a=some (.ins C dx' fs')∧fs'.length<1000∧D.nx σ (upd H3 a (.ins C dx' (putF f z fs')))):Yx K ta tv rd f D σ H:=h
theorem xq(h:ta σ H fun x H1=> ∃a dx fs,x= .ref a∧H1 a=some (.ins C dx fs)∧fs.lookup m=none∧t σ H1 fun vs H2=>sp (x::(vs++dvs)) H2 Q E):ZG C m sp dvs E ta t σ H Q:=h
end L2
namespace L2
open PySem PySem.Spec PyProof.Rows G2
structure Kp (S:Hp→Hp→Prop) (D:Addr) (H:Hp):Prop where
 refl:S H (upd H D (.lst []))
 tr: ∀{H1 H2},S H H1→S H1 H2→S H H2
 at': ∀{H1 H2 o},S H H1→S H1 H2→H1 D=some o→H2 D=some o
 put: ∀{H1 o},S H H1→S H (upd H1 D o)
theorem Kp.same(hD:H D=none):Kp Same D H:=⟨Same.new (Same.refl _) hD,fun a b=>a.trans b,fun _ b e=>b _ _ e,fun a=>a.put hD⟩
section
variable {S:Hp→Hp→Prop} {D:Addr} {te:TE} {Q:VK} {ρ:St} {H:Hp} {K:W.Frag} {a:Addr} {xs:List V}
abbrev GP (S:Hp→Hp→Prop) (Ok:Nat→V→Hp→Prop) (H:Hp) (i:Nat) (ys:List V) (H':Hp):Prop:=S H H'∧ys.length=i∧ ∀(j:Nat) (y:V),ys[j]? =some y→Ok j y H'
theorem wF{Ok:Nat→V→Hp→Prop}(kp:Kp S D H)(mono: ∀{j y H1 H2},TK H1 H2→Ok j y H1→Ok j y H2)(tk: ∀{H1 H2},S H H1→S H1 H2→TK H1 H2)(g:GP S Ok H i ys H')(k:S H' H4)(hD:H4 D=some (.lst ys))(hy:Ok i y H4):GP S Ok H (i+1) (ys++[y]) (upd H4 D (.lst (ys++[y]))):=by
 obtain⟨g1,g2,g3⟩:=g;have t2:TK H4 (upd H4 D (.lst (ys++[y]))):=TK.lst hD;refine⟨kp.put (kp.tr g1 k),by rw[List.length_append,g2]; rfl,fun j z hz=>?_⟩;by_cases hj:j<ys.length
 ·rw[List.getElem?_append_left hj] at hz;exact mono t2 (mono (tk g1 k) (g3 j z hz))
 ·have hj':j<(ys++[y]).length:=(List.getElem?_eq_some_iff.mp hz).1;rw[List.length_append,List.length_singleton] at hj';obtain rfl:j=ys.length:=by omega
  rw[List.getElem?_append_right (Nat.le_refl _),Nat.sub_self] at hz;cases hz
  rw[g2];exact mono t2 hy
theorem Xv(Ok:Nat→V→Hp→Prop)(kp:Kp S D H)(mono: ∀{j y H1 H2},TK H1 H2→Ok j y H1→Ok j y H2)(tk: ∀{H1 H2},S H H1→S H1 H2→TK H1 H2)(hn:xs.length≤1000)(src: ∀H',S H H'→SqT K H' a xs)
  (step: ∀i x H' (R:V→Hp→Prop),xs[i]? =some x→S H H'→(∀y H4,S H' H4→Ok i y H4→R y H4)→te (some x::ρ) H' R)
  (q: ∀ys H',GP S Ok H xs.length ys H'→H' D=some (.lst ys)→Q (.ref D) H'):CGo (Itt K a) D (zI 0) tAll te Q (none::ρ) H:=by
 refine vk (xs:=xs) (fun i ys H'=>GP S Ok H i ys H') ⟨kp.refl,rfl,fun j y h=>by simp at h⟩ (fun i ys H' _ g=>src H' g.1) ?_ q;rintro i x ys H' hx g hDz R S' kR _;have hi:=(List.getElem?_eq_some_iff.mp hx).1;refine zZ (iteT (step i x H' R hx g.1 fun y H4 k hy=>kR y H4 (kp.at' g.1 k hDz) (zu (by have:=g.2.1; omega)) (wF (Ok:=Ok) kp mono tk g k (kp.at' g.1 k hDz) hy)))
theorem gm_rng(Ok:Nat→V→Hp→Prop){lo:Int}{n:Nat}(kp:Kp S D H)(mono: ∀{j y H1 H2},TK H1 H2→Ok j y H1→Ok j y H2)(tk: ∀{H1 H2},S H H1→S H1 H2→TK H1 H2)(hn:n≤1000)
  (step: ∀i H' (R:V→Hp→Prop),i<n→S H H'→(∀y H4,S H' H4→Ok i y H4→R y H4)→te (some (.int (lo+i))::ρ) H' R)
  (q: ∀ys H',GP S Ok H n ys H'→H' D=some (.lst ys)→Q (.ref D) H'):CGo (Itr lo n) D (zI 0) tAll te Q (none::ρ) H:=by
 refine yw (fun i ys H'=>GP S Ok H i ys H') ⟨kp.refl,rfl,fun j y h=>by simp at h⟩ ?_ q;rintro i ys H' hi g hDz R S' kR _;refine zZ (iteT (step i H' R hi g.1 fun y H4 k hy=>kR y H4 (kp.at' g.1 k hDz) (zu (by have:=g.2.1; omega)) (wF (Ok:=Ok) kp mono tk g k (kp.at' g.1 k hDz) hy)))
theorem gp_vals{f:α→V}{zs:List α}{ys:List V}(hl:ys.length=zs.length)(h: ∀(j:Nat) (y:V),ys[j]? =some y→ ∃z,zs[j]? =some z∧y=f z):ys=zs.map f:=by
 refine List.ext_getElem (by simp[hl]) fun i h1 h2=>?_;obtain⟨z,e1,e2⟩:=h i ys[i] (by simp[h1]);have h3:i<zs.length:=by omega
 rw[List.getElem?_eq_getElem h3] at e1;cases e1
 simpa using e2
end
section
variable {S:Hp→Hp→Prop} {D:Addr} {te:TE} {Q:VK} {ρ:St} {H:Hp} {K:W.Frag} {a:Addr} {rs:List Addr}
theorem gm_tup2(Ok:Nat→V→Hp→Prop)(kp:Kp S D H)(mono: ∀{j y H1 H2},TK H1 H2→Ok j y H1→Ok j y H2)(tk: ∀{H1 H2},S H H1→S H1 H2→TK H1 H2)(hn:rs.length≤1000)(src: ∀H',S H H'→SqT K H' a (rs.map V.ref))
  (step: ∀i r H',rs[i]? =some r→S H H'→ ∃u v,H' r=some (.tup [u,v])∧ ∀(R:V→Hp→Prop),(∀y H4,S H' H4→Ok i y H4→R y H4)→te (some u::some v::ρ) H' R)
  (q: ∀ys H',GP S Ok H rs.length ys H'→H' D=some (.lst ys)→Q (.ref D) H'):CGo (Itt K a) D (gTup K 2 (yB (zI 0) (yB (zI 1) gNil))) tAll te Q (none::none::ρ) H:=by
 refine⟨fun i m τ ys H'=>m=rs.length-i∧i≤rs.length∧(∃tv tw,τ=tv::tw::ρ)∧GP S Ok H i ys H'∧H' D=some (.lst ys),⟨rs.length,by omega,Nat.zero_le _,⟨_,_,rfl⟩,⟨kp.refl,rfl,fun j y h=>by simp at h⟩,zf⟩,?_⟩;rintro i m τ ys H' ⟨rfl,hi,⟨tv,tw,rfl⟩,g,hD⟩;refine⟨hD,?_⟩;have sq:=src H' g.1;by_cases hlt:i<rs.length
 ·refine .inr ⟨⟨_,.ref rs[i],sq,by simp[hlt]⟩,?_⟩;rintro v H'' ⟨rfl,hv⟩;have hv':=hv _ sq;rw[List.getElem?_map,List.getElem?_eq_getElem hlt] at hv';cases hv'
  obtain⟨u,v,e,h⟩:=step i rs[i] _ (List.getElem?_eq_getElem hlt) g.1;refine⟨rs[i],[u,v],rfl,SqT.of e,rfl,u,[v],rfl,v,[],rfl,rfl,?_⟩;refine zZ (iteT (h _ fun y H4 k hy=>⟨kp.at' g.1 k hD,zu (by have:=g.2.1; omega),rs.length-(i+1),by omega,rfl,hlt,⟨_,_,rfl⟩,wF (Ok:=Ok) kp mono tk g k (kp.at' g.1 k hD) hy,zf⟩))
 ·have e:i=rs.length:=by omega
  subst e;exact .inl ⟨⟨_,sq,by simp⟩,q ys _ g hD⟩
end
end L2
namespace L2
open PySem PySem.Spec PyProof.Rows
structure FunC (K:W.Frag) (x qual:Str) (st:Stmt) (f:Addr) (fd:FuncData) (c:Addr):Prop where
 ex: ∃(oc:Value) (od:Option Addr) (kV doc pm:Value) (an:Option Addr) (ct:Value) (osl:Array (Option Value)),
  fd=PySem.W.fnOf x qual (zS st) (zm st) (ze st) .none kV doc pm an (.ref c) ct∧K.lookup f=some ⟨oc,od,.func fd,osl⟩∧PySem.W.codeIn K (.ref c) qual=true
 kp:PySem.W.keepIn K (.ref f)=true
section
variable {P:Program} {w:World} {K:W.Frag} {mg:Str→Option Value} {base:Heap}
theorem FunC.ok{x qual:Str}{st:Stmt}{f c:Addr}{fd:FuncData}{N ps:List Str}{k:Nat}{sp:Sp}(F:FunC K x qual st f fd c)(S:FnScope N ps (ze st))(len: ∀vs H Q E,sp vs H Q E→vs.length=ps.length)
  (hbody: ∀(A:Around) (outer:List Env) (s:Shared) (H:Hp) (vs:List V) (Q:VK) (E:XK),Room k (A.deeper (envOfC qual (ze st) s.heap.objs.size f (.ref c)))→sp vs H Q E→
   ∃t,PSs (cxOf CX0 P w K mg base N qual (ze st) f (.ref c) A outer s H E).nox (zm st) t∧t {nx:=fun _ H'=>Q .non H',rt:=Q} (wm N vs) H):FnOk P w K mg base CX0 (k+1) f fd ps sp:=by
 obtain⟨oc,od,kV,doc,pm,an,ct,osl,rfl,lk,hcd⟩:=F.ex;refine X5 lk hcd S len fun A outer s H vs Q E hr hsp=>?_;obtain⟨t,h,q⟩:=hbody A outer s H vs Q E hr hsp;exact⟨t,h.nox,q⟩
end
def MthC (K:W.Frag) (C:Addr) (m q:Str) (st:Stmt) (c:Addr):Prop:= ∃(f:Addr) (oc:Value) (od:Option Addr) (kV doc pm:Value) (an:Option Addr) (ct:Value) (osl:Array (Option Value)),PySem.W.findIn K (.ref C) m=some (some (.ref f))∧
 K.lookup f=some ⟨oc,od,.func (PySem.W.fnOf m q (zS st) (zm st) (ze st) .none kV doc pm an (.ref c) ct),osl⟩∧PySem.W.codeIn K (.ref c) q=true∧PySem.W.isFn K (.ref f)=true∧PySem.W.keepIn K (.ref f)=true
theorem mthC{K:W.Frag}{C:Addr}{m q:Str}{st:Stmt}{f c:Addr}{oc:Value}{od:Option Addr}{kV doc pm:Value}{an:Option Addr}{ct:Value}{osl:Array (Option Value)}(a:PySem.W.findIn K (.ref C) m=some (some (.ref f)))
  (l:K.lookup f=some ⟨oc,od,.func (PySem.W.fnOf m q (zS st) (zm st) (ze st) .none kV doc pm an (.ref c) ct),osl⟩) (d:PySem.W.codeIn K (.ref c) q=true) (i:PySem.W.isFn K (.ref f)=true) (k:PySem.W.keepIn K (.ref f)=true):MthC K C m q st c:=
 ⟨_,_,_,_,_,_,_,_,_,a,l,d,i,k⟩
section
variable {P:Program} {w:World} {K:W.Frag} {mg:Str→Option Value} {base h:Heap} {x m q:Str} {st:Stmt} {ps:List Str} {C c:Addr}
theorem MthC.has(A:MthC K C m q st c)(D:ClsIn K C)
  (b: ∀(kV doc pm:Value) (an:Option Addr) (cdv ct:Value) (us:List Value),us.length=ps.length→bindArgs (PySem.W.fnOf m q (zS st) (zm st) (ze st) .none kV doc pm an cdv ct) ⟨us,[]⟩=pure (ps.zip us))
  (ok: ∀{f fd},FunC K m q st f fd c→FnOk P w K mg base CX0 k f fd ps sp):HasM P w K mg base k C m ps sp:=by
 obtain⟨f,oc,od,kV,doc,pm,an,ct,osl,a,l,d,i,k⟩:=A;exact⟨f,_,ok ⟨⟨oc,od,kV,doc,pm,an,ct,osl,rfl,l,d⟩,k⟩,D.c,⟨a,i,k⟩,.all (b kV doc pm an (.ref c) ct)⟩
end
section
variable {X:Cx} {sc o:Scope} {v x:Str} {F:List Str} {cl:List (Str×Addr)} {L f:Addr} {cd:Value} {A:Around} {s3:Shared} {H3:Hp} {xe:Value→Shared→Prop} {pos:Pos}
theorem pvl(S:LScope o sc v F)(i:Nat)(hN:(v::F)[i]? =some x:=by rfl)(hd:(x==("__debug__":Str))=false:=by decide)(hcd:(x==("__classdict__":Str))=false:=by decide):PE (cxL X (v::F) sc cl L f cd A s3 H3 xe) (.Name x pos) (tVar i):=by
 refine vz hN ?_ hd hcd;rcases List.mem_cons.mp (List.mem_of_getElem? hN) with rfl | h
 ·exact .inl S.par
 ·exact .inr (.inr (S.ff x h).2)
end
section
variable {D:Addr} {te:TE} {Q:VK} {ρ:St} {H:Hp} {K:W.Frag} {a:Addr} {xs:List V}
structure NL (H:Hp) (D:Addr) (f:Nat→List V) (n:Nat) (as:List Addr) (H':Hp):Prop where
 len:as.length=n
 at_: ∀i r,as[i]? =some r→H' r=some (.lst (f i))
 nw: ∀r∈as,H r=none
 sm:Same H H'
abbrev NLP (H:Hp) (D:Addr) (f:Nat→List V) (i:Nat) (ys:List V) (H':Hp):Prop:= ∃as,ys=as.map V.ref∧NL H D f i as H'∧ ∀r∈as,r≠D
theorem NL.step{f:Nat→List V}(hD:H D=none)(g:NL H D f i as H')(gd: ∀r∈as,r≠D)(hDz:H' D=some (.lst ys))(k:Same H' H4)(hr:H' r=none)(e:H4 r=some (.lst (f i))):
  NLP H D f (i+1) (as.map V.ref++[.ref r]) (upd H4 D (.lst (as.map V.ref++[.ref r]))):=by
 have hrD:r≠D:=fun z=>by rw[z,hDz] at hr; cases hr
 refine⟨as++[r],by simp,⟨by simp[g.len],fun j q hq=>?_,fun q hq=>?_,(g.sm.trans k).put hD⟩,fun q hq=>?_⟩
 ·by_cases hj:j<as.length
  ·rw[List.getElem?_append_left hj] at hq;rw[zh (gd q (List.mem_of_getElem? hq))];exact k _ _ (g.at_ j q hq)
  ·rw[List.getElem?_append_right (by omega)] at hq;have hj0:j-as.length=0:=by
    cases h:j-as.length with
    | zero=>rfl
    | succ n=>rw[h] at hq; simp at hq
   rw[hj0] at hq;have:r=q:=by simpa using hq
   subst this;have hji:j=i:=by have:=g.len; omega
   subst hji;rw[zh hrD]; exact e
 ·rcases List.mem_append.mp hq with hq | hq
  ·exact g.nw q hq
  ·rw[List.mem_singleton.mp hq];exact Same.free g.sm hr
 ·rcases List.mem_append.mp hq with hq | hq
  ·exact gd q hq
  ·rw[List.mem_singleton.mp hq]; exact hrD
theorem nl_lst(f:Nat→List V)(hD:H D=none)(ha:H a=some (.lst xs))(hn:xs.length≤1000)
  (step: ∀i x H' (R:V→Hp→Prop),xs[i]? =some x→Same H H'→(∀r H4,Same H' H4→H' r=none→H4 r=some (.lst (f i))→R (.ref r) H4)→te (some x::ρ) H' R)
  (q: ∀as H',NL H D f xs.length as H'→H' D=some (.lst (as.map V.ref))→Q (.ref D) H'):CGo (Itl K a) D (zI 0) tAll te Q (none::ρ) H:=by
 refine vM (xs:=xs) (fun i ys H'=>NLP H D f i ys H') ⟨[],rfl,⟨rfl,fun i r h=>by simp at h,fun r h=>by simp at h,Same.new (Same.refl _) hD⟩,fun r h=>by simp at h⟩ (fun i ys H' _ ⟨as,_,g,_⟩=>SqL.of (g.sm _ _ ha)) ?_ fun ys H' ⟨as,e,g,_⟩ h=>q as H' g (e▸h);rintro i x ys H' hx ⟨as,rfl,g,gd⟩ hDz R S' kR _;have hi:=(List.getElem?_eq_some_iff.mp hx).1;refine zZ (iteT (step i x H' R hx g.sm fun r H4 k hr e=>kR _ H4 (k _ _ hDz) (zu (by rw[List.length_map,g.len]; omega)) (g.step hD gd hDz k hr e)))
theorem nl_prs(f:Nat→List V){rs:List Addr}(hD:H D=none)(ha:H a=some (.lst (rs.map V.ref)))(hn:rs.length≤1000)
  (step: ∀i r H',rs[i]? =some r→Same H H'→ ∃u v,H' r=some (.tup [u,v])∧ ∀(R:V→Hp→Prop),(∀r H4,Same H' H4→H' r=none→H4 r=some (.lst (f i))→R (.ref r) H4)→te (some u::some v::ρ) H' R)
  (q: ∀as H',NL H D f rs.length as H'→H' D=some (.lst (as.map V.ref))→Q (.ref D) H'):CGo (Itl K a) D (gTup K 2 (yB (zI 0) (yB (zI 1) gNil))) tAll te Q (none::none::ρ) H:=by
 refine⟨fun i m τ ys H'=>m=rs.length-i∧i≤rs.length∧(∃tv tw,τ=tv::tw::ρ)∧NLP H D f i ys H'∧H' D=some (.lst ys),⟨rs.length,by omega,Nat.zero_le _,⟨_,_,rfl⟩,⟨[],rfl,⟨rfl,fun i r h=>by simp at h,fun r h=>by simp at h,Same.new (Same.refl _) hD⟩,fun r h=>by simp at h⟩,zf⟩,?_⟩;rintro i m τ ys H' ⟨rfl,hi,⟨tv,tw,rfl⟩,⟨as,rfl,g,gd⟩,hDz⟩;refine⟨hDz,?_⟩;have sq:SqL K H' a (rs.map V.ref):=SqL.of (g.sm _ _ ha);by_cases hlt:i<rs.length
 ·refine .inr ⟨⟨_,.ref rs[i],sq,by simp[hlt]⟩,?_⟩;rintro v H'' ⟨rfl,hv⟩;have hv':=hv _ sq;rw[List.getElem?_map,List.getElem?_eq_getElem hlt] at hv';cases hv'
  obtain⟨u,v,e,h⟩:=step i rs[i] _ (List.getElem?_eq_getElem hlt) g.sm;refine⟨rs[i],[u,v],rfl,SqT.of e,rfl,u,[v],rfl,v,[],rfl,rfl,?_⟩;refine zZ (iteT (h _ fun r H4 k hr e=>⟨k _ _ hDz,zu (by rw[List.length_map,g.len]; omega),rs.length-(i+1),by omega,rfl,hlt,⟨_,_,rfl⟩,g.step hD gd hDz k hr e,zf⟩))
 ·have e:i=rs.length:=by omega
  subst e;exact .inl ⟨⟨_,sq,by simp⟩,q as _ g hDz⟩
end
end L2
namespace WG
def sm (n:Nat) (f:Nat→Int):Int:=match n with
 | 0=>0
 | n+1=>sm n f+f n
theorem zx{f g:Nat→Int}(h: ∀i<n,f i=g i):sm n f=sm n g:=by
 induction n with
 | zero=>rfl
 | succ n ih=>show sm n f+f n=sm n g+g n; rw[ih fun i hi=>h i (by omega),h n (by omega)]
theorem xh{f g:Nat→Int}(c d:Int):sm n (fun i=>c*f i+d*g i)=c*sm n f+d*sm n g:=by
 induction n with
 | zero=>simp[sm]
 | succ n ih=>show sm n _+_=c*(sm n f+f n)+d*(sm n g+g n); rw[ih]; grind
theorem yW{f:Nat→Int}(c:Int):sm n (fun i=>c*f i)=c*sm n f:=by
 have:=xh (n:=n) (f:=f) (g:=f) c 0;simpa using this
theorem xW{f:Nat→Int}(h: ∀i<n,f i=0):sm n f=0:=by
 induction n with
 | zero=>rfl
 | succ n ih=>show sm n f+f n=0; rw[ih fun i hi=>h i (by omega),h n (by omega)]; rfl
theorem xr{f:Nat→Int}(hk:k<n)(h: ∀i<n,i≠k→f i=0):sm n f=f k:=by
 induction n with
 | zero=>omega
 | succ n ih=>
  show sm n f+f n=f k;by_cases e:k=n
  ·subst e; rw[xW fun i hi=>h i (by omega) (by omega)]; omega
  ·rw[ih (by omega) fun i hi=>h i (by omega),h n (by omega) (by omega)]; omega
theorem sm_two{f:Nat→Int}(ha:a+1<n)(h: ∀i<n,i≠a→i≠a+1→f i=0)(h2:f a+f (a+1)=0):sm n f=0:=by
 induction n with
 | zero=>omega
 | succ n ih=>
  show sm n f+f n=0;by_cases e:a+1=n
  ·subst e;rw[xr (k:=a) (by omega) fun i hi hne=>h i (by omega) hne (by omega)]; exact h2
  ·rw[ih (by omega) fun i hi=>h i (by omega),h n (by omega) (by omega) (by omega)]; rfl
theorem sm_nonpos{f:Nat→Int}(h: ∀i<n,f i≤0):sm n f≤0:=by
 induction n with
 | zero=>exact Int.le_refl _
 | succ n ih=>show sm n f+f n≤0; have:=ih fun i hi=>h i (by omega); have:=h n (by omega); omega
theorem sm_sm{f:Nat→Nat→Int}:sm n (fun i=>sm m (f i))=sm m fun j=>sm n fun i=>f i j:=by
 induction n with
 | zero=>exact(xW fun _ _=>rfl).symm
 | succ n ih=>
  show sm n _+sm m (f n)=_;rw[ih];have:=xh (n:=m) (f:=fun j=>sm n fun i=>f i j) (g:=f n) 1 1;simpa[sm] using this.symm
def skip (i a:Nat):Nat:=if a<i then a else a+1
def sg (i:Nat):Int:=if i%2=0 then 1 else -1
theorem sg_succ(i:Nat):sg (i+1)=- sg i:=by
 unfold sg;rcases Nat.mod_two_eq_zero_or_one i with h | h
 ·rw[if_neg (by omega),if_pos h]
 ·rw[if_pos (by omega),if_neg (by omega)]; rfl
def det:Nat→(Nat→Nat→Int)→Int
 | 0,_=>1
 | n+1,w=>sm (n+1) fun i=>sg i*w i 0*det n (fun a b=>w (skip i a) (b+1))
def up (w:Nat→Nat→Int) (k:Nat) (v:Nat→Int):Nat→Nat→Int:=fun a b=>if a=k then v b else w a b
theorem x4: ∀{n:Nat} {w w':Nat→Nat→Int},(∀a<n,∀b<n,w a b=w' a b)→det n w=det n w'
 | 0,_,_,_=>rfl
 | n+1,w,w',h=>by
  refine zx fun i hi=>?_;rw[h i hi 0 (by omega),x4 (n:=n) (w':=fun a b=>w' (skip i a) (b+1)) fun a ha b hb=>h _ (by unfold skip; split<;>omega) _ (by omega)]
theorem xU(w:Nat→Nat→Int)(k:Nat):up w k (w k)=w:=by
 funext a b; unfold up; split
 ·rename_i h; rw[h]
 ·rfl
theorem xk{w:Nat→Nat→Int}{v:Nat→Int}:up w k v k=v:=by funext b; simp[up]
theorem yZ{w:Nat→Nat→Int}{v:Nat→Int}(h:a≠k):up w k v a=w a:=by funext b; simp[up,h]
theorem yH{w:Nat→Nat→Int}{v x:Nat→Int}(h:k≠j):up (up w k v) j x=up (up w j x) k v:=by
 funext a b; unfold up
 by_cases e1:a=j
 ·subst e1; simp[Ne.symm h]
 ·simp[e1]
theorem vC{w:Nat→Nat→Int}{v:Nat→Int}:(fun a b=>up w k v (skip k a) (b+1))=fun a b=>w (skip k a) (b+1):=by
 funext a b
 have:skip k a≠k:=by unfold skip; split<;>omega
 rw[yZ this]
theorem vB{w:Nat→Nat→Int}{v:Nat→Int}(h:i≠k):(fun a b=>up w k v (skip i a) (b+1))=up (fun a b=>w (skip i a) (b+1)) (if k<i then k else k-1) (fun b=>v (b+1)):=by
 funext a b
 unfold up;have:(skip i a=k)↔a=(if k<i then k else k-1):=by unfold skip; split<;>split<;>omega
 by_cases e:skip i a=k
 ·rw[if_pos e,if_pos (this.mp e)]
 ·rw[if_neg e,if_neg (fun z=>e (this.mpr z))]
theorem y6: ∀{n k:Nat} {w:Nat→Nat→Int} (x y:Nat→Int) (c d:Int),k<n→det n (up w k fun b=>c*x b+d*y b)=c*det n (up w k x)+d*det n (up w k y)
 | 0,_,_,_,_,_,_,h=>by omega
 | n+1,k,w,x,y,c,d,h=>by
  show sm (n+1) _=c*sm (n+1) _+d*sm (n+1) _;rw[←xh];refine zx fun i hi=>?_;by_cases e:i=k
  ·subst e;rw[vC,vC,vC,xk,xk,xk]
   grind
  ·rw[vB e,vB e,vB e,yZ e,yZ e,yZ e,y6 (n:=n) (fun b=>x (b+1)) (fun b=>y (b+1)) c d (by split<;>omega)]
   grind
theorem Zz: ∀{n a:Nat} {w:Nat→Nat→Int},a+1<n→w a=w (a+1)→det n w=0
 | 0,_,_,h,_=>by omega
 | n+1,a,w,h,e=>by
  refine sm_two h (fun i hi h1 h2=>?_) ?_
  ·rw[Zz (n:=n) (a:=if i<a then a-1 else a) (by split<;>omega) ?_]
   ·simp
   ·funext b
    have e1:skip i (if i<a then a-1 else a)=a:=by unfold skip; split<;>split<;>omega
    have e2:skip i ((if i<a then a-1 else a)+1)=a+1:=by unfold skip; split<;>split<;>omega
    rw[e1,e2,e]
  ·have e1:(fun x b=>w (skip a x) (b+1))=fun x b=>w (skip (a+1) x) (b+1):=by
    funext x b
    by_cases hx:x=a
    ·subst hx;rw[show skip x x=x+1 by unfold skip; split<;>omega,show skip (x+1) x=x by unfold skip; split<;>omega,e]
    ·rw[show skip a x=skip (a+1) x by unfold skip; split<;>split<;>omega]
   rw[e1,e,sg_succ]
   grind
theorem ZZ{w:Nat→Nat→Int}(ha:a<n)(hb:b<n)(hab:a≠b)(h: ∀x:Nat→Int,det n (up (up w a x) b x)=0)(x y:Nat→Int):det n (up (up w a x) b y)=- det n (up (up w a y) b x):=by
 have h0:=h fun j=>1*x j+1*y j;rw[y6 (k:=b) x y 1 1 hb,yH hab,yH hab,y6 (k:=a) x y 1 1 ha,y6 (k:=a) x y 1 1 ha,←yH hab,←yH hab,←yH hab,←yH hab,h x,h y] at h0;omega
theorem Zy: ∀{d n a:Nat} {w:Nat→Nat→Int},a+d+1<n→w a=w (a+d+1)→det n w=0
 | 0,n,a,w,h,e=>Zz h e
 | d+1,n,a,w,h,e=>by
  have hs:=ZZ (n:=n) (a:=a+d+1) (b:=a+d+1+1) (w:=w) (by omega) (by omega) (by omega) (fun x=>Zz (a:=a+d+1) (by omega) (by rw[yZ (by omega),xk,xk])) (w (a+d+1)) (w (a+d+1+1));rw[xU] at hs;have e2:up w (a+d+1+1) (w (a+d+1+1))=w:=xU _ _;rw[e2] at hs;have hz:det n (up (up w (a+d+1) (w (a+d+1+1))) (a+d+1+1) (w (a+d+1)))=0:=by
   refine Zy (d:=d) (a:=a) (by omega) ?_;rw[yZ (by omega),yZ (by omega),yZ (by omega),xk,e];rfl
  omega
theorem vI{w:Nat→Nat→Int}(ha:a<n)(hb:b<n)(hab:a≠b)(e:w a=w b):det n w=0:=by
 rcases Nat.lt_or_gt_of_ne hab with h | h
 ·obtain⟨d,rfl⟩: ∃d,b=a+d+1:=⟨b-a-1,by omega⟩;exact Zy hb e
 ·obtain⟨d,rfl⟩: ∃d,a=b+d+1:=⟨a-b-1,by omega⟩;exact Zy ha e.symm
theorem det_swap{w:Nat→Nat→Int}(ha:a<n)(hb:b<n)(hab:a≠b):det n (up (up w a (w b)) b (w a))=- det n w:=by
 have hs:=ZZ (n:=n) (w:=w) ha hb hab (fun x=>vI ha hb hab (by rw[yZ hab,xk,xk])) (w b) (w a);rw[hs,xU,xU]
theorem Zx{w:Nat→Nat→Int}(q:Nat→Int)(z:Nat→Nat→Int)(hk:k<n):det n (up w k fun b=>sm N fun j=>q j*z j b)=sm N fun j=>q j*det n (up w k (z j)):=by
 induction N with
 | zero=>
  have:=y6 (n:=n) (k:=k) (w:=w) (fun _=>0) (fun _=>0) 0 0 hk;simpa[sm] using this
 | succ N ih=>
  show det n (up w k fun b=>sm N (fun j=>q j*z j b)+q N*z N b)=sm N _+_;rw[←ih];have:=y6 (n:=n) (k:=k) (w:=w) (fun b=>sm N fun j=>q j*z j b) (z N) 1 (q N) hk;simpa using this
theorem ZY{w:Nat→Nat→Int}(q:Nat→Int)(hk:k<n):det n (up w k fun b=>sm n fun j=>q j*w j b)=q k*det n w:=by
 rw[Zx q w hk,xr hk fun i hi hne=>?_,xU];rw[vI hi hk hne (by rw[yZ hne,xk])];simp
theorem det_slots{w:Nat→Nat→Int}(p q:Nat→Int)(hc:c<n)(hk:k<n)(hck:c≠k):det n (up (up w c fun b=>sm n fun j=>p j*w j b) k fun b=>sm n fun j=>q j*w j b)=(p c*q k-p k*q c)*det n w:=by
 rw[Zx q w hk];have h1: ∀j<n,q j*det n (up (up w c fun b=>sm n fun j=>p j*w j b) k (w j))=(if j=k then q k*(p c*det n w) else 0)+(if j=c then-q c*(p k*det n w) else 0):=by
  intro j hj;by_cases e1:j=k
  ·subst e1;rw[if_pos rfl,if_neg (Ne.symm hck),yH hck,xU,ZY p hc];omega
  ·by_cases e2:j=c
   ·subst e2;rw[if_neg e1,if_pos rfl,yH hck,Zx p w hc,xr hk fun i hi hne=>?_]
    ·rw[←yH hck];have:=det_swap (n:=n) (w:=w) hc hk hck;rw[this]
     grind
    ·by_cases e3:i=j
     ·subst e3;rw[vI hc hk hck (by rw[xk,yZ (Ne.symm hck),xk])]; simp
     ·rw[vI hi hc e3 (by rw[yZ e3,yZ hne,xk])]; simp
   ·rw[if_neg e1,if_neg e2,vI hj hk e1 (by rw[yZ e1,yZ e2,xk])]; simp
 rw[zx h1];have:=xh (n:=n) (f:=fun j=>if j=k then q k*(p c*det n w) else 0) (g:=fun j=>if j=c then-q c*(p k*det n w) else 0) 1 1;simp only[Int.one_mul] at this;rw[this,xr hk fun i hi hne=>if_neg hne,xr hc fun i hi hne=>if_neg hne,if_pos rfl,if_pos rfl]
 grind
def fac:Nat→Nat
 | 0=>1
 | n+1=>(n+1)*fac n
theorem sm_abs{f:Nat→Int}(h: ∀i<n,(f i).natAbs≤B):(sm n f).natAbs≤n*B:=by
 induction n with
 | zero=>simp[sm]
 | succ n ih=>
  show(sm n f+f n).natAbs≤_;have h1:=ih fun i hi=>h i (by omega);have h2:=h n (by omega);have h3:=Int.natAbs_add_le (sm n f) (f n);rw[Nat.succ_mul];omega
theorem sg_abs(i:Nat):(sg i).natAbs=1:=by unfold sg; split<;>rfl
theorem ZA: ∀{n B:Nat} {w:Nat→Nat→Int},(∀a<n,∀b<n,(w a b).natAbs≤B)→(det n w).natAbs≤fac n*B^n
 | 0,_,_,_=>by simp[det,fac]
 | n+1,B,w,h=>by
  have:=sm_abs (n:=n+1) (B:=B*(fac n*B^n)) (f:=fun i=>sg i*w i 0*det n (fun a b=>w (skip i a) (b+1))) fun i hi=>by
   rw[Int.natAbs_mul,Int.natAbs_mul,sg_abs,Nat.one_mul];exact Nat.mul_le_mul (h i hi 0 (by omega)) (ZA fun a ha b hb=>h _ (by unfold skip; split<;>omega) _ (by omega))
  refine Nat.le_trans this (Nat.le_of_eq ?_);show(n+1)*(B*(fac n*B^n))=(n+1)*fac n*B^(n+1);rw[Nat.pow_succ]
  grind
end WG
namespace WG
structure Tb where
 D:Int
 M:Nat→Nat→Int
 ru:Nat→Nat
 cu:Nat→Nat
def un (n b:Nat):Int:=if b=n then 1 else 0
def wv (n:Nat) (v:Nat→Nat→Int) (cu:Nat→Nat):Nat→Nat→Int:=fun c=>if c<n then v (cu c) else un n
structure Inv (n m:Nat) (v:Nat→Nat→Int) (S:Tb):Prop where
 D0:0<S.D
 rl: ∀r<m,S.ru r<n+m
 cl: ∀c<n,S.cu c<n+m
 al: ∀u<n+m,(∃r,r<m∧S.ru r=u)∨ ∃c,c<n∧S.cu c=u
 ri: ∀r<m,∀q<m,S.ru r=S.ru q→r=q
 ci: ∀c<n,∀d<n,S.cu c=S.cu d→c=d
 rc: ∀r<m,∀c<n,S.ru r≠S.cu c
 mc: ∀c<n,∀k≤n,S.M (S.cu c) k=if k=c then S.D else 0
 A: ∀u<n+m,∀j≤n,S.D*v u j=sm (n+1) fun c=>S.M u c*wv n v S.cu c j
 B: ∀u<n+m,∀k≤n,S.M u k=(sm n fun j=>v u j*S.M j k)+v u n*(if k=n then S.D else 0)
 dt: ∃g:Int,g*g=1∧S.D=g*det (n+1) (wv n v S.cu)
def sgn (p:Int):Int:=if p>0 then 1 else -1
theorem sgn_sq(p:Int):sgn p*sgn p=1:=by unfold sgn; split<;>rfl
theorem sgn_pos(h:p≠0):0<sgn p*p:=by unfold sgn; split<;>omega
def updN (f:Nat→Nat) (k x:Nat):Nat→Nat:=fun i=>if i=k then x else f i
def yM (S:Tb) (r c:Nat):Nat→Nat→Int:=fun u k=>
 if k=c then sgn (S.M (S.ru r) c)*S.M u c else (sgn (S.M (S.ru r) c)*S.M (S.ru r) c*S.M u k-sgn (S.M (S.ru r) c)*S.M u c*S.M (S.ru r) k) / S.D
def turn (S:Tb) (r c:Nat):Tb:=⟨sgn (S.M (S.ru r) c)*S.M (S.ru r) c,yM S r c,updN S.ru r (S.cu c),updN S.cu c (S.ru r)⟩
section
variable {n m:Nat} {v:Nat→Nat→Int} {S:Tb}
theorem Inv.cramer(I:Inv n m v S)(hg:g*g=1)(hd:S.D=g*det (n+1) (wv n v S.cu))(hu:u<n+m)(hk:k≤n):det (n+1) (up (wv n v S.cu) k (v u))=g*S.M u k:=by
 have h1:=y6 (n:=n+1) (k:=k) (w:=wv n v S.cu) (v u) (v u) S.D 0 (by omega);have h2:det (n+1) (up (wv n v S.cu) k fun b=>S.D*v u b+0*v u b)=det (n+1) (up (wv n v S.cu) k fun b=>sm (n+1) fun j=>S.M u j*wv n v S.cu j b):=x4 fun a ha b hb=>by
  unfold up; split
  ·show S.D*v u b+0*v u b=sm (n+1) fun j=>S.M u j*wv n v S.cu j b;rw[I.A u hu b (by omega)]; omega
  ·rfl
 rw[h2,ZY (S.M u) (by omega)] at h1;have h3:S.D*det (n+1) (up (wv n v S.cu) k (v u))=S.D*(g*S.M u k):=by
  have:det (n+1) (wv n v S.cu)=g*S.D:=by rw[hd,←Int.mul_assoc,hg,Int.one_mul]
  rw[this] at h1
  grind
 exact Int.eq_of_mul_eq_mul_left (by have:=I.D0; omega) h3
theorem Inv.bound(I:Inv n m v S)(hb: ∀u<n+m,∀j≤n,(v u j).natAbs≤Bd)(h1:1≤Bd)(hu:u<n+m)(hk:k≤n):(S.M u k).natAbs≤fac (n+1)*Bd^(n+1):=by
 obtain⟨g,hg,hd⟩:=I.dt;have:=I.cramer hg hd hu hk;have e:S.M u k=g*det (n+1) (up (wv n v S.cu) k (v u)):=by rw[this,←Int.mul_assoc,hg,Int.one_mul]
 have hg1:g.natAbs=1:=by
  have:(g*g).natAbs=1:=by rw[hg]; rfl
  rw[Int.natAbs_mul] at this;exact Nat.eq_one_of_mul_eq_one_left this
 rw[e,Int.natAbs_mul,hg1,Nat.one_mul];refine ZA fun a ha b hb'=>?_;unfold up wv un;split
 ·exact hb u hu b (by omega)
 ·split
  ·exact hb _ (I.cl _ (by omega)) b (by omega)
  ·dsimp only;split<;>simp<;>omega
theorem Inv.D_bound(I:Inv n m v S)(hb: ∀u<n+m,∀j≤n,(v u j).natAbs≤Bd)(h1:1≤Bd):S.D.natAbs≤fac (n+1)*Bd^(n+1):=by
 obtain⟨g,hg,hd⟩:=I.dt;have hg1:g.natAbs=1:=by
  have:(g*g).natAbs=1:=by rw[hg]; rfl
  rw[Int.natAbs_mul] at this;exact Nat.eq_one_of_mul_eq_one_left this
 rw[hd,Int.natAbs_mul,hg1,Nat.one_mul];refine ZA fun a ha b hb'=>?_;unfold wv un;split
 ·exact hb _ (I.cl _ (by omega)) b (by omega)
 ·dsimp only;split<;>simp<;>omega
theorem Inv.exact(I:Inv n m v S)(hr:r<m)(hc:c<n)(hu:u<n+m)(hk:k≤n)(hkc:k≠c):
  S.D ∣ (sgn (S.M (S.ru r) c)*S.M (S.ru r) c*S.M u k-sgn (S.M (S.ru r) c)*S.M u c*S.M (S.ru r) k):=by
 obtain⟨g,hg,hd⟩:=I.dt;have hl:=I.rl r hr;generalize S.ru r=l at hl ⊢;have hw:det (n+1) (wv n v S.cu)=g*S.D:=by rw[hd,←Int.mul_assoc,hg,Int.one_mul]
 have h1:=det_slots (n:=n+1) (w:=wv n v S.cu) (S.M l) (S.M u) (c:=c) (k:=k) (by omega) (by omega) (Ne.symm hkc);have h2:det (n+1) (up (up (wv n v S.cu) c fun b=>sm (n+1) fun j=>S.M l j*wv n v S.cu j b) k fun b=>sm (n+1) fun j=>S.M u j*wv n v S.cu j b)=det (n+1) (up (up (wv n v S.cu) c fun b=>S.D*v l b+0*v l b) k fun b=>S.D*v u b+0*v u b):=x4 fun a ha b hb=>by
  unfold up; split
  ·show(sm (n+1) fun j=>S.M u j*wv n v S.cu j b)=S.D*v u b+0*v u b;rw[←I.A u hu b (by omega)]; omega
  ·split
   ·show(sm (n+1) fun j=>S.M l j*wv n v S.cu j b)=S.D*v l b+0*v l b;rw[←I.A l hl b (by omega)]; omega
   ·rfl
 rw[h2,y6 (v u) (v u) S.D 0 (by omega),yH (Ne.symm hkc),y6 (v l) (v l) S.D 0 (by omega),hw] at h1;generalize det (n+1) (up (up (wv n v S.cu) k (v u)) c (v l))=d at h1;have h3:S.D*(S.D*d)=S.D*(g*(S.M l c*S.M u k-S.M l k*S.M u c)):=by grind
 have h4:=Int.eq_of_mul_eq_mul_left (by have:=I.D0; omega) h3;refine⟨sgn (S.M l c)*g*d,?_⟩;have:S.D*(sgn (S.M l c)*g*d)=sgn (S.M l c)*g*(S.D*d):=by grind
 rw[this,h4]
 grind
theorem Inv.turn_mul(I:Inv n m v S)(hr:r<m)(hc:c<n)(hu:u<n+m)(hk:k≤n)(hkc:k≠c):
  S.D*yM S r c u k=sgn (S.M (S.ru r) c)*S.M (S.ru r) c*S.M u k-sgn (S.M (S.ru r) c)*S.M u c*S.M (S.ru r) k:=by
 unfold yM;rw[if_neg hkc];exact Int.mul_ediv_cancel' (I.exact hr hc hu hk hkc)
theorem xw:yM S r c u c=sgn (S.M (S.ru r) c)*S.M u c:=by unfold yM; rw[if_pos rfl]
theorem wJ{d a b:Int}(h:0<d)(e:d*a=d*b):a=b:=Int.eq_of_mul_eq_mul_left (by omega) e
theorem Yk(hc:c<n):wv n v (updN S.cu c (S.ru r)) a=up (wv n v S.cu) c (v (S.ru r)) a:=by
 unfold wv up updN
 funext b
 by_cases e:a=c
 ·subst e; simp[hc]
 ·simp[e]
theorem Inv.turn(I:Inv n m v S){r c:Nat}(hr:r<m)(hc:c<n)(hp:S.M (S.ru r) c≠0):Inv n m v (turn S r c):=by
 have hl:=I.rl r hr;have ht:=I.cl c hc;have hne:=I.rc r hr c hc;have hD:=I.D0;refine⟨sgn_pos hp,fun q hq=>?_,fun d hd=>?_,fun u hu=>?_,fun a ha b hb e=>?_,fun a ha b hb e=>?_,fun a ha b hb e=>?_,fun d hd k hk=>?_,fun u hu j hj=>?_,fun u hu k hk=>?_,?_⟩
 ·show updN S.ru r (S.cu c) q<n+m;unfold updN; split
  ·exact ht
  ·exact I.rl q hq
 ·show updN S.cu c (S.ru r) d<n+m;unfold updN; split
  ·exact hl
  ·exact I.cl d hd
 ·by_cases e1:u=S.cu c
  ·exact .inl ⟨r,hr,by simp[WG.turn,updN,e1]⟩
  ·by_cases e2:u=S.ru r
   ·exact .inr ⟨c,hc,by simp[WG.turn,updN,e2]⟩
   ·rcases I.al u hu with ⟨q,hq,rfl⟩ | ⟨d,hd,rfl⟩
    ·refine .inl ⟨q,hq,?_⟩;show updN S.ru r (S.cu c) q=_;unfold updN; rw[if_neg]; intro z; subst z; exact e2 rfl
    ·refine .inr ⟨d,hd,?_⟩;show updN S.cu c (S.ru r) d=_;unfold updN; rw[if_neg]; intro z; subst z; exact e1 rfl
 ·have e:updN S.ru r (S.cu c) a=updN S.ru r (S.cu c) b:=e;unfold updN at e;split at e<;>split at e
  ·omega
  ·exact absurd e.symm (I.rc b hb c hc)
  ·exact absurd e (I.rc a ha c hc)
  ·exact I.ri a ha b hb e
 ·have e:updN S.cu c (S.ru r) a=updN S.cu c (S.ru r) b:=e;unfold updN at e;split at e<;>split at e
  ·omega
  ·exact absurd e (I.rc r hr b hb)
  ·exact absurd e.symm (I.rc r hr a ha)
  ·exact I.ci a ha b hb e
 ·have e:updN S.ru r (S.cu c) a=updN S.cu c (S.ru r) b:=e;unfold updN at e;split at e<;>split at e
  ·exact hne e.symm
  ·rename_i h1 h2; exact h2 (I.ci c hc b hb e).symm
  ·rename_i h1 h2; exact h1 (I.ri a ha r hr e)
  ·exact I.rc a ha b hb e
 ·show yM S r c (updN S.cu c (S.ru r) d) k=if k=d then sgn (S.M (S.ru r) c)*S.M (S.ru r) c else 0
  unfold updN;by_cases e:d=c
  ·subst e;rw[if_pos rfl];by_cases ek:k=d
   ·subst ek; rw[xw,if_pos rfl]
   ·rw[if_neg ek];refine wJ hD ?_;rw[I.turn_mul hr hc hl hk ek]; grind
  ·rw[if_neg e];have h1:=I.mc d hd;by_cases ek:k=c
   ·subst ek;rw[xw,h1 k hk,if_neg (Ne.symm e),if_neg (Ne.symm e)]; simp
   ·refine wJ hD ?_;rw[I.turn_mul hr hc (I.cl d hd) hk ek,h1 k hk,h1 c (by omega),if_neg (Ne.symm e)];split<;>grind
 ·show sgn (S.M (S.ru r) c)*S.M (S.ru r) c*v u j=sm (n+1) fun a=>yM S r c u a*wv n v (updN S.cu c (S.ru r)) a j;refine wJ hD ?_;rw[←yW];have h1: ∀a<n+1,S.D*(yM S r c u a*wv n v (updN S.cu c (S.ru r)) a j)=(sgn (S.M (S.ru r) c)*S.M (S.ru r) c)*(S.M u a*wv n v S.cu a j)+(- sgn (S.M (S.ru r) c)*S.M u c)*(S.M (S.ru r) a*wv n v S.cu a j)+(if a=c then sgn (S.M (S.ru r) c)*S.M u c*(S.D*v (S.ru r) j) else 0):=by
   intro a ha;rw[Yk hc];by_cases e:a=c
   ·subst e;rw[xk,xw,if_pos rfl]; grind
   ·rw[yZ e,if_neg e,←Int.mul_assoc,I.turn_mul hr hc hu (by omega) e]; grind
  rw[zx h1];have h2:=xh (n:=n+1) (f:=fun a=>(sgn (S.M (S.ru r) c)*S.M (S.ru r) c)*(S.M u a*wv n v S.cu a j)+(- sgn (S.M (S.ru r) c)*S.M u c)*(S.M (S.ru r) a*wv n v S.cu a j)) (g:=fun a=>if a=c then sgn (S.M (S.ru r) c)*S.M u c*(S.D*v (S.ru r) j) else 0) 1 1;simp only[Int.one_mul] at h2;rw[h2,xh,←I.A u hu j hj,←I.A _ hl j hj,xr (k:=c) (by omega) fun i hi hne=>if_neg hne,if_pos rfl]
  grind
 ·show yM S r c u k=(sm n fun j=>v u j*yM S r c j k)+v u n*(if k=n then sgn (S.M (S.ru r) c)*S.M (S.ru r) c else 0);have hB:=I.B u hu;by_cases ek:k=c
  ·subst ek;rw[xw,if_neg (by omega)];have h1:=hB k hk;rw[if_neg (by omega)] at h1;rw[zx (f:=fun j=>v u j*yM S r k j k) (g:=fun j=>sgn (S.M (S.ru r) k)*(v u j*S.M j k)) fun j _=>by rw[xw]; grind,yW,h1]
   grind
  ·refine wJ hD ?_;rw[I.turn_mul hr hc hu hk ek,Int.mul_add,←yW];rw[zx (g:=fun j=>(sgn (S.M (S.ru r) c)*S.M (S.ru r) c)*(v u j*S.M j k)+(- sgn (S.M (S.ru r) c)*S.M (S.ru r) k)*(v u j*S.M j c)) fun j hj=>by
    have:=I.turn_mul hr hc (u:=j) (by omega) hk ek;have e2:S.D*(v u j*yM S r c j k)=v u j*(S.D*yM S r c j k):=by grind
    rw[e2,this]; grind]
   rw[xh];have h1:=hB k hk;have h2:=hB c (by omega);rw[if_neg (by omega: ¬c=n)] at h2;have e1:(sm n fun j=>v u j*S.M j k)=S.M u k-v u n*(if k=n then S.D else 0):=by omega
   have e2:(sm n fun j=>v u j*S.M j c)=S.M u c:=by omega
   rw[e1,e2];split<;>grind
 ·obtain⟨g,hg,hd⟩:=I.dt;refine⟨sgn (S.M (S.ru r) c)*g,?_,?_⟩
  ·have:=sgn_sq (S.M (S.ru r) c); grind
  ·show sgn (S.M (S.ru r) c)*S.M (S.ru r) c=_*det (n+1) (wv n v (updN S.cu c (S.ru r)));have e:wv n v (updN S.cu c (S.ru r))=up (wv n v S.cu) c (v (S.ru r)):=by funext a; exact Yk hc
   rw[e,I.cramer hg hd hl (by omega)]
   grind
end
end WG
namespace WG
section
variable {n m:Nat} {v:Nat→Nat→Int}
def low (n m:Nat) (S:Tb) (r:Nat):Prop:=r<m∧n≤S.ru r∧S.M (S.ru r) n<0
structure BStep (n m:Nat) (S:Tb) (r c:Nat):Prop where
 lo:low n m S r
 lm: ∀q,low n m S q→S.ru r≤S.ru q
 hc:c<n
 nz:S.M (S.ru r) c≠0
 cm:S.cu c<n∨(0<S.M (S.ru r) c∧(∀d<n,S.cu d<n→S.M (S.ru r) d=0)∧ ∀d<n,n≤S.cu d→0<S.M (S.ru r) d→S.cu c≤S.cu d)
def isC (n:Nat) (S:Tb) (u:Nat):Prop:= ∃c,c<n∧S.cu c=u
theorem XZ(S R:Tb)(I:Inv n m v S)(J:Inv n m v R)(hu:u<n+m):S.D*R.M u n=(sm n fun c=>S.M u c*R.M (S.cu c) n)+S.M u n*R.D:=by
 have hB: ∀w<n+m,R.M w n=(sm n fun j=>v w j*R.M j n)+v w n*R.D:=fun w hw=>by
  have:=J.B w hw n (Nat.le_refl _)
  rwa [if_pos rfl] at this
 rw[hB u hu,Int.mul_add,←yW];have hA: ∀j≤n,S.D*v u j=(sm n fun c=>S.M u c*v (S.cu c) j)+S.M u n*un n j:=fun j hj=>by
  rw[I.A u hu j hj];show(sm n fun c=>S.M u c*wv n v S.cu c j)+S.M u n*wv n v S.cu n j=_;congr 1
  ·exact zx fun c hc=>by unfold wv; rw[if_pos hc]
  ·unfold wv; rw[if_neg (by omega)]
 have h1:(sm n fun j=>S.D*(v u j*R.M j n))=sm n fun c=>S.M u c*sm n fun j=>v (S.cu c) j*R.M j n:=by
  have: ∀j<n,S.D*(v u j*R.M j n)=sm n fun c=>S.M u c*(v (S.cu c) j*R.M j n):=fun j hj=>by
   have e:=hA j (by omega);unfold un at e;rw[if_neg (by omega)] at e;have e2:S.D*(v u j*R.M j n)=R.M j n*(S.D*v u j):=by grind
   rw[e2,e,Int.mul_zero,Int.add_zero,←yW];exact zx fun c _=>by grind
  rw[zx this,sm_sm];exact zx fun c _=>yW _
 have h2:S.D*(v u n*R.D)=(sm n fun c=>S.M u c*(v (S.cu c) n*R.D))+S.M u n*R.D:=by
  have e:=hA n (Nat.le_refl _);unfold un at e;rw[if_pos rfl] at e;have e2:S.D*(v u n*R.D)=R.D*(S.D*v u n):=by grind
  rw[e2,e,Int.mul_add,←yW];congr 1
  ·exact zx fun c _=>by grind
  ·grind
 rw[h1,h2];have h3:=xh (n:=n) (f:=fun c=>S.M u c*sm n fun j=>v (S.cu c) j*R.M j n) (g:=fun c=>S.M u c*(v (S.cu c) n*R.D)) 1 1;have h4:(sm n fun c=>S.M u c*R.M (S.cu c) n)=sm n fun c=>1*(S.M u c*sm n fun j=>v (S.cu c) j*R.M j n)+1*(S.M u c*(v (S.cu c) n*R.D)):=zx fun c hc=>by
  rw[hB _ (I.cl c hc)]; grind
 rw[h4,h3]
 grind
theorem bland(I:Inv n m v S)(J:Inv n m v R)(a:BStep n m S r c)(b:BStep n m R q d)(e1:S.cu c=t)(e2:R.ru q=t)(hl:S.ru r≤t)(hs: ∀u,t<u→isC n S u→isC n R u):False:=by
 have hr:=a.lo.1;have hq:=b.lo.1;have hlu:=I.rl r hr;have htn:n≤t:=e2▸b.lo.2.1;obtain⟨hp,hz,hm⟩:0<S.M (S.ru r) c∧(∀d<n,S.cu d<n→S.M (S.ru r) d=0)∧ ∀d<n,n≤S.cu d→0<S.M (S.ru r) d→S.cu c≤S.cu d:=by
  rcases a.cm with h | h
  ·omega
  ·exact h
 -- how the other table's XZ stands
 have hlow: ∀u,n≤u→u<n+m→u<t→0≤R.M u n:=fun u h1 h2 h3=>by
  rcases J.al u h2 with ⟨r',hr',rfl⟩ | ⟨c',hc',rfl⟩
  ·rcases Int.lt_or_le (R.M (R.ru r') n) 0 with h | h
   ·have:=b.lm r' ⟨hr',h1,h⟩;omega
   ·exact h
  ·rw[J.mc c' hc' n (Nat.le_refl _),if_neg (by omega)]; exact Int.le_refl _
 have hP:=XZ S R I J hlu;have hlt:S.ru r<t:=by
  have:=I.rc r hr c a.hc;omega
 have h0:=hlow _ a.lo.2.1 hlu hlt;have hsum:(sm n fun x=>S.M (S.ru r) x*R.M (S.cu x) n)≤0:=sm_nonpos fun x hx=>by
  by_cases hx1:S.cu x<n
  ·rw[hz x hx hx1]; simp
  ·by_cases hx2:S.cu x=t
   ·have:x=c:=I.ci x hx c a.hc (by omega);subst this;have h5:R.M (S.cu x) n<0:=by rw[hx2,←e2]; exact b.lo.2.2
    have:=Int.mul_pos hp (Int.neg_pos.mpr h5);have e:S.M (S.ru r) x*-R.M (S.cu x) n=-(S.M (S.ru r) x*R.M (S.cu x) n):=by grind
    omega
   ·by_cases hx3:t<S.cu x
    ·obtain⟨c',hc',e'⟩:=hs _ hx3 ⟨x,hx,rfl⟩;rw[←e',J.mc c' hc' n (Nat.le_refl _),if_neg (by omega)]; simp
    ·have h5:=hlow (S.cu x) (by omega) (I.cl x hx) (by omega);have h6:S.M (S.ru r) x≤0:=by
      rcases Int.lt_or_le 0 (S.M (S.ru r) x) with h | h
      ·have:=hm x hx (by omega) h;omega
      ·exact h
     have:=Int.mul_nonneg (Int.neg_nonneg.mpr h6) h5;have e: -S.M (S.ru r) x*R.M (S.cu x) n=-(S.M (S.ru r) x*R.M (S.cu x) n):=by grind
     omega
 have h7:S.M (S.ru r) n*R.D<0:=by
  have:=Int.mul_pos (Int.neg_pos.mpr a.lo.2.2) J.D0;have e: -S.M (S.ru r) n*R.D=-(S.M (S.ru r) n*R.D):=by grind
  omega
 have h8:=Int.mul_nonneg (Int.le_of_lt I.D0) h0;omega
structure Way (n m:Nat) (v:Nat→Nat→Int) (k:Nat) (h:Nat→Tb) (rw cw:Nat→Nat):Prop where
 iv: ∀i≤k,Inv n m v (h i)
 st: ∀i<k,BStep n m (h i) (rw i) (cw i)
 nx: ∀i<k,h (i+1)=turn (h i) (rw i) (cw i)
theorem vE(I:Inv n m v S)(hr:r<m)(hc:c<n)(h1:u≠S.cu c)(h2:u≠S.ru r):isC n (turn S r c) u↔isC n S u:=by
 constructor
 ·rintro⟨d,hd,e⟩;have e:updN S.cu c (S.ru r) d=u:=e;unfold updN at e;split at e
  ·exact absurd e.symm h2
  ·exact⟨d,hd,e⟩
 ·rintro⟨d,hd,e⟩;refine⟨d,hd,?_⟩;show updN S.cu c (S.ru r) d=u;unfold updN;split
  ·rename_i z; subst z; exact absurd e.symm h1
  ·exact e
theorem isC_in(hc:c<n):isC n (turn S r c) (S.ru r):=⟨c,hc,by simp[turn,updN]⟩
theorem isC_out(I:Inv n m v S)(hr:r<m)(hc:c<n): ¬isC n (turn S r c) (S.cu c):=by
 rintro⟨d,hd,e⟩;have e:updN S.cu c (S.ru r) d=S.cu c:=e;unfold updN at e;split at e
 ·exact I.rc r hr c hc e
 ·rename_i z; exact z (I.ci d hd c hc e)
theorem YJ(I:Inv n m v S)(hr:r<m): ¬isC n S (S.ru r):=by
 rintro⟨d,hd,e⟩;exact I.rc r hr d hd e.symm
variable {k:Nat} {h:Nat→Tb} {rw_ cw:Nat→Nat}
theorem Way.stays(W:Way n m v k h rw_ cw)(hab:a≤b)(hb:b≤k)(hn: ∀i,a≤i→i<b→u≠(h i).cu (cw i)∧u≠(h i).ru (rw_ i)):isC n (h a) u↔isC n (h b) u:=by
 induction b with
 | zero=>rw[show a=0 by omega]
 | succ b ih=>
  by_cases e:a=b+1
  ·rw[e]
  ·have h1:=ih (by omega) (by omega) fun i h1 h2=>hn i h1 (by omega);have s:=W.st b (by omega);obtain⟨h2,h3⟩:=hn b (by omega) (by omega);rw[h1,W.nx b (by omega),vE (W.iv b (by omega)) s.lo.1 s.hc h2 h3]
theorem Way.once(W:Way n m v k h rw_ cw)(hb:b≤k)(hi: ∀x,a≤x→x<b→(h x).cu (cw x)≤t∧(h x).ru (rw_ x)≤t)(ha:a≤i)(hij:i<j)(hj:j<b)(m1:(h i).cu (cw i)=t∨(h i).ru (rw_ i)=t)(m2:(h j).cu (cw j)=t∨(h j).ru (rw_ j)=t):False:=by
 have up_: ∀u,t<u→ ∀x y,a≤x→x≤b→a≤y→y≤b→(isC n (h x) u↔isC n (h y) u):=fun u hu x y h1 h2 h3 h4=>by
  have g: ∀z,a≤z→z≤b→(isC n (h a) u↔isC n (h z) u):=fun z hz1 hz2=>W.stays hz1 (by omega) fun w hw1 hw2=>by
   have:=hi w hw1 (by omega);omega
  rw[←g x h1 h2,←g y h3 h4]
 -- some turn brings it in,some other one takes it out
 have hin: ∃x,a≤x∧x<b∧(h x).cu (cw x)=t:=by
  apply Classical.byContradiction
  intro z;have z: ∀x,a≤x→x<b→(h x).cu (cw x)≠t:=fun x h1 h2 e=>z ⟨x,h1,h2,e⟩;have m1:(h i).ru (rw_ i)=t:=m1.resolve_left (z i ha (by omega));have m2:(h j).ru (rw_ j)=t:=m2.resolve_left (z j (by omega) hj)
  -- a column from i+1 on
  have hcol: ∀x,i+1≤x→x≤b→isC n (h x) t:=by
   intro x hx
   induction x with
   | zero=>omega
   | succ x ih=>
    intro hxb;have s:=W.st x (by omega);rw[W.nx x (by omega)];by_cases e:x=i
    ·subst e; rw[←m1]; exact isC_in s.hc
    ·have h1:=ih (by omega) (by omega);have h2:(h x).ru (rw_ x)≠t:=fun e=>YJ (W.iv x (by omega)) s.lo.1 (e▸h1);exact(vE (W.iv x (by omega)) s.lo.1 s.hc (Ne.symm (z x (by omega) (by omega))) (Ne.symm h2)).mpr h1
  exact YJ (W.iv j (by omega)) (W.st j (by omega)).lo.1 (m2▸hcol j (by omega) (by omega))
 have hout: ∃x,a≤x∧x<b∧(h x).ru (rw_ x)=t:=by
  apply Classical.byContradiction
  intro z;have z: ∀x,a≤x→x<b→(h x).ru (rw_ x)≠t:=fun x h1 h2 e=>z ⟨x,h1,h2,e⟩;have m1:(h i).cu (cw i)=t:=m1.resolve_right (z i ha (by omega));have m2:(h j).cu (cw j)=t:=m2.resolve_right (z j (by omega) hj);have hrow: ∀x,i+1≤x→x≤b→ ¬isC n (h x) t:=by
   intro x hx
   induction x with
   | zero=>omega
   | succ x ih=>
    intro hxb;have s:=W.st x (by omega);rw[W.nx x (by omega)];by_cases e:x=i
    ·subst e; rw[←m1]; exact isC_out (W.iv x (by omega)) s.lo.1 s.hc
    ·have h1:=ih (by omega) (by omega);have h2:(h x).cu (cw x)≠t:=fun e=>h1 ⟨cw x,s.hc,e⟩;exact fun q=>h1 ((vE (W.iv x (by omega)) s.lo.1 s.hc (Ne.symm h2) (Ne.symm (z x (by omega) (by omega)))).mp q)
  exact hrow j (by omega) (by omega) ⟨cw j,(W.st j (by omega)).hc,m2⟩
 obtain⟨x,x1,x2,ex⟩:=hin;obtain⟨y,y1,y2,ey⟩:=hout;exact bland (W.iv x (by omega)) (W.iv y (by omega)) (W.st x (by omega)) (W.st y (by omega)) ex ey (hi x x1 x2).2 fun u hu q=>(up_ u hu x y x1 (by omega) y1 (by omega)).mp q
theorem Way.short(W:Way n m v k h rw_ cw): ∀(t a b:Nat),a≤b→b≤k→(∀x,a≤x→x<b→(h x).cu (cw x)<t∧(h x).ru (rw_ x)<t)→b-a<2^t
 | 0,a,b,hab,hb,hi=>by
  by_cases e:a=b
  ·subst e; simp
  ·have:=hi a (Nat.le_refl _) (by omega);omega
 | t+1,a,b,hab,hb,hi=>by
  have h2:2^(t+1)=2^t+2^t:=by rw[Nat.pow_succ]; omega
  by_cases hex: ∃i,a≤i∧i<b∧((h i).cu (cw i)=t∨(h i).ru (rw_ i)=t)
  ·obtain⟨i,i1,i2,i3⟩:=hex;have hi': ∀x,a≤x→x<b→(h x).cu (cw x)≤t∧(h x).ru (rw_ x)≤t:=fun x h1 h2=>by have:=hi x h1 h2; omega
   have p1:=W.short t a i i1 (by omega) fun x h1 h2=>by
    have q:=hi x h1 (by omega);have n1: ¬((h x).cu (cw x)=t∨(h x).ru (rw_ x)=t):=fun z=>W.once hb hi' h1 h2 i2 z i3;omega
   have p2:=W.short t (i+1) b (by omega) hb fun x h1 h2=>by
    have q:=hi x (by omega) h2;have n1: ¬((h x).cu (cw x)=t∨(h x).ru (rw_ x)=t):=fun z=>W.once hb hi' i1 (by omega) h2 i3 z;omega
   omega
  ·have:=W.short t a b hab hb fun x h1 h2=>by
    have q:=hi x h1 h2;have n1: ¬((h x).cu (cw x)=t∨(h x).ru (rw_ x)=t):=fun z=>hex ⟨x,h1,h2,z⟩;omega
   omega
theorem Way.few(W:Way n m v k h rw_ cw):k<2^(n+m):=by
 have:=W.short (n+m) 0 k (by omega) (Nat.le_refl _) fun x _ hx=>⟨(W.iv x (by omega)).cl _ (W.st x hx).hc,(W.iv x (by omega)).rl _ (W.st x hx).lo.1⟩;omega
theorem Way.one(I:Inv n m v S):Way n m v 0 (fun _=>S) (fun _=>0) fun _=>0:=⟨fun _ _=>I,fun i hi=>absurd hi (by omega),fun i hi=>absurd hi (by omega)⟩
theorem Way.more(W:Way n m v k h rw_ cw)(s:BStep n m (h k) r c): ∃h' r' c',Way n m v (k+1) h' r' c'∧h' (k+1)=turn (h k) r c:=by
 refine⟨fun i=>if i≤k then h i else turn (h k) r c,fun i=>if i<k then rw_ i else r,fun i=>if i<k then cw i else c,⟨fun i hi=>?_,fun i hi=>?_,fun i hi=>?_⟩,if_neg (by omega)⟩
 ·show Inv n m v (if i≤k then h i else turn (h k) r c);split
  ·exact W.iv i (by assumption)
  ·exact(W.iv k (Nat.le_refl _)).turn s.lo.1 s.hc s.nz
 ·show BStep n m (if i≤k then h i else turn (h k) r c) (if i<k then rw_ i else r) (if i<k then cw i else c);rw[if_pos (by omega)];by_cases e:i<k
  ·rw[if_pos e,if_pos e]; exact W.st i e
  ·rw[if_neg e,if_neg e,show i=k by omega]; exact s
 ·show(if i+1≤k then h (i+1) else turn (h k) r c)=turn (if i≤k then h i else turn (h k) r c) (if i<k then rw_ i else r) (if i<k then cw i else c);by_cases e:i<k
  ·rw[if_pos (by omega),if_pos (by omega),if_pos e,if_pos e]; exact W.nx i e
  ·rw[if_neg (by omega),if_pos (by omega),if_neg e,if_neg e,show i=k by omega]
end
end WG
namespace K16
open PySem L2
end K16
local macro_rules | `(tactic| walk_at "v") => `(tactic| repeat (with_reducible first
  | refine L2.xg ?_ | refine L2.yL ?_ | refine L2.zM ?_ | refine L2.w_op ?_ | refine L2.yt rfl ?_ | refine L2.w_c ?_ | refine L2.xF ?_ | refine L2.xG ?_ | refine L2.xH ?_ | refine L2.yP ?_ | refine L2.w_tb ?_ | refine L2.w_bl ?_ | refine L2.w_not ?_ | refine L2.xj ?_ | refine L2.w_retN ?_
  | refine L2.yK ?_ | refine L2.yh ?_ | refine L2.xu ?_ | refine L2.y9 ?_ | refine L2.w_cb ?_ | refine L2.yV ?_ | refine L2.yQ ?_ | refine L2.xI ?_ | refine L2.w_or ?_ | refine L2.yg ?_ | refine L2.zZ ?_ | refine L2.yO ?_ | refine L2.yp ?_ | refine L2.yo ?_ | refine L2.yS ?_ | refine L2.yR ?_ | refine L2.yT ?_ | refine L2.yU ?_ | refine L2.w_bm ?_ | refine L2.iteT ?_ | refine L2.iteF ?_))
namespace K16
open PySem L2
abbrev Y7:Stmt:=top 17
abbrev Y8:Stmt:=top 18
def FeedAt (H:Hp) (p:Addr):Prop:= ∃a b c:Int,H p=some (.lst [.int a,.int b,.int c])
theorem FeedAt.here:FeedAt (upd H p (.lst [.int x,.int y,.int z])) p:=⟨x,y,z,zf⟩
def Y5 (K:W.Frag):Sp:=fun vs H Q _=> ∃(a:Addr) (ns:List Int) (k:Nat),vs=[.ref a,.int k]∧SqL K H a (ns.map V.int)∧ns.length≤63∧ ∀p x y z,H p=none→Q (.ref p) (upd H p (.lst [.int x,.int y,.int z]))
def xA:Sp:=fun vs H Q _=> ∃(p:Addr) (m:Int),vs=[.ref p,.int m]∧FeedAt H p∧0<m∧m<1000000∧ ∀(r x y z:Int),0≤r→r<m→Q (.int r) (upd H p (.lst [.int x,.int y,.int z]))
theorem md{i j:Int}(h:0<j):0≤i%j∧i%j<j:=⟨Int.emod_nonneg _ (Int.ne_of_gt h),Int.emod_lt_of_pos _ h⟩
theorem mulL(h1:0≤i)(h2:i<4000000000):CMul i j:= .inl ⟨by omega,by omega⟩
section
variable {P:Program} {w:World} {K:W.Frag} {mg:Str→Option Value} {base:Heap}
theorem scDraw:FnScope ["_law_feed_here","_law_many","_law_found","_law_mixed"] ["_law_feed_here","_law_many"] (ze Y8):=⟨rfl,rfl,rfl,by decide+kernel,rfl,by decide+kernel,by decide+kernel⟩
theorem ok_draw{f:Addr}{fd:FuncData}(F:Fun K "_law_draw" "_law_draw" Y8 f fd):FnOk P w K mg base CX0 1 f fd ["_law_feed_here","_law_many"] xA:=by
 refine F.ok scDraw (fun vs H Q E h=>?_) (fun cdv A outer s H vs Q E hr h=>?_)
 ·obtain⟨p,m,rfl,_⟩:=h;rfl
 obtain⟨p,m,rfl,⟨a,b,c,hp⟩,hm,hm2,k⟩:=h;refine⟨_,zd (zW (zo zP (ziq (pv 0) zg) zg) (zX (pv 0) zg yl))
  (zd (zY (zt vV (ziq (pv 0) zg) zg (zv _))
   (zd (wa (i:=2) scDraw.nd rfl (Or.inl rfl) (zo yr (ziq (pv 0) zg) (pv 1)))
   (zd (zW (zo Zq (ziq (pv 0) zg) (pv 1)) (zX (pv 0) zg yl))
   (zj (zy (pv 2))))) zC)
  (zd (wa (i:=3) scDraw.nd rfl (Or.inl rfl) (zo yr (zo xt (zo yr (zo zP (ziq (pv 0) zg) (zo xt zg (ziq (pv 0) zg))) zg) zg) zg))
  (zd (wa (i:=3) scDraw.nd rfl (Or.inl rfl) (zo yr (zo xt (pv 3) (zo zP (pv 3) zg)) zg))
  (zj (zy (zo yr (zo Zq (zo yr (zo xt (pv 3) zg) zg) zg) (pv 1))))))),?_⟩
 walk_at"v";refine zA hp rfl ?_;walk_at"v";refine yx hp rfl ?_;walk_at"v";refine zA zf rfl ?_;walk_at"v";refine iteD (fun _=>?_) (fun _=>?_)
 ·walk_at"v";refine zA zf rfl ?_;walk_at"v";refine w_rI hm ?_;walk_at"v";refine zA zf rfl ?_;walk_at"v";refine w_rI ⟨hm,by omega⟩ ?_;walk_at"v";refine yx zf rfl ?_;walk_at"v";rw[wk];exact k _ _ _ _ (md hm).1 (md hm).2
 ·walk_at"v";refine zA zf rfl ?_;walk_at"v";refine zA zf rfl ?_;refine w_rI (mulL (by decide) (by decide)) ?_;walk_at"v";refine w_rI (by decide) ?_;walk_at"v";refine w_rI (mulL (md (by decide)).1 (by have:=(md (i:=b+40692*(c+1)) (j:=2147483399) (by decide)).2; omega)) ?_;walk_at"v";refine w_rI (by decide) ?_;generalize hx:(b+40692*(c+1))%2147483399*48271%2147483647=x;have h1:=md (i:=(b+40692*(c+1))%2147483399*48271) (j:=2147483647) (by decide);rw[hx] at h1;walk_at"v";refine w_rI (mulL h1.1 (by omega)) ?_;walk_at"v";refine w_rI (by decide) ?_;generalize hy:x*(x+7919)%2147483587=y;have h2:=md (i:=x*(x+7919)) (j:=2147483587) (by decide);rw[hy] at h2;walk_at"v";refine w_rI (mulL h2.1 (by omega)) ?_;walk_at"v";refine w_rI (by decide) ?_;walk_at"v";refine w_rI ⟨by decide,by decide⟩ ?_;walk_at"v";refine w_rI hm ?_;exact k _ _ _ _ (md hm).1 (md hm).2
theorem scFeed:FnScope ["_law_script","_law_k","_law_cell","_law_left"] ["_law_script","_law_k"] (ze Y7):=⟨rfl,rfl,rfl,by decide+kernel,rfl,by decide+kernel,by decide+kernel⟩
theorem ok_feed{f:Addr}{fd:FuncData}(hlen:mg "len"=none)(F:Fun K "_law_feed" "_law_feed" Y7 f fd):FnOk P w K mg base CX0 1 f fd ["_law_script","_law_k"] (Y5 K):=by
 refine F.ok scFeed (fun vs H Q E h=>?_) (fun cdv A outer s H vs Q E hr h=>?_)
 ·obtain⟨a,ns,k,rfl,_⟩:=h;rfl
 obtain⟨a,ns,k,rfl,hS,hl,q⟩:=h;refine⟨_,zd (wa (i:=2) scFeed.nd rfl (Or.inl rfl) (zo zP (zo xt zg (pv 1)) zg))
  (zd (zY (zt vV (wB zq (by rfl) hlen PySem.boot_len (zw (pv 0) zE)) zg (zv _))
   (zj (wa (i:=2) scFeed.nd rfl (Or.inl rfl) (zo zP (zp ix_list (pv 0) (zo yr (pv 1) (wB zq (by rfl) hlen PySem.boot_len (zw (pv 0) zE))) (fun _ _=>rfl))
    (zo xt zg (zo Zq (pv 1) (wB zq (by rfl) hlen PySem.boot_len (zw (pv 0) zE)))))))
   zC)
  (zd (wa (i:=3) scFeed.nd rfl (Or.inl rfl) (xP (zt Xi (pv 2) (zo op_pow zg zg) (zv _)) (pv 2) zg))
  (zj (zy (yk (zw (pv 3) (zw (zo zP (zo zP (zo yr (pv 2) zg) (zo xt zg (pv 1))) zg) (zw zg zE)))))))),?_⟩
 walk_at"v";refine w_rI (mulL (by decide) (by decide)) ?_;walk_at"v";refine⟨a,_,rfl,.inl hS,?_⟩;walk_at"v";refine iteD (fun h0=>?_) (fun _=>?_)
 ·walk_at"v";refine⟨a,_,rfl,.inl hS,?_⟩;rw[List.length_map] at h0 ⊢;have h0':0<ns.length:=by omega
  refine w_rI h0 ?_;obtain⟨j,hj⟩: ∃j:Nat,(k:Int)%(ns.length:Int)=(j:Int):=⟨k%ns.length,by omega⟩;have hjl:j<ns.length:=by
   have:=(md (i:=(k:Int)) h0).2;omega
  refine⟨a,_,_,.int ns[j],rfl,rfl,hS,?_,?_⟩
  ·rw[hj];exact zz (by simp[hjl])
  ·walk_at"v";refine⟨a,_,rfl,.inl hS,?_⟩;rw[List.length_map];refine w_rI ⟨h0,by omega⟩ ?_;refine w_rI (mulL (by decide) (by decide)) ?_;walk_at"v";refine w_rI ⟨by decide,by decide,by decide⟩ ?_;walk_at"v";refine iteD (fun _=>?_) (fun _=>?_)
   all_goals
    walk_at"v";refine w_rI (by decide) ?_;walk_at"v";refine w_rI (mulL (by decide) (by decide)) ?_;walk_at"v";exact⟨sz3,fun p hp=>q p _ _ _ hp⟩
 ·walk_at"v";refine w_rI ⟨by decide,by decide,by decide⟩ ?_;walk_at"v";refine iteD (fun _=>?_) (fun _=>?_)
  all_goals
   walk_at"v";refine w_rI (by decide) ?_;walk_at"v";refine w_rI (mulL (by decide) (by decide)) ?_;walk_at"v";exact⟨sz3,fun p hp=>q p _ _ _ hp⟩
abbrev wP:Stmt:=top 19
def names12:List Str:=["a","ab","abc","insort","outer","ruler","tone","begins","sort","b","zzzzzzzz","x"]
def nmOf (st sp k:Nat):Str:=names12.getD ((st+sp*k)%12) ""
def But (p:Addr) (H H':Hp):Prop:= ∀q o,H q=some o→q≠p→H' q=some o
theorem But.refl:But p H H:=fun _ _ h _=>h
theorem But.new(b:But p H H')(h:H' a=none):But p H (upd H' a o):=fun q u e hq=>by
 have e':=b q u e hq;rw[zh (zi e' h)];exact e'
theorem But.at(b:But p H H'):But p H (upd H' p o):=fun q u e hq=>by
 rw[zh hq];exact b q u e hq
theorem But.put(b:But p H H')(h:H a=none):But p H (upd H' a o):=fun q u e hq=>by
 rw[zh (zi e h)];exact b q u e hq
theorem But.trans(a:But p H H1)(b:But p H1 H2):But p H H2:=fun q o e hq=>b q o (a q o e hq) hq
theorem But.free(b:But p H H')(hp:p≠a)(h:H' a=none):H a=none:=by
 cases e:H a with
 | none=>rfl
 | some o=>rw[b a o e (Ne.symm hp)] at h; cases h
theorem FeedAt.ne(F:FeedAt H p)(h:H a=none):p≠a:=by
 obtain⟨x,y,z,e⟩:=F;exact zi e h
theorem FeedAt.new(F:FeedAt H p)(h:p≠a):FeedAt (upd H a o) p:=by
 obtain⟨x,y,z,e⟩:=F;exact⟨x,y,z,by rw[zh h]; exact e⟩
theorem Nat.ofI(h:0≤r): ∃n:Nat,r=(n:Int):=⟨r.toNat,by omega⟩
def Wa (m:Nat) (nm:List Str):Prop:=nm.length=m∧nm.Nodup
theorem ix_ok: ∀st<12,∀sp∈[1,5,7,11],∀m<9,((List.range m).map fun k=>(st+sp*k)%12).Nodup:=by decide+kernel
theorem names12_nd:names12.Nodup:=by decide+kernel
theorem names_ok(h1:st<12)(h2:sp∈[1,5,7,11])(h3:m<9):((List.range m).map (nmOf st sp)).Nodup:=by
 have h:=ix_ok st h1 sp h2 m h3;have e:(List.range m).map (nmOf st sp)=((List.range m).map fun k=>(st+sp*k)%12).map fun j=>names12.getD j "":=by
  rw[List.map_map];rfl
 rw[e];refine List.Pairwise.map _ (R:=fun a b=>a≠b∧a<12∧b<12) (fun a b ⟨hab,ha,hb⟩ hc=>?_) ?_
 ·have hl:names12.length=12:=rfl;simp only[List.getD_eq_getElem?_getD,List.getElem?_eq_getElem (show a<names12.length by omega),List.getElem?_eq_getElem (show b<names12.length by omega),Option.getD_some] at hc;exact hab ((List.getElem_inj names12_nd).mp hc)
 ·refine List.Pairwise.imp_of_mem (R:=fun a b=>a≠b) (fun {a b} ha hb hab=>⟨hab,?_,?_⟩) h
  ·obtain⟨k,_,rfl⟩:=List.mem_map.mp ha;omega
  ·obtain⟨k,_,rfl⟩:=List.mem_map.mp hb;omega
def Ys:Sp:=fun vs H Q _=> ∃(p:Addr) (m:Nat),vs=[.ref p,.int m]∧FeedAt H p∧0<m∧m≤8∧ ∀(l:Addr) (nm:List Str) (H':Hp),H l=none→Wa m nm→FeedAt H' p→But p H H'→H' l=some (.lst (nm.map V.str))→Q (.ref l) H'
abbrev Xk:List Str:=["_law_feed_here","_law_many","_law_some","_law_start","_law_step"]
theorem xZ:Nm Xk (ze wP):=⟨by decide+kernel,by decide+kernel⟩
theorem scNames:FnScope Xk ["_law_feed_here","_law_many"] (ze wP):=⟨rfl,rfl,rfl,by decide+kernel,rfl,by decide+kernel,by decide+kernel⟩
def retComp (s:Stmt):Scope:=match s with
 | .Return (some (.ListComp _ _ sc _)) _=>sc
 | _=>nsc
abbrev cNames:Scope:=retComp ((zm wP).getD 3 (.Pass ⟨0,0,0,0⟩))
theorem bsNames:BScope (ze wP) cNames ["_law_k"] ["_law_some","_law_start","_law_step"] []:={okind:=by decide+kernel,kind:=by decide+kernel,nocell:=by decide+kernel,names:=by decide+kernel,fr:=by decide+kernel,ff:=by decide+kernel,nd:=by decide+kernel,vis:=by decide+kernel,loc:=by decide+kernel,gl:=by decide+kernel}
theorem ok_names(hrange:mg "range"=none)(D:Has P w K mg base 1 "_law_draw" ["_law_feed_here","_law_many"] xA)(F:Fun K "_law_names" "_law_names" wP f fd):FnOk P w K mg base CX0 2 f fd ["_law_feed_here","_law_many"] Ys:=by
 refine F.ok scNames (fun vs H Q E h=>?_) (fun cdv A outer s H vs Q E hr h=>?_)
 ·obtain⟨p,m,rfl,_⟩:=h;rfl
 obtain⟨p,m,rfl,hF,h1,h8,k⟩:=h;refine'⟨_,?hb,?rd⟩
 case hb=>
  refine' zd ?s1 ?r1
  case' r1=>refine' zd ?s2 ?r2
  case' r2=>refine' zd ?s3 ?r3
  case' r3=>refine' zj ?s4
  case s1=>
   refine' zk xZ 2 ?p1
   case p1=>
    refine wA (vs:=names12.map V.str) ?_;decide+kernel
  case s2=>
   refine' zk xZ 3 ?p2
   case p2=>exact xQ D hr (by decide) (zw (pvd xZ 0) (zw zg zE))
  case s3=>
   refine' zk xZ 4 ?p3
   case p3=>
    refine' ziq ?a3 (xQ D hr (by decide) (zw (pvd xZ 0) (zw zg zE)))
    case a3=>
     refine wA (vs:=[.int 1,.int 5,.int 7,.int 11]) ?_;decide+kernel
  case s4=>
   refine' zy ?p4
   case p4=>
    refine' zR (ix:=[2,3,4]) bsNames.toCScope rfl rfl ?h3 ?h4 ?h5 ?h6
    case h3=>exact y8 rfl hrange (zw (pvd xZ 1) zE)
    case h4=>exact fun _ _ _ _ _ _=>pgb bsNames 0
    case h5=>exact fun _ _ _ _ _ _=>zB
    case h6=>exact fun _ _ _ _ _ _=>ziq (pvb bsNames 1) (zo yr (zo zP (pvb bsNames 2) (zo xt (pvb bsNames 3) (pvb bsNames 0))) zg)
 walk_at"v";refine⟨by show 12≤sizeLine; decide,fun a1 ha1=>?_⟩;walk_at"v";refine⟨p,12,rfl,hF.new (hF.ne ha1),by decide,by decide,fun r x y z r0 r1=>?_⟩;walk_at"v";refine⟨sz4,fun a2 ha2=>?_⟩;walk_at"v";have np1:p≠a1:=hF.ne ha1;have np2:p≠a2:=by
  intro e;rw[←e,zf] at ha2;cases ha2
 refine⟨p,4,rfl,FeedAt.here.new np2,by decide,by decide,fun r' x' y' z' r0' r1'=>?_⟩;obtain⟨st,rfl⟩:=Nat.ofI r0;obtain⟨j,rfl⟩:=Nat.ofI r0';obtain⟨sp,hsp,hat⟩: ∃sp:Nat,sp∈[1,5,7,11]∧atI ([.int 1,.int 5,.int 7,.int 11]:List V) (j:Int)=some (.int sp):=by
  have:j=0∨j=1∨j=2∨j=3:=by omega
  rcases this with rfl | rfl | rfl | rfl
  ·exact⟨1,by decide,rfl⟩
  ·exact⟨5,by decide,rfl⟩
  ·exact⟨7,by decide,rfl⟩
  ·exact⟨11,by decide,rfl⟩
 refine zA (by rw[zh (Ne.symm np2),zf]) hat ?_;walk_at"v";refine⟨m,rfl,by omega,by omega,fun l hl=>?_⟩;generalize hH3:upd (upd (upd (upd H a1 (HO.lst (List.map V.str names12))) p (HO.lst [V.int x,V.int y,V.int z])) a2 (HO.lst [V.int 1,V.int 5,V.int 7,V.int 11])) p (HO.lst [V.int x',V.int y',V.int z'])=H3 at hl ⊢;have hlp:l≠p:=by
  intro e;rw[e,←hH3,zf] at hl;cases hl
 have ha12:a1≠a2:=by
  intro e;rw[←e,zh (Ne.symm np1),zf] at ha2;cases ha2
 have hl1:l≠a1:=by
  intro e;rw[e,←hH3,zh (Ne.symm np1),zh ha12,zh (Ne.symm np1),zf] at hl;cases hl
 have hl2:l≠a2:=by
  intro e;rw[e,←hH3,zh (Ne.symm np2),zf] at hl;cases hl
 have h3s:H3 a1=some (.lst (names12.map V.str)):=by
  rw[←hH3,zh (Ne.symm np1),zh ha12,zh (Ne.symm np1),zf]
 refine yw (ρ:=[some (.ref a1),some (.int st),some (.int sp)]) (fun i ys H'=>ys=((List.range i).map (nmOf st sp)).map V.str∧H'=upd H3 l (.lst ys)) ⟨rfl,rfl⟩ ?_ ?_
 ·rintro i ys H' hi ⟨rfl,rfl⟩ hD R S kR _;walk_at"v";refine w_rI (mulL (by omega) (by simp only[List.mem_cons,List.not_mem_nil,or_false] at hsp; omega)) ?_;walk_at"v";refine w_rI (by decide) ?_;have e1:((st:Int)+(sp:Int)*(0+(i:Int)))%12=(((st+sp*i)%12:Nat):Int):=by
   rw[Int.zero_add]
   norm_cast
  rw[e1];refine zA (v:= .str (nmOf st sp i)) (by rw[zh (Ne.symm hl1)]; exact h3s) (zz ?_) ?_
  ·rw[List.getElem?_map];unfold nmOf;have hlt:(st+sp*i)%12<names12.length:=Nat.mod_lt _ (by decide);rw[List.getD_eq_getElem?_getD,List.getElem?_eq_getElem hlt];rfl
  ·refine kR _ _ hD (by simp only[List.length_map,List.length_range]; exact zu (by omega)) ⟨?_,wk⟩;rw[List.range_succ,List.map_append,List.map_append];rfl
 ·rintro ys H' ⟨rfl,rfl⟩ hD;refine k l ((List.range m).map (nmOf st sp)) _ ?_ ⟨by simp,names_ok (by omega) hsp (by omega)⟩ ?_ ?_ zf
  ·cases e:H l with
   | none=>rfl
   | some o=>
    rw[←hH3,zh hlp,zh hl2,zh hlp,zh hl1,e] at hl;cases hl
  ·rw[←hH3];exact FeedAt.here.new (Ne.symm hlp)
  ·intro q o e hq;have hq1:q≠a1:=zi e ha1;have hq2:q≠a2:=by
    intro z;rw[←z,zh hq,zh hq1,e] at ha2;cases ha2
   have hql:q≠l:=by
    intro z;rw[←z,←hH3,zh hq,zh hq2,zh hq,zh hq1,e] at hl;cases hl
   rw[zh hql,←hH3,zh hq,zh hq2,zh hq,zh hq1];exact e
end
abbrev wu:Stmt:=top 20
abbrev X1:List Str:=["_law_feed_here","_law_many","_law_takes","_law_gives","_law_j","_law_sort","_law_way"]
theorem nmRule:Nm X1 (ze wu):=⟨by decide+kernel,by decide+kernel⟩
theorem scRule:FnScope X1 ["_law_feed_here","_law_many"] (ze wu):=⟨rfl,rfl,rfl,by decide+kernel,rfl,by decide+kernel,by decide+kernel⟩
def asgComp (s:Stmt):Scope:=match s with
 | .Assign _ (.ListComp _ _ sc _) _=>sc
 | _=>nsc
abbrev X7 (i:Nat):Scope:=asgComp ((zm wu).getD i (.Pass ⟨0,0,0,0⟩))
theorem bsRule0:BScope (ze wu) (X7 0) ["_law_sort"] [] []:={okind:=by decide+kernel,kind:=by decide+kernel,nocell:=by decide+kernel,names:=by decide+kernel,fr:=by decide+kernel,ff:=by decide+kernel,nd:=by decide+kernel,vis:=by decide+kernel,loc:=by decide+kernel,gl:=by decide+kernel}
theorem bsRule1:BScope (ze wu) (X7 1) ["_law_sort"] [] []:={okind:=by decide+kernel,kind:=by decide+kernel,nocell:=by decide+kernel,names:=by decide+kernel,fr:=by decide+kernel,ff:=by decide+kernel,nd:=by decide+kernel,vis:=by decide+kernel,loc:=by decide+kernel,gl:=by decide+kernel}
theorem locRule:(ze wu).names.lookup ("_law_takes":Str)=some .local∧(ze wu).names.lookup ("_law_gives":Str)=some .local:=by decide+kernel
def Cnt (c:Int) (m:Nat) (H:Hp) (p:Addr):Prop:= ∃ns:List Int,H p=some (.lst (ns.map V.int))∧ns.length=m∧ ∀n∈ns,0≤n∧n≤c
def CntT (m:Nat) (H:Hp) (p:Addr):Prop:= ∃ns:List Int,H p=some (.tup (ns.map V.int))∧ns.length=m∧ ∀n∈ns,0≤n∧n≤30
def RuleAt (m:Nat) (H:Hp) (r:Addr):Prop:= ∃a b,H r=some (.tup [.ref a,.ref b])∧CntT m H a∧CntT m H b
def Y3:Sp:=fun vs H Q _=> ∃(p:Addr) (m:Nat),vs=[.ref p,.int m]∧FeedAt H p∧0<m∧m≤8∧ ∀(r:Addr) (H':Hp),H r=none→RuleAt m H' r→FeedAt H' p→But p H H'→Q (.ref r) H'
theorem Yl{m:Nat}{H:Hp}{Q:VK}(hm:m≤1000)(h: ∀l,H l=none→Q (.ref l) (upd H l (.lst ((List.replicate m (0:Int)).map V.int)))):
  ∃j:Int,[V.int (m:Int)]=[.int j]∧ -(2^62)≤j∧j<2^62∧ ∀D,H D=none→CGo (Itr 0 j.toNat) D (zI 0) tAll (tC (V.int 0)) Q [none] H:=by
 refine⟨m,rfl,by omega,by omega,fun l hl=>?_⟩;refine yw (ρ:=[]) (fun i ys H'=>ys=(List.replicate i (0:Int)).map V.int∧H'=upd H l (.lst ys)) ⟨rfl,rfl⟩ ?_ ?_
 ·rintro i ys H' hi ⟨rfl,rfl⟩ hD R S kR _;walk_at"v";have hi':i<m:=by
   rw[Int.toNat_natCast] at hi;exact hi
  refine kR _ _ hD (by rw[List.length_map,List.length_replicate]; exact zu (by omega)) ⟨?_,wk⟩;rw[List.replicate_succ',List.map_append];rfl
 ·rintro ys H' ⟨rfl,rfl⟩ hD;rw[Int.toNat_natCast];exact h l hl
structure RS (c:Int) (m:Nat) (p a b:Addr) (H0 H:Hp):Prop where
 fd:FeedAt H p
 ca:Cnt c m H a
 cb:Cnt c m H b
 pa:p≠a
 pb:p≠b
 ab:a≠b
 bt:But p H0 H
 na:H0 a=none
 nb:H0 b=none
theorem Cnt.new(c:Cnt k m H a)(h:a≠l):Cnt k m (upd H l o) a:=by
 obtain⟨ns,e,r⟩:=c;exact⟨ns,by rw[zh h]; exact e,r⟩
theorem Cnt.ne(c:Cnt k m H a)(h:H l=none):a≠l:=by
 obtain⟨ns,e,r⟩:=c;exact zi e h
section
variable {k:Int} {m:Nat} {p a b:Addr} {H0 H:Hp}
theorem RS.up(r:RS k m p a b H0 H)(h:k≤k'):RS k' m p a b H0 H:=by
 obtain⟨fd,⟨ns,e,hl,hn⟩,⟨gs,e',hl',hn'⟩,r1,r2,r3,r4,r5,r6⟩:=r;exact⟨fd,⟨ns,e,hl,fun n h'=>⟨(hn n h').1,Int.le_trans (hn n h').2 h⟩⟩,⟨gs,e',hl',fun n h'=>⟨(hn' n h').1,Int.le_trans (hn' n h').2 h⟩⟩,r1,r2,r3,r4,r5,r6⟩
theorem RS.draw(r:RS k m p a b H0 H):RS k m p a b H0 (upd H p (.lst [.int x,.int y,.int z])):=
 ⟨FeedAt.here,r.ca.new (Ne.symm r.pa),r.cb.new (Ne.symm r.pb),r.pa,r.pb,r.ab,r.bt.at,r.na,r.nb⟩
theorem RS.new(r:RS k m p a b H0 H)(h:H l=none):RS k m p a b H0 (upd H l o):=
 ⟨r.fd.new (r.fd.ne h),r.ca.new (r.ca.ne h),r.cb.new (r.cb.ne h),r.pa,r.pb,r.ab,r.bt.new h,r.na,r.nb⟩
theorem Cnt.put{ns:List Int}(hl:ns.length=m)(hn: ∀n∈ns,0≤n∧n≤k)(hv:0≤v∧v≤k):Cnt k m (upd H a (.lst ((ns.map V.int).set j (.int v)))) a:=by
 refine⟨ns.set j v,by rw[zf,List.map_set],by rw[List.length_set]; exact hl,fun n h=>?_⟩;rcases List.mem_or_eq_of_mem_set h with h | h
 ·exact hn n h
 ·rw[h]; exact hv
theorem RS.setA(r:RS k m p a b H0 H){ns:List Int}(hl:ns.length=m)(hn: ∀n∈ns,0≤n∧n≤k)(hv:0≤v∧v≤k):RS k m p a b H0 (upd H a (.lst ((ns.map V.int).set j (.int v)))):=
 ⟨r.fd.new r.pa,Cnt.put hl hn hv,r.cb.new (Ne.symm r.ab),r.pa,r.pb,r.ab,r.bt.put r.na,r.na,r.nb⟩
theorem RS.setB(r:RS k m p a b H0 H){ns:List Int}(hl:ns.length=m)(hn: ∀n∈ns,0≤n∧n≤k)(hv:0≤v∧v≤k):RS k m p a b H0 (upd H b (.lst ((ns.map V.int).set j (.int v)))):=
 ⟨r.fd.new r.pb,r.ca.new r.ab,Cnt.put hl hn hv,r.pa,r.pb,r.ab,r.bt.put r.nb,r.na,r.nb⟩
theorem Cnt.item(c:Cnt k m H a){r:Int}(h0:0≤r)(h1:r<m): ∃(ns:List Int) (n:Int) (j:Nat),H a=some (.lst (ns.map V.int))∧ns.length=m∧(∀n∈ns,0≤n∧n≤k)∧(0≤n∧n≤k)∧atI (ns.map V.int) r=some (.int n)∧ixN (ns.map V.int).length r=some j:=by
 obtain⟨ns,e,hl,hn⟩:=c;obtain⟨j,rfl⟩:=Nat.ofI h0;have hj:j<ns.length:=by omega
 refine⟨ns,ns[j],j,e,hl,hn,hn _ (List.getElem_mem hj),zz (by simp[hj]),?_⟩;rw[List.length_map];unfold ixN;rw[if_pos h0,if_pos (by omega)];rfl
end
section
variable {P:Program} {w:World} {K:W.Frag} {mg:Str→Option Value} {base:Heap}
structure Blt (mg:Str→Option Value):Prop where
 len:mg "len"=none
 range:mg "range"=none
 tuple:mg "tuple"=none
 int:mg "int"=none
theorem ok_rule(B:Blt mg)(D:Has P w K mg base 1 "_law_draw" ["_law_feed_here","_law_many"] xA)(F:Fun K "_law_rule" "_law_rule" wu f fd):FnOk P w K mg base CX0 2 f fd ["_law_feed_here","_law_many"] Y3:=by
 refine F.ok scRule (fun vs H Q E h=>?_) (fun cdv A outer s H vs Q E hr h=>?_)
 ·obtain⟨p,m,rfl,_⟩:=h;rfl
 obtain⟨p,m,rfl,hF,h1,h8,k⟩:=h;refine'⟨_,?hb,?rd⟩
 case hb=>
  refine' zd ?s1 ?r1
  case' r1=>refine' zd ?s2 ?r2
  case' r2=>refine' zd ?s3 ?r3
  case' r3=>refine' zd ?s4 ?r4
  case' r4=>refine' zd ?s5 ?r5
  case' r5=>refine' zd ?s6 ?r6
  case' r6=>refine' zd ?s7 ?r7
  case' r7=>refine' zd ?s8 ?r8
  case' r8=>refine' zd ?s9 ?r9
  case' r9=>refine' zj ?s10
  case s1=>
   refine' yj (i:=2) (ix:=[]) nmRule.nd rfl locRule.1 bsRule0.toCScope rfl rfl ?h3 ?h4 ?h5 ?h6
   case h3=>exact y8 rfl B.range (zw (pvd nmRule 1) zE)
   case h4=>exact fun _ _ _ _ _ _=>pgb bsRule0 0
   case h5=>exact fun _ _ _ _ _ _=>zB
   case h6=>exact fun _ _ _ _ _ _=>zg
  case s2=>
   refine' yj (i:=3) (ix:=[]) nmRule.nd rfl locRule.2 bsRule1.toCScope rfl rfl ?h3 ?h4 ?h5 ?h6
   case h3=>exact y8 rfl B.range (zw (pvd nmRule 1) zE)
   case h4=>exact fun _ _ _ _ _ _=>pgb bsRule1 0
   case h5=>exact fun _ _ _ _ _ _=>zB
   case h6=>exact fun _ _ _ _ _ _=>zg
  case s3=>
   refine' yX PassesOwn.never rfl (y8 rfl B.range (zw (zo zP zg (xQ D hr (by decide) (zw (pvd nmRule 0) (zw zg zE)))) zE)) (pgd nmRule 4) ?b3
   case b3=>
    refine' zd ?t1 ?u1
    case t1=>exact zk nmRule 5 (xQ D hr (by decide) (zw (pvd nmRule 0) (zw (pvd nmRule 1) zE)))
    case u1=>
     refine' zj ?t2
     case t2=>exact zW (zo zP (zo zP (ziq (pvd nmRule 2) (pvd nmRule 5)) zg) (xQ D hr (by decide) (zw (pvd nmRule 0) (zw zg zE)))) (zX (pvd nmRule 2) (pvd nmRule 5) yl)
  case s4=>
   refine' yX PassesOwn.never rfl (y8 rfl B.range (zw (xQ D hr (by decide) (zw (pvd nmRule 0) (zw zg zE))) zE)) (pgd nmRule 4) ?b4
   case b4=>
    refine' zd ?t1 ?u1
    case t1=>exact zk nmRule 5 (xQ D hr (by decide) (zw (pvd nmRule 0) (zw (pvd nmRule 1) zE)))
    case u1=>
     refine' zj ?t2
     case t2=>exact zW (zo zP (zo zP (ziq (pvd nmRule 3) (pvd nmRule 5)) zg) (xQ D hr (by decide) (zw (pvd nmRule 0) (zw zg zE)))) (zX (pvd nmRule 3) (pvd nmRule 5) yl)
  case s5=>exact zk nmRule 6 (xQ D hr (by decide) (zw (pvd nmRule 0) (zw zg zE)))
  case s6=>exact zk nmRule 5 (xQ D hr (by decide) (zw (pvd nmRule 0) (zw (pvd nmRule 1) zE)))
  case s7=>exact zY (zt x8 (pvd nmRule 6) zg (zv _)) (zj (zW (ziq (pvd nmRule 2) (pvd nmRule 5)) (zX (pvd nmRule 3) (pvd nmRule 5) yl))) zC
  case s8=>exact zY (zt xJ (pvd nmRule 6) zg (zv _)) (zj (zW zg (zX (pvd nmRule 2) (pvd nmRule 5) yl))) zC
  case s9=>exact zY (zt (op_eqD hr) (pvd nmRule 2) (pvd nmRule 3) (zv _)) (zj (zW (zp ix_d (yk (zw (zo zP (ziq (pvd nmRule 3) (pvd nmRule 5)) zg) (zw zg zE)))
    (xY wX rfl B.int PyProof.Rows.boot_int (zw (xD xJ (ziq (pvd nmRule 2) (pvd nmRule 5)) zg (zv _)) zE)) (fun _ _=>rfl)) (zX (pvd nmRule 3) (pvd nmRule 5) yl))) zC
  case s10=>exact zy (z0 (zw (xY zK rfl B.tuple PyProof.Rows.boot_tuple (zw (pvd nmRule 2) zE)) (zw (xY zK rfl B.tuple PyProof.Rows.boot_tuple (zw (pvd nmRule 3) zE)) zE)))
 have hm:((m:Nat):Int)<1000000:=by omega
 have hm0:(0:Int)<(m:Int):=by omega
 walk_at"v";refine Yl (m:=m) (by omega) fun a ha=>?_;walk_at"v";refine Yl (m:=m) (by omega) fun b hb=>?_;have zc: ∀{H:Hp} {l:Addr},Cnt 0 m (upd H l (.lst ((List.replicate m (0:Int)).map V.int))) l:=fun {H l}=>⟨_,zf,List.length_replicate,fun n h=>by rw[List.eq_of_mem_replicate h]; exact⟨by decide,by decide⟩⟩;have hpa:p≠a:=hF.ne ha;have hpb:p≠b:=(hF.new hpa).ne hb;have hab:a≠b:=Cnt.ne zc hb;have R0:RS 0 m p a b H (upd (upd H a (.lst ((List.replicate m (0:Int)).map V.int))) b (.lst ((List.replicate m (0:Int)).map V.int))):=
  ⟨(hF.new hpa).new hpb,zc.new hab,zc,hpa,hpb,hab,(But.refl.new ha).new hb,ha,by rw[zh (Ne.symm hab)] at hb; exact hb⟩
 generalize upd (upd H a (.lst ((List.replicate m (0:Int)).map V.int))) b (.lst ((List.replicate m (0:Int)).map V.int))=H1 at R0 ⊢;walk_at"v";refine⟨p,3,rfl,R0.fd,by decide,by decide,fun r x y z r0 r1=>?_⟩;have R1:=R0.draw (x:=x) (y:=y) (z:=z);generalize upd H1 p (.lst [.int x,.int y,.int z])=H2 at R1 ⊢;walk_at"v";refine⟨_,rfl,by omega,by omega,?_⟩;refine yE (fun i σ H'=> ∃u v,σ=[some (.ref p),some (.int m),some (.ref a),some (.ref b),u,v,none]∧RS (2*(i:Int)) m p a b H H') ⟨none,none,rfl,R1.up (by omega)⟩ ?_ ?_
 ·rintro i σ H' hi ⟨u,v,rfl,R⟩;walk_at"v";refine⟨p,m,rfl,R.fd,hm0,hm,fun r x y z r0 r1=>?_⟩;have R':=R.draw (x:=x) (y:=y) (z:=z);generalize upd H' p (.lst [.int x,.int y,.int z])=H2 at R' ⊢;walk_at"v";obtain⟨ns,n,j,e,hl,hn,h0,ea,ei⟩:=R'.ca.item r0 r1;refine zA e ea ?_;walk_at"v";refine⟨p,2,rfl,R'.fd,by decide,by decide,fun r2 x2 y2 z2 r20 r21=>?_⟩;have R2:=R'.draw (x:=x2) (y:=y2) (z:=z2);have e2:upd H2 p (.lst [.int x2,.int y2,.int z2]) a=some (.lst (ns.map V.int)):=by rw[zh (Ne.symm R'.pa)]; exact e
  generalize upd H2 p (.lst [.int x2,.int y2,.int z2])=H3 at R2 e2 ⊢;walk_at"v";refine yx e2 ei ?_;exact⟨_,_,rfl,(R2.up (k':=2*((i+1:Nat):Int)) (by omega)).setA hl (fun y hy=>⟨(hn y hy).1,by have:=(hn y hy).2; omega⟩) ⟨by omega,by omega⟩⟩
 ·rintro σ H' ⟨u,v,rfl,R⟩;clear R0 R1;walk_at"v";refine⟨p,4,rfl,R.fd,by decide,by decide,fun r x y z r0 r1=>?_⟩;have R1:=R.draw (x:=x) (y:=y) (z:=z);generalize upd H' p (.lst [.int x,.int y,.int z])=H2 at R1 ⊢;walk_at"v";refine⟨_,rfl,by omega,by omega,?_⟩;refine yE (fun i σ H'=> ∃u v,σ=[some (.ref p),some (.int m),some (.ref a),some (.ref b),u,v,none]∧RS (8+3*(i:Int)) m p a b H H') ⟨u,v,rfl,R1.up (by omega)⟩ ?_ ?_
  ·rintro i σ H' hi ⟨u,v,rfl,R⟩;walk_at"v";refine⟨p,m,rfl,R.fd,hm0,hm,fun r x y z r0 r1=>?_⟩;have R':=R.draw (x:=x) (y:=y) (z:=z);generalize upd H' p (.lst [.int x,.int y,.int z])=H2 at R' ⊢;walk_at"v";obtain⟨ns,n,j,e,hl,hn,h0,ea,ei⟩:=R'.cb.item r0 r1;refine zA e ea ?_;walk_at"v";refine⟨p,3,rfl,R'.fd,by decide,by decide,fun r2 x2 y2 z2 r20 r21=>?_⟩;have R2:=R'.draw (x:=x2) (y:=y2) (z:=z2);have e2:upd H2 p (.lst [.int x2,.int y2,.int z2]) b=some (.lst (ns.map V.int)):=by rw[zh (Ne.symm R'.pb)]; exact e
   generalize upd H2 p (.lst [.int x2,.int y2,.int z2])=H3 at R2 e2 ⊢;walk_at"v";refine yx e2 ei ?_;exact⟨_,_,rfl,(R2.up (k':=8+3*((i+1:Nat):Int)) (by omega)).setB hl (fun y hy=>⟨(hn y hy).1,by have:=(hn y hy).2; omega⟩) ⟨by omega,by omega⟩⟩
  ·rintro σ H' ⟨u,v,rfl,R⟩;clear R1;replace R:=R.up (k':=20) (by omega);walk_at"v";refine⟨p,8,rfl,R.fd,by decide,by decide,fun way x y z w0 w1=>?_⟩;have R1:=R.draw (x:=x) (y:=y) (z:=z);generalize upd H' p (.lst [.int x,.int y,.int z])=H2 at R1 ⊢;walk_at"v";refine⟨p,m,rfl,R1.fd,hm0,hm,fun r x y z r0 r1=>?_⟩;have R2:=R1.draw (x:=x) (y:=y) (z:=z);generalize upd H2 p (.lst [.int x,.int y,.int z])=H3 at R2 ⊢;walk_at"v";refine iteD (fun _=>?_) (fun _=>?_)
   all_goals first
    | (
     walk_at"v";obtain⟨ns,n,j,e,hl,hn,h0,ea,ei⟩:=R2.ca.item r0 r1;refine zA e ea ?_;walk_at"v";obtain⟨ns',n',j',e',hl',hn',h0',ea',ei'⟩:=R2.cb.item r0 r1;refine yx e' ei' ?_;have R3:=R2.setB (j:=j') hl' hn' h0;generalize upd H3 b (.lst ((ns'.map V.int).set j' (.int n)))=H4 at R3 ⊢;clear e ea ei e' ea' ei' hl hn hl' hn')
    | (
     have R3:=R2;generalize H3=H4 at R3 ⊢)
   all_goals
    walk_at"v";refine⟨rfl,?_⟩;walk_at"v";refine iteD (fun _=>?_) (fun _=>?_)
    all_goals first
     | (
      walk_at"v";obtain⟨ns,n,j,e,hl,hn,h0,ea,ei⟩:=R3.ca.item r0 r1;refine yx e ei ?_;have R4:=R3.setA (j:=j) (v:=9) hl hn ⟨by decide,by decide⟩;generalize upd H4 a (.lst ((ns.map V.int).set j (.int 9)))=H5 at R4 ⊢;clear e ea ei hl hn)
     | (
      have R4:=R3;generalize H4=H5 at R4 ⊢)
   all_goals
    walk_at"v";obtain⟨ts,et,htl,htn⟩:=id R4.ca;obtain⟨gs,eg,hgl,hgn⟩:=id R4.cb;refine w_eqL et eg ?_;walk_at"v";refine iteD (fun _=>?_) (fun _=>?_)
    all_goals first
     | (
      walk_at"v";obtain⟨ns,n,j,e,hl,hn,h0,ea,ei⟩:=R4.cb.item r0 r1;refine zA e ea ?_;walk_at"v";refine⟨sz2,fun c hc=>?_⟩;have R5:=R4.new (o:= .lst [.int (n+1),.int 0]) hc;have hcc:upd H5 c (.lst [.int (n+1),.int 0]) c=some (.lst [.int (n+1),.int 0]):=zf;generalize upd H5 c (.lst [.int (n+1),.int 0])=H6 at R5 hcc ⊢;walk_at"v";obtain⟨ns2,n2,j2,e2,hl2,hn2,h02,ea2,ei2⟩:=R5.ca.item r0 r1;refine zA e2 ea2 ?_;walk_at"v";refine⟨rfl,?_⟩;walk_at"v";refine .inr ⟨_,rfl,?_⟩;obtain⟨q,hq0,hq⟩: ∃q:Int,(0≤q∧q≤21)∧atI ([.int (n+1),.int 0]:List V) (if decide (V.int n2=V.int 9)=true then 1 else 0)=some (.int q):=by
       by_cases h9:decide (V.int n2=V.int 9)=true
       ·rw[if_pos h9];exact⟨0,⟨by decide,by decide⟩,rfl⟩
       ·rw[if_neg h9];exact⟨n+1,⟨by omega,by omega⟩,rfl⟩
      refine zA hcc hq ?_;walk_at"v";obtain⟨ns3,n3,j3,e3,hl3,hn3,h03,ea3,ei3⟩:=(R5.up (k':=21) (by omega)).cb.item r0 r1;refine yx e3 ei3 ?_;have R6:=(R5.up (k':=21) (by omega)).setB (j:=j3) hl3 hn3 hq0;generalize upd H6 b (.lst ((ns3.map V.int).set j3 (.int q)))=H7 at R6 ⊢)
     | (
      have R6:=R4.up (k':=21) (by omega);generalize H5=H7 at R6 ⊢)
   all_goals
    walk_at"v";obtain⟨ts',et',htl',htn'⟩:=id R6.ca;obtain⟨gs',eg',hgl',hgn'⟩:=id R6.cb;refine⟨a,_,rfl,.inl ⟨SqL.of et',fun ta hta=>?_⟩⟩;walk_at"v";have nb:b≠ta:=zi eg' hta;refine⟨b,_,rfl,.inl ⟨SqL.of (by rw[zh nb]; exact eg'),fun tb htb=>?_⟩⟩;walk_at"v";refine⟨sz2,fun rr hrr=>?_⟩;have nt:ta≠tb:=by
     intro z;rw[←z,zf] at htb;cases htb
    have nrb:tb≠rr:=by
     intro z;rw[←z,zf] at hrr;cases hrr
    have nra:ta≠rr:=by
     intro z;rw[←z,zh nt,zf] at hrr;cases hrr
    have R7:=(R6.new (o:= .tup (ts'.map V.int)) hta).new (o:= .tup (gs'.map V.int)) htb;have R8:=R7.new (o:= .tup [.ref ta,.ref tb]) hrr;refine k rr _ ?_ ⟨ta,tb,zf,⟨ts',?_,htl',fun y hy=>⟨(htn' y hy).1,Int.le_trans (htn' y hy).2 (by decide)⟩⟩,⟨gs',?_,hgl',fun y hy=>⟨(hgn' y hy).1,Int.le_trans (hgn' y hy).2 (by decide)⟩⟩⟩ R8.fd R8.bt
    ·cases e:H rr with
     | none=>rfl
     | some o=>
      have hrp:rr≠p:=by
       intro z;exact R7.fd.ne hrr z.symm
      rw[R7.bt rr o e hrp] at hrr;cases hrr
    ·rw[zh nra,zh nt,zf]
    ·rw[zh nrb,zf]
end
end K16
namespace L2
open PySem PySem.Spec PyProof.Rows
section
variable {X:Cx}
def rTupF (K:W.Frag):List V→Hp→VK→Prop:=fun xs H Q=> ∃p ys,xs=[.ref p]∧SqL K H p ys∧ ∀l o,H l=none→o.dict=none→o.cls= .type "tuple"→Q (.ref l) (upd H l (.frz o (.tup ys)))
theorem call_tupleF:yn X (.type "tuple") (rTupF X.K):=by
 intro pins s σ H xs us Q I r h;obtain⟨p,ys,rfl,hq,q⟩:=h;obtain⟨u,rfl,rx⟩:=r.one;cases rx
 obtain⟨its,r',pl,hz⟩:=I.list hq;have hlen:=r'.length;refine call_tuple_list pl.isList (fun h' kp=>?_) (by simp only[List.size_toArray]<;>omega);have I1:Inv X pins σ H {s with heap:=h'}:=I.kept (t':=s.toks) kp;have g:(h'.push {cls:= .type "tuple",data:= .seq its.toArray}).get? h'.objs.size=some {cls:= .type "tuple",data:= .seq its.toArray}:=Heap.get?_push_size _ rfl;have I2:Inv X pins σ (upd H h'.objs.size (.frz {cls:= .type "tuple",data:= .seq its.toArray} (.tup ys))) {s with heap:=h'.push {cls:= .type "tuple",data:= .seq its.toArray}}:=
  I1.laid (t':=s.toks) (fun b o e=>Heap.get?_push_of_some _ e) (Nat.le_refl _) ⟨g,hz,its,r',⟨_,g,rfl,_,rfl⟩⟩
 exact⟨.ref h'.objs.size,_,I2,rfl,q _ _ (I1.hok.fresh (Nat.le_refl _)) rfl rfl⟩
end
def TupF (H:Hp) (l:Addr) (ys:List V):Prop:= ∃o,H l=some (.frz o (.tup ys))∧o.dict=none∧o.cls= .type "tuple"
theorem TupF.sq{K:W.Frag}{H:Hp}{l:Addr}{ys:List V}(t:TupF H l ys):SqT K H l ys:=let ⟨o,e,_⟩:=t; .inl (.inr ⟨o,e⟩)
end L2
namespace K16
open PySem L2
theorem nmk{N:List Str}(h:N.Nodup∧ ∀x∈N,Loc sc x):Nm N sc:=⟨h.1,h.2⟩
theorem fsk{N:List Str}{sc:Scope}(h:N.Nodup∧(∀x∈P,sc.names.lookup x=some .local∨sc.names.lookup x=some .cell)∧ ∀y∈sc.names,y.2≠.free)(a:sc.kind= .function:=by rfl)(b:sc.isCoroutine=false:=by rfl)(c:sc.isGenerator=false:=by rfl)(d:N.take P.length=P:=by rfl):FnScope N P sc:=⟨a,b,c,h.1,d,h.2.1,h.2.2⟩
abbrev sPot:Stmt:=top 21
abbrev nPot:List Str:=["_law_feed_here","_law_many","_law_sorts","_law_rules","_law_left","_law_inputs","_law_k","_law_begin"]
theorem yf:Nm nPot (ze sPot):=nmk (by decide+kernel)
theorem scPot:FnScope nPot ["_law_feed_here"] (ze sPot):=fsk (by decide+kernel)
def callComp (s:Stmt):Scope:=match s with
 | .Assign _ (.Call _ [.ListComp _ _ sc _] _ _) _=>sc
 | _=>nsc
abbrev cPot (i:Nat):Scope:=callComp ((zm sPot).getD i (.Pass ⟨0,0,0,0⟩))
theorem bsPot2:BScope (ze sPot) (cPot 2) ["_law_k"] ["_law_feed_here","_law_many"] ["_law_rule"]:={okind:=by decide+kernel,kind:=by decide+kernel,nocell:=by decide+kernel,names:=by decide+kernel,fr:=by decide+kernel,ff:=by decide+kernel,nd:=by decide+kernel,vis:=by decide+kernel,loc:=by decide+kernel,gl:=by decide+kernel}
theorem bsPot6:BScope (ze sPot) (cPot 6) ["_law_sort"] ["_law_feed_here"] ["_law_draw"]:={okind:=by decide+kernel,kind:=by decide+kernel,nocell:=by decide+kernel,names:=by decide+kernel,fr:=by decide+kernel,ff:=by decide+kernel,nd:=by decide+kernel,vis:=by decide+kernel,loc:=by decide+kernel,gl:=by decide+kernel}
structure TK (H H':Hp):Prop where
 t: ∀q xs,H q=some (.tup xs)→H' q=some (.tup xs)
 f: ∀q o u,H q=some (.frz o u)→H' q=some (.frz o u)
theorem TK.tf(k:TK H H')(x:TupF H l ys):TupF H' l ys:=let ⟨o,e,r⟩:=x; ⟨o,k.f _ _ _ e,r⟩
structure SS (p:Addr) (H0 H:Hp):Prop where
 fd:FeedAt H p
 bt:But p H0 H
section
variable {p l:Addr} {H0 H H' H'':Hp} {o:HO}
theorem TK.trans(a:TK H H')(b:TK H' H''):TK H H'':=⟨fun q xs e=>b.t q xs (a.t q xs e),fun q o u e=>b.f q o u (a.f q o u e)⟩
theorem TK.new(h:H l=none):TK H (upd H l o):=⟨fun q xs e=>by rw[zh (zi e h)]; exact e,fun q ob u e=>by rw[zh (zi e h)]; exact e⟩
theorem TK.lst(h:H l=some (.lst ys)):TK H (upd H l o):=⟨fun q xs e=>by rw[zh (vX e h (by intro z; cases z))]; exact e,fun q ob u e=>by rw[zh (vX e h (by intro z; cases z))]; exact e⟩
theorem TK.feed(F:FeedAt H p):TK H (upd H p o):=by
 obtain⟨x,y,z,e⟩:=F;exact TK.lst e
theorem TK.but(F:FeedAt H p)(b:But p H H'):TK H H':=by
 obtain⟨x,y,z,ep⟩:=F;exact⟨fun q xs e=>b q _ e (vX e ep (by intro z; cases z)),fun q ob u e=>b q _ e (vX e ep (by intro z; cases z))⟩
theorem SS.draw(r:SS p H0 H):SS p H0 (upd H p (.lst [.int x,.int y,.int z])):=⟨FeedAt.here,r.bt.at⟩
theorem SS.new(r:SS p H0 H)(h:H l=none):SS p H0 (upd H l o):=⟨r.fd.new (r.fd.ne h),r.bt.new h⟩
theorem SS.put(r:SS p H0 H)(h:H0 l=none)(hl:p≠l):SS p H0 (upd H l o):=⟨r.fd.new hl,r.bt.put h⟩
theorem SS.call(r:SS p H0 H)(f:FeedAt H' p)(b:But p H H'):SS p H0 H':=⟨f,r.bt.trans b⟩
theorem SS.none(r:SS p H0 H)(h:H l=none):H0 l=none:=r.bt.free (r.fd.ne h) h
theorem RuleAt.tk(k:TK H H')(R:RuleAt m H r):RuleAt m H' r:=by
 obtain⟨a,b,e,⟨ts,et,h1,h2⟩,⟨gs,eg,h3,h4⟩⟩:=R;exact⟨a,b,k.t _ _ e,⟨ts,k.t _ _ et,h1,h2⟩,⟨gs,k.t _ _ eg,h3,h4⟩⟩
end
theorem vY(f:α→β): ∀(xs:List α) (j:Nat),(xs.map f).eraseIdx j=(xs.eraseIdx j).map f
 | [],_=>rfl
 | _::_,0=>rfl
 | x::xs,j+1=>by
  show f x::(xs.map f).eraseIdx j=f x::(xs.eraseIdx j).map f;rw[vY f xs j]
theorem pick8(h0:0≤r)(h1:r<8): ∃m:Nat,0<m∧m≤8∧atI ([.int 1,.int 2,.int 3,.int 3,.int 4,.int 5,.int 6,.int 8]:List V) r=some (.int (m:Int)):=by
 obtain⟨j,rfl⟩:=Nat.ofI h0;have:j=0∨j=1∨j=2∨j=3∨j=4∨j=5∨j=6∨j=7:=by omega
 rcases this with rfl | rfl | rfl | rfl | rfl | rfl | rfl | rfl
 ·exact⟨1,by decide,by decide,rfl⟩
 ·exact⟨2,by decide,by decide,rfl⟩
 ·exact⟨3,by decide,by decide,rfl⟩
 ·exact⟨3,by decide,by decide,rfl⟩
 ·exact⟨4,by decide,by decide,rfl⟩
 ·exact⟨5,by decide,by decide,rfl⟩
 ·exact⟨6,by decide,by decide,rfl⟩
 ·exact⟨8,by decide,by decide,rfl⟩
theorem pickR(h0:0≤r)(h1:r<8): ∃m:Nat,m≤8∧atI ([.int 0,.int 1,.int 2,.int 2,.int 3,.int 4,.int 5,.int 8]:List V) r=some (.int (m:Int)):=by
 obtain⟨j,rfl⟩:=Nat.ofI h0;have:j=0∨j=1∨j=2∨j=3∨j=4∨j=5∨j=6∨j=7:=by omega
 rcases this with rfl | rfl | rfl | rfl | rfl | rfl | rfl | rfl
 ·exact⟨0,by decide,rfl⟩
 ·exact⟨1,by decide,rfl⟩
 ·exact⟨2,by decide,rfl⟩
 ·exact⟨2,by decide,rfl⟩
 ·exact⟨3,by decide,rfl⟩
 ·exact⟨4,by decide,rfl⟩
 ·exact⟨5,by decide,rfl⟩
 ·exact⟨8,by decide,rfl⟩
theorem pickI(h0:0≤r)(h1:r<5): ∃m:Nat,m≤3∧atI ([.int 0,.int 1,.int 2,.int 2,.int 3]:List V) r=some (.int (m:Int)):=by
 obtain⟨j,rfl⟩:=Nat.ofI h0;have:j=0∨j=1∨j=2∨j=3∨j=4:=by omega
 rcases this with rfl | rfl | rfl | rfl | rfl
 ·exact⟨0,by decide,rfl⟩
 ·exact⟨1,by decide,rfl⟩
 ·exact⟨2,by decide,rfl⟩
 ·exact⟨2,by decide,rfl⟩
 ·exact⟨3,by decide,rfl⟩
theorem pickB(h0:0≤r)(h1:r<6)(b0:0≤b)(b1:b<100): ∃m:Int,0≤m∧m≤99∧atI ([.int 0,.int 0,.int 1,.int 2,.int 99,.int b]:List V) r=some (.int m):=by
 obtain⟨j,rfl⟩:=Nat.ofI h0;have:j=0∨j=1∨j=2∨j=3∨j=4∨j=5:=by omega
 rcases this with rfl | rfl | rfl | rfl | rfl | rfl
 ·exact⟨0,by decide,by decide,rfl⟩
 ·exact⟨0,by decide,by decide,rfl⟩
 ·exact⟨1,by decide,by decide,rfl⟩
 ·exact⟨2,by decide,by decide,rfl⟩
 ·exact⟨99,by decide,by decide,rfl⟩
 ·exact⟨b,by omega,by omega,rfl⟩
structure PotAt (H:Hp) (p:Addr) (nm:List Str) (ins beg:List Int) (ans:Int) (m:Nat):Prop where
 ex: ∃(ps pr pin pb:Addr) (rs:List Addr),H p=some (.tup [.ref ps,.ref pr,.ref pin,.ref pb,.int ans])∧TupF H ps (nm.map V.str)∧H pr=some (.tup (rs.map V.ref))∧(∀r∈rs,RuleAt m H r)∧rs.length≤8∧
  H pin=some (.tup (ins.map V.int))∧H pb=some (.tup (beg.map V.int))
 hn:Wa m nm
 m0:0<m
 m8:m≤8
 hi: ∀i∈ins,0≤i∧i<m
 i3:ins.length≤3
 bl:beg.length=m
 hb: ∀b∈beg,0≤b∧b≤99
 ha:0≤ans∧ans<m
def XT:Sp:=fun vs H Q _=> ∃(p:Addr),vs=[.ref p]∧FeedAt H p∧ ∀(l:Addr) (H':Hp) (nm:List Str) (ins beg:List Int) (ans:Int) (m:Nat),H l=none→PotAt H' l nm ins beg ans m→FeedAt H' p→But p H H'→Q (.ref l) H'
section
variable {P:Program} {w:World} {K:W.Frag} {mg:Str→Option Value} {base:Heap}
structure Blt2 (mg:Str→Option Value):Prop extends Blt mg where
 list:mg "list"=none
 min:mg "min"=none
theorem ok_pot{f:Addr}{fd:FuncData}(B:Blt2 mg)(D:Has P w K mg base 1 "_law_draw" ["_law_feed_here","_law_many"] xA)(N:Has P w K mg base 2 "_law_names" ["_law_feed_here","_law_many"] Ys)
  (R:Has P w K mg base 2 "_law_rule" ["_law_feed_here","_law_many"] Y3) (F:Fun K "_law_pot" "_law_pot" sPot f fd):FnOk P w K mg base CX0 3 f fd ["_law_feed_here"] XT:=by
 refine F.ok scPot (fun vs H Q E h=>?_) (fun cdv A outer s H vs Q E hr h=>?_)
 ·obtain⟨p,rfl,_⟩:=h;rfl
 obtain⟨p,rfl,hF,k⟩:=h;refine'⟨_,?hb,?rd⟩
 case hb=>
  refine' zd ?s1 ?r1
  case' r1=>refine' zd ?s2 ?r2
  case' r2=>refine' zd ?s3 ?r3
  case' r3=>refine' zd ?s4 ?r4
  case' r4=>refine' zd ?s5 ?r5
  case' r5=>refine' zd ?s6 ?r6
  case' r6=>refine' zd ?s7 ?r7
  case' r7=>refine' zj ?s8
  case s1=>
   refine' zk yf 1 ?p1
   case p1=>
    refine' ziq ?a1 (pe_f D hr (by decide) (pa_2 (pvd yf 0) zg))
    case a1=>
     refine wA (vs:=[.int 1,.int 2,.int 3,.int 3,.int 4,.int 5,.int 6,.int 8]) ?_;decide+kernel
  case s2=>exact zk yf 2 (ya call_tupleF B.tuple PyProof.Rows.boot_tuple (pa_1 (pe_f N hr (by decide) (pa_2 (pvd yf 0) (pvd yf 1)))))
  case s3=>
   refine' zk yf 3 ?p3
   case p3=>
    refine' ya zK B.tuple PyProof.Rows.boot_tuple ?qc3
    case' qc3=>refine' pa_1 ?c3
    case c3=>
     refine' zR (ix:=[0,1]) bsPot2.toCScope rfl rfl ?h3 ?h4 ?h5 ?h6
     case h3=>
      refine' yN B.range ?pa3
      case' pa3=>refine' pa_1 ?i3
      case i3=>
       refine' ziq ?l3 (pe_f D hr (by decide) (pa_2 (pvd yf 0) zg))
       case l3=>
        refine wA (vs:=[.int 0,.int 1,.int 2,.int 2,.int 3,.int 4,.int 5,.int 8]) ?_;decide+kernel
     case h4=>exact fun _ _ _ _ _ _=>pgb bsPot2 0
     case h5=>exact fun _ _ _ _ _ _=>zB
     case h6=>exact fun _ _ _ _ _ _=>pe_f R hr (by decide) (pa_2 (pvb bsPot2 1) (pvb bsPot2 2)) (bsPot2.g 0)
  case s4=>
   refine' zk yf 4 ?p4
   case' p4=>refine' ya (wL rfl) B.list PyProof.Rows.boot_list ?q4
   case' q4=>refine' pa_1 ?u4
   case u4=>exact ya vd B.range PyProof.Rows.boot_range (pa_1 (pvd yf 1))
  case s5=>exact zk yf 5 (yk zE)
  case s6=>
   refine' yX PassesOwn.never rfl ?i6 (pgd yf 6) ?b6
   case i6=>
    refine' yN B.range ?pa6
    case' pa6=>refine' pa_1 ?j6
    case j6=>
     refine' zU (call_min2 rfl) B.min PyProof.Rows.boot_min ?q6
     case' q6=>refine' pa_2 ?m6a ?m6
     case m6a=>exact pvd yf 1
     case m6=>
      refine' ziq ?l6 (pe_f D hr (by decide) (pa_2 (pvd yf 0) zg))
      case l6=>
       refine wA (vs:=[.int 0,.int 1,.int 2,.int 2,.int 3]) ?_;decide+kernel
   case b6=>
    refine' zj ?b6a
    case' b6a=>refine' wy ?b6b
    case' b6b=>refine' ZJ PySem.F.plainAttrs_list PySem.F.slot_list_append PySem.F.type_list_append wU (pvd yf 5) ?b6c
    case' b6c=>refine' pa_1 ?b6d
    case' b6d=>refine' ZJ PySem.F.plainAttrs_list PySem.F.slot_list_pop PySem.F.type_list_pop mt_popAt (pvd yf 4) ?b6e
    case' b6e=>refine' pa_1 ?b6f
    case' b6f=>refine' pe_f D hr (by decide) ?b6g
    case' b6g=>refine' pa_2 (pvd yf 0) ?b6h
    case b6h=>exact zU zq B.len PySem.boot_len (pa_1 (pvd yf 4))
  case s7=>
   refine' zk yf 7 ?p7
   case p7=>
    refine' ya zK B.tuple PyProof.Rows.boot_tuple ?qc7
    case' qc7=>refine' pa_1 ?c7
    case c7=>
     refine' zR (ix:=[0]) bsPot6.toCScope rfl rfl ?h3 ?h4 ?h5 ?h6
     case h3=>exact yC (pvd yf 2)
     case h4=>exact fun _ _ _ _ _ _=>pgb bsPot6 0
     case h5=>exact fun _ _ _ _ _ _=>zB
     case h6=>
      intro _ _ _ _ _ _;refine' ziq ?e7 ?g7
      case g7=>exact pe_f D hr (by decide) (pa_2 (pvb bsPot6 1) zg) (bsPot6.g 0)
      case e7=>
       refine' yk ?e7a
       case' e7a=>refine' pa_c zg ?e7b
       case' e7b=>refine' pa_c zg ?e7c
       case' e7c=>refine' pa_c zg ?e7d
       case' e7d=>refine' pa_c zg ?e7e
       case' e7e=>refine' pa_c zg ?e7f
       case' e7f=>refine' pa_1 ?e7g
       case e7g=>exact pe_f D hr (by decide) (pa_2 (pvb bsPot6 1) zg) (bsPot6.g 0)
  case s8=>exact zy (z0 (pa_c (pvd yf 2) (pa_c (pvd yf 3) (pa_c (ya zK B.tuple PyProof.Rows.boot_tuple (pa_1 (pvd yf 5))) (pa_c (pvd yf 7) (pa_c (pe_f D hr (by decide) (pa_2 (pvd yf 0) (pvd yf 1))) zE))))))
 have S0:SS p H H:=⟨hF,But.refl⟩;walk_at"v";refine⟨sz8,fun a1 ha1=>?_⟩;have S1:=S0.new (o:= .lst [.int 1,.int 2,.int 3,.int 3,.int 4,.int 5,.int 6,.int 8]) ha1;have np1:=S0.fd.ne ha1;walk_at"v";refine⟨p,8,rfl,S1.fd,by decide,by decide,fun r x y z r0 r1=>?_⟩;obtain⟨m,m0,m8,hat⟩:=pick8 r0 r1;refine zA (by rw[zh (Ne.symm np1),zf]) hat ?_;have S2:=S1.draw (x:=x) (y:=y) (z:=z);generalize upd (upd H a1 (.lst [.int 1,.int 2,.int 3,.int 3,.int 4,.int 5,.int 6,.int 8])) p (.lst [.int x,.int y,.int z])=H2 at S2 ⊢;clear S1 hat r0 r1;have hm:((m:Nat):Int)<1000000:=by omega
 have hm0:(0:Int)<(m:Int):=by omega
 walk_at"v";refine⟨p,m,rfl,S2.fd,m0,m8,fun l nm H3 hl hN hF3 hB3 hl3=>?_⟩;have S3:=S2.call hF3 hB3;walk_at"v";refine⟨l,_,rfl,SqL.of hl3,fun ps ob hps hod hoc=>?_⟩;have S4:=S3.new (o:= .frz ob (.tup (nm.map V.str))) hps;have ep:TupF (upd H3 ps (.frz ob (.tup (nm.map V.str)))) ps (nm.map V.str):=⟨ob,zf,hod,hoc⟩;generalize upd H3 ps (.frz ob (.tup (nm.map V.str)))=H4 at S4 ep ⊢;clear S3 S2 hl hF3 hB3 hl3 hps;walk_at"v";refine⟨sz8,fun a3 ha3=>?_⟩;have S5:=S4.new (o:= .lst [.int 0,.int 1,.int 2,.int 2,.int 3,.int 4,.int 5,.int 8]) ha3;have np3:=S4.fd.ne ha3;walk_at"v";refine⟨p,8,rfl,S5.fd,by decide,by decide,fun r x y z r0 r1=>?_⟩;obtain⟨n,n8,hat⟩:=pickR r0 r1;refine zA (by rw[zh (Ne.symm np3),zf]) hat ?_;have S6:=S5.draw (x:=x) (y:=y) (z:=z);have ep6:=((TK.new (o:= .lst [.int 0,.int 1,.int 2,.int 2,.int 3,.int 4,.int 5,.int 8]) ha3).trans (TK.feed (o:= .lst [.int x,.int y,.int z]) S5.fd)).tf ep;generalize upd (upd H4 a3 (.lst [.int 0,.int 1,.int 2,.int 2,.int 3,.int 4,.int 5,.int 8])) p (.lst [.int x,.int y,.int z])=H6 at S6 ep6 ⊢;clear S5 hat r0 r1 ep S4 ha3 np3 np1 ha1;walk_at"v";refine⟨n,rfl,by omega,by omega,fun dr hdr=>?_⟩;have ndr:=S6.none hdr;have pdr:=S6.fd.ne hdr;refine yw (ρ:=[some (.ref p),some (.int m)]) (fun i ys H'=> ∃rs:List Addr,ys=rs.map V.ref∧rs.length=i∧(∀r∈rs,RuleAt m H' r)∧SS p H H'∧TK H6 H') ⟨[],rfl,rfl,(fun r h=>by cases h),S6.new hdr,TK.new hdr⟩ ?_ ?_
 ·rintro i ys H' hi ⟨rs,rfl,hlen,hrs,S,T⟩ hD R' S' kR _;walk_at"v";refine⟨p,m,rfl,S.fd,m0,m8,fun r H'' hr0 hR hF' hB=>?_⟩;have S7:=S.call hF' hB;have hD':=hB dr _ hD (Ne.symm pdr);have T7:=TK.but S.fd hB;have T8:TK H'' (upd H'' dr (.lst (rs.map V.ref++[.ref r]))):=TK.lst hD';refine kR _ _ hD' (by rw[List.length_map]; exact zu (by rw[Int.toNat_natCast] at hi; omega)) ⟨rs++[r],by rw[List.map_append]; rfl,by simp[hlen],fun q hq=>?_,S7.put ndr pdr,(T.trans T7).trans T8⟩;rcases List.mem_append.mp hq with old | new
  ·exact((hrs q old).tk T7).tk T8
  ·rw[List.mem_singleton.mp new];exact hR.tk T8
 ·rintro ys H' ⟨rs,rfl,hlen,hrs,S,T⟩ hD;rw[Int.toNat_natCast] at hlen;have ep7:=T.tf ep6;clear ep6 T S6;walk_at"v";refine⟨dr,_,rfl,.inl ⟨SqL.of hD,fun pr hpr=>?_⟩⟩;have S8:=S.new (o:= .tup (rs.map V.ref)) hpr;have T8:TK H' (upd H' pr (.tup (rs.map V.ref))):=TK.new hpr;have ep8:=T8.tf ep7;have hrs8: ∀r∈rs,RuleAt m (upd H' pr (.tup (rs.map V.ref))) r:=fun r h=>(hrs r h).tk T8;have er8:upd H' pr (.tup (rs.map V.ref)) pr=some (.tup (rs.map V.ref)):=zf;generalize upd H' pr (.tup (rs.map V.ref))=H8 at S8 ep8 er8 hrs8 ⊢;clear S T8 ep7 hD hrs hpr;walk_at"v";refine⟨m,rfl,fun rg hrg=>?_⟩;have S9:=S8.new (o:= .rng 0 m) hrg;have T9:TK H8 (upd H8 rg (.rng 0 m)):=TK.new hrg;have erg:upd H8 rg (.rng 0 m) rg=some (.rng 0 m):=zf;generalize upd H8 rg (.rng 0 m)=H9 at S9 T9 erg ⊢;walk_at"v";refine⟨rg,m,rfl,erg,by omega,fun pl hpl=>?_⟩;have S10:=S9.new (o:= .lst ((List.range m).map fun(i:Nat)=>V.int (i:Int))) hpl;have T10:=T9.trans (TK.new (o:= .lst ((List.range m).map fun(i:Nat)=>V.int (i:Int))) hpl);have npl:=S9.none hpl;have ppl:=S9.fd.ne hpl;have el:upd H9 pl (.lst ((List.range m).map fun(i:Nat)=>V.int (i:Int))) pl=some (.lst (((List.range m).map fun(i:Nat)=>(i:Int)).map V.int)):=by rw[zf,List.map_map]; rfl
  generalize upd H9 pl (.lst ((List.range m).map fun(i:Nat)=>V.int (i:Int)))=H10 at S10 T10 el ⊢;clear S9 T9 erg hpl hrg S8;walk_at"v";refine⟨Nat.zero_le _,fun pi hpi=>?_⟩;have S11:=S10.new (o:= .lst []) hpi;have T11:=T10.trans (TK.new (o:= .lst []) hpi);have npi:=S10.none hpi;have ppi:=S10.fd.ne hpi;have nli:pl≠pi:=zi el hpi;have el11:upd H10 pi (.lst []) pl=some (.lst (((List.range m).map fun(i:Nat)=>(i:Int)).map V.int)):=by rw[zh nli]; exact el
  have ei11:upd H10 pi (.lst []) pi=some (.lst (([]:List Int).map V.int)):=zf;generalize upd H10 pi (.lst [])=H11 at S11 T11 el11 ei11 ⊢;clear S10 T10 el hpi;walk_at"v";refine⟨sz5,fun a5 ha5=>?_⟩;have S12:=S11.new (o:= .lst [.int 0,.int 1,.int 2,.int 2,.int 3]) ha5;have np5:=S11.fd.ne ha5;walk_at"v";refine⟨p,5,rfl,S12.fd,by decide,by decide,fun r x y z r0 r1=>?_⟩;obtain⟨c,c3,hat⟩:=pickI r0 r1;refine zA (by rw[zh (Ne.symm np5),zf]) hat ?_;have S13:=S12.draw (x:=x) (y:=y) (z:=z);have T13:=(T11.trans (TK.new (o:= .lst [.int 0,.int 1,.int 2,.int 2,.int 3]) ha5)).trans (TK.feed (o:= .lst [.int x,.int y,.int z]) S12.fd);have el13:upd (upd H11 a5 (.lst [.int 0,.int 1,.int 2,.int 2,.int 3])) p (.lst [.int x,.int y,.int z]) pl=some (.lst (((List.range m).map fun(i:Nat)=>(i:Int)).map V.int)):=by rw[zh (Ne.symm ppl),zh (zi el11 ha5)]; exact el11
  have ei13:upd (upd H11 a5 (.lst [.int 0,.int 1,.int 2,.int 2,.int 3])) p (.lst [.int x,.int y,.int z]) pi=some (.lst (([]:List Int).map V.int)):=by rw[zh (Ne.symm ppi),zh (zi ei11 ha5)]; exact ei11
  generalize upd (upd H11 a5 (.lst [.int 0,.int 1,.int 2,.int 2,.int 3])) p (.lst [.int x,.int y,.int z])=H13 at S13 T13 el13 ei13 ⊢;clear S12 S11 T11 el11 ei11 ha5 np5 hat r0 r1;walk_at"v";refine⟨m,c,rfl,?_⟩;have ec:(if (c:Int)<(m:Int) then (c:Int) else (m:Int))=((min c m:Nat):Int):=by
   by_cases h:(c:Int)<(m:Int)
   ·rw[if_pos h]; omega
   ·rw[if_neg h]; omega
  rw[ec];walk_at"v";refine⟨_,rfl,by omega,by omega,?_⟩;rw[Int.toNat_natCast];refine yE (fun i σ H'=> ∃(u:Option V) (lf is:List Int),σ=[some (.ref p),some (.int m),some (.ref ps),some (.ref pr),some (.ref pl),some (.ref pi),u,none]∧H' pl=some (.lst (lf.map V.int))∧H' pi=some (.lst (is.map V.int))∧
    lf.length+i=m∧is.length=i∧(∀j∈lf,0≤j∧j<(m:Int))∧(∀j∈is,0≤j∧j<(m:Int))∧SS p H H'∧TK H8 H')
   ⟨none,_,[],rfl,el13,ei13,by simp,rfl,fun j hj=>by
    obtain⟨q,hq,rfl⟩:=List.mem_map.mp hj;have:=List.mem_range.mp hq;omega,(fun j hj=>by cases hj),S13,T13⟩ ?_ ?_
  ·rintro i σ H' hi ⟨u,lf,is,rfl,el,ei,hlen1,hlen2,hlf,his,S,T⟩;walk_at"v";refine⟨.inl ⟨rfl,_,SqL.of ei⟩,?_⟩;walk_at"v";refine⟨.inl ⟨rfl,_,SqL.of el⟩,?_⟩;walk_at"v";refine⟨pl,_,rfl,.inl (SqL.of el),?_⟩;rw[List.length_map];refine⟨p,lf.length,rfl,S.fd,by omega,by omega,fun r x y z r0 r1=>?_⟩;have S':=S.draw (x:=x) (y:=y) (z:=z);have T':=T.trans (TK.feed (o:= .lst [.int x,.int y,.int z]) S.fd);have el':upd H' p (.lst [.int x,.int y,.int z]) pl=some (.lst (lf.map V.int)):=by rw[zh (Ne.symm ppl)]; exact el
   have ei':upd H' p (.lst [.int x,.int y,.int z]) pi=some (.lst (is.map V.int)):=by rw[zh (Ne.symm ppi)]; exact ei
   generalize upd H' p (.lst [.int x,.int y,.int z])=H2 at S' T' el' ei' ⊢;obtain⟨j,rfl⟩:=Nat.ofI r0;have hj:j<lf.length:=by omega
   have hix:ixN (lf.map V.int).length (j:Int)=some j:=by
    rw[List.length_map];unfold ixN;rw[if_pos r0,if_pos r1];rfl
   walk_at"v";refine⟨pl,_,_,j,.int lf[j],rfl,rfl,el',by omega,by omega,(Zt hix).1,by simp[hj],?_⟩;have S'':=S'.put (o:= .lst ((lf.map V.int).eraseIdx j)) npl ppl;have T'':=T'.trans (TK.lst (o:= .lst ((lf.map V.int).eraseIdx j)) el');have el'':upd H2 pl (.lst ((lf.map V.int).eraseIdx j)) pl=some (.lst ((lf.eraseIdx j).map V.int)):=by rw[zf,vY]
   have ei'':upd H2 pl (.lst ((lf.map V.int).eraseIdx j)) pi=some (.lst (is.map V.int)):=by rw[zh (Ne.symm nli)]; exact ei'
   generalize upd H2 pl (.lst ((lf.map V.int).eraseIdx j))=H3' at S'' T'' el'' ei'' ⊢;walk_at"v";refine⟨pi,_,_,rfl,rfl,ei'',by rw[List.length_map]; exact zu (by omega),?_⟩;refine⟨_,lf.eraseIdx j,is++[lf[j]],rfl,by rw[zh nli]; exact el'',by rw[zf,List.map_append]; rfl,?_,by simp[hlen2],?_,?_,S''.put npi ppi,T''.trans (TK.lst ei'')⟩
   ·rw[List.length_eraseIdx_of_lt hj];omega
   ·exact fun q hq=>hlf q (List.mem_of_mem_eraseIdx hq)
   ·intro q hq;rcases List.mem_append.mp hq with old | new
    ·exact his q old
    ·rw[List.mem_singleton.mp new];exact hlf _ (List.getElem_mem hj)
  ·rintro σ H14 ⟨u,lf,is,rfl,el,ei,hlen1,hlen2,hlf,his,S14,T14⟩;have ep14:=T14.tf ep8;have hi3:is.length≤3:=by omega
   clear S13 T13 el13 ei13 el hlf hlen1;walk_at"v";refine⟨ps,rfl,⟨_,ep14.sq⟩,fun db hdb=>?_⟩;have ndb:=S14.none hdb;have pdb:=S14.fd.ne hdb;have idb:pi≠db:=zi ei hdb;refine vk (xs:=nm.map V.str) (ρ:=[some (.ref p)]) (fun i ys H'=> ∃bs:List Int,ys=bs.map V.int∧bs.length=i∧(∀b∈bs,0≤b∧b≤99)∧SS p H H'∧TK H14 H'∧H' pi=some (.lst (is.map V.int)))
    ⟨[],rfl,rfl,(fun b hb=>by cases hb),S14.new hdb,TK.new hdb,by rw[zh idb]; exact ei⟩ (fun i ys H' _ ⟨_,_,_,_,_,T,_⟩=>(T.tf ep14).sq) ?_ ?_
   ·rintro i xv ys H' hxi ⟨bs,rfl,hbl,hbs,S,T,eI⟩ hD R' S' kR _;have hi8:i<8:=by
     have:=(List.getElem?_eq_some_iff.mp hxi).1;rw[List.length_map,hN.1] at this;omega
    walk_at"v";refine⟨p,100,rfl,S.fd,by decide,by decide,fun r x y z r0 r1=>?_⟩;have S2:=S.draw (x:=x) (y:=y) (z:=z);have T2:=T.trans (TK.feed (o:= .lst [.int x,.int y,.int z]) S.fd);have eI2:upd H' p (.lst [.int x,.int y,.int z]) pi=some (.lst (is.map V.int)):=by rw[zh (Ne.symm ppi)]; exact eI
    have hD2:upd H' p (.lst [.int x,.int y,.int z]) db=some (.lst (bs.map V.int)):=by rw[zh (Ne.symm pdb)]; exact hD
    generalize upd H' p (.lst [.int x,.int y,.int z])=H2 at S2 T2 eI2 hD2 ⊢;walk_at"v";refine⟨sz6,fun a6 ha6=>?_⟩;have S3:=S2.new (o:= .lst [.int 0,.int 0,.int 1,.int 2,.int 99,.int r]) ha6;have T3:=T2.trans (TK.new (o:= .lst [.int 0,.int 0,.int 1,.int 2,.int 99,.int r]) ha6);have p6:=S2.fd.ne ha6;have eI3:upd H2 a6 (.lst [.int 0,.int 0,.int 1,.int 2,.int 99,.int r]) pi=some (.lst (is.map V.int)):=by rw[zh (zi eI2 ha6)]; exact eI2
    have hD3:upd H2 a6 (.lst [.int 0,.int 0,.int 1,.int 2,.int 99,.int r]) db=some (.lst (bs.map V.int)):=by rw[zh (zi hD2 ha6)]; exact hD2
    have e6:upd H2 a6 (.lst [.int 0,.int 0,.int 1,.int 2,.int 99,.int r]) a6=some (.lst [.int 0,.int 0,.int 1,.int 2,.int 99,.int r]):=zf;generalize upd H2 a6 (.lst [.int 0,.int 0,.int 1,.int 2,.int 99,.int r])=H3' at S3 T3 eI3 hD3 e6 ⊢;walk_at"v";refine⟨p,6,rfl,S3.fd,by decide,by decide,fun r' x' y' z' r0' r1'=>?_⟩;obtain⟨bv,b0,b1,hat⟩:=pickB r0' r1' r0 r1;refine zA (by rw[zh (Ne.symm p6)]; exact e6) hat ?_;have hD4:upd H3' p (.lst [.int x',.int y',.int z']) db=some (.lst (bs.map V.int)):=by rw[zh (Ne.symm pdb)]; exact hD3
    refine kR _ _ hD4 (by rw[List.length_map]; exact zu (by omega)) ⟨bs++[bv],by rw[List.map_append]; rfl,by simp[hbl],fun b hb=>?_,S3.draw.put ndb pdb,(T3.trans (TK.feed S3.fd)).trans (TK.lst hD4),by rw[zh idb,zh (Ne.symm ppi)]; exact eI3⟩;rcases List.mem_append.mp hb with old | new
    ·exact hbs b old
    ·rw[List.mem_singleton.mp new];exact⟨b0,b1⟩
   ·rintro ys H15 ⟨bs,rfl,hbl,hbs,S15,T15,eI⟩ hD;rw[List.length_map,hN.1] at hbl;walk_at"v";refine⟨db,_,rfl,.inl ⟨SqL.of hD,fun pb hpb=>?_⟩⟩;have S16:=S15.new (o:= .tup (bs.map V.int)) hpb;have T16:=(T14.trans T15).trans (TK.new (o:= .tup (bs.map V.int)) hpb);have eI16:upd H15 pb (.tup (bs.map V.int)) pi=some (.lst (is.map V.int)):=by rw[zh (zi eI hpb)]; exact eI
    have eb16:upd H15 pb (.tup (bs.map V.int)) pb=some (.tup (bs.map V.int)):=zf;generalize upd H15 pb (.tup (bs.map V.int))=H16 at S16 T16 eI16 eb16 ⊢;clear S15 T15 eI hD hpb;walk_at"v";refine⟨pi,_,rfl,.inl ⟨SqL.of eI16,fun pin hpin=>?_⟩⟩;have S17:=S16.new (o:= .tup (is.map V.int)) hpin;have T17:TK H16 (upd H16 pin (.tup (is.map V.int))):=TK.new hpin;have ein:upd H16 pin (.tup (is.map V.int)) pin=some (.tup (is.map V.int)):=zf;generalize upd H16 pin (.tup (is.map V.int))=H17 at S17 T17 ein ⊢;walk_at"v";refine⟨p,m,rfl,S17.fd,hm0,hm,fun ans x y z a0 a1=>?_⟩;have S18:=S17.draw (x:=x) (y:=y) (z:=z);have T18:TK H17 (upd H17 p (.lst [.int x,.int y,.int z])):=TK.feed S17.fd;generalize upd H17 p (.lst [.int x,.int y,.int z])=H18 at S18 T18 ⊢;walk_at"v";refine⟨sz5,fun l hl=>?_⟩;have T19:TK H18 (upd H18 l (.tup [.ref ps,.ref pr,.ref pin,.ref pb,.int ans])):=TK.new hl;have S19:=S18.new (o:= .tup [.ref ps,.ref pr,.ref pin,.ref pb,.int ans]) hl;have TA:TK H8 (upd H18 l (.tup [.ref ps,.ref pr,.ref pin,.ref pb,.int ans])):=((T16.trans T17).trans T18).trans T19;refine k l _ nm is bs ans m (S18.none hl) ⟨⟨ps,pr,pin,pb,rs,zf,TA.tf ep8,TA.t _ _ er8,fun r h=>(hrs8 r h).tk TA,by omega,(T18.trans T19).t _ _ ein,((T17.trans T18).trans T19).t _ _ eb16⟩,hN,m0,m8,his,hi3,hbl,hbs,a0,a1⟩ S19.fd S19.bt
end
end K16
namespace L2
open PySem PySem.Spec PyProof.Rows
end L2
namespace K16
open PySem L2
local macro_rules | `(tactic| walk_at "v") => `(tactic| repeat (with_reducible first
  | refine xg ?_ | refine yL ?_ | refine zM ?_ | refine w_op ?_ | refine yt rfl ?_ | refine w_c ?_ | refine xF ?_ | refine xG ?_ | refine xH ?_ | refine yP ?_ | refine w_tb ?_ | refine w_bl ?_ | refine w_not ?_ | refine xj ?_ | refine w_retN ?_
  | refine yK ?_ | refine yh ?_ | refine xu ?_ | refine y9 ?_ | refine w_cb ?_ | refine yV ?_ | refine yQ ?_ | refine xI ?_ | refine w_or ?_ | refine yg ?_ | refine zZ ?_ | refine yO ?_ | refine yp ?_ | refine yo ?_ | refine yS ?_ | refine yR ?_ | refine yT ?_ | refine yU ?_ | refine w_bm ?_ | refine yF ?_ | refine yG ?_ | refine w_chain ?_ | refine w_sl ?_ | refine zT ?_ | refine yy ?_ | refine x5 ?_ | refine iteT ?_ | refine iteF ?_))
def Kn (mg:Str→Option Value) (x:Str) (i:Int):Prop:= ∃t,mg x=some (Value.int i t)
theorem pe_k{X:Cx}(h:Kn X.mg x i)(hg:Gl X x:=by rfl)(hd:(x==("__debug__":Str))=false:=by decide):PE X (.Name x pos) (tC (.int i)):=by
 obtain⟨t,e⟩:=h;exact pe_glob hg e ⟨t,rfl⟩ hd
structure BltK (mg:Str→Option Value):Prop extends Blt2 mg where
 zip:mg "zip"=none
 sum:mg "sum"=none
 repr:mg "repr"=none
 enu:mg "enumerate"=none
def retCallComp (s:Stmt):Scope:=match s with
 | .Return (some (.Call _ [.ListComp _ _ sc _] _ _)) _=>sc
 | _=>nsc
abbrev Rows:=List (List Int×List Int)
def Rls (H:Hp) (rs:List Addr) (tg:Rows) (m:Nat):Prop:=rs.length=tg.length∧ ∀(i:Nat) (r:Addr) (t g:List Int),rs[i]? =some r→tg[i]? =some (t,g)→t.length=m∧g.length=m∧(∀x∈t,0≤x∧x≤30)∧(∀x∈g,0≤x∧x≤30)∧ ∃a b,H r=some (.tup [.ref a,.ref b])∧H a=some (.tup (t.map V.int))∧H b=some (.tup (g.map V.int))
theorem Rls.tk(k:TK H H')(h:Rls H rs tg m):Rls H' rs tg m:=⟨h.1,fun i r t g e1 e2=>let ⟨h1,h2,h3,h4,a,b,h5,h6,h7⟩:=h.2 i r t g e1 e2; ⟨h1,h2,h3,h4,a,b,k.t _ _ h5,k.t _ _ h6,k.t _ _ h7⟩⟩
theorem Z8: ∀(rs:List Addr),(∀r∈rs,RuleAt m H r)→ ∃tg:Rows,Rls H rs tg m
 | [],_=>⟨[],rfl,fun i r t g e=>by simp at e⟩
 | r::rs,h=>by
  obtain⟨tg,h1,h2⟩:=Z8 rs fun q hq=>h q (List.mem_cons_of_mem _ hq);obtain⟨a,b,e,⟨ts,et,hl,hn⟩,⟨gs,eg,hl',hn'⟩⟩:=h r List.mem_cons_self;refine⟨(ts,gs)::tg,by simp[h1],fun i q t g e1 e2=>?_⟩;cases i with
  | zero=>
   simp at e1 e2;obtain⟨rfl,rfl⟩:=e2;subst e1;exact⟨hl,hl',hn,hn',a,b,e,et,eg⟩
  | succ i=>exact h2 i q t g (by simpa using e1) (by simpa using e2)
structure PotK (H:Hp) (p:Addr) (m:Nat) (tg:Rows):Prop where
 ex: ∃(ps pr pin pb:Addr) (ans:Int) (rs:List Addr) (nm:List Str),H p=some (.tup [.ref ps,.ref pr,.ref pin,.ref pb,.int ans])∧TupF H ps (nm.map V.str)∧nm.length=m∧H pr=some (.tup (rs.map V.ref))∧Rls H rs tg m
 n8:tg.length≤8
 m8:m≤8
 m0:0<m
theorem PotK.tk(k:TK H H')(h:PotK H p m tg):PotK H' p m tg:=let ⟨ps,pr,pin,pb,ans,rs,nm,h1,h2,h3,h4,h5⟩:=h.ex; ⟨⟨ps,pr,pin,pb,ans,rs,nm,k.t _ _ h1,k.tf h2,h3,k.t _ _ h4,h5.tk k⟩,h.n8,h.m8,h.m0⟩
theorem TK.same(k:Same H H'):TK H H':=⟨fun _ _ e=>k _ _ e,fun _ _ _ e=>k _ _ e⟩
theorem PotK.same(k:Same H H')(h:PotK H p m tg):PotK H' p m tg:=h.tk (TK.same k)
theorem PotK.of(h:PotAt H p nm ins beg ans m): ∃tg,PotK H p m tg:=by
 obtain⟨⟨ps,pr,pin,pb,rs,e1,e2,e3,e4,e5,e6,e7⟩,hn,m0,m8,_⟩:=h;obtain⟨tg,ht⟩:=Z8 rs e4;exact⟨tg,⟨ps,pr,pin,pb,ans,rs,nm,e1,e2,hn.1,e3,ht⟩,by have:=ht.1; omega,m8,m0⟩
def dz (xs ys:List Int):Int:=(List.zipWith (· * ·) xs ys).sum
abbrev vt:Stmt:=top 22
abbrev X2:List Str:=["_law_feed_here","_law_pot_here","_law_sorts","_law_weights","_law_rules","_law_k","_law_one","_law_other","_law_takes","_law_gives","_law_third"]
theorem nmKept:Nm X2 (ze vt):=⟨by decide+kernel,by decide+kernel⟩
theorem scKept:FnScope X2 ["_law_feed_here"] (ze vt):=⟨rfl,rfl,rfl,by decide+kernel,rfl,by decide+kernel,by decide+kernel⟩
def asgComp1 (s:Stmt):Scope:=match s with
 | .Assign _ (.ListComp _ _ sc _) _=>sc
 | _=>nsc
abbrev cKept:Scope:=asgComp1 ((zm vt).getD 3 (.Pass ⟨0,0,0,0⟩))
theorem locKept:(ze vt).names.lookup ("_law_weights":Str)=some .local:=by decide+kernel
theorem bsKept:BScope (ze vt) cKept ["_law_sort"] ["_law_feed_here"] ["_law_draw"]:={okind:=by decide+kernel,kind:=by decide+kernel,nocell:=by decide+kernel,names:=by decide+kernel,fr:=by decide+kernel,ff:=by decide+kernel,nd:=by decide+kernel,vis:=by decide+kernel,loc:=by decide+kernel,gl:=by decide+kernel}
theorem Xw(n:Nat):(List.replicate n [V.int 0]).flatten=(List.replicate n (0:Int)).map V.int:=by
 induction n with
 | zero=>rfl
 | succ n ih=>rw[List.replicate_succ,List.flatten_cons,ih,List.replicate_succ]; rfl
theorem ZQ{A:Int→Prop}: ∀{ys:List V},(∀y∈ys,∃n,y=V.int n∧A n)→ ∃ns:List Int,ys=ns.map V.int∧ ∀n∈ns,A n
 | [],_=>⟨[],rfl,fun n h=>by cases h⟩
 | y::ys,h=>by
  obtain⟨n,rfl,hn⟩:=h y List.mem_cons_self;obtain⟨ns,rfl,hs⟩:=ZQ fun z hz=>h z (List.mem_cons_of_mem _ hz);exact⟨n::ns,rfl,fun m hm=>by
   rcases List.mem_cons.mp hm with rfl | hm
   ·exact hn
   ·exact hs m hm⟩
theorem But.same(k:Same H H'):But p H H':=fun q o e _=>k q o e
theorem FeedAt.same(k:Same H H')(F:FeedAt H p):FeedAt H' p:=let ⟨x,y,z,e⟩:=F; ⟨x,y,z,k _ _ e⟩
theorem XH{ns ms:List Int}(hp:H p=some (.lst (ns.map V.int)))(hq:H q=some (.lst (ms.map V.int)))(h:Q (.bl (!decide (ns=ms))) H):G2.rNeD (.ref p) (.ref q) H Q:=by
 refine⟨_,_,.lst hp (vv ns),.lst hq (vv ms),xS ns,xS ms,?_,?_⟩
 ·show PyData.depthAll _+1≤60;rw[we];decide
 ·show Q (.bl (!PyData.eqvAll _ _)) H;rw[vH];exact h
theorem w_andV(h:ta σ H fun x H1=> ∃c,x= .bl c∧if c=true then tb σ H1 Q else Q (.bl false) H1):XS ta tb σ H Q:=h
def Y4:Sp:=fun vs H Q _=> ∃(p:Addr),vs=[.ref p]∧FeedAt H p∧ ∀(l:Addr) (H':Hp) (m:Nat) (tg:Rows),PotK H' l m tg→FeedAt H' p→But p H H'→Q (.ref l) H'
section
variable {P:Program} {w:World} {K:W.Frag} {mg:Str→Option Value} {base:Heap}
theorem ok_Kept{f:Addr}{fd:FuncData}(B:BltK mg)(D:Has P w K mg base 1 "_law_draw" ["_law_feed_here","_law_many"] xA)(fP:Has P w K mg base 3 "_law_pot" ["_law_feed_here"] XT)(F:Fun K "_law_kept_pot" "_law_kept_pot" vt f fd):FnOk P w K mg base CX0 4 f fd ["_law_feed_here"] Y4:=by
 refine F.ok scKept (fun vs H Q E h=>?_) (fun cdv A outer s H vs Q E hr h=>?_)
 ·obtain⟨p,rfl,_⟩:=h;rfl
 obtain⟨p,rfl,F0,k⟩:=h;refine'⟨_,?hb,?rd⟩
 case hb=>
  refine' zd ?s1 ?r1
  case' r1=>refine' zd ?s2 ?r2
  case' r2=>refine' zd ?s3 ?r3
  case' r3=>refine' zd ?s4 ?r4
  case' r4=>refine' zd ?s5 ?r5
  case' r5=>refine' zd ?s6 ?r6
  case' r6=>refine' zj ?s7
  case s1=>exact zk nmKept 1 (pe_f fP hr (by decide) (pa_1 (pvd nmKept 0)))
  case s2=>exact zk nmKept 2 (zU zq B.len PySem.boot_len (pa_1 (ziq (pvd nmKept 1) zg)))
  case s3=>exact zY (zt xJ (pe_f D hr (by decide) (pa_2 (pvd nmKept 0) zg)) zg (zv _)) (zj (zy (pvd nmKept 1))) zC
  case s4=>
   refine' yj (i:=3) (ix:=[0]) nmKept.nd rfl locKept bsKept.toCScope rfl rfl (yN B.range (pa_1 (pvd nmKept 2))) ?h4 ?h5 ?h6
   case h4=>exact fun _ _ _ _ _ _=>pgb bsKept 0
   case h5=>exact fun _ _ _ _ _ _=>zB
   case h6=>exact fun _ _ _ _ _ _=>zo zP zg (pe_f D hr (by decide) (pa_2 (pvb bsKept 1) zg) (bsKept.g 0))
  case s5=>exact zk nmKept 4 (yk zE)
  case s7=>
   refine' zy ?z1
   case' z1=>refine' zo Zr ?z2 ?z3
   case z3=>exact yA Z6 (pvd nmKept 1) (y3 zg) y4
   case' z2=>refine' zo Zr ?z4 ?z5
   case z4=>exact yA Z6 (pvd nmKept 1) y4 (y3 zg)
   case z5=>exact z0 (pa_1 (ya zK B.tuple PyProof.Rows.boot_tuple (pa_1 (pvd nmKept 4))))
  case s6=>
   refine' yX PassesOwn.never rfl (yN B.range (pa_1 (pe_f D hr (by decide) (pa_2 (pvd nmKept 0) zg)))) (pgd nmKept 5) ?b1
   case b1=>
    refine' zd ?t1 ?w1
    case' w1=>refine' zd ?t2 ?w2
    case' w2=>refine' zj ?t3
    case t1=>exact zk nmKept 6 (pe_f D hr (by decide) (pa_2 (pvd nmKept 0) (pvd nmKept 2)))
    case t2=>exact zk nmKept 7 (pe_f D hr (by decide) (pa_2 (pvd nmKept 0) (pvd nmKept 2)))
    case t3=>
     refine' zY (zt xn (pvd nmKept 6) (pvd nmKept 7) (zv _)) ?c0 zC
     case' c0=>refine' zd ?a1 ?v1
     case' v1=>refine' zd ?a2 ?v2
     case' v2=>refine' zd ?a3 ?v3
     case' v3=>refine' zd ?a4 ?v4
     case' v4=>refine' zd ?a5 ?v5
     case' v5=>refine' zd ?a6 ?v6
     case' v6=>refine' zd ?a7 ?v7
     case' v7=>refine' zj ?a8
     case a1=>exact zk nmKept 8 (zo Zp (yk (pa_1 zg)) (pvd nmKept 2))
     case a2=>exact zk nmKept 9 (zo Zp (yk (pa_1 zg)) (pvd nmKept 2))
     case a3=>exact zW (ziq (pvd nmKept 3) (pvd nmKept 7)) (zX (pvd nmKept 8) (pvd nmKept 6) yl)
     case a4=>exact zW (ziq (pvd nmKept 3) (pvd nmKept 6)) (zX (pvd nmKept 9) (pvd nmKept 7) yl)
     case a5=>exact zk nmKept 10 (pe_f D hr (by decide) (pa_2 (pvd nmKept 0) (pvd nmKept 2)))
     case a6=>exact zW (zo zP (ziq (pvd nmKept 8) (pvd nmKept 10)) (pe_f D hr (by decide) (pa_2 (pvd nmKept 0) zg))) (zX (pvd nmKept 8) (pvd nmKept 10) yl)
     case a7=>
      refine' zW ?d1 (zX (pvd nmKept 9) (pvd nmKept 10) yl)
      case' d1=>refine' zo zP (ziq (pvd nmKept 9) (pvd nmKept 10)) ?d2
      case' d2=>refine' zo xt (ziq (pvd nmKept 8) (pvd nmKept 10)) ?d3
      case' d3=>refine' ya wX B.int PyProof.Rows.boot_int ?d4
      case' d4=>refine' pa_1 ?d5
      case' d5=>refine' Xg ?d6 ?d7
      case d6=>exact xD xn (pvd nmKept 10) (pvd nmKept 6) (zv _)
      case' d7=>refine' Xd ?d8
      case d8=>exact xD xn (pvd nmKept 10) (pvd nmKept 7) (zv _)
     case a8=>
      refine' zY (zt (G2.op_neD hr) (pvd nmKept 8) (pvd nmKept 9) (zv _)) ?e1 zC
      case' e1=>refine' zj ?e2
      case' e2=>refine' wy ?e3
      case' e3=>refine' ZJ PySem.F.plainAttrs_list PySem.F.slot_list_append PySem.F.type_list_append wU (pvd nmKept 4) ?e4
      case' e4=>refine' pa_1 ?e5
      case' e5=>refine' z0 ?e6
      case e6=>exact pa_2 (ya zK B.tuple PyProof.Rows.boot_tuple (pa_1 (pvd nmKept 8))) (ya zK B.tuple PyProof.Rows.boot_tuple (pa_1 (pvd nmKept 9)))
 walk_at"v";refine⟨p,rfl,F0,fun pl H1 nmz ins beg ans m _ hP F1 b1=>?_⟩;obtain⟨tg,hK⟩:=PotK.of hP;obtain⟨ps,pr,pin,pb,ans',rs,nm',e1,e2,e3,e4,hR⟩:=hK.ex;have m8:=hK.m8;have m0:=hK.m0;walk_at"v";refine zN e1 rfl ?_;refine⟨ps,_,rfl,.inr e2.sq,?_⟩;rw[List.length_map,e3];walk_at"v";refine⟨p,3,rfl,F1,by decide,by decide,fun r x y z r0 r1=>?_⟩;have b2:But p H (upd H1 p (.lst [.int x,.int y,.int z])):=b1.at;have F2:FeedAt (upd H1 p (.lst [.int x,.int y,.int z])) p:=FeedAt.here;have T2:TK H1 (upd H1 p (.lst [.int x,.int y,.int z])):=TK.feed F1;generalize upd H1 p (.lst [.int x,.int y,.int z])=H2 at b2 F2 T2 ⊢;walk_at"v";refine⟨rfl,?_⟩;walk_at"v";refine iteD (fun _=>?_) (fun _=>?_)
 ·walk_at"v";exact k pl H2 m tg (hK.tk T2) F2 b2
 walk_at"v";refine⟨_,rfl,by omega,by omega,fun wl hwl=>?_⟩;rw[Int.toNat_natCast];have pwl:=F2.ne hwl;refine G2.rng_gen (ρ:=[some (.ref p)]) (fun H'=>But p H2 H'∧FeedAt H' p) (fun y _=> ∃n,y=V.int n∧(0≤n∧n≤3)) (by omega) ⟨But.refl.new hwl,F2.new pwl⟩ (fun H' ys zs ⟨a1,a2⟩ _=>⟨a1.put hwl,a2.new pwl⟩) (fun y H' ys zs h _ _=>h) (fun i' H' ys hi' ⟨a1,a2⟩ hD R kR=>?_) (fun ys H3 hyl hys ⟨b3',F3⟩ hD=>?_)
 ·walk_at"v";refine⟨p,3,rfl,a2,by decide,by decide,fun r x y z r0 r1=>?_⟩;walk_at"v";exact kR _ _ ⟨_,rfl,by omega,by omega⟩ ⟨a1.at,FeedAt.here⟩ (by rw[zh (Ne.symm pwl)]; exact hD) fun z hz=>hz
 obtain⟨wts,rfl,hwb⟩:=ZQ hys;rw[List.length_map] at hyl;have b3:=b2.trans b3';have T3:=T2.trans (TK.but F2 b3');walk_at"v";refine⟨Nat.zero_le _,fun lr hlr=>?_⟩;have plr:=F3.ne hlr;have hlr0:=b3.free plr hlr;have nwl:wl≠lr:=zi hD hlr;have b4:But p H (upd H3 lr (.lst [])):=b3.new hlr;have F4:FeedAt (upd H3 lr (.lst [])) p:=F3.new plr;have T4:=T3.trans (TK.new (o:= .lst []) hlr);have w4:upd H3 lr (.lst []) wl=some (.lst (wts.map V.int)):=by rw[zh nwl]; exact hD
 have l4:upd H3 lr (.lst []) lr=some (.lst (([]:List Addr).map V.ref)):=zf;generalize upd H3 lr (.lst [])=H4 at b4 F4 T4 w4 l4 ⊢;walk_at"v";refine⟨p,6,rfl,F4,by decide,by decide,fun r x y z r0 r1=>?_⟩;have b5:But p H (upd H4 p (.lst [.int x,.int y,.int z])):=b4.at;have F5:FeedAt (upd H4 p (.lst [.int x,.int y,.int z])) p:=FeedAt.here;have T5:=T4.trans (TK.feed (o:= .lst [.int x,.int y,.int z]) F4);have w5:upd H4 p (.lst [.int x,.int y,.int z]) wl=some (.lst (wts.map V.int)):=by rw[zh (Ne.symm pwl)]; exact w4
 have l5:upd H4 p (.lst [.int x,.int y,.int z]) lr=some (.lst (([]:List Addr).map V.ref)):=by rw[zh (Ne.symm plr)]; exact l4
 generalize upd H4 p (.lst [.int x,.int y,.int z])=H5 at b5 F5 T5 w5 l5 ⊢;walk_at"v";obtain⟨n,rfl⟩:=Nat.ofI r0;refine⟨_,rfl,by omega,by omega,?_⟩;rw[Int.toNat_natCast];have hm0:(0:Int)<(m:Int):=by omega
 have hm2:(m:Int)<1000000:=by omega
 refine yE (fun i σ H'=> ∃(rs:List Addr) (u5 u6 u7 u8 u9 u10:Option V),σ=[some (.ref p),some (.ref pl),some (.int (m:Int)),some (.ref wl),some (.ref lr),u5,u6,u7,u8,u9,u10]∧But p H H'∧FeedAt H' p∧TK H1 H'∧H' wl=some (.lst (wts.map V.int))∧H' lr=some (.lst (rs.map V.ref))∧(∀r∈rs,RuleAt m H' r)∧rs.length≤i) ⟨[],none,none,none,none,none,none,rfl,b5,F5,T5,w5,l5,(fun r h=>by cases h),Nat.le_refl _⟩ ?_ ?_
 ·rintro i σ H6 hi ⟨rz,u5,u6,u7,u8,u9,u10,rfl,b6,F6,T6,w6,l6,h6,c6⟩;walk_at"v";refine⟨p,m,rfl,F6,hm0,hm2,fun one x y z o0 o1=>?_⟩;have b7:But p H6 (upd H6 p (.lst [.int x,.int y,.int z])):=But.refl.at;have F7:FeedAt (upd H6 p (.lst [.int x,.int y,.int z])) p:=FeedAt.here;generalize upd H6 p (.lst [.int x,.int y,.int z])=H7 at b7 F7 ⊢;walk_at"v";refine⟨p,m,rfl,F7,hm0,hm2,fun oth x y z t0 t1=>?_⟩;have b8:But p H6 (upd H7 p (.lst [.int x,.int y,.int z])):=b7.at;have F8:FeedAt (upd H7 p (.lst [.int x,.int y,.int z])) p:=FeedAt.here;generalize upd H7 p (.lst [.int x,.int y,.int z])=H8 at b8 F8 ⊢;have T68:=TK.but F6 b8;have w8:=b8 _ _ w6 (Ne.symm pwl);have l8:=b8 _ _ l6 (Ne.symm plr);walk_at"v";refine⟨rfl,?_⟩;walk_at"v";refine YI (fun _=>?_) (fun _=>?_)
  ·walk_at"v";refine⟨sz1,fun z1 hz1=>?_⟩;have K9:Same H8 (upd H8 z1 (.lst [.int 0])):=Same.new (Same.refl H8) hz1;have e9:upd H8 z1 (.lst [.int 0]) z1=some (.lst [.int 0]):=zf;generalize upd H8 z1 (.lst [.int 0])=H9 at K9 e9 ⊢;walk_at"v";refine⟨z1,_,_,rfl,rfl,e9,by omega,by omega,by rw[Int.toNat_natCast]; exact Nat.le_of_lt (zu (by simp; omega)),fun a ha=>?_⟩;rw[Int.toNat_natCast,Xw];have KA:Same H8 (upd H9 a (.lst ((List.replicate m (0:Int)).map V.int))):=K9.new ha;have eA:upd H9 a (.lst ((List.replicate m (0:Int)).map V.int)) a=some (.lst ((List.replicate m (0:Int)).map V.int)):=zf;have ha8:H8 a=none:=by
    cases e:H8 a with
    | none=>rfl
    | some o=>rw[K9 _ _ e] at ha; cases ha
   generalize upd H9 a (.lst ((List.replicate m (0:Int)).map V.int))=HA at KA eA ⊢;walk_at"v";refine⟨sz1,fun z2 hz2=>?_⟩;have KB:Same HA (upd HA z2 (.lst [.int 0])):=Same.new (Same.refl HA) hz2;have eB:upd HA z2 (.lst [.int 0]) z2=some (.lst [.int 0]):=zf;generalize upd HA z2 (.lst [.int 0])=HB at KB eB ⊢;walk_at"v";refine⟨z2,_,_,rfl,rfl,eB,by omega,by omega,by rw[Int.toNat_natCast]; exact Nat.le_of_lt (zu (by simp; omega)),fun b hb=>?_⟩;rw[Int.toNat_natCast,Xw];have KC:Same HB (upd HB b (.lst ((List.replicate m (0:Int)).map V.int))):=Same.new (Same.refl HB) hb;have eC:upd HB b (.lst ((List.replicate m (0:Int)).map V.int)) b=some (.lst ((List.replicate m (0:Int)).map V.int)):=zf;have hb8:H8 b=none:=by
    cases e:H8 b with
    | none=>rfl
    | some o=>rw[KB _ _ (KA _ _ e)] at hb; cases hb
   have hab:a≠b:=zi (KB _ _ eA) hb;have K8C:Same H8 (upd HB b (.lst ((List.replicate m (0:Int)).map V.int))):=(KA.trans KB).trans KC;have zr: ∀n∈List.replicate m (0:Int),(0:Int)≤n∧n≤3:=fun n h=>by rw[List.eq_of_mem_replicate h]; exact⟨by decide,by decide⟩
   have R0:RS 3 m p a b H8 (upd HB b (.lst ((List.replicate m (0:Int)).map V.int))):=
    ⟨F8.same K8C,⟨_,KC _ _ (KB _ _ eA),List.length_replicate,zr⟩,⟨_,eC,List.length_replicate,zr⟩,F8.ne ha8,F8.ne hb8,hab,But.same K8C,ha8,hb8⟩
   have wC:upd HB b (.lst ((List.replicate m (0:Int)).map V.int)) wl=some (.lst (wts.map V.int)):=K8C _ _ w8;generalize upd HB b (.lst ((List.replicate m (0:Int)).map V.int))=HC at R0 wC ⊢;have nwa:wl≠a:=zi w8 ha8;have nwb:wl≠b:=zi w8 hb8;have WT: ∀{r:Int},0≤r→r<(m:Int)→ ∃v,(0≤v∧v≤3)∧atI (wts.map V.int) r=some (.int v):=fun {r} h0 h1=>by
    obtain⟨j,rfl⟩:=Nat.ofI h0;have hj:j<wts.length:=by omega
    exact⟨wts[j],hwb _ (List.getElem_mem hj),zz (by simp[hj])⟩
   obtain⟨v1,hv1,at1⟩:=WT t0 t1;obtain⟨v2,hv2,at2⟩:=WT o0 o1;walk_at"v";refine zA wC at1 ?_;walk_at"v";obtain⟨na,xa,ja,ea,hla,hna,h0a,eaa,eia⟩:=R0.ca.item o0 o1;refine yx ea eia ?_;have R1:=R0.setA (j:=ja) (v:=v1) hla hna hv1;have wD:upd HC a (.lst ((na.map V.int).set ja (.int v1))) wl=some (.lst (wts.map V.int)):=by rw[zh nwa]; exact wC
   generalize upd HC a (.lst ((na.map V.int).set ja (.int v1)))=HD at R1 wD ⊢;walk_at"v";refine zA wD at2 ?_;walk_at"v";obtain⟨nb,xb,jb,eb,hlb,hnb,h0b,eab,eib⟩:=R1.cb.item t0 t1;refine yx eb eib ?_;have R2:=R1.setB (j:=jb) (v:=v2) hlb hnb hv2;generalize upd HD b (.lst ((nb.map V.int).set jb (.int v2)))=HE at R2 ⊢;walk_at"v";refine⟨p,m,rfl,R2.fd,hm0,hm2,fun th x y z h0 h1=>?_⟩;have R3:=R2.draw (x:=x) (y:=y) (z:=z);generalize upd HE p (.lst [.int x,.int y,.int z])=HF at R3 ⊢;walk_at"v";obtain⟨nc,xc,jc,ec,hlc,hnc,h0c,eac,eic⟩:=R3.ca.item h0 h1;refine zA ec eac ?_;walk_at"v";refine⟨p,2,rfl,R3.fd,by decide,by decide,fun d x y z d0 d1=>?_⟩;have R4:=(R3.draw (x:=x) (y:=y) (z:=z)).up (k':=4) (by decide);have ec':upd HF p (.lst [.int x,.int y,.int z]) a=some (.lst (nc.map V.int)):=by rw[zh (Ne.symm R3.pa)]; exact ec
   generalize upd HF p (.lst [.int x,.int y,.int z])=HG at R4 ec' ⊢;walk_at"v";refine yx ec' eic ?_;have R5:=R4.setA (j:=jc) (v:=xc+d) hlc (fun y hy=>⟨(hnc y hy).1,by have:=(hnc y hy).2; omega⟩) ⟨by omega,by omega⟩;generalize upd HG a (.lst ((nc.map V.int).set jc (.int (xc+d))))=HH at R5 ⊢;walk_at"v";obtain⟨ne,xe',je,ee,hle,hne,h0e,eae,eie⟩:=R5.cb.item h0 h1;refine zA ee eae ?_;walk_at"v";obtain⟨nf,xf,jf,ef,hlf,hnf,h0f,eaf,eif⟩:=R5.ca.item h0 h1;refine zA ef eaf ?_;walk_at"v";refine w_andV ?_;walk_at"v";refine⟨rfl,?_⟩;have R6: ∀c:Int,(c=0∨c=1)→RS 8 m p a b H8 (upd HH b (.lst ((ne.map V.int).set je (.int (xe'+xf*c))))):=fun c hc=>by
    refine(R5.up (k':=8) (by decide)).setB hle (fun y hy=>⟨(hne y hy).1,by have:=(hne y hy).2; omega⟩) ?_;rcases hc with rfl | rfl
    ·exact⟨by omega,by omega⟩
    ·exact⟨by omega,by omega⟩
   have IO: ∀c2:Bool,∃c:Int,(c=0∨c=1)∧(if c2=true then (1:Int) else 0)=c:=fun c2=>⟨_,by cases c2<;>simp,rfl⟩;generalize (!decide (V.int th=V.int one))=c1;refine⟨c1,rfl,?_⟩;cases c1
   all_goals first
    | (
     walk_at"v";refine .inr ⟨false,rfl,?_⟩;obtain⟨c,hc,ec9⟩:=IO false;rw[ec9])
    | (
     walk_at"v";refine⟨rfl,?_⟩;generalize (!decide (V.int th=V.int oth))=c2;refine .inr ⟨c2,rfl,?_⟩;obtain⟨c,hc,ec9⟩:=IO c2;rw[ec9])
   all_goals
    refine w_rI (mulL (by omega) (by omega)) ?_;walk_at"v";refine yx ee eie ?_;have R7:=R6 c hc;generalize upd HH b (.lst ((ne.map V.int).set je (.int (xe'+xf*c))))=HI at R7 ⊢;obtain⟨ta,eta,hta,bta⟩:=id R7.ca;obtain⟨gb,egb,hgb,bgb⟩:=id R7.cb;have lI:=R7.bt _ _ l8 (Ne.symm plr);have wI:=R7.bt _ _ w8 (Ne.symm pwl);have TI:=T68.trans (TK.but F8 R7.bt);have bI:=b8.trans R7.bt;walk_at"v";refine XH eta egb ?_;walk_at"v";by_cases hne':ta=gb
    ·refine iteNS hne' ?_;exact⟨rz,_,_,_,_,_,_,rfl,b6.trans bI,R7.fd,T6.trans TI,wI,lI,fun r hr'=>(h6 r hr').tk TI,by omega⟩
    ·rw[if_pos (by rw[decide_eq_false hne']; rfl)];walk_at"v";refine⟨.inl ⟨rfl,_,SqL.of lI⟩,?_⟩;walk_at"v";refine⟨a,_,rfl,.inl ⟨SqL.of eta,fun qa hqa=>?_⟩⟩;have KJ:Same HI (upd HI qa (.tup (ta.map V.int))):=Same.new (Same.refl HI) hqa;have eJ:upd HI qa (.tup (ta.map V.int)) qa=some (.tup (ta.map V.int)):=zf;generalize upd HI qa (.tup (ta.map V.int))=HJ at KJ eJ ⊢;walk_at"v";refine⟨b,_,rfl,.inl ⟨SqL.of (KJ _ _ egb),fun qb hqb=>?_⟩⟩;have KK:Same HJ (upd HJ qb (.tup (gb.map V.int))):=Same.new (Same.refl HJ) hqb;have eK:upd HJ qb (.tup (gb.map V.int)) qb=some (.tup (gb.map V.int)):=zf;generalize upd HJ qb (.tup (gb.map V.int))=HK at KK eK ⊢;walk_at"v";refine⟨sz2,fun q hq=>?_⟩;have KL:Same HK (upd HK q (.tup [.ref qa,.ref qb])):=Same.new (Same.refl HK) hq;have eL:upd HK q (.tup [.ref qa,.ref qb]) q=some (.tup [.ref qa,.ref qb]):=zf;generalize upd HK q (.tup [.ref qa,.ref qb])=HL at KL eL ⊢;have KIL:=(KJ.trans KK).trans KL;have lL:=KIL _ _ lI;have TL:=TK.lst (o:= .lst (rz.map V.ref++[.ref q])) lL;walk_at"v";refine⟨lr,_,_,rfl,rfl,lL,by rw[List.length_map]; exact zu (by omega),?_⟩;refine⟨rz++[q],_,_,_,_,_,_,rfl,((b6.trans bI).trans (But.same KIL)).put hlr0,(R7.fd.same KIL).new plr,((T6.trans TI).trans (TK.same KIL)).trans TL,by rw[zh nwl]; exact KIL _ _ wI,by rw[zf,List.map_append]; rfl,fun r hr'=>?_,by simp; omega⟩;rcases List.mem_append.mp hr' with old | new
     ·exact((h6 r old).tk (TI.trans (TK.same KIL))).tk TL
     ·rw[List.mem_singleton.mp new];exact⟨qa,qb,TL.t _ _ eL,⟨ta,TL.t _ _ (KL _ _ (KK _ _ eJ)),hta,fun y hy=>⟨(bta y hy).1,by have:=(bta y hy).2; omega⟩⟩,⟨gb,TL.t _ _ (KL _ _ eK),hgb,fun y hy=>⟨(bgb y hy).1,by have:=(bgb y hy).2; omega⟩⟩⟩
  ·exact⟨rz,_,_,_,_,_,_,rfl,b6.trans b8,F8,T6.trans T68,w8,l8,fun r hr'=>(h6 r hr').tk T68,by omega⟩
 ·rintro σ H6 ⟨rz,u5,u6,u7,u8,u9,u10,rfl,b6,F6,T6,w6,l6,h6,c6⟩;have e16:=T6.t _ _ e1;walk_at"v";refine⟨_,rfl,?_⟩;refine⟨pl,_,rfl,SqT.of e16,by simp[HT.sIx],fun q1 hq1=>?_⟩;have K7:Same H6 (upd H6 q1 (.tup [.ref ps])):=Same.new (Same.refl H6) hq1;have e7:upd H6 q1 (.tup [.ref ps]) q1=some (.tup [.ref ps]):=zf;show tTup _ _ (upd H6 q1 (.tup [.ref ps])) _;generalize upd H6 q1 (.tup [.ref ps])=H7 at K7 e7 ⊢;walk_at"v";refine⟨lr,_,rfl,.inl ⟨SqL.of (K7 _ _ l6),fun q2 hq2=>?_⟩⟩;have K8:Same H6 (upd H7 q2 (.tup (rz.map V.ref))):=K7.new hq2;have K78:Same H7 (upd H7 q2 (.tup (rz.map V.ref))):=Same.new (Same.refl H7) hq2;have e8:upd H7 q2 (.tup (rz.map V.ref)) q2=some (.tup (rz.map V.ref)):=zf;generalize upd H7 q2 (.tup (rz.map V.ref))=H8 at K8 K78 e8 ⊢;walk_at"v";refine⟨sz1,fun q3 hq3=>?_⟩;have K89:Same H8 (upd H8 q3 (.tup [.ref q2])):=Same.new (Same.refl H8) hq3;have e9:upd H8 q3 (.tup [.ref q2]) q3=some (.tup [.ref q2]):=zf;generalize upd H8 q3 (.tup [.ref q2])=H9 at K89 e9 ⊢;refine⟨q1,q3,_,_,rfl,rfl,SqT.of (K89 _ _ (K78 _ _ e7)),SqT.of e9,by simp,sz2,(fun z=>by cases z),fun _ q4 hq4=>?_⟩;have K9A:Same H9 (upd H9 q4 (.tup [.ref ps,.ref q2])):=Same.new (Same.refl H9) hq4;have eA:upd H9 q4 (.tup [.ref ps,.ref q2]) q4=some (.tup [.ref ps,.ref q2]):=zf;have KA:Same H6 (upd H9 q4 (.tup [.ref ps,.ref q2])):=(K8.trans K89).trans K9A;show tSl _ _ _ _ _ (upd H9 q4 (.tup [.ref ps,.ref q2])) _;have e8A:upd H9 q4 (.tup [.ref ps,.ref q2]) q2=some (.tup (rz.map V.ref)):=K9A _ _ (K89 _ _ e8);generalize upd H9 q4 (.tup [.ref ps,.ref q2])=HA at KA eA e8A ⊢;walk_at"v";refine⟨_,rfl,?_⟩;refine⟨pl,_,rfl,SqT.of (KA _ _ e16),by simp[HT.sIx],fun q5 hq5=>?_⟩;have KB:Same HA (upd HA q5 (.tup [.ref pin,.ref pb,.int ans'])):=Same.new (Same.refl HA) hq5;have eB:upd HA q5 (.tup [.ref pin,.ref pb,.int ans']) q5=some (.tup [.ref pin,.ref pb,.int ans']):=zf;show XX _ _ _ (upd HA q5 (.tup [.ref pin,.ref pb,.int ans'])) _;generalize upd HA q5 (.tup [.ref pin,.ref pb,.int ans'])=HB at KB eB ⊢;refine⟨q4,q5,_,_,rfl,rfl,SqT.of (KB _ _ eA),SqT.of eB,by simp,sz5,(fun z=>by cases z),fun _ q6 hq6=>?_⟩;have KC:Same HB (upd HB q6 (.tup [.ref ps,.ref q2,.ref pin,.ref pb,.int ans'])):=Same.new (Same.refl HB) hq6;have eC:upd HB q6 (.tup [.ref ps,.ref q2,.ref pin,.ref pb,.int ans']) q6=some (.tup [.ref ps,.ref q2,.ref pin,.ref pb,.int ans']):=zf;show Q (.ref q6) (upd HB q6 (.tup [.ref ps,.ref q2,.ref pin,.ref pb,.int ans']));generalize upd HB q6 (.tup [.ref ps,.ref q2,.ref pin,.ref pb,.int ans'])=HC at KC eC ⊢;have KZ:=(KA.trans KB).trans KC;obtain⟨tg',hT⟩:=Z8 rz fun r hr'=>(h6 r hr').tk (TK.same KZ);exact k q6 HC m tg' ⟨⟨ps,q2,pin,pb,ans',rz,nm',eC,(T6.trans (TK.same KZ)).tf e2,e3,(KB.trans KC) _ _ e8A,hT⟩,by have:=hT.1; omega,m8,m0⟩ (F6.same KZ) (b6.trans (But.same KZ))
end
end K16
namespace G2
open PySem L2
theorem prs_genT{as:List Addr}{xs:List α}(u v:α→V)(Pe:α→V→Hp→Prop)(ha:H a=some (.tup (as.map V.ref)))(hl:as.length=xs.length)(hn:xs.length≤1000)
  (hx: ∀(i:Nat) (q:Addr) (x:α),as[i]? =some q→xs[i]? =some x→H q=some (.tup [u x,v x]))
  (mono: ∀x y H' H'',Pe x y H'→(∀b o,b≠D→H' b=some o→H'' b=some o)→Pe x y H'')
  (step: ∀(i:Nat) (x:α) (H':Hp) (ys:List V),xs[i]? =some x→Same H H'→H' D=some (.lst ys)→ ∀R:V→Hp→Prop,(∀y H'',Same H' H''→Pe x y H''→R y H'')→te (some (u x)::some (v x)::ρ) H' R)
  (q: ∀ys H',Same H H'→ys.length=xs.length→(∀(i:Nat) (x:α) (y:V),xs[i]? =some x→ys[i]? =some y→Pe x y H')→H' D=some (.lst ys)→Q (.ref D) H') (hD:H D=none):CGo (Itt K a) D (gTup K 2 (yB (zI 0) (yB (zI 1) gNil))) tAll te Q (none::none::ρ) H:=by
 refine⟨fun i m τ ys H'=>m=xs.length-i∧i≤xs.length∧(∃tv tw,τ=tv::tw::ρ)∧ys.length=i∧(∀(j:Nat) (x:α) (y:V),xs[j]? =some x→ys[j]? =some y→Pe x y H')∧Same H H'∧H' D=some (.lst ys),⟨xs.length,by omega,Nat.zero_le _,⟨_,_,rfl⟩,rfl,(fun j x y _ e=>by simp at e),Same.new (Same.refl H) hD,zf⟩,?_⟩;rintro i m τ ys H' ⟨rfl,hi,⟨tv,tw,rfl⟩,hyl,hP,K',hDz⟩;refine⟨hDz,?_⟩;have sq:SqT K H' a (as.map V.ref):=SqT.of (K' _ _ ha);by_cases hlt:i<xs.length
 ·have hlt':i<as.length:=by omega
  refine .inr ⟨⟨_,.ref as[i],sq,by simp[hlt']⟩,?_⟩;rintro w' H'' ⟨rfl,hw⟩;have hw':=hw _ sq;rw[List.getElem?_map,List.getElem?_eq_getElem hlt'] at hw';cases hw'
  refine⟨as[i],_,rfl,SqT.of (K' _ _ (hx i as[i] xs[i] (by simp[hlt']) (by simp[hlt]))),rfl,_,_,rfl,_,_,rfl,rfl,?_⟩;refine zZ ?_;refine iteT ?_;refine step i xs[i] _ ys (by simp[hlt]) K' hDz _ fun y H3 K3 hy=>⟨K3 _ _ hDz,zu (by omega),xs.length-(i+1),by omega,rfl,hlt,⟨_,_,rfl⟩,by simp[hyl],fun j x y' ex ey=>?_,(K'.trans K3).put hD,zf⟩;have up: ∀b o,b≠D→H3 b=some o→upd H3 D (.lst (ys++[y])) b=some o:=fun b o hb e=>by rw[zh hb]; exact e
  by_cases hj:j<ys.length
  ·rw[List.getElem?_append_left hj] at ey;exact mono _ _ _ _ (mono _ _ _ _ (hP j x y' ex ey) fun b o _ e=>K3 b o e) up
  ·rw[List.getElem?_append_right (by omega)] at ey;have hj':j=ys.length:=by
    have:=(List.getElem?_eq_some_iff.mp ey).1;simp at this;omega
   rw[hj',Nat.sub_self] at ey;simp at ey;subst ey;have hji:j=i:=by omega
   rw[hji,List.getElem?_eq_getElem hlt] at ex;cases ex
   exact mono _ _ _ _ hy up
 ·have e:i=xs.length:=by omega
  subst e;exact .inl ⟨⟨_,sq,by simp[hl]⟩,q ys H' K' hyl hP hDz⟩
end G2
namespace K16
open PySem L2
local macro_rules | `(tactic| walk_at "v") => `(tactic| repeat (with_reducible first
  | refine xg ?_ | refine yL ?_ | refine zM ?_ | refine w_op ?_ | refine yt rfl ?_ | refine w_c ?_ | refine xF ?_ | refine xG ?_ | refine xH ?_ | refine yP ?_ | refine w_tb ?_ | refine w_bl ?_ | refine w_not ?_ | refine xj ?_ | refine w_retN ?_
  | refine yK ?_ | refine yh ?_ | refine xu ?_ | refine y9 ?_ | refine w_cb ?_ | refine yV ?_ | refine yQ ?_ | refine xI ?_ | refine w_or ?_ | refine yg ?_ | refine zZ ?_ | refine yO ?_ | refine yp ?_ | refine yo ?_ | refine yS ?_ | refine yR ?_ | refine yT ?_ | refine yU ?_ | refine w_bm ?_ | refine yF ?_ | refine yG ?_ | refine w_chain ?_ | refine w_sl ?_ | refine zT ?_ | refine yy ?_ | refine x5 ?_ | refine iteT ?_ | refine iteF ?_))
abbrev sChg:Stmt:=top 23
abbrev sDot:Stmt:=top 24
abbrev nChg:List Str:=["_law_pot_here"]
theorem nmChg:Nm nChg (ze sChg):=nmk (by decide+kernel)
theorem scChg:FnScope nChg ["_law_pot_here"] (ze sChg):=fsk (by decide+kernel)
def retComp1 (s:Stmt):Scope:=match s with
 | .Return (some (.ListComp _ _ sc _)) _=>sc
 | _=>nsc
def retComp2 (s:Stmt):Scope:=match s with
 | .Return (some (.ListComp (.ListComp _ _ sc _) _ _ _)) _=>sc
 | _=>nsc
abbrev X8:Scope:=retComp1 ((zm sChg).getD 0 (.Pass ⟨0,0,0,0⟩))
abbrev cChgI:Scope:=retComp2 ((zm sChg).getD 0 (.Pass ⟨0,0,0,0⟩))
theorem nbChgO:NBScope (ze sChg) X8 ["_law_takes","_law_gives"] [] ["range","len"]:={okind:=by decide+kernel,kind:=by decide+kernel,names:=by decide+kernel,clN:=by decide+kernel,fr:=by decide+kernel,ff:=by decide+kernel,nd:=by decide+kernel,vis:=by decide+kernel,loc:=by decide+kernel,gl:=by decide+kernel}
theorem bsChgI:BScope (ym X8 (ze sChg)) cChgI ["_law_sort"] ["_law_gives","_law_takes"] []:={okind:=by decide+kernel,kind:=by decide+kernel,nocell:=by decide+kernel,names:=by decide+kernel,fr:=by decide+kernel,ff:=by decide+kernel,nd:=by decide+kernel,vis:=by decide+kernel,loc:=by decide+kernel,gl:=by decide+kernel}
def chg (x:List Int×List Int):List Int:=(List.range x.1.length).map fun j=>x.2.getD j 0-x.1.getD j 0
theorem Rls.tab: ∀{rs:List Addr} {tg:Rows},Rls H rs tg m→ ∃xs:List (Addr×Addr×(List Int×List Int)),xs.map (fun z=>z.2.2)=tg∧ ∀(i:Nat) (q:Addr) (x:Addr×Addr×(List Int×List Int)),rs[i]? =some q→xs[i]? =some x→H q=some (.tup [.ref x.1,.ref x.2.1])∧H x.1=some (.tup (x.2.2.1.map V.int))∧H x.2.1=some (.tup (x.2.2.2.map V.int))∧x.2.2.1.length=m∧x.2.2.2.length=m
 | [],[],_=>⟨[],rfl,fun i q x e=>by simp at e⟩
 | [],x::tg,h=>absurd h.1 (by simp)
 | r::rs,[],h=>absurd h.1 (by simp)
 | r::rs,(t,g)::tg,h=>by
  obtain⟨h1,h2,h3,h4,a,b,h5,h6,h7⟩:=h.2 0 r t g rfl rfl;obtain⟨xs,hx,hk⟩:=Rls.tab (rs:=rs) (tg:=tg) ⟨by simpa using h.1,fun i q t' g' e1 e2=>h.2 (i+1) q t' g' (by simpa using e1) (by simpa using e2)⟩;refine⟨(a,b,(t,g))::xs,by simp[hx],fun i q x e1 e2=>?_⟩;cases i with
  | zero=>
   simp at e1 e2;subst e1 e2;exact⟨h5,h6,h7,h1,h2⟩
  | succ i=>exact hk i q x (by simpa using e1) (by simpa using e2)
def rLnT:List V→Hp→VK→Prop:=fun xs H Q=> ∃(p:Addr) (ys:List V),xs=[.ref p]∧H p=some (.tup ys)∧Q (.int ys.length) H
theorem call_lnT:yn X (.builtin "len") rLnT:=fun pins s σ H xs us Q I r h=>zq pins s σ H xs us Q I r (let ⟨p,ys,e,hp,q⟩:=h; ⟨p,ys,e,.inr (SqT.of hp),q⟩)
def ChgAt (H0 H:Hp) (l:Addr) (tg:Rows):Prop:= ∃cs:List Addr,H l=some (.lst (cs.map V.ref))∧cs.length=tg.length∧(∀c∈cs,H0 c=none)∧ ∀(i:Nat) (c:Addr) (x:List Int×List Int),cs[i]? =some c→tg[i]? =some x→H c=some (.lst ((chg x).map V.int))
theorem Same.none(k:Same H H')(h:H' a=none):H a=none:=by
 cases e:H a with
 | none=>rfl
 | some o=>rw[k _ _ e] at h; cases h
def XU:Sp:=fun vs H Q _=> ∃(p:Addr) (m:Nat) (tg:Rows),vs=[.ref p]∧PotK H p m tg∧ ∀l H',Same H H'→ChgAt H H' l tg→H l=none→Q (.ref l) H'
theorem Yz{A:α→Addr→Prop}: ∀{ys:List V} {xs:List α},ys.length=xs.length→(∀(i:Nat) (x:α) (y:V),xs[i]? =some x→ys[i]? =some y→ ∃q,y=V.ref q∧A x q)→ ∃cs:List Addr,ys=cs.map V.ref∧ ∀(i:Nat) (c:Addr) (x:α),cs[i]? =some c→xs[i]? =some x→A x c
 | [],[],_,_=>⟨[],rfl,fun i c x e=>by simp at e⟩
 | [],x::xs,h,_=>absurd h (by simp)
 | y::ys,[],h,_=>absurd h (by simp)
 | y::ys,x::xs,h,k=>by
  obtain⟨q,rfl,hq⟩:=k 0 x y rfl rfl;obtain⟨cs,rfl,hc⟩:=Yz (ys:=ys) (xs:=xs) (by simpa using h) fun i x' y' e1 e2=>k (i+1) x' y' (by simpa using e1) (by simpa using e2);refine⟨q::cs,rfl,fun i c x' e1 e2=>?_⟩;cases i with
  | zero=>
   simp at e1 e2;subst e1 e2;exact hq
  | succ i=>exact hc i c x' (by simpa using e1) (by simpa using e2)
section
variable {P:Program} {w:World} {K:W.Frag} {mg:Str→Option Value} {base:Heap}
theorem ok_Chg(B:BltK mg)(F:Fun K "_law_changes" "_law_changes" sChg f fd):FnOk P w K mg base CX0 1 f fd ["_law_pot_here"] XU:=by
 refine F.ok scChg (fun vs H Q E h=>?_) (fun cdv A outer s H vs Q E hr h=>?_)
 ·obtain⟨p,m,tg,rfl,_⟩:=h;rfl
 obtain⟨p,m,tg,rfl,hp,k⟩:=h;refine'⟨_,?hb,?rd⟩
 case hb=>
  refine' zj ?s1
  case' s1=>refine' zy ?s2
  case s2=>
   refine' vA (ix:=[]) nbChgO.toNScope rfl rfl (yC (ziq (pvd nmChg 0) zg)) ?h4 ?h5 ?h6
   case h4=>
    intro _ _ _ _ _ _;refine' pgb_tupN (n:=2) rfl ?z1
    case' z1=>refine' zH ?z2 ?z3
    case z2=>exact pgbN nbChgO 0
    case' z3=>refine' zH ?z4 yI
    case z4=>exact pgbN nbChgO 1
   case h5=>exact fun _ _ _ _ _ _=>zB
   case h6=>
    intro _ _ _ _ _ _;refine' zR (ix:=[1,0]) bsChgI.toCScope rfl rfl ?i3 ?i4 ?i5 ?i6
    case i3=>
     refine' yN B.range ?i7 (nbChgO.g 0)
     case' i7=>refine' pa_1 ?i8
     case i8=>exact zU call_lnT B.len PySem.boot_len (pa_1 (pvbN nbChgO 0)) (nbChgO.g 1)
    case i4=>exact fun _ _ _ _ _ _=>pgb bsChgI 0
    case i5=>exact fun _ _ _ _ _ _=>zB
    case i6=>exact fun _ _ _ _ _ _=>zo wb (ziq (pvb bsChgI 1) (pvb bsChgI 0)) (ziq (pvb bsChgI 2) (pvb bsChgI 0))
 obtain⟨ps,pr,pin,pb,ans,rs,nmz,e1,e2,e3,e4,hR⟩:=hp.ex;have m8:=hp.m8;have n8:=hp.n8;walk_at"v";refine zN e1 rfl ?_;refine⟨pr,rfl,⟨_,SqT.of e4⟩,fun D hD=>?_⟩;obtain⟨xs,hxt,hx⟩:=hR.tab;have hxl:xs.length=tg.length:=by rw[←hxt,List.length_map]
 have hrl:=hR.1;refine G2.prs_genT (xs:=xs) (ρ:=[]) (fun z=> .ref z.1) (fun z=> .ref z.2.1) (fun z y H'=> ∃q,y= .ref q∧q≠D∧H q=none∧H' q=some (.lst ((chg z.2.2).map V.int))) e4 (by omega) (by omega) (fun i q x e1 e2=>(hx i q x e1 e2).1) (fun x y H' H'' ⟨q,hy,hq,h0,e⟩ k=>⟨q,hy,hq,h0,k _ _ hq e⟩) (fun i x H' ys hxi K' hDz R kR=>?_) (fun ys H1 K1 hyl hP h1=>?_) hD
 ·have hi:i<rs.length:=by
   have:=(List.getElem?_eq_some_iff.mp hxi).1;omega
  obtain⟨f1,f2,f3,f4,f5⟩:=hx i rs[i] x (by simp[hi]) hxi;walk_at"v";refine⟨x.1,_,rfl,K' _ _ f2,?_⟩;rw[List.length_map];refine⟨_,rfl,by omega,by omega,fun d hd=>?_⟩;rw[Int.toNat_natCast];refine G2.rng_map (ρ:=[some (.ref x.2.1),some (.ref x.1)]) (fun j=>x.2.2.2.getD j 0 - x.2.2.1.getD j 0) (by omega) (fun j H2 hj K2 R' kR'=>?_) (fun H2 K2 e2=>?_) hd
  ·have hj2:j<x.2.2.2.length:=by omega
   walk_at"v";refine zN (v:= .int (x.2.2.2.getD j 0)) (K2 _ _ (K' _ _ f3)) (zz (by simp[List.getD_eq_getElem?_getD,hj2])) ?_;walk_at"v";refine zN (v:= .int (x.2.2.1.getD j 0)) (K2 _ _ (K' _ _ f2)) (zz (by simp[List.getD_eq_getElem?_getD,hj])) ?_;walk_at"v";exact kR' _ (Same.refl _)
  ·exact kR _ H2 K2 ⟨d,rfl,Ne.symm (zi hDz hd),Same.none K' hd,e2⟩
 ·obtain⟨cs,rfl,hc⟩:=Yz (A:=fun z q=>H q=none∧H1 q=some (.lst ((chg z.2.2).map V.int))) hyl fun i x y e1 e2=>let ⟨q,hy,_,h0,e⟩:=hP i x y e1 e2; ⟨q,hy,h0,e⟩
  rw[List.length_map] at hyl;refine k D H1 K1 ⟨cs,h1,by omega,fun c hc'=>?_,fun i c x e1 e2=>?_⟩ hD
  ·obtain⟨i,hi,rfl⟩:=List.getElem_of_mem hc';have hix:i<xs.length:=by omega
   exact(hc i cs[i] xs[i] (by simp[hi]) (by simp[hix])).1
  rw[←hxt,List.getElem?_map] at e2;cases ez:xs[i]? with
  | none=>rw[ez] at e2; cases e2
  | some z=>
   rw[ez] at e2;have e3:z.2.2=x:=Option.some.inj e2;rw[←e3];exact(hc i c z e1 ez).2
def Sq2 (H:Hp) (q:Addr) (ys:List Int):Prop:=H q=some (.tup (ys.map V.int))∨H q=some (.lst (ys.map V.int))
theorem Sq2.same(k:Same H H'):Sq2 H q ys→Sq2 H' q ys
 | .inl h=> .inl (k _ _ h)
 | .inr h=> .inr (k _ _ h)
theorem XI(hp:Sq2 H p ys)(hj:j<ys.length)(h:Q (.int (ys.getD j 0)) H):rIxd (.ref p) (.int (j:Int)) H Q:=by
 have e:atI (ys.map V.int) (j:Int)=some (.int (ys.getD j 0)):=zz (by simp[List.getD_eq_getElem?_getD,hj]);rcases hp with hp | hp
 ·exact zN hp e h
 ·exact zA hp e h
theorem ZW{xs ys:List Int}(h:xs.length=ys.length):((List.range xs.length).map fun j=>xs.getD j 0*ys.getD j 0).sum=dz xs ys:=by
 unfold dz;congr 1;refine List.ext_getElem (by simp[h]) fun i h1 h2=>?_;have hi:i<xs.length:=by simpa using h1
 have hi':i<ys.length:=by omega
 simp[List.getD_eq_getElem?_getD,hi,hi']
def Yu:Sp:=fun vs H Q _=> ∃(p q:Addr) (xs ys:List Int),vs=[.ref p,.ref q]∧Sq2 H p xs∧Sq2 H q ys∧xs.length=ys.length∧xs.length≤1000∧(∀x∈xs,EL.Bb x)∧(∀y∈ys,EL.Bb y)∧ ∀H',Same H H'→Q (.int (dz xs ys)) H'
abbrev nDot:List Str:=["_law_one","_law_other"]
theorem nmDot:Nm nDot (ze sDot):=nmk (by decide+kernel)
theorem scDot:FnScope nDot ["_law_one","_law_other"] (ze sDot):=fsk (by decide+kernel)
abbrev cDot:Scope:=retCallComp ((zm sDot).getD 0 (.Pass ⟨0,0,0,0⟩))
theorem bsDot:BScope (ze sDot) cDot ["_law_sort"] ["_law_one","_law_other"] []:={okind:=by decide+kernel,kind:=by decide+kernel,nocell:=by decide+kernel,names:=by decide+kernel,fr:=by decide+kernel,ff:=by decide+kernel,nd:=by decide+kernel,vis:=by decide+kernel,loc:=by decide+kernel,gl:=by decide+kernel}
theorem ok_Dot(B:BltK mg)(F:Fun K "_law_dot" "_law_dot" sDot f fd):FnOk P w K mg base CX0 1 f fd ["_law_one","_law_other"] Yu:=by
 refine F.ok scDot (fun vs H Q E h=>?_) (fun cdv A outer s H vs Q E hr h=>?_)
 ·obtain⟨p,q,xs,ys,rfl,_⟩:=h;rfl
 obtain⟨p,q,xs,ys,rfl,hp,hq,hl,hn,bx,by',k⟩:=h;refine'⟨_,?hb,?rd⟩
 case hb=>
  refine' zj ?s1
  case' s1=>refine' zy ?p1
  case' p1=>refine' zU (call_sum rfl) B.sum PyProof.Rows.boot_sum ?q1
  case' q1=>refine' pa_1 ?u1
  case u1=>
   refine' zR (ix:=[0,1]) bsDot.toCScope rfl rfl ?h3 ?h4 ?h5 ?h6
   case h3=>exact yN B.range (pa_1 (zU zq B.len PySem.boot_len (pa_1 (pvd nmDot 0))))
   case h4=>exact fun _ _ _ _ _ _=>pgb bsDot 0
   case h5=>exact fun _ _ _ _ _ _=>zB
   case h6=>exact fun _ _ _ _ _ _=>zo xo (ziq (pvb bsDot 1) (pvb bsDot 0)) (ziq (pvb bsDot 2) (pvb bsDot 0))
 walk_at"v";refine⟨p,xs.map V.int,rfl,hp.elim (fun e=> .inr (SqT.of e)) (fun e=> .inl (SqL.of e)),?_⟩;rw[List.length_map];walk_at"v";refine⟨_,rfl,by omega,by omega,fun D hD=>?_⟩;rw[Int.toNat_natCast];refine G2.rng_map (ρ:=[some (.ref p),some (.ref q)]) (fun j=>xs.getD j 0*ys.getD j 0) (by omega) (fun j H' hj K' R kR=>?_) (fun H1 K1 e1=>?_) hD
 ·have hj':j<ys.length:=by omega
  walk_at"v";refine XI (hp.same K') hj ?_;walk_at"v";refine XI (hq.same K') hj' ?_;refine w_rI (EL.mulBb (by rw[List.getD_eq_getElem?_getD,List.getElem?_eq_getElem hj]; exact bx _ (List.getElem_mem hj)) (by rw[List.getD_eq_getElem?_getD,List.getElem?_eq_getElem hj']; exact by' _ (List.getElem_mem hj'))) ?_;exact kR _ (Same.refl _)
 walk_at"v";refine⟨D,_,rfl,e1,?_⟩;rw[ZW hl];exact k _ K1
end
end K16
namespace K16
open PySem L2 G2
local macro_rules | `(tactic| walk_at "v") => `(tactic| repeat (with_reducible first
  | refine xg ?_ | refine yL ?_ | refine zM ?_ | refine w_op ?_ | refine yt rfl ?_ | refine w_c ?_ | refine xF ?_ | refine xG ?_ | refine xH ?_ | refine yP ?_ | refine w_tb ?_ | refine w_bl ?_ | refine w_not ?_ | refine xj ?_ | refine w_retN ?_
  | refine yK ?_ | refine yh ?_ | refine xu ?_ | refine y9 ?_ | refine w_cb ?_ | refine yV ?_ | refine yQ ?_ | refine xI ?_ | refine w_or ?_ | refine yg ?_ | refine zZ ?_ | refine yO ?_ | refine yp ?_ | refine yo ?_ | refine yS ?_ | refine yR ?_ | refine yT ?_ | refine yU ?_ | refine w_bm ?_ | refine yF ?_ | refine yG ?_ | refine w_chain ?_ | refine w_sl ?_ | refine zT ?_ | refine yy ?_ | refine x5 ?_ | refine iteT ?_ | refine iteF ?_))
open WG
theorem SameB.at_(k:SameB x H H'):SameB x H (upd H' x o):=fun a u n e=>by rw[zh n]; exact k a u n e
theorem SameB.same(k:SameB x H H')(b:Same H' H2):SameB x H H2:=fun a u n e=>b _ _ (k a u n e)
theorem SameB.free(k:SameB x H H')(n:a≠x)(h:H' a=none):H a=none:=by
 cases e:H a with
 | none=>rfl
 | some u=>rw[k a u n e] at h; cases h
abbrev tFs (n:Nat) (D:Int) (pr pu pc:Addr) (t:Nat):List (Str×V):=[("many",.int (n:Int)),("bottom",.int D),("rows",.ref pr),("row_unknowns",.ref pu),("column_unknowns",.ref pc),("turns",.int (t:Int))]
def rowV (n:Nat) (f:Nat→Int):List V:=(List.range (n+1)).map fun k=>V.int (f k)
def natV (m:Nat) (f:Nat→Nat):List V:=(List.range m).map fun r=>V.int ((f r:Nat):Int)
theorem yz{f:Nat→Int}:(rowV n f).length=n+1:=by simp[rowV]
theorem yb{f:Nat→Nat}:(natV n f).length=n:=by simp[natV]
theorem yi{f:Nat→Int}(h:k≤n):(rowV n f)[k]? =some (.int (f k)):=by
 unfold rowV;rw[List.getElem?_map,List.getElem?_range (by omega)];rfl
theorem yq{f:Nat→Nat}(h:k<n):(natV n f)[k]? =some (.int ((f k:Nat):Int)):=by
 unfold natV;rw[List.getElem?_map,List.getElem?_range h];rfl
theorem wQ{f:Nat→Int}:atI (rowV n f) (-1)=some (.int (f n)):=by
 unfold atI ixN;rw[if_neg (by omega),yz,if_pos (by omega),Option.bind_some,show((-1:Int)+((n+1:Nat):Int)).toNat=n by omega];exact yi (Nat.le_refl _)
theorem ve{f:Nat→Int}{ys:List V}(hl:ys.length=n+1)(h: ∀k,k≤n→ys[k]? =some (.int (f k))):ys=rowV n f:=by
 refine List.ext_getElem? fun k=>?_;by_cases hk:k≤n
 ·rw[h k hk,yi hk]
 ·rw[List.getElem?_eq_none (by omega),List.getElem?_eq_none (by rw[yz]; omega)]
theorem YE{f:Nat→Nat}{ys:List V}(hl:ys.length=n)(h: ∀k,k<n→ys[k]? =some (.int ((f k:Nat):Int))):ys=natV n f:=by
 refine List.ext_getElem? fun k=>?_;by_cases hk:k<n
 ·rw[h k hk,yq hk]
 ·rw[List.getElem?_eq_none (by omega),List.getElem?_eq_none (by rw[yb]; omega)]
structure TC (K:W.Frag) (C:Addr):Prop where
 c:Cls K C
 n1:NoAttr K C "many"
 n2:NoAttr K C "bottom"
 n3:NoAttr K C "rows"
 n4:NoAttr K C "row_unknowns"
 n5:NoAttr K C "column_unknowns"
 n6:NoAttr K C "turns"
structure TbA (H:Hp) (C o:Addr) (n m:Nat) (S:Tb) (t:Nat) (dx pr pu pc:Addr) (ras:List Addr):Prop where
 ob:H o=some (.ins C dx (tFs n S.D pr pu pc t))
 rs:H pr=some (.lst (ras.map V.ref))
 rl:ras.length=m
 ra: ∀r a,ras[r]? =some a→H a=some (.lst (rowV n (S.M (S.ru r))))
 ru:H pu=some (.lst (natV m S.ru))
 cu:H pc=some (.lst (natV n S.cu))
 ne:pu≠pc
def TbAt (H:Hp) (C o:Addr) (n m:Nat) (S:Tb) (t:Nat):Prop:= ∃dx pr pu pc ras,TbA H C o n m S t dx pr pu pc ras
theorem TbA.same(h:TbA H C o n m S t dx pr pu pc ras)(k: ∀a u,H a=some u→(∀ps,u≠.tbl ps)→H' a=some u):TbA H' C o n m S t dx pr pu pc ras:=
 ⟨k _ _ h.ob (fun _ z=>by cases z),k _ _ h.rs (fun _ z=>by cases z),h.rl,fun r a e=>k _ _ (h.ra r a e) (fun _ z=>by cases z),k _ _ h.ru (fun _ z=>by cases z),k _ _ h.cu (fun _ z=>by cases z),h.ne⟩
theorem TbA.row(h:TbA H C o n m S t dx pr pu pc ras)(hr:r<m): ∃a,ras[r]? =some a∧H a=some (.lst (rowV n (S.M (S.ru r)))):=by
 have hl:=h.rl;exact⟨ras[r],List.getElem?_eq_getElem (by omega),h.ra r _ (List.getElem?_eq_getElem (by omega))⟩
abbrev sLo:Stmt:=wE (top 9) 2
abbrev nLo:List Str:=["self","row"]
theorem nmLo:Nm nLo (ze sLo):=nmk (by decide+kernel)
theorem scLo:FnScope nLo ["self","row"] (ze sLo):=fsk (by decide+kernel)
def spLo (C:Addr):Sp:=fun vs H Q _=> ∃(o:Addr) (r n m:Nat) (S:Tb) (t:Nat),vs=[.ref o,.int (r:Int)]∧TbAt H C o n m S t∧r<m∧Q (.bl (decide (n≤S.ru r)&&decide (S.M (S.ru r) n<0))) H
section
variable {P:Program} {w:World} {K:W.Frag} {mg:Str→Option Value} {base:Heap}
theorem ok_Lo(R:TC K C)(F:Fun K "is_low" "Tableau.is_low" sLo f fd):FnOk P w K mg base CX0 1 f fd ["self","row"] (spLo C):=by
 refine F.ok scLo (fun vs H Q E h=>?_) (fun cdv A outer s H vs Q E hr h=>?_)
 ·obtain⟨o,r,n,m,S,t,rfl,_⟩:=h;rfl
 obtain⟨o,r,n,m,S,t,rfl,⟨dx,pr,pu,pc,ras,T⟩,hr',k⟩:=h;refine'⟨_,?hb,?rd⟩
 case' hb=>skip
 case' hb=>refine' zj ?g1
 case g1=>exact zy (Xg (xD Xi (ziq (zG (pvd nmLo 0) rfl) (pvd nmLo 1)) (zG (pvd nmLo 0) rfl) (zv _)) (Xd (xD x8 (ziq (ziq (zG (pvd nmLo 0) rfl) (pvd nmLo 1)) (w9 xL zg)) zg (zv _))))
 obtain⟨a,e1,e2⟩:=T.row hr';walk_at"v";refine zQ ?_;walk_at"v";refine⟨o,C,_,_,_,rfl,T.ob,R.c,R.n4,rfl,?_⟩;walk_at"v";refine zA (v:= .int ((S.ru r:Nat):Int)) T.ru (zz (yq hr')) ?_;walk_at"v";refine zQ ?_;walk_at"v";refine⟨o,C,_,_,_,rfl,T.ob,R.c,R.n1,rfl,?_⟩;walk_at"v";refine iteD (fun h1=>?_) (fun h1=>?_)
 ·walk_at"v";refine zQ ?_;walk_at"v";refine⟨o,C,_,_,_,rfl,T.ob,R.c,R.n3,rfl,?_⟩;walk_at"v";refine zA (v:= .ref a) T.rs (zz (by rw[List.getElem?_map,e1]; rfl)) ?_;walk_at"v";refine⟨_,rfl,?_⟩;refine zA e2 wQ ?_;walk_at"v";rw[decide_eq_true (show n≤S.ru r by omega),Bool.true_and] at k;exact k
 ·rw[decide_eq_false (show¬n≤S.ru r by omega),Bool.false_and] at k;exact k
abbrev sSo:Stmt:=wE (top 9) 4
abbrev nSo:List Str:=["self","column"]
theorem nmSo:Nm nSo (ze sSo):=nmk (by decide+kernel)
theorem scSo:FnScope nSo ["self","column"] (ze sSo):=fsk (by decide+kernel)
def spSo (C:Addr):Sp:=fun vs H Q _=> ∃(o:Addr) (c n m:Nat) (S:Tb) (t:Nat),vs=[.ref o,.int (c:Int)]∧TbAt H C o n m S t∧c<n∧Q (.bl (decide (S.cu c<n))) H
theorem ok_So(R:TC K C)(F:Fun K "is_sought" "Tableau.is_sought" sSo f fd):FnOk P w K mg base CX0 1 f fd ["self","column"] (spSo C):=by
 refine F.ok scSo (fun vs H Q E h=>?_) (fun cdv A outer s H vs Q E hr h=>?_)
 ·obtain⟨o,c,n,m,S,t,rfl,_⟩:=h;rfl
 obtain⟨o,c,n,m,S,t,rfl,⟨dx,pr,pu,pc,ras,T⟩,hc,k⟩:=h;refine'⟨_,?hb,?rd⟩
 case' hb=>skip
 case' hb=>refine' zj ?g1
 case g1=>exact zy (xD x8 (ziq (zG (pvd nmSo 0) rfl) (pvd nmSo 1)) (zG (pvd nmSo 0) rfl) (zv _))
 walk_at"v";refine zQ ?_;walk_at"v";refine⟨o,C,_,_,_,rfl,T.ob,R.c,R.n5,rfl,?_⟩;walk_at"v";refine zA (v:= .int ((S.cu c:Nat):Int)) T.cu (zz (yq hc)) ?_;walk_at"v";refine zQ ?_;walk_at"v";refine⟨o,C,_,_,_,rfl,T.ob,R.c,R.n1,rfl,?_⟩;walk_at"v";rw[show decide (((S.cu c:Nat):Int)<(n:Int))=decide (S.cu c<n) by simp];exact k
abbrev sTi:Stmt:=wE (top 9) 0
abbrev nTi:List Str:=["self","many","problem"]
theorem nmTi:Nm nTi (ze sTi):=nmk (by decide+kernel)
theorem scTi:FnScope nTi ["self","many","problem"] (ze sTi):=fsk (by decide+kernel)
def qTia (s:Stmt):Scope:=match s with
 | .Assign _ (.ListComp _ _ sc _) _=>sc
 | _=>nsc
abbrev cTia:Scope:=qTia ((zm sTi).getD 2 (.Pass ⟨0,0,0,0⟩))
theorem bsTia:BScope (ze sTi) cTia ["by","plus"] [] ["list"]:={okind:=by decide+kernel,kind:=by decide+kernel,nocell:=by decide+kernel,names:=by decide+kernel,fr:=by decide+kernel,ff:=by decide+kernel,nd:=by decide+kernel,vis:=by decide+kernel,loc:=by decide+kernel,gl:=by decide+kernel}
def qTib (s:Stmt):Scope:=match s with
 | .Assign _ (.ListComp _ _ sc _) _=>sc
 | _=>nsc
abbrev cTib:Scope:=qTib ((zm sTi).getD 3 (.Pass ⟨0,0,0,0⟩))
theorem bsTib:BScope (ze sTi) cTib ["number"] ["many"] []:={okind:=by decide+kernel,kind:=by decide+kernel,nocell:=by decide+kernel,names:=by decide+kernel,fr:=by decide+kernel,ff:=by decide+kernel,nd:=by decide+kernel,vis:=by decide+kernel,loc:=by decide+kernel,gl:=by decide+kernel}
structure PrA (H:Hp) (n:Nat) (rows:List (List Int×Int)) (l:Addr) (ras bas:List Addr):Prop where
 ob:H l=some (.lst (ras.map V.ref))
 rl:ras.length=rows.length
 bl:bas.length=rows.length
 at_: ∀(i:Nat) (by_:List Int) (p:Int),rows[i]? =some (by_,p)→ ∃a b,ras[i]? =some a∧bas[i]? =some b∧H a=some (.tup [.ref b,.int p])∧H b=some (.tup (by_.map V.int))
 wd: ∀r∈rows,r.1.length=n
def PrAt (H:Hp) (n:Nat) (rows:List (List Int×Int)) (l:Addr):Prop:= ∃ras bas,PrA H n rows l ras bas
theorem PrA.same(h:PrA H n rows l ras bas)(k: ∀a u,H a=some u→(∀ps,u≠.tbl ps)→H' a=some u):PrA H' n rows l ras bas:=
 ⟨k _ _ h.ob (fun _ z=>by cases z),h.rl,h.bl,fun i b p e=>let ⟨a,c,e1,e2,e3,e4⟩:=h.at_ i b p e; ⟨a,c,e1,e2,k _ _ e3 (fun _ z=>by cases z),k _ _ e4 (fun _ z=>by cases z)⟩,h.wd⟩
theorem Yd{H:Hp}{x C dx:Addr}{fs:List (Str×V)}(h:H x=some (.ins C dx fs)): ∀a u,H a=some u→(∀C dx fs,u≠.ins C dx fs)→a≠x:=fun a u e n z=>by rw[z,h] at e; cases e; exact n _ _ _ rfl
theorem PrA.bp(h:PrA H n rows l ras bas)(hx: ∀a u,H a=some u→(∀C dx fs,u≠.ins C dx fs)→a≠x)(k:SameB x H H'):PrA H' n rows l ras bas:=
 ⟨k _ _ (hx _ _ h.ob fun _ _ _ z=>by cases z) h.ob,h.rl,h.bl,fun i b p e=>let ⟨a,c,e1,e2,e3,e4⟩:=h.at_ i b p e; ⟨a,c,e1,e2,k _ _ (hx _ _ e3 fun _ _ _ z=>by cases z) e3,k _ _ (hx _ _ e4 fun _ _ _ z=>by cases z) e4⟩,h.wd⟩
def vec (n:Nat) (rows:List (List Int×Int)) (u j:Nat):Int:=if u<n then (if j=u then 1 else 0) else match rows[u-n]? with
 | some (b,p)=>if j<n then b.getD j 0 else if j=n then p else 0
 | none=>0
def tb0 (n:Nat) (rows:List (List Int×Int)):Tb:=⟨1,vec n rows,fun r=>n+r,fun c=>c⟩
def spTi (C:Addr):Sp:=fun vs H Q _=> ∃(x dx l:Addr) (n:Nat) (rows:List (List Int×Int)),vs=[.ref x,.int (n:Int),.ref l]∧H x=some (.ins C dx [])∧PrAt H n rows l∧n≤40∧rows.length≤60∧ ∀H' dx pr pu pc ras,(∀a u,a≠x→H a=some u→H' a=some u)→TbA H' C x n rows.length (tb0 n rows) 0 dx pr pu pc ras→H pu=none→H pc=none→Q .non H'
theorem ok_Ti(R:TC K C)(B:Bl mg)(F:Fun K "__init__" "Tableau.__init__" sTi f fd):FnOk P w K mg base CX0 1 f fd ["self","many","problem"] (spTi C):=by
 refine F.ok scTi (fun vs H Q E h=>?_) (fun cdv A outer s H vs Q E hr h=>?_)
 ·obtain⟨x,dx,l,n,rows,rfl,_⟩:=h;rfl
 obtain⟨x,dx,l,n,rows,rfl,hx,⟨ras,bas,P0⟩,hn,hm,k⟩:=h;refine'⟨_,?hb,?rd⟩
 case' hb=>skip
 case' hb=>refine' zd ?g1 ?g2
 case' g2=>refine' zd ?g3 ?g4
 case' g4=>refine' zd ?g5 ?g6
 case' g6=>refine' zd ?g7 ?g8
 case' g8=>refine' zd ?g9 ?g10
 case' g10=>refine' zj ?g11
 case g1=>exact xN (pvd nmTi 0) (pvd nmTi 1) rfl
 case g3=>exact xN (pvd nmTi 0) zg rfl
 case' g5=>refine' xN (pvd nmTi 0) ?g12 rfl
 case' g12=>refine' zR (ix:=[]) bsTia.toCScope rfl rfl ?g13 ?g14 ?g15 ?g16
 case g13=>exact xm (pvd nmTi 2)
 case g14=>
  intro _ _ _ _ _ _;refine' wz (n:=2) rfl ?g17
  case' g17=>refine' zH ?g21 ?g20
  case g21=>exact pgb bsTia 0
  case' g20=>refine' zH ?g23 yI
  case g23=>exact pgb bsTia 1
 case g15=>exact fun _ _ _ _ _ _=>zB
 case g16=>exact fun _ _ _ _ _ _=>zo Yb (ya EL.call_listS B.list PyProof.Rows.boot_list (pa_1 (pvb bsTia 0)) (bsTia.g 0)) (yk (pa_1 (pvb bsTia 1)))
 case' g7=>refine' xN (pvd nmTi 0) ?g24 rfl
 case' g24=>refine' zR (ix:=[1]) bsTib.toCScope rfl rfl ?g25 ?g26 ?g27 ?g28
 case g25=>exact yN B.range (pa_1 (zU zq B.len PySem.boot_len (pa_1 (pvd nmTi 2))))
 case g26=>exact fun _ _ _ _ _ _=>pgb bsTib 0
 case g27=>exact fun _ _ _ _ _ _=>zB
 case g28=>exact fun _ _ _ _ _ _=>zo zP (pvb bsTib 1) (pvb bsTib 0)
 case g9=>exact xN (pvd nmTi 0) (ya (wL rfl) B.list PyProof.Rows.boot_list (pa_1 (ya vd B.range PyProof.Rows.boot_range (pa_1 (pvd nmTi 1))))) rfl
 case g11=>exact xN (pvd nmTi 0) zg rfl
 walk_at"v";refine xK ?_;walk_at"v";refine⟨x,C,dx,_,rfl,hx,R.c,R.n1,by show 0<1000; decide,?_⟩;walk_at"v";refine xK ?_;walk_at"v";refine⟨x,C,dx,_,rfl,zf,R.c,R.n2,by show 1<1000; decide,?_⟩;walk_at"v";rw[wk];have b1:SameB x H (upd H x (.ins C dx (putF "bottom" (.int 1) (putF "many" (.int (n:Int)) [])))):=SameB.at_ SameB.refl;have e1:upd H x (.ins C dx (putF "bottom" (.int 1) (putF "many" (.int (n:Int)) []))) x=some (.ins C dx (putF "bottom" (.int 1) (putF "many" (.int (n:Int)) []))):=zf;generalize upd H x (.ins C dx (putF "bottom" (.int 1) (putF "many" (.int (n:Int)) [])))=H1 at b1 e1 ⊢;have P1:=P0.bp (Yd hx) b1;refine xK ?_;walk_at"v";refine⟨l,rfl,⟨_,SqL.of P1.ob⟩,fun D1 hD1=>?_⟩;refine nl_prs (fun i=>rowV n (vec n rows (n+i))) hD1 P1.ob (by have:=P1.rl; omega) (fun i r H' hri K'=>?_) (fun as2 H2 N2 e2=>?_)
 ·obtain⟨by_,p,hrow⟩: ∃b p,rows[i]? =some (b,p):=by
   have h1:=(List.getElem?_eq_some_iff.mp hri).1;have h2:=P1.rl;exact⟨rows[i].1,rows[i].2,List.getElem?_eq_getElem (by omega)⟩
  obtain⟨a,b,f1,f2,f3,f4⟩:=P1.at_ i by_ p hrow;rw[f1] at hri;cases hri
  refine⟨.ref b,.int p,K' _ _ f3,fun R' kR=>?_⟩;walk_at"v";refine⟨b,_,rfl,.inl (K' _ _ f4),fun l1 hl1=>?_⟩;walk_at"v";refine⟨sz1,fun l2 hl2=>?_⟩;have n12:l1≠l2:=fun z=>by rw[←z,zf] at hl2; cases hl2
  have hbl:by_.length=n:=P1.wd _ (List.mem_of_getElem? hrow);refine⟨l1,l2,_,_,rfl,rfl,by rw[zh n12,zf],zf,by rw[List.length_map]; show _+1≤sizeLine; exact Nat.le_trans (show by_.length+1≤1000 by omega) (by decide),fun l3 hl3=>?_⟩;have q2:Same H' (upd (upd H' l1 (.lst (by_.map V.int))) l2 (.lst [.int p])):=(Same.new (Same.refl _) hl1).new hl2;refine kR l3 _ (q2.new hl3) (Same.free q2 hl3) ?_;rw[zf];congr 2;refine ve (by simp[hbl]) fun k hk=>?_;have hv: ∀j,vec n rows (n+i) j=if j<n then by_.getD j 0 else if j=n then p else 0:=fun j=>by
   unfold vec;rw[if_neg (by omega),show n+i-n=i by omega,hrow]
  rw[hv];by_cases hk2:k<n
  ·rw[if_pos hk2,List.getElem?_append_left (by simp[hbl,hk2]),List.getElem?_map,List.getElem?_eq_getElem (by omega),List.getD_eq_getElem?_getD,List.getElem?_eq_getElem (by omega)];rfl
  ·rw[if_neg hk2,if_pos (by omega),List.getElem?_append_right (by simp[hbl]; omega),show k-(by_.map V.int).length=0 by simp[hbl]; omega];rfl
 ·have nD1:D1≠x:=fun z=>by rw[z,e1] at hD1; cases hD1
  walk_at"v";refine⟨x,C,dx,_,rfl,N2.sm _ _ e1,R.c,R.n3,by show 2<1000; decide,?_⟩;have b3:SameB x H (upd H2 x (.ins C dx (putF "rows" (.ref D1) (putF "bottom" (.int 1) (putF "many" (.int (n:Int)) []))))):=SameB.at_ (SameB.same b1 N2.sm);have g3: ∀a u,a≠x→H2 a=some u→upd H2 x (.ins C dx (putF "rows" (.ref D1) (putF "bottom" (.int 1) (putF "many" (.int (n:Int)) [])))) a=some u:=fun a u n e=>by rw[zh n]; exact e
  have e3:upd H2 x (.ins C dx (putF "rows" (.ref D1) (putF "bottom" (.int 1) (putF "many" (.int (n:Int)) [])))) x=some (.ins C dx (putF "rows" (.ref D1) (putF "bottom" (.int 1) (putF "many" (.int (n:Int)) [])))):=zf;generalize upd H2 x (.ins C dx (putF "rows" (.ref D1) (putF "bottom" (.int 1) (putF "many" (.int (n:Int)) []))))=H3 at b3 g3 e3 ⊢;have P3:=P0.bp (Yd hx) b3;walk_at"v";refine xK ?_;walk_at"v";refine⟨l,_,rfl,.inl (SqL.of P3.ob),?_⟩;walk_at"v";refine⟨_,rfl,by rw[List.length_map]; have:=P3.rl; omega,by rw[List.length_map]; have:=P3.rl; omega,fun D2 hD2=>?_⟩;rw[List.length_map,P3.rl,Int.toNat_natCast];refine ZB (fun i=>V.int ((n+i:Nat):Int)) (by omega) hD2 (fun i hi H' K' R' kR=>?_) (fun H4 K4 e4=>?_)
  ·walk_at"v";have:=kR H' (Same.refl _);rw[show((n+i:Nat):Int)=(n:Int)+(0+(i:Int)) by omega] at this;exact this
  have nD2:D2≠x:=fun z=>by rw[z,e3] at hD2; cases hD2
  walk_at"v";refine⟨x,C,dx,_,rfl,K4 _ _ e3,R.c,R.n4,by show 3<1000; decide,?_⟩;have b5:SameB x H (upd H4 x (.ins C dx (putF "row_unknowns" (.ref D2) (putF "rows" (.ref D1) (putF "bottom" (.int 1) (putF "many" (.int (n:Int)) [])))))):=SameB.at_ (SameB.same b3 K4);have g5: ∀a u,a≠x→H4 a=some u→upd H4 x (.ins C dx (putF "row_unknowns" (.ref D2) (putF "rows" (.ref D1) (putF "bottom" (.int 1) (putF "many" (.int (n:Int)) []))))) a=some u:=fun a u n e=>by rw[zh n]; exact e
  have e5:upd H4 x (.ins C dx (putF "row_unknowns" (.ref D2) (putF "rows" (.ref D1) (putF "bottom" (.int 1) (putF "many" (.int (n:Int)) []))))) x=some (.ins C dx (putF "row_unknowns" (.ref D2) (putF "rows" (.ref D1) (putF "bottom" (.int 1) (putF "many" (.int (n:Int)) []))))):=zf;generalize upd H4 x (.ins C dx (putF "row_unknowns" (.ref D2) (putF "rows" (.ref D1) (putF "bottom" (.int 1) (putF "many" (.int (n:Int)) [])))))=H5 at b5 g5 e5 ⊢;walk_at"v";refine xK ?_;walk_at"v";refine⟨_,rfl,fun rg hrg=>?_⟩;walk_at"v";refine⟨rg,n,rfl,zf,by omega,fun D3 hD3=>?_⟩;have K6:Same H5 (upd (upd H5 rg (.rng 0 (n:Int))) D3 (.lst ((List.range n).map fun(i:Nat)=>V.int (i:Int)))):=(Same.new (Same.refl _) hrg).new hD3;have e6:upd (upd H5 rg (.rng 0 (n:Int))) D3 (.lst ((List.range n).map fun(i:Nat)=>V.int (i:Int))) D3=some (.lst ((List.range n).map fun(i:Nat)=>V.int (i:Int))):=zf;have hD3':H5 D3=none:=Same.free (Same.new (Same.refl _) hrg) hD3;generalize upd (upd H5 rg (.rng 0 (n:Int))) D3 (.lst ((List.range n).map fun(i:Nat)=>V.int (i:Int)))=H6 at K6 e6 ⊢;have nD3:D3≠x:=fun z=>by rw[z,e5] at hD3'; cases hD3'
  walk_at"v";refine⟨x,C,dx,_,rfl,K6 _ _ e5,R.c,R.n5,by show 4<1000; decide,?_⟩;dsimp only;refine xK ?_;walk_at"v";refine⟨x,C,dx,_,rfl,zf,R.c,R.n6,by show 5<1000; decide,?_⟩;rw[wk];have f6: ∀a u,a≠x→H6 a=some u→ ∀o:HO,upd H6 x o a=some u:=fun a u n e o=>by rw[zh n]; exact e
  refine k _ dx D1 D2 D3 as2 (fun a u na e=>f6 a u na (K6 _ _ (b5 a u na e)) _) ⟨zf,?_,by rw[N2.len,P1.rl],fun r a ha=>?_,?_,?_,?_⟩ (SameB.free b3 nD2 hD2) (SameB.free b5 nD3 hD3')
  ·exact f6 _ _ nD1 (K6 _ _ (g5 _ _ nD1 (K4 _ _ (g3 _ _ nD1 e2)))) _
  ·have na:a≠x:=fun z=>by
    have:=N2.nw a (List.mem_of_getElem? ha);rw[z,e1] at this; cases this
   exact f6 _ _ na (K6 _ _ (g5 _ _ na (K4 _ _ (g3 _ _ na (N2.at_ r a ha))))) _
  ·exact f6 _ _ nD2 (K6 _ _ (g5 _ _ nD2 e4)) _
  ·exact f6 _ _ nD3 e6 _
  ·intro z;have h4:=g5 D2 _ nD2 e4;rw[z,hD3'] at h4;cases h4
end
end K16
namespace K16
open PySem L2 G2 WG
local macro_rules | `(tactic| walk_at "v") => `(tactic| repeat (with_reducible first
  | refine xg ?_ | refine yL ?_ | refine zM ?_ | refine w_op ?_ | refine yt rfl ?_ | refine w_c ?_ | refine xF ?_ | refine xG ?_ | refine xH ?_ | refine yP ?_ | refine w_tb ?_ | refine w_bl ?_ | refine w_not ?_ | refine xj ?_ | refine w_retN ?_
  | refine yK ?_ | refine yh ?_ | refine xu ?_ | refine y9 ?_ | refine w_cb ?_ | refine yV ?_ | refine yQ ?_ | refine xI ?_ | refine w_or ?_ | refine yg ?_ | refine zZ ?_ | refine yO ?_ | refine yp ?_ | refine yo ?_ | refine yS ?_ | refine yR ?_ | refine yT ?_ | refine yU ?_ | refine w_bm ?_ | refine yF ?_ | refine yG ?_ | refine w_chain ?_ | refine w_sl ?_ | refine zT ?_ | refine yy ?_ | refine x5 ?_ | refine iteT ?_ | refine iteF ?_))
section
variable {D:Addr} {tc:TT} {Q:VK} {ρ:St} {H:Hp}
theorem Yh(p:Nat→Bool)(hn:n≤1000)(hD:H D=none)
  (h: ∀i,i<n→ ∀H',Same H H'→ ∀R:Bool→Hp→Prop,(∀H'',Same H' H''→R (p i) H'')→tc (some (.int (0+(i:Int)))::ρ) H' R)
  (q: ∀H',Same H H'→H' D=some (.lst ((((List.range n).filter p).map fun(i:Nat)=>(i:Int)).map V.int))→Q (.ref D) H'):CGo (Itr 0 n) D (zI 0) tc (tVar 0) Q (none::ρ) H:=by
 refine yw (fun i ys H'=>ys=(((List.range i).filter p).map fun(i:Nat)=>(i:Int)).map V.int∧Same H H') ⟨rfl,Same.new (Same.refl _) hD⟩ ?_ ?_
 ·rintro i ys H' hi ⟨rfl,K'⟩ hDz R S kR kS;refine h i hi H' K' _ fun H'' K''=>?_;have hl:((((List.range i).filter p).map fun(i:Nat)=>(i:Int)).map V.int).length≤i:=by
   rw[List.length_map,List.length_map];exact Nat.le_trans (List.length_filter_le _ _) (by simp)
  by_cases hp:p i=true
  ·rw[if_pos hp];refine⟨_,rfl,kR _ _ (K'' _ _ hDz) (zu (by omega)) ⟨?_,((K'.trans K'').put hD)⟩⟩;rw[List.range_succ,List.filter_append,List.map_append,List.map_append,List.filter_cons_of_pos hp];simp
  ·rw[if_neg hp];refine kS _ (K'' _ _ hDz) ⟨?_,K'.trans K''⟩;rw[List.range_succ,List.filter_append,List.map_append,List.map_append,List.filter_cons_of_neg hp];simp
 ·rintro ys H' ⟨rfl,K'⟩ hD';exact q H' K' hD'
end
theorem Z4(h:ta σ H fun x H1=> ∃(l:Addr) (ns:List Int) (kf:Int→Int),x= .ref l∧H1 l=some (.lst (ns.map V.int))∧TabAt H1 P (lamQ X)∧
 (∀H',SameB P H1 H'→ ∀i∈ns,te (some (.int i)::sub ix σ) H' (fun y H''=>H''=H'∧y= .int (kf i)))∧
 ∀H' ob,SameB P H1 H'→TabAt H' P (lamQ X)→(ob=none→ns=[])→(∀b,ob=some b→b∈ns∧ ∀i∈ns,kf b≤kf i)→Q (ob.elim V.non V.int) H'):XO X P ix ta te σ H Q:=h
theorem w_maxK(h:ta σ H fun x H1=> ∃(l:Addr) (ns:List Int) (kf:Int→Int),x= .ref l∧H1 l=some (.lst (ns.map V.int))∧TabAt H1 P (lamQ X)∧
 (∀H',SameB P H1 H'→ ∀i∈ns,te (some (.int i)::sub ix σ) H' (fun y H''=>H''=H'∧y= .int (kf i)))∧
 ∀H' ob,SameB P H1 H'→TabAt H' P (lamQ X)→(ob=none→ns=[])→(∀b,ob=some b→b∈ns∧ ∀i∈ns,kf i≤kf b)→Q (ob.elim V.non V.int) H'):XQ X P ix ta te σ H Q:=h
abbrev qLr:Str:=("Tableau.low_row":Str)++".<locals>."++"<lambda>"
abbrev qCf:Str:=("Tableau.column_for":Str)++".<locals>."++"<lambda>"
theorem TbA.tab(h:TbA H C o n m S t dx pr pu pc ras)(hT:TabAt H pt q)(k:SameB pt H H'):TbA H' C o n m S t dx pr pu pc ras:=
 h.same fun a u e n=>k a u (fun z=>by obtain⟨tb,e',_⟩:=hT; rw[z,e'] at e; cases e; exact n _ rfl) e
abbrev sLr:Stmt:=wE (top 9) 1
abbrev nLr:List Str:=["self","low"]
theorem nmLr:Nm nLr (ze sLr):=nmk (by decide+kernel)
theorem scLr:FnScope nLr ["self"] (ze sLr):=fsk (by decide+kernel)
def qLra (s:Stmt):Scope:=match s with
 | .Assign _ (.ListComp _ _ sc _) _=>sc
 | _=>nsc
abbrev cLra:Scope:=qLra ((zm sLr).getD 0 (.Pass ⟨0,0,0,0⟩))
theorem bsLra:BScope (ze sLr) cLra ["row"] ["self"] []:={okind:=by decide+kernel,kind:=by decide+kernel,nocell:=by decide+kernel,names:=by decide+kernel,fr:=by decide+kernel,ff:=by decide+kernel,nd:=by decide+kernel,vis:=by decide+kernel,loc:=by decide+kernel,gl:=by decide+kernel}
theorem loLr_1:(ze sLr).names.lookup ("low":Str)=some .local:=by decide+kernel
def qLrp (s:Stmt):Scope:=match s with
 | .If _ [.Return (some (.Call _ _ [⟨_,(.Lambda _ _ sc _),_⟩,_] _)) _] _ _=>sc
 | _=>nsc
abbrev cLrp:Scope:=qLrp ((zm sLr).getD 1 (.Pass ⟨0,0,0,0⟩))
theorem Xm:LScope (ze sLr) cLrp "row" ["self"]:=⟨rfl,rfl,rfl,by decide+kernel,by decide+kernel,by decide+kernel,by decide+kernel,by decide+kernel⟩
def qLrq (s:Stmt):Scope:=match s with
 | .Return (some (.Call _ _ [⟨_,(.Lambda _ _ sc _),_⟩,_] _)) _=>sc
 | _=>nsc
abbrev cLrq:Scope:=qLrq ((zm sLr).getD 2 (.Pass ⟨0,0,0,0⟩))
theorem Xl:LScope (ze sLr) cLrq "row" ["self"]:=⟨rfl,rfl,rfl,by decide+kernel,by decide+kernel,by decide+kernel,by decide+kernel,by decide+kernel⟩
def spLr (C pt:Addr):Sp:=fun vs H Q _=> ∃(o:Addr) (n m:Nat) (S:Tb) (t:Nat),vs=[.ref o]∧TbAt H C o n m S t∧m≤60∧TabAt H pt qLr∧ ∀H' (ob:Option Nat),SameB pt H H'→TabAt H' pt qLr→(ob=none→ ∀r,¬low n m S r)→(∀r,ob=some r→low n m S r∧(200≤t→ ∀q,low n m S q→S.ru r≤S.ru q))→Q (ob.elim .non fun r=> .int (r:Int)) H'
def lowB (n:Nat) (S:Tb) (r:Nat):Bool:=decide (n≤S.ru r)&&decide (S.M (S.ru r) n<0)
theorem lowB_iff:r∈(List.range m).filter (lowB n S)↔low n m S r:=by
 rw[List.mem_filter,List.mem_range];unfold lowB low;simp
theorem Yc{xs:List Nat}(h: ∀b,ob=some b→b∈xs.map fun(i:Nat)=>(i:Int)): ∃on:Option Nat,ob=on.map (fun(i:Nat)=>(i:Int))∧ ∀r,on=some r→r∈xs:=by
 cases ob with
 | none=>exact⟨none,rfl,fun r z=>nomatch z⟩
 | some b=>
  obtain⟨r,hr,rfl⟩:=List.mem_map.mp (h b rfl);exact⟨some r,rfl,fun r' z=>by cases z; exact hr⟩
section
variable {P:Program} {w:World} {K:W.Frag} {mg:Str→Option Value} {base:Heap}
theorem ok_Lr(R:TC K C)(B:Bl mg)(hC:PySem.W.CodeHd base c pt)(hB:BmIn mg base)(qk:Kn mg "QUICK_TURNS" 200)(hL:HasM P w K mg base 1 C "is_low" ["self","row"] (spLo C))(F:FunC K "low_row" "Tableau.low_row" sLr f fd c):FnOk P w K mg base CX0 3 f fd ["self"] (spLr C pt):=by
 refine F.ok scLr (fun vs H Q E h=>?_) (fun A outer s H vs Q E hr h=>?_)
 ·obtain⟨o,n,m,S,t,rfl,_⟩:=h;rfl
 obtain⟨o,n,m,S,t,rfl,⟨dx,pr,pu,pc,ras,T⟩,hm,hT,k⟩:=h;have LK:LamOk (cxOf CX0 P w K mg base nLr "Tableau.low_row" (ze sLr) f (.ref c) A outer s H E).nox c pt:=⟨rfl,hC,hB⟩;refine'⟨_,?hb,?rd⟩
 case' hb=>skip
 case' hb=>refine' zd ?g1 ?g2
 case' g2=>refine' zd ?g3 ?g4
 case' g4=>refine' zj ?g5
 case' g1=>refine' yj (i:=1) (ix:=[0]) nmLr.nd rfl loLr_1 bsLra.toCScope rfl rfl ?g6 ?g7 ?g8 ?g9
 case g6=>exact yN B.range (pa_1 (zU zq B.len PySem.boot_len (pa_1 (zG (pvd nmLr 0) rfl))))
 case g7=>exact fun _ _ _ _ _ _=>pgb bsLra 0
 case g8=>exact fun _ _ _ _ _ _=>xC (xM (pe_m hL hr (by omega) (pvb bsLra 1) (pa_1 (pvb bsLra 0))))
 case g9=>exact fun _ _ _ _ _ _=>pvb bsLra 0
 case' g3=>refine' zY ?g10 ?g11 zC
 case g10=>exact zt x8 (zG (pvd nmLr 0) rfl) (pe_k qk) (zv _)
 case' g11=>refine' zj ?g13
 case' g13=>refine' zy ?g14
 case g14=>
  refine' Zo (ix:=[0]) (F:=["self"]) (v:="row") hr LK Xm rfl ?m1p ?m2p ?m3p B.min
  case m1p=>exact fun _ _ _ _=>rfl
  case m2p=>exact fun _ _ _ _ _ _ _ _=>ziq (ziq (vh rfl (pvl Xm 1)) (pvl Xm 0)) (w9 xL zg)
  case m3p=>exact pvd nmLr 1
 case' g5=>refine' zy ?g15
 case g15=>
  refine' Zo (ix:=[0]) (F:=["self"]) (v:="row") hr LK Xl rfl ?m1q ?m2q ?m3q B.min
  case m1q=>exact fun _ _ _ _=>rfl
  case m2q=>exact fun _ _ _ _ _ _ _ _=>ziq (vh rfl (pvl Xl 1)) (pvl Xl 0)
  case m3q=>exact pvd nmLr 1
 walk_at"v";refine zQ ?_;walk_at"v";refine⟨o,C,_,_,_,rfl,T.ob,R.c,R.n3,rfl,?_⟩;walk_at"v";refine⟨pr,_,rfl,.inl (SqL.of T.rs),?_⟩;rw[List.length_map,T.rl];refine⟨_,rfl,by omega,by omega,fun D1 hD1=>?_⟩;rw[Int.toNat_natCast];refine Yh (lowB n S) (by omega) hD1 (fun i hi H' K' R' kR=>?_) (fun H1 K1 e1=>?_)
 ·walk_at"v";refine xq ?_;walk_at"v";refine⟨o,dx,_,rfl,K' _ _ T.ob,rfl,?_⟩;walk_at"v";refine⟨o,i,n,m,S,t,by rw[Int.zero_add]; rfl,⟨dx,pr,pu,pc,ras,T.same fun a u e _=>K' a u e⟩,hi,?_⟩;walk_at"v";exact kR _ (Same.refl _)
 have T1:=T.same fun a u e _=>K1 a u e;have hT1:=hT.same K1;walk_at"v";refine zQ ?_;walk_at"v";refine⟨o,C,_,_,_,rfl,T1.ob,R.c,R.n6,rfl,?_⟩;walk_at"v";have hmem: ∀i∈((List.range m).filter (lowB n S)).map (fun(i:Nat)=>(i:Int)),∃r:Nat,i=(r:Int)∧low n m S r:=fun i hi=>by
  obtain⟨r,hr1,rfl⟩:=List.mem_map.mp hi;exact⟨r,rfl,lowB_iff.mp hr1⟩
 have fin: ∀(kf:Int→Int),(200≤t→ ∀r:Nat,kf (r:Int)=((S.ru r:Nat):Int))→ ∀H' ob,SameB pt H1 H'→TabAt H' pt qLr→(ob=none→((List.range m).filter (lowB n S)).map (fun(i:Nat)=>(i:Int))=[])→
   (∀b,ob=some b→b∈((List.range m).filter (lowB n S)).map (fun(i:Nat)=>(i:Int))∧ ∀i∈((List.range m).filter (lowB n S)).map (fun(i:Nat)=>(i:Int)),kf b≤kf i)→Q (ob.elim V.non V.int) H':=fun kf hkf H' ob k1 hT' h0 h1=>by
  obtain⟨on,rfl,hon⟩:=Yc fun b e=>(h1 b e).1;have hq:=k H' on (fun a u na e=>k1 a u na (K1 _ _ e)) hT' (fun z r hr1=>?_) (fun r z=>⟨lowB_iff.mp (hon r z),fun ht q hq=>?_⟩)
  ·cases on with
   | none=>exact hq
   | some r=>exact hq
  ·have e:=h0 (by rw[z]; rfl);have:=List.mem_map_of_mem (f:=fun(i:Nat)=>(i:Int)) (lowB_iff.mpr hr1);rw[e] at this;cases this
  ·have:=(h1 (r:Int) (by rw[z]; rfl)).2 (q:Int) (List.mem_map_of_mem (f:=fun(i:Nat)=>(i:Int)) (lowB_iff.mpr hq));rw[hkf ht,hkf ht] at this;omega
 refine iteD (fun ht=>?_) (fun ht=>?_)
 ·walk_at"v";refine Z4 ?_;walk_at"v";refine⟨D1,_,fun i=>S.M (S.ru i.toNat) n,rfl,e1,hT1,fun H' k1 i hi=>?_,fin _ fun z=>absurd z (by omega)⟩;obtain⟨r,rfl,hr1⟩:=hmem i hi;have T2:=T1.tab hT1 k1;obtain⟨a,g1,g2⟩:=T2.row hr1.1;walk_at"v";refine zQ ?_;walk_at"v";refine⟨o,C,_,_,_,rfl,T2.ob,R.c,R.n3,rfl,?_⟩;walk_at"v";refine zA (v:= .ref a) T2.rs (zz (by rw[List.getElem?_map,g1]; rfl)) ?_;walk_at"v";refine⟨_,rfl,?_⟩;refine zA g2 wQ ?_;exact⟨rfl,by simp⟩
 ·walk_at"v";refine Z4 ?_;walk_at"v";refine⟨D1,_,fun i=>((S.ru i.toNat:Nat):Int),rfl,e1,hT1,fun H' k1 i hi=>?_,fin _ fun _ r=>by simp⟩;obtain⟨r,rfl,hr1⟩:=hmem i hi;have T2:=T1.tab hT1 k1;walk_at"v";refine zQ ?_;walk_at"v";refine⟨o,C,_,_,_,rfl,T2.ob,R.c,R.n4,rfl,?_⟩;walk_at"v";refine zA (v:= .int ((S.ru r:Nat):Int)) T2.ru (zz (yq hr1.1)) ?_;exact⟨rfl,by simp⟩
abbrev sCf:Stmt:=wE (top 9) 3
abbrev nCf:List Str:=["self","row","numbers","raising"]
theorem nmCf:Nm nCf (ze sCf):=nmk (by decide+kernel)
theorem scCf:FnScope nCf ["self","row"] (ze sCf):=fsk (by decide+kernel)
def qCfa (s:Stmt):Scope:=match s with
 | .Assign _ (.ListComp _ _ sc _) _=>sc
 | _=>nsc
abbrev cCfa:Scope:=qCfa ((zm sCf).getD 1 (.Pass ⟨0,0,0,0⟩))
theorem bsCfa:BScope (ze sCf) cCfa ["column"] ["numbers","self"] []:={okind:=by decide+kernel,kind:=by decide+kernel,nocell:=by decide+kernel,names:=by decide+kernel,fr:=by decide+kernel,ff:=by decide+kernel,nd:=by decide+kernel,vis:=by decide+kernel,loc:=by decide+kernel,gl:=by decide+kernel}
def qCfb (s:Stmt):Scope:=match s with
 | .If _ [(.Assign _ (.ListComp _ _ sc _) _)] _ _=>sc
 | _=>nsc
abbrev cCfb:Scope:=qCfb ((zm sCf).getD 2 (.Pass ⟨0,0,0,0⟩))
theorem bsCfb:BScope (ze sCf) cCfb ["column"] ["numbers","self"] []:={okind:=by decide+kernel,kind:=by decide+kernel,nocell:=by decide+kernel,names:=by decide+kernel,fr:=by decide+kernel,ff:=by decide+kernel,nd:=by decide+kernel,vis:=by decide+kernel,loc:=by decide+kernel,gl:=by decide+kernel}
theorem Xq:(ze sCf).names.lookup ("raising":Str)=some .local:=by decide+kernel
def qCfp (s:Stmt):Scope:=match s with
 | .If _ [.Return (some (.Call _ _ [⟨_,(.Lambda _ _ sc _),_⟩,_] _)) _] _ _=>sc
 | _=>nsc
abbrev cCfp:Scope:=qCfp ((zm sCf).getD 3 (.Pass ⟨0,0,0,0⟩))
theorem Xo:LScope (ze sCf) cCfp "column" ["numbers"]:=⟨rfl,rfl,rfl,by decide+kernel,by decide+kernel,by decide+kernel,by decide+kernel,by decide+kernel⟩
def qCfq (s:Stmt):Scope:=match s with
 | .Return (some (.Call _ _ [⟨_,(.Lambda _ _ sc _),_⟩,_] _)) _=>sc
 | _=>nsc
abbrev cCfq:Scope:=qCfq ((zm sCf).getD 4 (.Pass ⟨0,0,0,0⟩))
theorem Xn:LScope (ze sCf) cCfq "column" ["self"]:=⟨rfl,rfl,rfl,by decide+kernel,by decide+kernel,by decide+kernel,by decide+kernel,by decide+kernel⟩
theorem glCfp{xe:Value→Shared→Prop}:Gl (cxL X N cCfp cl L f cd A s3 H3 xe) "abs":=show cCfp.names.lookup ("abs":Str)=some NameKind.globalImplicit by decide+kernel
def solB (n:Nat) (S:Tb) (r c:Nat):Bool:=decide (S.cu c<n)&&decide (S.M (S.ru r) c≠0)
def gthB (n:Nat) (S:Tb) (r c:Nat):Bool:= !decide (S.cu c<n)&&decide (0<S.M (S.ru r) c)
def may (n:Nat) (S:Tb) (r c:Nat):Prop:=c<n∧((S.cu c<n∧S.M (S.ru r) c≠0)∨(n≤S.cu c∧0<S.M (S.ru r) c∧ ∀d<n,S.cu d<n→S.M (S.ru r) d=0))
structure Cand (n:Nat) (S:Tb) (r:Nat) (cs:List Nat):Prop where
 my: ∀c∈cs,may n S r c
 al: ∀c∈cs,S.cu c<n∨ ∀d<n,n≤S.cu d→0<S.M (S.ru r) d→d∈cs
 no:cs=[]→ ∀c<n,(S.cu c<n→S.M (S.ru r) c=0)∧(n≤S.cu c→S.M (S.ru r) c≤0)
theorem cand_sol(h:((List.range n).filter (solB n S r))≠[]):Cand n S r ((List.range n).filter (solB n S r)):=by
 have hm: ∀c,c∈(List.range n).filter (solB n S r)→c<n∧S.cu c<n∧S.M (S.ru r) c≠0:=fun c hc=>by
  rw[List.mem_filter,List.mem_range] at hc;unfold solB at hc;simpa using hc
 exact⟨fun c hc=>⟨(hm c hc).1,.inl (hm c hc).2⟩,fun c hc=> .inl (hm c hc).2.1,fun z=>absurd z h⟩
theorem cand_gth(h:((List.range n).filter (solB n S r))=[]):Cand n S r ((List.range n).filter (gthB n S r)):=by
 have h0: ∀d<n,S.cu d<n→S.M (S.ru r) d=0:=fun d hd hc=>by
  apply Classical.byContradiction
  intro z;have:d∈(List.range n).filter (solB n S r):=by
   rw[List.mem_filter,List.mem_range];unfold solB;simp[hd,hc,z]
  rw[h] at this;cases this
 have hm: ∀c,c∈(List.range n).filter (gthB n S r)↔c<n∧n≤S.cu c∧0<S.M (S.ru r) c:=fun c=>by
  rw[List.mem_filter,List.mem_range];unfold gthB;simp
 refine⟨fun c hc=>⟨((hm c).mp hc).1,.inr ⟨((hm c).mp hc).2.1,((hm c).mp hc).2.2,h0⟩⟩,fun c hc=> .inr fun d hd h1 h2=>(hm d).mpr ⟨hd,h1,h2⟩,fun z c hc=>⟨h0 c hc,fun h1=>?_⟩⟩
 apply Classical.byContradiction
 intro h2;have:=(hm c).mpr ⟨hc,h1,by omega⟩;rw[z] at this;cases this
def spCf (C pt:Addr):Sp:=fun vs H Q _=> ∃(o:Addr) (n m r:Nat) (S:Tb) (t:Nat),vs=[.ref o,.int (r:Int)]∧TbAt H C o n m S t∧r<m∧n≤40∧TabAt H pt qCf∧ ∀H' (ob:Option Nat),SameB pt H H'→TabAt H' pt qCf→(ob=none→ ∀c<n,(S.cu c<n→S.M (S.ru r) c=0)∧(n≤S.cu c→S.M (S.ru r) c≤0))→(∀c,ob=some c→may n S r c∧(200≤t→S.cu c<n∨ ∀d<n,n≤S.cu d→0<S.M (S.ru r) d→S.cu c≤S.cu d))→Q (ob.elim .non fun r=> .int (r:Int)) H'
theorem ok_Cf(R:TC K C)(B:Bl mg)(hC:PySem.W.CodeHd base c pt)(hB:BmIn mg base)(qk:Kn mg "QUICK_TURNS" 200)(hS:HasM P w K mg base 1 C "is_sought" ["self","column"] (spSo C))(F:FunC K "column_for" "Tableau.column_for" sCf f fd c):FnOk P w K mg base CX0 3 f fd ["self","row"] (spCf C pt):=by
 refine F.ok scCf (fun vs H Q E h=>?_) (fun A outer s H vs Q E hr h=>?_)
 ·obtain⟨o,n,m,r,S,t,rfl,_⟩:=h;rfl
 obtain⟨o,n,m,r,S,t,rfl,⟨dx,pr,pu,pc,ras,T⟩,hrm,hn,hT,k⟩:=h;have LK:LamOk (cxOf CX0 P w K mg base nCf "Tableau.column_for" (ze sCf) f (.ref c) A outer s H E).nox c pt:=⟨rfl,hC,hB⟩;refine'⟨_,?hb,?rd⟩
 case' hb=>skip
 case' hb=>refine' zd ?g1 ?g2
 case' g2=>refine' zd ?g3 ?g4
 case' g4=>refine' zd ?g5 ?g6
 case' g6=>refine' zd ?g7 ?g8
 case' g8=>refine' zj ?g9
 case g1=>exact zk nmCf 2 (ziq (zG (pvd nmCf 0) rfl) (pvd nmCf 1))
 case' g3=>refine' yj (i:=3) (ix:=[2,0]) nmCf.nd rfl Xq bsCfa.toCScope rfl rfl ?g10 ?g11 ?g12 ?g13
 case g10=>exact yN B.range (pa_1 (zG (pvd nmCf 0) rfl))
 case g11=>exact fun _ _ _ _ _ _=>pgb bsCfa 0
 case g12=>exact fun _ _ _ _ _ _=>xC (PW.pt (vx (xM (pe_m hS hr (by omega) (pvb bsCfa 2) (pa_1 (pvb bsCfa 0)))) (wx (zt xn (ziq (pvb bsCfa 1) (pvb bsCfa 0)) zg (zv _)))))
 case g13=>exact fun _ _ _ _ _ _=>pvb bsCfa 0
 case' g5=>refine' zY ?g14 ?g15 zC
 case g14=>exact zt xJ (zU zq B.len PySem.boot_len (pa_1 (pvd nmCf 3))) zg (zv _)
 case' g15=>refine' zj ?g17
 case' g17=>refine' yj (i:=3) (ix:=[2,0]) nmCf.nd rfl Xq bsCfb.toCScope rfl rfl ?g18 ?g19 ?g20 ?g21
 case g18=>exact yN B.range (pa_1 (zG (pvd nmCf 0) rfl))
 case g19=>exact fun _ _ _ _ _ _=>pgb bsCfb 0
 case g20=>exact fun _ _ _ _ _ _=>xC (PW.pt (vx (Zk (xM (pe_m hS hr (by omega) (pvb bsCfb 2) (pa_1 (pvb bsCfb 0))))) (wx (zt vV (ziq (pvb bsCfb 1) (pvb bsCfb 0)) zg (zv _)))))
 case g21=>exact fun _ _ _ _ _ _=>pvb bsCfb 0
 case' g7=>refine' zY ?g22 ?g23 zC
 case g22=>exact zt x8 (zG (pvd nmCf 0) rfl) (pe_k qk) (zv _)
 case' g23=>refine' zj ?g25
 case' g25=>refine' zy ?g26
 case g26=>
  refine' pe_maxK (ix:=[2]) (F:=["numbers"]) (v:="column") hr LK Xo rfl ?m1p ?m2p ?m3p B.max
  case m1p=>exact fun _ _ _ _=>rfl
  case m2p=>exact fun _ _ _ _ _ _ _ _=>zU vN B.abs PyProof.Rows.boot_abs (pa_1 (ziq (pvl Xo 1) (pvl Xo 0))) glCfp
  case m3p=>exact pvd nmCf 3
 case' g9=>refine' zy ?g27
 case g27=>
  refine' Zo (ix:=[0]) (F:=["self"]) (v:="column") hr LK Xn rfl ?m1q ?m2q ?m3q B.min
  case m1q=>exact fun _ _ _ _=>rfl
  case m2q=>exact fun _ _ _ _ _ _ _ _=>ziq (vh rfl (pvl Xn 1)) (pvl Xn 0)
  case m3q=>exact pvd nmCf 3
 obtain⟨ra,g1,g2⟩:=T.row hrm;walk_at"v";refine zQ ?_;walk_at"v";refine⟨o,C,_,_,_,rfl,T.ob,R.c,R.n3,rfl,?_⟩;walk_at"v";refine zA (v:= .ref ra) T.rs (zz (by rw[List.getElem?_map,g1]; rfl)) ?_;walk_at"v";refine zQ ?_;walk_at"v";refine⟨o,C,_,_,_,rfl,T.ob,R.c,R.n1,rfl,?_⟩;walk_at"v";refine⟨_,rfl,by omega,by omega,fun D1 hD1=>?_⟩;rw[Int.toNat_natCast];refine Yh (solB n S r) (by omega) hD1 (fun i hi H' K' R' kR=>?_) (fun H1 K1 e1=>?_)
 ·walk_at"v";refine xq ?_;walk_at"v";refine⟨o,dx,_,rfl,K' _ _ T.ob,rfl,?_⟩;walk_at"v";refine⟨o,i,n,m,S,t,by rw[Int.zero_add]; rfl,⟨dx,pr,pu,pc,ras,T.same fun a u e _=>K' a u e⟩,hi,?_⟩;walk_at"v";have kR:=kR _ (Same.refl _);unfold solB at kR;refine iteD (fun h1=>?_) (fun h1=>?_)
  ·walk_at"v";rw[Int.zero_add];refine zA (v:= .int (S.M (S.ru r) i)) (K' _ _ g2) (zz (yi (by omega))) ?_;walk_at"v";rw[decide_eq_true h1,Bool.true_and] at kR;refine⟨rfl,?_⟩;rw[show(!decide (V.int (S.M (S.ru r) i)=V.int 0))=decide (S.M (S.ru r) i≠0) by simp];walk_at"v";exact kR
  ·rw[decide_eq_false h1,Bool.false_and] at kR;exact kR
 have T1:=T.same fun a u e _=>K1 a u e;refine zM ?_;with_reducible refine wt (fun σ' H2=> ∃(D2:Addr) (cs:List Nat),σ'=[some (.ref o),some (.int (r:Int)),some (.ref ra),some (.ref D2)]∧Same H H2∧H2 D2=some (.lst ((cs.map fun(i:Nat)=>(i:Int)).map V.int))∧Cand n S r cs) ?_ fun rest=>?_
 ·rintro σ' H2 ⟨D2,cs,rfl,K2,e2,hcs⟩;have T2:=T.same fun a u e _=>K2 a u e;have hT2:=hT.same K2;walk_at"v";refine zQ ?_;walk_at"v";refine⟨o,C,_,_,_,rfl,T2.ob,R.c,R.n6,rfl,?_⟩;walk_at"v";have hmem: ∀i∈cs.map (fun(i:Nat)=>(i:Int)),∃c:Nat,i=(c:Int)∧c∈cs∧may n S r c:=fun i hi=>by
   obtain⟨c,hc1,rfl⟩:=List.mem_map.mp hi;exact⟨c,rfl,hc1,hcs.my c hc1⟩
  refine iteD (fun ht=>?_) (fun ht=>?_)
  ·walk_at"v";refine w_maxK ?_;walk_at"v";refine⟨D2,_,fun i=>if S.M (S.ru r) i.toNat<0 then - S.M (S.ru r) i.toNat else S.M (S.ru r) i.toNat,rfl,e2,hT2,fun H' k1 i hi=>?_,fun H' ob k1 hT' h0 h1=>?_⟩
   ·obtain⟨c,rfl,hc1,hc2⟩:=hmem i hi;have g3:=k1 ra _ (fun z=>by obtain⟨tb,e',_⟩:=hT2; rw[z] at g2; have:=K2 _ _ g2; rw[e'] at this; cases this) (K2 _ _ g2);walk_at"v";refine zA (v:= .int (S.M (S.ru r) c)) g3 (zz (yi (by have:=hc2.1; omega))) ?_;walk_at"v";exact⟨_,rfl,rfl,by simp⟩
   ·obtain⟨on,rfl,hon⟩:=Yc fun b e=>(h1 b e).1;have hq:=k H' on (fun a u na e=>k1 a u na (K2 _ _ e)) hT' (fun z=>hcs.no (by have:=h0 (by rw[z]; rfl); simpa using this)) (fun c z=>⟨hcs.my c (hon c z),fun z=>absurd z (by omega)⟩);cases on with
    | none=>exact hq
    | some r=>exact hq
  ·walk_at"v";refine Z4 ?_;walk_at"v";refine⟨D2,_,fun i=>((S.cu i.toNat:Nat):Int),rfl,e2,hT2,fun H' k1 i hi=>?_,fun H' ob k1 hT' h0 h1=>?_⟩
   ·obtain⟨c,rfl,hc1,hc2⟩:=hmem i hi;have T3:=T2.tab hT2 k1;walk_at"v";refine zQ ?_;walk_at"v";refine⟨o,C,_,_,_,rfl,T3.ob,R.c,R.n5,rfl,?_⟩;walk_at"v";refine zA (v:= .int ((S.cu c:Nat):Int)) T3.cu (zz (yq hc2.1)) ?_;exact⟨rfl,by simp⟩
   ·obtain⟨on,rfl,hon⟩:=Yc fun b e=>(h1 b e).1;have hq:=k H' on (fun a u na e=>k1 a u na (K2 _ _ e)) hT' (fun z=>hcs.no (by have:=h0 (by rw[z]; rfl); simpa using this)) (fun c z=>⟨hcs.my c (hon c z),fun _=>(hcs.al c (hon c z)).imp id fun q d hd h2 h3=>?_⟩)
    ·cases on with
     | none=>exact hq
     | some r=>exact hq
    ·have:=(h1 (c:Int) (by rw[z]; rfl)).2 (d:Int) (List.mem_map_of_mem (f:=fun(i:Nat)=>(i:Int)) (q d hd h2 h3));simp at this;exact this
 walk_at"v";refine⟨D1,_,rfl,.inl (SqL.of e1),?_⟩;walk_at"v";refine⟨rfl,?_⟩;walk_at"v";rw[List.length_map,List.length_map];refine iteD (fun h0=>?_) (fun h0=>?_)
 ·have hs0:(List.range n).filter (solB n S r)=[]:=by
   have:(((List.range n).filter (solB n S r)).length:Int)=0:=by injection h0
   exact List.eq_nil_of_length_eq_zero (by omega)
  walk_at"v";refine zQ ?_;walk_at"v";refine⟨o,C,_,_,_,rfl,T1.ob,R.c,R.n1,rfl,?_⟩;walk_at"v";refine⟨_,rfl,by omega,by omega,fun D2 hD2=>?_⟩;rw[Int.toNat_natCast];refine Yh (gthB n S r) (by omega) hD2 (fun i hi H' K' R' kR=>?_) (fun H2 K2 e2=>?_)
  ·walk_at"v";refine xq ?_;walk_at"v";refine⟨o,dx,_,rfl,K' _ _ T1.ob,rfl,?_⟩;walk_at"v";refine⟨o,i,n,m,S,t,by rw[Int.zero_add]; rfl,⟨dx,pr,pu,pc,ras,T1.same fun a u e _=>K' a u e⟩,hi,?_⟩;walk_at"v";have kR:=kR _ (Same.refl _);unfold gthB at kR;by_cases h1:S.cu i<n
   ·rw[decide_eq_true h1] at kR ⊢;exact iteF kR
   ·rw[decide_eq_false h1] at kR ⊢;refine iteT ?_;walk_at"v";rw[Int.zero_add];refine zA (v:= .int (S.M (S.ru r) i)) (K' _ _ (K1 _ _ g2)) (zz (yi (by omega))) ?_;walk_at"v";exact kR
  ·refine zM ?_;exact rest _ _ ⟨D2,_,rfl,K1.trans K2,e2,cand_gth hs0⟩
 ·exact rest _ _ ⟨D1,_,rfl,K1,e1,cand_sol fun z=>h0 (by rw[z]; rfl)⟩
end
end K16
namespace PT
open PySem L2 G2
def fT (i:Int):Str:=Str.ofString (toString i)
def inF (y:Str):Bool:= !(Builtin.Str.occurrences "0123456789" y 0 (Str.length "0123456789") 1).isEmpty
def figB (x:Str):Bool:=decide (x.length≤10)&&(sg x).all inF&&(match x.cps.toList with | []=>false | c::_=>decide (x="0") || !decide ((⟨#[c]⟩:Str)="0"))
def inL (y:Str):Bool:= !(Builtin.Str.occurrences "abcdefghijklmnopqrstuvwxyz" y 0 (Str.length "abcdefghijklmnopqrstuvwxyz") 1).isEmpty
def noNames:List Str:=["sorts","begin","in","out","rule","to"]
def X0 (x:Str):Bool:=decide (1≤x.length)&&decide (x.length≤8)&& !decide (x∈noNames)&&(sg x).all inL&&x.cps.toList.all fun c=>decide (97≤c)&&decide (c≤122)
structure Cnt (i:Int):Prop where
 fig:figB (fT i)=true
 l2:(fT i).length≤2
 rd:PySem.intText? (fT i)=some i
 ch: ∀c∈(fT i).cps.toList,48≤c∧c≤57
 lg:i.natAbs.log2<1920
structure Wd (w:Str):Prop where
 l:w.length≤8
 ch: ∀c∈w.cps.toList,33≤c∧c≤127
structure Nme (x:Str):Prop where
 b:X0 x=true
 l1:1≤x.length
 l8:x.length≤8
 no:x∉noNames
 al:(sg x).all inL=true
 ch: ∀c∈x.cps.toList,97≤c∧c≤122
structure Sd (m:Nat) (cs:List Int):Prop where
 l:cs.length=m
 b: ∀c∈cs,0≤c∧c≤9
structure PD where
 nm:List Str
 rl:List (List Int×List Int)
 ins:List Int
 beg:List Int
 ans:Int
structure PD.ok (d:PD) (m:Nat):Prop where
 nl:d.nm.length=m
 nd:d.nm.Nodup
 nb: ∀x∈d.nm,X0 x=true
 m0:0<m
 m8:m≤8
 r8:d.rl.length≤8
 rs: ∀r∈d.rl,Sd m r.1∧Sd m r.2∧(∃x∈r.1,0<x)∧r.1≠r.2
 hi: ∀i∈d.ins,0≤i∧i<m
 i3:d.ins.length≤3
 inn:d.ins.Nodup
 bl:d.beg.length=m
 hb: ∀b∈d.beg,0≤b∧b≤99
 ha:0≤d.ans∧d.ans<m
end PT
namespace L2
open PySem
end L2
namespace PT
open PySem L2 G2
structure KP (mg:Str→Option Value):Prop where
 sorts:Kn mg "SORTS" 0
 rules:Kn mg "RULES" 1
 inputs:Kn mg "INPUTS" 2
 begin:Kn mg "BEGIN" 3
 answer:Kn mg "ANSWER" 4
 takes:Kn mg "TAKES" 0
 gives:Kn mg "GIVES" 1
structure KR (K:W.Frag) (mg:Str→Option Value):Prop where
 fig:KnS mg "FIGURES" "0123456789"
 lets:KnS mg "LETTERS" "abcdefghijklmnopqrstuvwxyz"
 no:GTup K mg "NO_NAMES" (noNames.map V.str)
 mlet:Kn mg "MOST_LETTERS" 8
 msor:Kn mg "MOST_SORTS" 8
 mbeg:Kn mg "MOST_BEGIN" 99
 minp:Kn mg "MOST_INPUTS" 3
 mrul:Kn mg "MOST_RULES" 8
 mdro:Kn mg "MOST_DROPS" 9
 mfig:Kn mg "MOST_FIGURES" 2
 l0:Kn mg "SORTS_LINE" 0
 l1:Kn mg "BEGIN_LINE" 1
 l2:Kn mg "IN_LINE" 2
 l3:Kn mg "OUT_LINE" 3
 l4:Kn mg "FIRST_RULE" 4
def RlD (H:Hp) (r:Addr) (x:List Int×List Int):Prop:= ∃a b,H r=some (.tup [.ref a,.ref b])∧H a=some (.tup (x.1.map V.int))∧H b=some (.tup (x.2.map V.int))
def RlsD (H:Hp):List Addr→List (List Int×List Int)→Prop
 | [],[]=>True
 | r::rs,x::xs=>RlD H r x∧RlsD H rs xs
 | _,_=>False
structure PotF (fz:Bool) (H:Hp) (p:Addr) (d:PD):Prop where
 ex: ∃(ps pr pin pb:Addr) (rs:List Addr),H p=some (.tup [.ref ps,.ref pr,.ref pin,.ref pb,.int d.ans])∧(if fz=true then TupF H ps (d.nm.map V.str) else H ps=some (.tup (d.nm.map V.str)))∧H pr=some (.tup (rs.map V.ref))∧RlsD H rs d.rl∧
  H pin=some (.tup (d.ins.map V.int))∧H pb=some (.tup (d.beg.map V.int))
end PT
namespace L2
open PySem PySem.Spec PyProof.Rows
end L2
namespace L2
open PySem PySem.Spec PyProof.Rows Builtin Builtin.Str
section
variable {X:Cx}
def Xb:List V→Hp→VK→Prop:=fun xs H Q=> ∃(x:Str),xs=[.str x]∧x.cps.size≤1000∧ ∀l,H l=none→Q (.ref l) (upd H l (.lst ((sg x).map V.str)))
end
end L2
namespace PT
open PySem L2 G2
abbrev Bad:=Nat×Nat
def nameP (x:Str):Bool:=decide (1≤x.length)&&(decide (x.length≤8)&&(!decide (x∈noNames)&&(sg x).all inL))
def val (x:Str):Int:=(PySem.intText? x).getD 0
def plc (x:Str):List Str→Option Nat
 | []=>none
 | y::r=>if y=x then some 0 else (plc x r).map (· +1)
def rSort (ws:List Str) (z i:Nat) (nm:List Str):Except Bad Nat:=match plc (ws.getD i "") nm with
 | some q=> .ok q
 | none=> .error (z,i)
def rIn (ws nm:List Str):Nat→Nat→List Int→Except Bad (List Int)
 | 0,_,acc=> .ok acc
 | n+1,i,acc=>match rSort ws 2 i nm with
  | .error b=> .error b
  | .ok q=>if acc.length=3∨(q:Int)∈acc then .error (2,i) else rIn ws nm n (i+1) (acc++[(q:Int)])
def Bd (cA:Addr) (H:Hp) (E:XK) (b:Bad):Prop:= ∀dx H',Same H H'→H' dx=none→E (.ref cA) (some dx) (upd H' dx (XDct dx [("line",.int (b.1:Int)),("word",.int (b.2:Int))]))
def nums (lo n:Nat):List Str:=(List.range n).map fun k=>fT ((lo+k:Nat):Int)
def gdW (h:Nat) (sorts:List Str) (x:Str):Bool:=if h=0 then nameP x else if h=1 then decide (x∈nums 0 100) else decide (x∈sorts)
def hfB (h most:Nat) (ws sorts:List Str) (i:Nat):Prop:=most<i∨gdW h sorts (ws.getD i "")=false∨((h=0∨h=2)∧ws.getD i ""∈(ws.take i).drop 1)
instance {h most:Nat} {ws sorts:List Str} {i:Nat}:Decidable (hfB h most ws sorts i):=by unfold hfB; infer_instance
def hfGo (h most:Nat) (ws sorts:List Str):Nat→Nat→Option Nat
 | 0,_=>none
 | n+1,i=>if hfB h most ws sorts i then some i else hfGo h most ws sorts n (i+1)
def hf (h least most:Nat) (ws sorts:List Str):Option Nat:=match hfGo h most ws sorts (ws.length-1) 1 with
 | some i=>some i
 | none=>if ws.length≤least then some ws.length else none
def sfT (ws:List Str) (to:Bool) (m i:Nat) (cs:List Int):Prop:=i<ws.length∧(¬(to=true∧ws.getD i ""="to")∨cs=List.replicate m 0)
instance {ws:List Str} {to:Bool} {m i:Nat} {cs:List Int}:Decidable (sfT ws to m i cs):=by unfold sfT; infer_instance
def zr (nm:List Str):List Int:=List.replicate nm.length 0
def eo {α:Type} (r:Except Bad α) (k:Option Bad):Option Bad:=match r with
 | .error b=>some b
 | .ok _=>k
end PT
namespace L2
open PySem PySem.Spec PyProof.Rows Builtin Builtin.Str
end L2
namespace PT
open PySem L2 G2
def wl (ws:List Str):Nat:=(ws.map fun w=>w.length+1).sum
end PT
namespace L2
open PySem PySem.Spec PyProof.Rows
end L2
namespace L2
open PySem PySem.Spec PyProof.Rows G2
section
variable {S:Hp→Hp→Prop} {D:Addr} {te:TE} {Q:VK} {ρ:St} {H:Hp} {K:W.Frag} {a b:Addr} {xs zs:List V} {n:Nat}
theorem gm_zpl(Ok:Nat→V→Hp→Prop)(n1:n≤xs.length)(n2:n≤zs.length)(n3:xs.length≤n∨zs.length≤n)(hD:H D=none)(mono: ∀{j y H1 H2},TK H1 H2→Ok j y H1→Ok j y H2)(hn:n≤1000)(ha:H a=some (.lst xs))(hb:H b=some (.lst zs))
  (step: ∀i x z H' (R:V→Hp→Prop),i<n→xs[i]? =some x→zs[i]? =some z→Same H H'→(∀y H4,Same H' H4→Ok i y H4→R y H4)→te (some x::some z::ρ) H' R)
  (q: ∀ys H',GP Same Ok H n ys H'→H' D=some (.lst ys)→Q (.ref D) H'):CGo (Itzl K a b) D (gTup K 2 (yB (zI 0) (yB (zI 1) gNil))) tAll te Q (none::none::ρ) H:=by
 have kp:=Kp.same hD;refine cgo_zpl n1 n2 n3 (fun i ys H'=>GP Same Ok H i ys H') ⟨kp.refl,rfl,fun j y h=>by simp at h⟩ (fun i ys H' _ g=>⟨SqL.of (g.1 _ _ ha),SqL.of (g.1 _ _ hb)⟩) ?_ q;rintro i x z ys H' p hi hx hz g hDz hp R S' kR _;have kn:Same H' (upd H' p (.tup [x,z])):=Same.new (Same.refl _) hp;refine zZ (iteT (step i x z _ R hi hx hz (g.1.trans kn) fun y H4 k hy=>?_));have k':=kn.trans k;exact kR y H4 (k' _ _ hDz) (zu (by have:=g.2.1; omega)) (wF (Ok:=Ok) kp mono (fun _ b=>TK.same b) g k' (k' _ _ hDz) hy)
end
end L2
namespace K16
open PySem L2 G2 WG
local macro_rules | `(tactic| walk_at "v") => `(tactic| repeat (with_reducible first
  | refine xg ?_ | refine yL ?_ | refine zM ?_ | refine w_op ?_ | refine yt rfl ?_ | refine w_c ?_ | refine xF ?_ | refine xG ?_ | refine xH ?_ | refine yP ?_ | refine w_tb ?_ | refine w_bl ?_ | refine w_not ?_ | refine xj ?_ | refine w_retN ?_
  | refine yK ?_ | refine yh ?_ | refine xu ?_ | refine y9 ?_ | refine w_cb ?_ | refine yV ?_ | refine yQ ?_ | refine xI ?_ | refine w_or ?_ | refine yg ?_ | refine zZ ?_ | refine yO ?_ | refine yp ?_ | refine yo ?_ | refine yS ?_ | refine yR ?_ | refine yT ?_ | refine yU ?_ | refine w_bm ?_ | refine yF ?_ | refine yG ?_ | refine w_chain ?_ | refine w_sl ?_ | refine zT ?_ | refine yy ?_ | refine x5 ?_ | refine iteT ?_ | refine iteF ?_))
abbrev sTd:Stmt:=wE (top 9) 6
abbrev nTd:List Str:=["self","numbers","pivot","column","sign","size","times","row"]
theorem nmTd:Nm nTd (ze sTd):=nmk (by decide+kernel)
theorem scTd:FnScope nTd ["self","numbers","pivot","column","sign"] (ze sTd):=fsk (by decide+kernel)
def qTda (s:Stmt):Scope:=match s with
 | .Assign _ (.ListComp _ _ sc _) _=>sc
 | _=>nsc
abbrev cTda:Scope:=qTda ((zm sTd).getD 2 (.Pass ⟨0,0,0,0⟩))
theorem bsTda:BScope (ze sTd) cTda ["one","other"] ["self","size","times"] []:={okind:=by decide+kernel,kind:=by decide+kernel,nocell:=by decide+kernel,names:=by decide+kernel,fr:=by decide+kernel,ff:=by decide+kernel,nd:=by decide+kernel,vis:=by decide+kernel,loc:=by decide+kernel,gl:=by decide+kernel}
theorem loTd_7:(ze sTd).names.lookup ("row":Str)=some .local:=by decide+kernel
theorem w_compZl(h:ta σ H fun vs H1=> ∃a b,vs=[.ref a,.ref b]∧(∃xs,SqL K H1 a xs)∧(∃xs,SqL K H1 b xs)∧ ∀D,H1 D=none→CGo (Itzl K a b) D g tc te Q (List.replicate n none++sub ix σ) H1):wY (iZpl K ta) n ix g tc te σ H Q:=h
def Sm (x:Int):Prop:=x.natAbs<2^4000
theorem wq(h:Sm x):EL.Bb x:=EL.bb_of h (by decide)
theorem Yv(h:Sm x):x.natAbs.log2<9000:=by
 by_cases z:x.natAbs=0
 ·rw[z]; decide
 ·exact(Nat.log2_lt z).mpr (Nat.lt_of_lt_of_le h (Nat.pow_le_pow_right (by decide) (by decide)))
theorem XV(hs:s=1∨s=-1)(h:Sm x):Sm (s*x):=by
 unfold Sm;rcases hs with rfl | rfl
 ·rw[Int.one_mul]; exact h
 ·rw[Int.neg_one_mul,Int.natAbs_neg]; exact h
theorem x3(h:i<n):ixN n (i:Int)=some i:=by
 unfold ixN;rw[if_pos (by omega),if_pos (by omega),Int.toNat_natCast]
def spTd (C:Addr):Sp:=fun vs H Q _=> ∃(o a b dx:Addr) (c n:Nat) (s D:Int) (x y:Nat→Int) (fs:List (Str×V)),vs=[.ref o,.ref a,.ref b,.int (c:Int),.int s]∧H o=some (.ins C dx fs)∧fs.lookup ("bottom":Str)=some (V.int D)∧H a=some (.lst (rowV n x))∧H b=some (.lst (rowV n y))∧c<n∧n≤40∧0<D∧Sm D∧(s=1∨s=-1)∧(∀k,k≤n→Sm (x k)∧Sm (y k))∧
 ∀q H',Same H H'→H q=none→H' q=some (.lst (rowV n fun k=>if k=c then s*x c else (s*y c*x k-s*x c*y k) / D))→Q (.ref q) H'
section
variable {P:Program} {w:World} {K:W.Frag} {mg:Str→Option Value} {base:Heap}
theorem ok_Td(R:TC K C)(B:Bl mg)(F:Fun K "turned" "Tableau.turned" sTd f fd):FnOk P w K mg base CX0 1 f fd ["self","numbers","pivot","column","sign"] (spTd C):=by
 refine F.ok scTd (fun vs H Q E h=>?_) (fun cdv A outer s H vs Q E hr h=>?_)
 ·obtain⟨o,a,b,dx,c,n,s',D,x,y,fs,rfl,_⟩:=h;rfl
 obtain⟨o,a,b,dx,c,n,s',D,x,y,fs,rfl,ho,hfs,ha,hb,hc,hn,hD,hDs,hs,hsm,k⟩:=h;refine'⟨_,?hb,?rd⟩
 case' hb=>skip
 case' hb=>refine' zd ?g1 ?g2
 case' g2=>refine' zd ?g3 ?g4
 case' g4=>refine' zd ?g5 ?g6
 case' g6=>refine' zd ?g7 ?g8
 case' g8=>refine' zj ?g9
 case g1=>exact zk nmTd 5 (zo xo (pvd nmTd 4) (ziq (pvd nmTd 2) (pvd nmTd 3)))
 case g3=>exact zk nmTd 6 (zo xo (pvd nmTd 4) (ziq (pvd nmTd 1) (pvd nmTd 3)))
 case' g5=>refine' yj (i:=7) (ix:=[0,5,6]) nmTd.nd rfl loTd_7 bsTda.toCScope rfl rfl ?g10 ?g11 ?g12 ?g13
 case g10=>exact Z9 B.zip (pa_2 (pvd nmTd 1) (pvd nmTd 2))
 case g11=>
  intro _ _ _ _ _ _;refine' wz (n:=2) rfl ?g14
  case' g14=>refine' zH ?g18 ?g17
  case g18=>exact pgb bsTda 0
  case' g17=>refine' zH ?g20 yI
  case g20=>exact pgb bsTda 1
 case g12=>exact fun _ _ _ _ _ _=>zB
 case g13=>exact fun _ _ _ _ _ _=>zo EL.op_fdivL (zo wb (zo xo (pvb bsTda 3) (pvb bsTda 0)) (zo xo (pvb bsTda 4) (pvb bsTda 1))) (vh rfl (pvb bsTda 2))
 case g7=>exact zW (pvd nmTd 6) (zX (pvd nmTd 7) (pvd nmTd 3) yl)
 case g9=>exact zy (pvd nmTd 7)
 walk_at"v";refine zA (v:= .int (y c)) hb (zz (yi (by omega))) ?_;walk_at"v";refine⟨_,_,rfl,rfl,EL.mulBb (EL.bb_of (m:=2) (by rcases hs with rfl | rfl<;>decide) (by decide)) (wq (hsm c (by omega)).2),?_⟩;walk_at"v";refine zA (v:= .int (x c)) ha (zz (yi (by omega))) ?_;walk_at"v";refine⟨_,_,rfl,rfl,EL.mulBb (EL.bb_of (m:=2) (by rcases hs with rfl | rfl<;>decide) (by decide)) (wq (hsm c (by omega)).1),?_⟩;walk_at"v";refine w_compZl ?_;walk_at"v";refine⟨a,b,rfl,⟨_,SqL.of ha⟩,⟨_,SqL.of hb⟩,fun D1 hD1=>?_⟩;refine gm_zpl (xs:=rowV n x) (zs:=rowV n y) (n:=n+1) (fun k v _=>v= .int ((s'*y c*x k - s'*x c*y k) / D)) (by rw[yz]; exact Nat.le_refl _) (by rw[yz]; exact Nat.le_refl _) (.inl (by rw[yz]; exact Nat.le_refl _)) hD1 (fun _ h=>h) (by omega) ha hb (fun i u v H' R' hi hu hv K' kR=>?_) (fun ys H1 g e1=>?_)
 ·rw[yi (by omega)] at hu hv;cases hu
  cases hv
  have s1:=XV hs (hsm c (by omega)).2;have s2:=XV hs (hsm c (by omega)).1;walk_at"v";refine⟨_,_,rfl,rfl,EL.mulBb (wq s1) (wq (hsm i (by omega)).1),?_⟩;walk_at"v";refine⟨_,_,rfl,rfl,EL.mulBb (wq s2) (wq (hsm i (by omega)).2),?_⟩;walk_at"v";refine zQ ?_;walk_at"v";refine⟨o,C,dx,fs,_,rfl,K' _ _ ho,R.c,R.n2,hfs,?_⟩;refine⟨_,_,rfl,rfl,⟨hD,Yv hDs⟩,?_⟩;exact kR _ _ (Same.refl _) rfl
 ·obtain⟨K1,hl,hy⟩:=g;have ey:ys=rowV n fun k=>(s'*y c*x k-s'*x c*y k) / D:=ve hl fun k hk=>by
   rw[List.getElem?_eq_getElem (by omega)];exact congrArg some (hy k _ (List.getElem?_eq_getElem (by omega)))
  subst ey;walk_at"v";refine yx e1 (j:=c) (by rw[yz]; exact x3 (by omega)) ?_;walk_at"v";have eset:(rowV n fun k=>(s'*y c*x k - s'*x c*y k) / D).set c (.int (s'*x c))=rowV n fun k=>if k=c then s'*x c else (s'*y c*x k - s'*x c*y k) / D:=by
   refine ve (by rw[List.length_set,yz]) fun k hk=>?_;by_cases e:k=c
   ·subst e; rw[if_pos rfl,List.getElem?_set_self (by rw[yz]; omega)]
   ·rw[if_neg e,List.getElem?_set_ne (Ne.symm e),yi hk]
  show Q (.ref D1) (upd H1 D1 (.lst ((rowV n fun k=>(s'*y c*x k-s'*x c*y k) / D).set c (.int (s'*x c)))));rw[eset];exact k D1 _ (K1.put hD1) hD1 zf
abbrev sTn:Stmt:=wE (top 9) 5
abbrev nTn:List Str:=["self","row","column","pivot","sign","rows","unknown"]
theorem nmTn:Nm nTn (ze sTn):=nmk (by decide+kernel)
theorem scTn:FnScope nTn ["self","row","column"] (ze sTn):=fsk (by decide+kernel)
def qTna (s:Stmt):Scope:=match s with
 | .Assign _ (.ListComp _ _ sc _) _=>sc
 | _=>nsc
abbrev cTna:Scope:=qTna ((zm sTn).getD 2 (.Pass ⟨0,0,0,0⟩))
theorem bsTna:BScope (ze sTn) cTna ["numbers"] ["column","pivot","self","sign"] []:={okind:=by decide+kernel,kind:=by decide+kernel,nocell:=by decide+kernel,names:=by decide+kernel,fr:=by decide+kernel,ff:=by decide+kernel,nd:=by decide+kernel,vis:=by decide+kernel,loc:=by decide+kernel,gl:=by decide+kernel}
def qTnb (s:Stmt):Scope:=match s with
 | .Assign _ (.ListComp _ _ sc _) _=>sc
 | _=>nsc
abbrev cTnb:Scope:=qTnb ((zm sTn).getD 3 (.Pass ⟨0,0,0,0⟩))
theorem bsTnb:BScope (ze sTn) cTnb ["number"] ["sign"] []:={okind:=by decide+kernel,kind:=by decide+kernel,nocell:=by decide+kernel,names:=by decide+kernel,fr:=by decide+kernel,ff:=by decide+kernel,nd:=by decide+kernel,vis:=by decide+kernel,loc:=by decide+kernel,gl:=by decide+kernel}
theorem loTn_5:(ze sTn).names.lookup ("rows":Str)=some .local:=by decide+kernel
theorem ite_k{p:Prop}[Decidable p]{te1 te2:TE}{σ:St}{H:Hp}{Q:VK}(v:V)(h1:p→ ∀Q:VK,Q v H→te1 σ H Q)(h2: ¬p→ ∀Q:VK,Q v H→te2 σ H Q)(h:Q v H):if decide p=true then te1 σ H Q else te2 σ H Q:=iteD (fun z=>h1 z Q h) fun z=>h2 z Q h
theorem sgn_or(p:Int):sgn p=1∨sgn p=-1:=by unfold sgn; split<;>simp
theorem updK(H:Hp)(x:Addr)(o:HO): ∃H',upd H x o=H'∧H' x=some o∧ ∀a u,a≠x→H a=some u→H' a=some u:=⟨_,rfl,zf,fun a u n e=>by rw[zh n]; exact e⟩
theorem rowV_ne{f:Nat→Int}{as:List Addr}:rowV n f≠as.map V.ref:=fun z=>by
 have h1:=yi (n:=n) (f:=f) (Nat.zero_le _);rw[z,List.getElem?_map] at h1;cases e:as[0]? with
 | none=>rw[e] at h1; cases h1
 | some a=>rw[e] at h1; cases h1
def spTn (C:Addr):Sp:=fun vs H Q _=> ∃(o:Addr) (n m r c:Nat) (v:Nat→Nat→Int) (S:Tb) (t:Nat) (dx pr pu pc:Addr) (ras:List Addr),vs=[.ref o,.int (r:Int),.int (c:Int)]∧TbA H C o n m S t dx pr pu pc ras∧Inv n m v S∧r<m∧c<n∧S.M (S.ru r) c≠0∧n≤40∧m≤60∧(∀q k,q<m→k≤n→Sm (S.M (S.ru q) k))∧Sm S.D∧
 ∀H' pr' ras',(∀a u,a≠o→a≠pu→a≠pc→H a=some u→H' a=some u)→TbA H' C o n m (turn S r c) (t+1) dx pr' pu pc ras'→Q .non H'
theorem ok_Tn{f:Addr}{fd:FuncData}{C:Addr}(R:TC K C)(B:Bl mg)(hT:HasM P w K mg base 1 C "turned" ["self","numbers","pivot","column","sign"] (spTd C))(F:Fun K "turn" "Tableau.turn" sTn f fd):FnOk P w K mg base CX0 2 f fd ["self","row","column"] (spTn C):=by
 refine F.ok scTn (fun vs H Q E h=>?_) (fun cdv A outer s H vs Q E hr h=>?_)
 ·obtain⟨o,n,m,r,c,v,S,t,dx,pr,pu,pc,ras,rfl,_⟩:=h;rfl
 obtain⟨o,n,m,r,c,v,S,t,dx,pr,pu,pc,ras,rfl,T,I,hrm,hcn,hp,hn,hm,hsm,hsd,k⟩:=h;refine'⟨_,?hb,?rd⟩
 case' hb=>skip
 case' hb=>refine' zd ?g1 ?g2
 case' g2=>refine' zd ?g3 ?g4
 case' g4=>refine' zd ?g5 ?g6
 case' g6=>refine' zd ?g7 ?g8
 case' g8=>refine' zd ?g9 ?g10
 case' g10=>refine' zd ?g11 ?g12
 case' g12=>refine' zd ?g13 ?g14
 case' g14=>refine' zd ?g15 ?g16
 case' g16=>refine' zd ?g17 ?g18
 case' g18=>refine' zd ?g19 ?g20
 case' g20=>refine' zj ?g21
 case g1=>exact zk nmTn 3 (ziq (zG (pvd nmTn 0) rfl) (pvd nmTn 1))
 case g3=>exact zk nmTn 4 (xP (zt vV (ziq (pvd nmTn 3) (pvd nmTn 2)) zg (zv _)) zg (w9 xL zg))
 case' g5=>refine' yj (i:=5) (ix:=[2,3,0,4]) nmTn.nd rfl loTn_5 bsTna.toCScope rfl rfl ?g22 ?g23 ?g24 ?g25
 case g22=>exact xm (zG (pvd nmTn 0) rfl)
 case g23=>exact fun _ _ _ _ _ _=>pgb bsTna 0
 case g24=>exact fun _ _ _ _ _ _=>zB
 case g25=>exact fun _ _ _ _ _ _=>pe_m hT hr (by omega) (pvb bsTna 3) (pa_c (pvb bsTna 0) (pa_c (pvb bsTna 2) (pa_2 (pvb bsTna 1) (pvb bsTna 4))))
 case' g7=>refine' zW ?g26 (zX (pvd nmTn 5) (pvd nmTn 1) yl)
 case' g26=>refine' zR (ix:=[4]) bsTnb.toCScope rfl rfl ?g27 ?g28 ?g29 ?g30
 case g27=>exact xm (pvd nmTn 3)
 case g28=>exact fun _ _ _ _ _ _=>pgb bsTnb 0
 case g29=>exact fun _ _ _ _ _ _=>zB
 case g30=>exact fun _ _ _ _ _ _=>zo xo (w9 xL (pvb bsTnb 1)) (pvb bsTnb 0)
 case g9=>exact zW (zo xo (pvd nmTn 4) (zG (pvd nmTn 0) rfl)) (zX (ziq (pvd nmTn 5) (pvd nmTn 1)) (pvd nmTn 2) yl)
 case g11=>exact xN (pvd nmTn 0) (pvd nmTn 5) rfl
 case g13=>exact xN (pvd nmTn 0) (zo xo (pvd nmTn 4) (ziq (pvd nmTn 3) (pvd nmTn 2))) rfl
 case g15=>exact zk nmTn 6 (ziq (zG (pvd nmTn 0) rfl) (pvd nmTn 1))
 case g17=>exact zW (ziq (zG (pvd nmTn 0) rfl) (pvd nmTn 2)) (zX (zG (pvd nmTn 0) rfl) (pvd nmTn 1) yl)
 case g19=>exact zW (pvd nmTn 6) (zX (zG (pvd nmTn 0) rfl) (pvd nmTn 2) yl)
 case g21=>exact ps_fldaug (pvd nmTn 0) zg in_add
 obtain⟨ra,g1,g2⟩:=T.row hrm;walk_at"v";refine zQ ?_;walk_at"v";refine⟨o,C,_,_,_,rfl,T.ob,R.c,R.n3,rfl,?_⟩;walk_at"v";refine zA (v:= .ref ra) T.rs (zz (by rw[List.getElem?_map,g1]; rfl)) ?_;walk_at"v";refine zA (v:= .int (S.M (S.ru r) c)) g2 (zz (yi (by omega))) ?_;walk_at"v";refine ite_k (.int (sgn (S.M (S.ru r) c))) (fun h Q q=>?_) (fun h Q q=>?_) ?_
 ·have e:sgn (S.M (S.ru r) c)=1:=by unfold sgn; rw[if_pos h]
  rw[e] at q;exact q
 ·have e:sgn (S.M (S.ru r) c)=-1:=by unfold sgn; rw[if_neg h]
  rw[e] at q;exact⟨_,rfl,q⟩
 have hsg:=sgn_or (S.M (S.ru r) c);generalize hsv:sgn (S.M (S.ru r) c)=sv at hsg ⊢;walk_at"v";refine zQ ?_;walk_at"v";refine⟨o,C,_,_,_,rfl,T.ob,R.c,R.n3,rfl,?_⟩;refine⟨pr,rfl,⟨_,SqL.of T.rs⟩,fun D1 hD1=>?_⟩;have hrl:=T.rl;refine nl_lst (xs:=ras.map V.ref) (fun q=>rowV n (yM S r c (S.ru q))) hD1 T.rs (by rw[List.length_map]; omega) (fun i x H' R' hx K' kR=>?_) (fun as1 H1 N1 e1=>?_)
 ·have hi:i<m:=by have:=(List.getElem?_eq_some_iff.mp hx).1; rw[List.length_map] at this; omega
  obtain⟨rb,f1,f2⟩:=T.row hi;rw[List.getElem?_map,f1] at hx;cases hx
  walk_at"v";refine xq ?_;walk_at"v";refine⟨o,dx,_,rfl,K' _ _ T.ob,rfl,?_⟩;walk_at"v";refine⟨o,rb,ra,dx,c,n,sv,S.D,_,_,_,rfl,K' _ _ T.ob,rfl,K' _ _ f2,K' _ _ g2,hcn,hn,I.D0,hsd,hsg,fun k hk=>⟨hsm i k hi hk,hsm r k hrm hk⟩,fun q H4 K4 hq e4=>kR q H4 K4 hq ?_⟩;rw[e4];congr 3
  funext k
  unfold yM;rw[hsv]
 have g21:=N1.sm _ _ g2;walk_at"v";refine⟨ra,rfl,⟨_,SqL.of g21⟩,fun D2 hD2=>?_⟩;refine XE (ws:=List.range (n+1)) (fun k=>V.int (S.M (S.ru r) k)) (fun k=>V.int (-sv*S.M (S.ru r) k)) g21 (by rw[List.length_range]; omega) hD2 (fun k hk H' K' R' kR=>?_) (fun H2 K2 e2=>?_)
 ·have hk:=List.mem_range.mp hk;walk_at"v";refine⟨_,rfl,?_⟩;walk_at"v";refine⟨_,_,rfl,rfl,EL.mulBb (EL.bb_of (m:=2) (by rcases hsg with rfl | rfl<;>decide) (by decide)) (wq (hsm r k hrm (by omega))),?_⟩;exact kR _ (Same.refl _)
 have K02:=N1.sm.trans K2;have T2:=T.same fun a u e _=>K02 a u e;have n12:D1≠D2:=zi e1 hD2;have e12:=K2 _ _ e1;have hal:=N1.len;rw[List.length_map,hrl] at hal;walk_at"v";refine yx e12 (j:=r) (by rw[List.length_map]; exact x3 (by omega)) ?_;obtain⟨H3,q3,e3,k3⟩:=updK H2 D1 (.lst ((as1.map V.ref).set r (.ref D2)));rw[q3]; clear q3;have eD3:=k3 _ _ (Ne.symm n12) e2;have f1: ∀a u,H a=some u→H3 a=some u:=fun a u e=>k3 a u (zi e hD1) (K02 _ _ e);walk_at"v";refine zQ ?_;walk_at"v";refine⟨o,C,_,_,_,rfl,(f1 _ _ T.ob),R.c,R.n2,rfl,?_⟩;refine⟨_,_,rfl,rfl,EL.mulBb (EL.bb_of (m:=2) (by rcases hsg with rfl | rfl<;>decide) (by decide)) (wq hsd),?_⟩;walk_at"v";refine zA (v:= .ref D2) e3 (zz (by rw[List.getElem?_set_self (by rw[List.length_map]; omega)])) ?_;walk_at"v";refine yx eD3 (j:=c) (by rw[List.length_map,List.length_range]; exact x3 (by omega)) ?_;obtain⟨H4,q4,e4,k4⟩:=updK H3 D2 (.lst (((List.range (n+1)).map fun k=>V.int (-sv*S.M (S.ru r) k)).set c (.int (sv*S.D))));rw[q4]; clear q4;have nD2: ∀a u,H a=some u→a≠D2:=fun a u e=>zi (N1.sm _ _ e) hD2;have f2: ∀a u,H a=some u→H4 a=some u:=fun a u e=>k4 a u (nD2 a u e) (f1 a u e);have e34:=k4 _ _ n12 e3;walk_at"v";refine xK ?_;walk_at"v";refine⟨o,C,dx,_,rfl,f2 _ _ T.ob,R.c,R.n3,by show 6<1000; decide,?_⟩;obtain⟨H5,q5,e5,k5⟩:=updK H4 o (.ins C dx (putF "rows" (.ref D1) (tFs n S.D pr pu pc t)));rw[q5]; clear q5;have nOf: ∀a u,H a=some u→(∀C dx fs,u≠.ins C dx fs)→a≠o:=Yd T.ob;have f3: ∀a u,a≠o→H a=some u→H5 a=some u:=fun a u n e=>k5 a u n (f2 a u e);walk_at"v";refine xK ?_;walk_at"v";refine zA (v:= .int (S.M (S.ru r) c)) (f3 _ _ (nOf _ _ g2 fun _ _ _ z=>by cases z) g2) (zz (yi (by omega))) ?_;refine⟨_,_,rfl,rfl,EL.mulBb (EL.bb_of (m:=2) (by rcases hsg with rfl | rfl<;>decide) (by decide)) (wq (hsm r c hrm (by omega))),?_⟩;walk_at"v";refine⟨o,C,dx,_,rfl,e5,R.c,R.n2,by show 6<1000; decide,?_⟩;obtain⟨H6,q6,e6,k6⟩:=updK H5 o (.ins C dx (putF "bottom" (.int (sv*S.M (S.ru r) c)) (putF "rows" (.ref D1) (tFs n S.D pr pu pc t))));dsimp only;rw[q6]; clear q6;have f4: ∀a u,a≠o→H a=some u→H6 a=some u:=fun a u n e=>k6 a u n (f3 a u n e);have npu:=nOf _ _ T.ru fun _ _ _ z=>by cases z
 have npc:=nOf _ _ T.cu fun _ _ _ z=>by cases z
 walk_at"v";refine zQ ?_;walk_at"v";refine⟨o,C,_,_,_,rfl,e6,R.c,R.n4,rfl,?_⟩;walk_at"v";refine zA (v:= .int ((S.ru r:Nat):Int)) (f4 _ _ npu T.ru) (zz (yq hrm)) ?_;walk_at"v";refine zQ ?_;walk_at"v";refine⟨o,C,_,_,_,rfl,e6,R.c,R.n5,rfl,?_⟩;walk_at"v";refine zA (v:= .int ((S.cu c:Nat):Int)) (f4 _ _ npc T.cu) (zz (yq hcn)) ?_;walk_at"v";refine zQ ?_;walk_at"v";refine⟨o,C,_,_,_,rfl,e6,R.c,R.n4,rfl,?_⟩;walk_at"v";refine yx (f4 _ _ npu T.ru) (j:=r) (by rw[yb]; exact x3 hrm) ?_;obtain⟨H7,q7,e7,k7⟩:=updK H6 pu (.lst ((natV m S.ru).set r (.int ((S.cu c:Nat):Int))));rw[q7]; clear q7;have e67:=k7 _ _ (Ne.symm npu) e6;walk_at"v";refine zQ ?_;walk_at"v";refine⟨o,C,_,_,_,rfl,e67,R.c,R.n5,rfl,?_⟩;walk_at"v";have c7:=k7 _ _ (Ne.symm T.ne) (f4 _ _ npc T.cu);refine yx c7 (j:=c) (by rw[yb]; exact x3 hcn) ?_;obtain⟨H8,q8,e8,k8⟩:=updK H7 pc (.lst ((natV n S.cu).set c (.int ((S.ru r:Nat):Int))));rw[q8]; clear q8;have e68:=k8 _ _ (Ne.symm npc) e67;dsimp only;refine w_saug ?_;walk_at"v";refine⟨o,C,dx,_,_,rfl,e68,R.c,R.n6,rfl,?_⟩;walk_at"v";refine⟨_,_,rfl,rfl,dx,_,e68,by show 6<1000; decide,?_⟩;obtain⟨H9,q9,e9,k9⟩:=updK H8 o (.ins C dx (tFs n (sv*S.M (S.ru r) c) D1 pu pc (t+1)));show Q .non (upd H8 o (.ins C dx (tFs n (sv*S.M (S.ru r) c) D1 pu pc (t+1))));rw[q9]; clear q9;have keep: ∀a u,a≠o→a≠pu→a≠pc→H4 a=some u→H9 a=some u:=fun a u n1 n2 n3 e=>k9 a u n1 (k8 a u n3 (k7 a u n2 (k6 a u n1 (k5 a u n1 e))))
 -- the new objects stand apart from the old ones
 have ap: ∀a,H a=none→a≠o∧a≠pu∧a≠pc:=fun a e=>⟨(fun z=>by rw[z,T.ob] at e; cases e),(fun z=>by rw[z,T.ru] at e; cases e),(fun z=>by rw[z,T.cu] at e; cases e)⟩;have hD2':H D2=none:=Same.free N1.sm hD2;obtain⟨d1,d2,d3⟩:=ap D1 hD1;obtain⟨b1,b2,b3⟩:=ap D2 hD2';refine k H9 D1 (as1.set r D2) (fun a u n1 n2 n3 e=>keep a u n1 n2 n3 (f2 a u e)) ⟨?_,?_,by rw[List.length_set]; exact hal,fun q a hq=>?_,?_,?_,T.ne⟩
 ·rw[e9,show(turn S r c).D=sv*S.M (S.ru r) c by rw[←hsv]; rfl]
 ·have:=keep _ _ d1 d2 d3 e34;rw[this,List.map_set]
 ·by_cases hqr:q=r
  ·subst hqr;rw[List.getElem?_set_self (by omega)] at hq;cases hq
   rw[keep _ _ b1 b2 b3 e4];congr 2;refine ve (by simp) fun kk hk=>?_;have eru:(turn S q c).ru q=S.cu c:=by show updN S.ru q (S.cu c) q=_; unfold updN; rw[if_pos rfl]
   rw[eru];show _=some (V.int (yM S q c (S.cu c) kk));by_cases ek:kk=c
   ·rw[ek,List.getElem?_set_self (by simp; omega),xw,hsv,I.mc c hcn c (by omega),if_pos rfl]
   ·rw[List.getElem?_set_ne (Ne.symm ek),List.getElem?_map,List.getElem?_range (by omega)];have h1:=I.turn_mul hrm hcn (I.cl c hcn) hk ek;rw[I.mc c hcn kk hk,I.mc c hcn c (by omega),if_neg ek,if_pos rfl,hsv] at h1;have h2:yM S q c (S.cu c) kk=-sv*S.M (S.ru q) kk:=wJ I.D0 (by rw[h1]; grind);rw[h2];rfl
  ·rw[List.getElem?_set_ne (Ne.symm hqr)] at hq;have hq0:=N1.nw a (List.mem_of_getElem? hq);obtain⟨z1,z2,z3⟩:=ap a hq0;have h1:=N1.at_ q a hq;have na1:a≠D1:=fun z=>by
    rw[z,e1] at h1;injection h1 with h1
    injection h1 with h1
    exact rowV_ne h1.symm
   have na2:a≠D2:=zi h1 hD2;have eru:(turn S r c).ru q=S.ru q:=by show updN S.ru r (S.cu c) q=_; unfold updN; rw[if_neg hqr]
   rw[eru];exact keep _ _ z1 z2 z3 (k4 _ _ na2 (k3 _ _ na1 (K2 _ _ h1)))
 ·rw[k9 _ _ npu (k8 _ _ T.ne e7)];congr 2;refine YE (by rw[List.length_set,yb]) fun q hq=>?_;show _=some (V.int ((updN S.ru r (S.cu c) q:Nat):Int));unfold updN;by_cases e:q=r
  ·subst e; rw[if_pos rfl,List.getElem?_set_self (by rw[yb]; exact hq)]
  ·rw[if_neg e,List.getElem?_set_ne (Ne.symm e),yq hq]
 ·rw[k9 _ _ npc e8];congr 2;refine YE (by rw[List.length_set,yb]) fun q hq=>?_;show _=some (V.int ((updN S.cu c (S.ru r) q:Nat):Int));unfold updN;by_cases e:q=c
  ·subst e; rw[if_pos rfl,List.getElem?_set_self (by rw[yb]; exact hq)]
  ·rw[if_neg e,List.getElem?_set_ne (Ne.symm e),yq hq]
end
end K16
namespace WG
def wsum (ws:List (Int×Int)) (f:Int→Int):Int:=(ws.map fun w=>w.2*f w.1).sum
theorem zL{f:Int→Int}:wsum (w::ws) f=w.2*f w.1+wsum ws f:=by simp[wsum]
theorem wsum_perm{ws:List (Int×Int)}(h:ws.Perm us)(f:Int→Int):wsum ws f=wsum us f:=by
 induction h with
 | nil=>rfl
 | cons x _ ih=>rw[zL,zL,ih]
 | swap x y l=>rw[zL,zL,zL,zL]; omega
 | trans _ _ a b=>rw[a,b]
theorem vn{f g:Int→Int}(h: ∀w∈ws,f w.1=g w.1):wsum ws f=wsum ws g:=by
 induction ws with
 | nil=>rfl
 | cons w ws ih=>rw[zL,zL,h w List.mem_cons_self,ih fun x hx=>h x (List.mem_cons_of_mem _ hx)]
theorem wsum_div(h: ∀w∈ws,g ∣ w.2)(f:Int→Int):g*wsum (ws.map fun w=>(w.1,w.2 / g)) f=wsum ws f:=by
 induction ws with
 | nil=>simp[wsum]
 | cons w ws ih=>
  rw[List.map_cons,zL,zL,Int.mul_add,ih fun x hx=>h x (List.mem_cons_of_mem _ hx),←Int.mul_assoc,Int.mul_ediv_cancel' (h w List.mem_cons_self)]
theorem wsum_nonneg{f:Int→Int}(h: ∀w∈ws,0≤w.2∧0≤f w.1):0≤wsum ws f:=by
 induction ws with
 | nil=>exact Int.le_refl _
 | cons w ws ih=>
  rw[zL];have h1:=h w List.mem_cons_self;have h2:=ih fun x hx=>h x (List.mem_cons_of_mem _ hx);have:=Int.mul_nonneg h1.1 h1.2;omega
structure Bw (n m:Nat) (v:Nat→Nat→Int) (ws:List (Int×Int)):Prop where
 rise:ws.Pairwise fun a b=>a.1<b.1
 rng: ∀w∈ws,0≤w.1∧w.1<m
 pos: ∀w∈ws,1≤w.2
 ne:ws≠[]
 zer: ∀j<n,wsum ws (fun i=>v (n+i.toNat) j)=0
 neg:wsum ws (fun i=>v (n+i.toNat) n)≤ -1
def Met (n m:Nat) (v:Nat→Nat→Int) (x:Nat→Int) (d:Int):Prop:= ∀i<m,0≤(sm n fun j=>v (n+i) j*x j)+v (n+i) n*d
section
variable {n m:Nat} {v:Nat→Nat→Int} {S:Tb}
theorem vo(p:Nat→Bool)(f:Nat→Int): ∀n,(((List.range n).filter p).map f).sum=sm n fun c=>if p c=true then f c else 0
 | 0=>rfl
 | n+1=>by
  rw[List.range_succ,List.filter_append,List.map_append,List.sum_append,vo p f n];show _=sm n _+_;by_cases h:p n=true
  ·rw[List.filter_cons_of_pos h]; simp[h]
  ·rw[List.filter_cons_of_neg h]; simp[h]
def prs0 (n:Nat) (S:Tb) (r:Nat):List (Int×Int):=((S.ru r:Int)-n,S.D)::((List.range n).filter fun c=>decide (S.M (S.ru r) c≠0)).map fun c=>((S.cu c:Int)-n,- S.M (S.ru r) c)
structure Stuck (n m:Nat) (S:Tb) (r:Nat):Prop where
 lo:low n m S r
 no: ∀c<n,(S.cu c<n→S.M (S.ru r) c=0)∧(n≤S.cu c→S.M (S.ru r) c≤0)
theorem Stuck.col(I:Inv n m v S)(K:Stuck n m S r)(hc:c<n)(h:S.M (S.ru r) c≠0):n≤S.cu c∧S.M (S.ru r) c<0∧S.cu c<n+m:=by
 have h1:=K.no c hc;have h2:=I.cl c hc;by_cases z:S.cu c<n
 ·exact absurd (h1.1 z) h
 ·have:=h1.2 (by omega);omega
theorem prs_sum(I:Inv n m v S)(K:Stuck n m S r)(hj:j≤n):wsum (prs0 n S r) (fun i=>v (n+i.toNat) j)=S.M (S.ru r) n*un n j:=by
 unfold prs0;rw[zL];have hr:=K.lo;have e0:n+((S.ru r:Int)-n).toNat=S.ru r:=by have:=hr.2.1; omega
 dsimp only;rw[e0];unfold wsum;rw[List.map_map];have e1:(((List.range n).filter fun c=>decide (S.M (S.ru r) c≠0)).map ((fun w:Int×Int=>w.2*v (n+w.1.toNat) j) ∘ fun c=>((S.cu c:Int)-n,- S.M (S.ru r) c)))=((List.range n).filter fun c=>decide (S.M (S.ru r) c≠0)).map fun c=> - S.M (S.ru r) c*v (S.cu c) j:=List.map_congr_left fun c hc=>by
  rw[List.mem_filter,List.mem_range] at hc;have h1:=K.col I hc.1 (by simpa using hc.2);show-S.M (S.ru r) c*v (n+((S.cu c:Int)-n).toNat) j=_;rw[show n+((S.cu c:Int)-n).toNat=S.cu c by omega]
 rw[e1,vo];have hA:=I.A _ (I.rl r hr.1) j hj;rw[hA];show sm n _+S.M (S.ru r) n*wv n v S.cu n j+_=_;have e2:(sm n fun c=>if decide (S.M (S.ru r) c≠0)=true then-S.M (S.ru r) c*v (S.cu c) j else 0)=sm n fun c=>(-1)*(S.M (S.ru r) c*wv n v S.cu c j):=zx fun c hc=>by
  unfold wv;rw[if_pos hc];by_cases z:S.M (S.ru r) c=0
  ·rw[if_neg (by simp[z]),z]; simp
  ·rw[if_pos (by simp[z])]; grind
 rw[e2,yW];have e3:wv n v S.cu n j=un n j:=by unfold wv; rw[if_neg (by omega)]
 rw[e3]
 grind
theorem Zm(I:Inv n m v S)(K:Stuck n m S r)(h:w∈prs0 n S r):(0≤w.1∧w.1<m)∧1≤w.2∧((w.2=S.D)∨ ∃c<n,w.2=- S.M (S.ru r) c):=by
 unfold prs0 at h;rcases List.mem_cons.mp h with rfl | h
 ·have h1:=K.lo.2.1;have h2:=I.rl r K.lo.1;have:=I.D0;exact⟨⟨by dsimp only; omega,by dsimp only; omega⟩,by dsimp only; omega,.inl rfl⟩
 ·obtain⟨c,hc,rfl⟩:=List.mem_map.mp h;rw[List.mem_filter,List.mem_range] at hc;have h1:=K.col I hc.1 (by simpa using hc.2);exact⟨⟨by dsimp only; omega,by dsimp only; omega⟩,by dsimp only; omega,.inr ⟨c,hc.1,rfl⟩⟩
theorem prs_nodup(I:Inv n m v S)(hr:r<m):((prs0 n S r).map (·.1)).Nodup:=by
 unfold prs0;rw[List.map_cons,List.map_map,List.nodup_cons];refine⟨fun h=>?_,?_⟩
 ·obtain⟨c,hc,e⟩:=List.mem_map.mp h;rw[List.mem_filter,List.mem_range] at hc;have e:(S.cu c:Int)-n=(S.ru r:Int)-n:=e;exact I.rc r hr c hc.1 (by omega)
 ·have h0:=(List.nodup_range (n:=n)).filter fun c=>decide (S.M (S.ru r) c≠0);refine List.pairwise_map.mpr (List.Pairwise.imp_of_mem (fun {a b} ha hb hne e=>?_) h0);rw[List.mem_filter,List.mem_range] at ha hb;have e:(S.cu a:Int)-n=(S.cu b:Int)-n:=e;exact hne (I.ci a ha.1 b hb.1 (by omega))
theorem bears(I:Inv n m v S)(K:Stuck n m S r)(hg:0<g)(hd: ∀w∈prs0 n S r,g ∣ w.2){us:List (Int×Int)}(hp:us.Perm (prs0 n S r))(hs:us.Pairwise fun a b=>a.1<b.1):Bw n m v (us.map fun w=>(w.1,w.2 / g)):=by
 have hm: ∀w∈us,w∈prs0 n S r:=fun w hw=>hp.mem_iff.mp hw;have hsum: ∀j≤n,g*wsum (us.map fun w=>(w.1,w.2 / g)) (fun i=>v (n+i.toNat) j)=S.M (S.ru r) n*un n j:=fun j hj=>by
  rw[wsum_div fun w hw=>hd w (hm w hw),wsum_perm hp,prs_sum I K hj]
 refine⟨?_,fun w hw=>?_,fun w hw=>?_,?_,fun j hj=>?_,?_⟩
 ·rw[List.pairwise_map]; exact hs
 ·obtain⟨u,hu,rfl⟩:=List.mem_map.mp hw;exact(Zm I K (hm u hu)).1
 ·obtain⟨u,hu,rfl⟩:=List.mem_map.mp hw;have h1:=(Zm I K (hm u hu)).2.1;obtain⟨q,hq⟩:=hd u (hm u hu);show 1≤u.2 / g;rw[hq,Int.mul_ediv_cancel_left _ (by omega)];rcases Int.lt_or_le 0 q with z | z
  ·omega
  ·have:g*q≤0:=Int.mul_nonpos_of_nonneg_of_nonpos (by omega) z;omega
 ·intro z;have e:us=[]:=List.map_eq_nil_iff.mp z;rw[e] at hp;have:=hp.length_eq;simp[prs0] at this
 ·have:=hsum j (by omega);unfold un at this;rw[if_neg (by omega),Int.mul_zero] at this;rcases Int.mul_eq_zero.mp this with z | z
  ·omega
  ·exact z
 ·have:=hsum n (Nat.le_refl _);unfold un at this;rw[if_pos rfl,Int.mul_one] at this;have h1:=K.lo.2.2;rw[←this] at h1;rcases Int.lt_or_le (wsum (us.map fun w=>(w.1,w.2 / g)) (fun i=>v (n+i.toNat) n)) 0 with z | z
  ·omega
  ·have:=Int.mul_nonneg (Int.le_of_lt hg) z;omega
theorem meets(I:Inv n m v S)(h: ∀r,¬low n m S r)(hg:0<g)(hD:g ∣ S.D)(hx: ∀j<n,g ∣ S.M j n):1≤S.D / g∧Met n m v (fun j=>S.M j n / g) (S.D / g):=by
 have hD0:=I.D0;refine⟨?_,fun i hi=>?_⟩
 ·obtain⟨q,hq⟩:=hD;rw[hq,Int.mul_ediv_cancel_left _ (by omega)];rcases Int.lt_or_le 0 q with z | z
  ·omega
  ·have:g*q≤0:=Int.mul_nonpos_of_nonneg_of_nonpos (by omega) z;omega
 ·have h0:0≤S.M (n+i) n:=by
   rcases I.al (n+i) (by omega) with ⟨r,hr,e⟩ | ⟨c,hc,e⟩
   ·have:=h r;unfold low at this;rw[e] at this;omega
   ·rw[←e,I.mc c hc n (Nat.le_refl _),if_neg (by omega)]; exact Int.le_refl _
  have hB:=I.B (n+i) (by omega) n (Nat.le_refl _);rw[if_pos rfl] at hB;have e1:g*((sm n fun j=>v (n+i) j*(S.M j n / g))+v (n+i) n*(S.D / g))=S.M (n+i) n:=by
   rw[Int.mul_add,←yW,hB];congr 1
   ·refine zx fun j hj=>?_;have:=Int.mul_ediv_cancel' (hx j hj)
    grind
   ·have:=Int.mul_ediv_cancel' hD
    grind
  rcases Int.lt_or_le ((sm n fun j=>v (n+i) j*(S.M j n / g))+v (n+i) n*(S.D / g)) 0 with z | z
  ·have:=Int.mul_neg_of_pos_of_neg hg z;omega
  ·exact z
end
end WG
namespace L2
open PySem PySem.Spec PyProof.Rows G2
section
variable {S:Hp→Hp→Prop} {D:Addr} {te:TE} {Q:VK} {ρ:St} {H:Hp} {K:W.Frag} {a:Addr} {rs:List Addr}
theorem gm_lst2(Ok:Nat→V→Hp→Prop)(kp:Kp S D H)(mono: ∀{j y H1 H2},TK H1 H2→Ok j y H1→Ok j y H2)(tk: ∀{H1 H2},S H H1→S H1 H2→TK H1 H2)(hn:rs.length≤1000)(src: ∀H',S H H'→SqL K H' a (rs.map V.ref))
  (step: ∀i r H',rs[i]? =some r→S H H'→ ∃u v,H' r=some (.tup [u,v])∧ ∀(R:V→Hp→Prop),(∀y H4,S H' H4→Ok i y H4→R y H4)→te (some u::some v::ρ) H' R)
  (q: ∀ys H',GP S Ok H rs.length ys H'→H' D=some (.lst ys)→Q (.ref D) H'):CGo (Itl K a) D (gTup K 2 (yB (zI 0) (yB (zI 1) gNil))) tAll te Q (none::none::ρ) H:=by
 refine⟨fun i m τ ys H'=>m=rs.length-i∧i≤rs.length∧(∃tv tw,τ=tv::tw::ρ)∧GP S Ok H i ys H'∧H' D=some (.lst ys),⟨rs.length,by omega,Nat.zero_le _,⟨_,_,rfl⟩,⟨kp.refl,rfl,fun j y h=>by simp at h⟩,zf⟩,?_⟩;rintro i m τ ys H' ⟨rfl,hi,⟨tv,tw,rfl⟩,g,hD⟩;refine⟨hD,?_⟩;have sq:=src H' g.1;by_cases hlt:i<rs.length
 ·refine .inr ⟨⟨_,.ref rs[i],sq,by simp[hlt]⟩,?_⟩;rintro v H'' ⟨rfl,hv⟩;have hv':=hv _ sq;rw[List.getElem?_map,List.getElem?_eq_getElem hlt] at hv';cases hv'
  obtain⟨u,v,e,h⟩:=step i rs[i] _ (List.getElem?_eq_getElem hlt) g.1;refine⟨rs[i],[u,v],rfl,SqT.of e,rfl,u,[v],rfl,v,[],rfl,rfl,?_⟩;refine zZ (iteT (h _ fun y H4 k hy=>⟨kp.at' g.1 k hD,zu (by have:=g.2.1; omega),rs.length-(i+1),by omega,rfl,hlt,⟨_,_,rfl⟩,wF (Ok:=Ok) kp mono tk g k (kp.at' g.1 k hD) hy,zf⟩))
 ·have e:i=rs.length:=by omega
  subst e;exact .inl ⟨⟨_,sq,by simp⟩,q ys _ g hD⟩
end
theorem ZV{K:W.Frag}{a b:Addr}{xs zs:List V}(hz:xs.length≤zs.length){g:TG}{tb:TS}{D:Ends}{σ:St}{H:Hp}(Pv:Nat→St→Hp→Prop)(h0:Pv 0 σ H)(hl: ∀i σ H,Pv i σ H→SqL K H a xs∧SqL K H b zs)
  (hs: ∀(i:Nat) (x y:V) σ H p,xs[i]? =some x→zs[i]? =some y→Pv i σ H→H p=none→g (.ref p) σ (upd H p (.tup [x,y])) fun σ2 H2=>tb {D with nx:=Pv (i+1),ct:=Pv (i+1),bk:=D.nx} σ2 H2) (hd: ∀σ H,Pv xs.length σ H→D.nx σ H):
  ForJ (Itzl K a b) g tb D σ H:=by
 refine⟨fun i m σ H=>m=xs.length-i∧i≤xs.length∧Pv i σ H,⟨xs.length,by simp,Nat.zero_le _,h0⟩,?_⟩;rintro i m σ H ⟨rfl,hi,p⟩;have qa:=hl i σ H p;by_cases hlt:i<xs.length
 ·have hlz:i<zs.length:=by omega
  refine .inr ⟨⟨xs,zs,xs[i],zs[i],qa.1,qa.2,by simp[hlt],by simp[hlz]⟩,Pv (i+1),fun σ' H' p'=>⟨xs.length-(i+1),by omega,rfl,hlt,p'⟩,fun v H' yv=>?_⟩;obtain⟨q,x,y,rfl,hq,rfl,ex,ey⟩:=yv;exact hs i x y σ H q (ex xs qa.1) (ey zs qa.2) p hq
 ·have e:i=xs.length:=by omega
  subst e;exact .inl ⟨⟨xs,zs,qa.1,qa.2,.inl (Nat.le_refl _)⟩,hd σ H p⟩
end L2
namespace PySem.W
open PySem PySem.Calls PyProof.Rows
def Sat {α:Type} (lt:Nat→Nat→Bool) (n:Nat):KasT α→(α→Prop)→Prop
 | .ret a,P=>P a
 | .ask i j k,P=>i<n∧j<n∧Sat lt n (k (lt i j)) P
theorem Sat.bind{lt:Nat→Nat→Bool}{P:α→Prop}{Q:β→Prop}{f:α→KasT β}(hf: ∀a,P a→Sat lt n (f a) Q): ∀{t:KasT α},Sat lt n t P→Sat lt n (t.bind f) Q
 | .ret a,h=>hf a h
 | .ask i j k,h=>⟨h.1,h.2.1,Sat.bind hf h.2.2⟩
theorem Sat.ok{lt:Nat→Nat→Bool}{P:α→Prop}: ∀{t:KasT α},Sat lt n t P→t.okFor lt n=true∧P (t.eval lt)
 | .ret a,h=>⟨rfl,h⟩
 | .ask i j k,h=>by
  obtain⟨h1,h2⟩:=Sat.ok h.2.2;refine⟨?_,h2⟩;unfold KasT.okFor;rw[decide_eq_true h.1,decide_eq_true h.2.1,h1];rfl
structure Lin (lt:Nat→Nat→Bool) (n:Nat):Prop where
 irr: ∀i,i<n→lt i i=false
 tr: ∀i j k,i<n→j<n→k<n→lt i j=true→lt j k=true→lt i k=true
 tot: ∀i j,i<n→j<n→i≠j→lt i j=false→lt j i=true
structure Pm (n:Nat) (p:Array Nat):Prop where
 pm:p.toList.Perm (List.range n)
section
variable {lt:Nat→Nat→Bool} {n:Nat} {p:Array Nat}
theorem Pm.size(h:Pm n p):p.size=n:=by have:=h.pm.length_eq; simpa using this
theorem Pm.bd(h:Pm n p)(hi:i<n):p.getD i 0<n:=by
 have hs:=h.size;have hi':i<p.toList.length:=by simpa[hs] using hi
 have:p.getD i 0=p.toList[i]:=by simp[Array.getD_eq_getD_getElem?,hs,hi]
 rw[this];exact List.mem_range.mp (h.pm.mem_iff.mp (List.getElem_mem hi'))
theorem Pm.ne(h:Pm n p)(hi:i<n)(hj:j<n)(hne:i≠j):p.getD i 0≠p.getD j 0:=by
 have hs:=h.size;have nd:p.toList.Nodup:=h.pm.nodup_iff.mpr List.nodup_range;have hi':i<p.toList.length:=by simpa[hs] using hi
 have hj':j<p.toList.length:=by simpa[hs] using hj
 have e1:p.getD i 0=p.toList[i]:=by simp[Array.getD_eq_getD_getElem?,hs,hi]
 have e2:p.getD j 0=p.toList[j]:=by simp[Array.getD_eq_getD_getElem?,hs,hj]
 rw[e1,e2];exact fun e=>hne ((List.getElem_inj nd).mp e)
def So (lt:Nat→Nat→Bool) (p:Array Nat) (k:Nat):Prop:= ∀i j,i<j→j<k→lt (p.getD i 0) (p.getD j 0)=true
def De (lt:Nat→Nat→Bool) (p:Array Nat) (k:Nat):Prop:= ∀i j,i<j→j<k→lt (p.getD j 0) (p.getD i 0)=true
theorem So.one:So lt p 1:=fun i j h1 h2=>by omega
theorem So.step(L:Lin lt n)(h:Pm n p)(h1:1≤k)(hk:k<n)(s:So lt p k)(e:lt (p.getD k 0) (p.getD (k-1) 0)=false):So lt p (k+1):=fun i j hij hj=>by
 rcases Nat.lt_or_ge j k with w | w
 ·exact s i j hij w
 ·obtain rfl:j=k:=by omega
  have t:lt (p.getD (j-1) 0) (p.getD j 0)=true:=L.tot _ _ (h.bd hk) (h.bd (by omega)) (h.ne hk (by omega) (by omega)) e;by_cases hi:i=j-1
  ·rw[hi]; exact t
  ·exact L.tr _ _ _ (h.bd (by omega)) (h.bd (by omega)) (h.bd hk) (s i (j-1) (by omega) (by omega)) t
theorem De.step(L:Lin lt n)(h:Pm n p)(h1:1≤k)(hk:k<n)(s:De lt p k)(t:lt (p.getD k 0) (p.getD (k-1) 0)=true):De lt p (k+1):=fun i j hij hj=>by
 rcases Nat.lt_or_ge j k with w | w
 ·exact s i j hij w
 ·obtain rfl:j=k:=by omega
  by_cases hi:i=j-1
  ·rw[hi]; exact t
  ·exact L.tr _ _ _ (h.bd hk) (h.bd (by omega)) (h.bd (by omega)) t (s i (j-1) (by omega) (by omega))
theorem ZD(L:Lin lt n)(h:Pm n p): ∀(f k:Nat),1≤k→k+f≤n→So lt p k→Sat lt n (kas_asc p f k) fun m=>k≤m∧m≤k+f∧So lt p m∧(m=k+f∨lt (p.getD m 0) (p.getD (m-1) 0)=true)
 | 0,k,_,_,s=>⟨Nat.le_refl _,Nat.le_refl _,s,.inl rfl⟩
 | f+1,k,h1,h2,s=>by
  refine⟨h.bd (by omega),h.bd (by omega),?_⟩;cases hc:lt (p.getD k 0) (p.getD (k-1) 0) with
  | true=>exact⟨Nat.le_refl _,by omega,s,.inr hc⟩
  | false=>
   have:=ZD L h f (k+1) (by omega) (by omega) (So.step L h h1 (by omega) s hc);show Sat lt n (kas_asc p f (k+1)) _;have key: ∀{t:KasT Nat} {P Q:Nat→Prop},Sat lt n t P→(∀a,P a→Q a)→Sat lt n t Q:=by
    intro t P Q
    induction t with
    | ret a=>exact fun x y=>y a x
    | ask i j k ih=>exact fun x y=>⟨x.1,x.2.1,ih _ x.2.2 y⟩
   exact key this fun m ⟨a1,a2,a3,a4⟩=>⟨by omega,by omega,a3,a4.imp (fun e=>by omega) id⟩
theorem Sat.mono{P Q:α→Prop}: ∀{t:KasT α},Sat lt n t P→(∀a,P a→Q a)→Sat lt n t Q
 | .ret a,x,y=>y a x
 | .ask i j k,x,y=>⟨x.1,x.2.1,Sat.mono x.2.2 y⟩
theorem Z0(L:Lin lt n)(h:Pm n p): ∀(f k:Nat),2≤k→k+f≤n→De lt p k→Sat lt n (kas_desc f p k 0) fun r=>r.1=p∧r.2.2=0∧k≤r.2.1∧r.2.1≤n∧De lt p r.2.1
 | 0,k,_,h2,s=>⟨rfl,rfl,Nat.le_refl _,by show k≤n; omega,s⟩
 | f+1,k,h1,h2,s=>by
  refine⟨h.bd (by omega),h.bd (by omega),?_⟩;cases hc:lt (p.getD k 0) (p.getD (k-1) 0) with
  | true=>
   exact(Z0 L h f (k+1) (by omega) (by omega) (De.step L h (by omega) (by omega) s hc)).mono fun r ⟨a1,a2,a3,a4,a5⟩=>⟨a1,a2,by omega,a4,a5⟩
  | false=>
   refine⟨h.bd (by omega),h.bd (by omega),?_⟩;have t:lt (p.getD (k-1) 0) (p.getD k 0)=true:=L.tot _ _ (h.bd (by omega)) (h.bd (by omega)) (h.ne (by omega) (by omega) (by omega)) hc;rw[t];exact⟨rfl,rfl,Nat.le_refl _,by show k≤n; omega,s⟩
theorem rev_pm(h:Pm n p)(i j:Nat):Pm n (kas_rev p i j):=⟨(Array.perm_iff_toList_perm.mp (mirror_perm p i j ((j-i) / 2))).trans h.pm⟩
theorem Y9(h:Pm n p)(hm:m≤n)(hk:k<m):(kas_rev p 0 m).getD k 0=p.getD (m-1-k) 0:=by
 have hs:=h.size;have:=getElem?_mirror_all (xs:=p) (i:=0) (j:=m) (by omega) k;unfold kas_rev;rw[Array.getD_eq_getD_getElem?,this,if_pos (by omega),Array.getD_eq_getD_getElem?,show 0+m-1-k=m-1-k by omega]
theorem De.rev(h:Pm n p)(hm:m≤n)(d:De lt p m):So lt (kas_rev p 0 m) m:=fun i j hij hj=>by
 rw[Y9 h hm (by omega),Y9 h hm hj];exact d _ _ (by omega) (by omega)
theorem count_sat(L:Lin lt n)(h:Pm n p)(h2:2≤n):Sat lt n (kas_count n p) fun r=>1≤r.1∧r.1≤n∧Pm n r.2∧So lt r.2 r.1:=by
 unfold kas_count;refine Sat.bind (fun m ⟨a1,a2,a3,a4⟩=>?_) (ZD L h (n-1) 1 (Nat.le_refl _) (by omega) So.one);by_cases e:m=n
 ·rw[if_pos (by simpa using e)];exact⟨a1,by show m≤n; omega,h,a3⟩
 rw[if_neg (by simpa using e)];by_cases e1:m>1
 ·rw[if_pos e1];refine⟨h.bd (by omega),h.bd (by omega),?_⟩;rw[a3 0 (m-1) (by omega) (by omega)];exact⟨a1,by show m≤n; omega,h,a3⟩
 rw[if_neg e1];obtain rfl:m=1:=by omega
 have t:lt (p.getD 1 0) (p.getD 0 0)=true:=a4.resolve_left (by omega);unfold kas_descPart;refine Sat.bind (fun r ⟨b1,b2,b3,b4,b5⟩=>?_) (Z0 L h (n-(1+1)) 2 (Nat.le_refl _) (by omega) fun i j hij hj=>by
  obtain⟨rfl,rfl⟩:i=0∧j=1:=by omega
  exact t)
 rw[if_neg (by omega),b1];unfold kas_tail3;have hr:=rev_pm h 0 r.2.1;refine Sat.bind (fun m' ⟨c1,c2,c3,_⟩=>?_) (ZD L hr (n-r.2.1) r.2.1 (by omega) (by omega) (De.rev h b4 b5));exact⟨by show 1≤m'; omega,by show m'≤n; omega,hr,c3⟩
theorem wR(L:Lin lt n)(h:Pm n p)(hk:k<n)(s:So lt p k): ∀(f l r:Nat),l≤r→r≤k→r-l≤f→(∀i,i<l→lt (p.getD i 0) (p.getD k 0)=true)→(∀i,r≤i→i<k→lt (p.getD k 0) (p.getD i 0)=true)→
  Sat lt n (kas_place p k f l r) fun m=>m≤k∧(∀i,i<m→lt (p.getD i 0) (p.getD k 0)=true)∧ ∀i,m≤i→i<k→lt (p.getD k 0) (p.getD i 0)=true
 | 0,l,r,h1,h2,h3,a,b=>⟨by show l≤k; omega,a,fun i hi hk'=>b i (by omega) hk'⟩
 | f+1,l,r,h1,h2,h3,a,b=>by
  unfold kas_place;by_cases e:l≥r
  ·rw[if_pos e];exact⟨by omega,a,fun i hi hk'=>b i (by omega) hk'⟩
  rw[if_neg e];have hm:(l+r) / 2<r:=by omega
  refine⟨h.bd hk,h.bd (by omega),?_⟩;cases hc:lt (p.getD k 0) (p.getD ((l+r) / 2) 0) with
  | true=>
   refine wR L h hk s f l ((l+r) / 2) (by omega) (by omega) (by omega) a fun i hi hk'=>?_;by_cases ei:i=(l+r) / 2
   ·rw[ei]; exact hc
   ·exact L.tr _ _ _ (h.bd hk) (h.bd (by omega)) (h.bd (by omega)) hc (s _ i (by omega) hk')
  | false=>
   have t:=L.tot _ _ (h.bd hk) (h.bd (by omega)) (h.ne hk (by omega) (by omega)) hc;refine wR L h hk s f ((l+r) / 2+1) r (by omega) h2 (by omega) (fun i hi=>?_) b;by_cases ei:i=(l+r) / 2
   ·rw[ei]; exact t
   ·exact L.tr _ _ _ (h.bd (by omega)) (h.bd (by omega)) (h.bd hk) (s i _ (by omega) (by omega)) t
theorem bub_pm(h:Pm n p)(k d:Nat):Pm n (bubble p k d):=⟨(Array.perm_iff_toList_perm.mp (bubble_perm p k d)).trans h.pm⟩
theorem XF(h:Pm n p)(hk:k<n)(hl:l≤k):(bubble p k (k-l)).getD i 0=if i=l then p.getD k 0 else if l<i∧i≤k then p.getD (i-1) 0 else p.getD i 0:=by
 have hs:=h.size;have:=getElem?_bubble (xs:=p) (src:=k) (by omega) (k-l) (by omega) i;rw[Array.getD_eq_getD_getElem?,this,show k-(k-l)=l by omega];split
 ·rw[Array.getD_eq_getD_getElem?]
 ·split
  ·rw[Array.getD_eq_getD_getElem?]
  ·rw[Array.getD_eq_getD_getElem?]
theorem YU(L:Lin lt n): ∀(f k:Nat) (p:Array Nat),Pm n p→k+f=n→So lt p k→Sat lt n (kas_bin f p k) fun q=>Pm n q∧So lt q n
 | 0,k,p,h,e,s=>⟨h,by rw[←e]; exact s⟩
 | f+1,k,p,h,e,s=>by
  unfold kas_bin;refine Sat.bind (fun l ⟨a1,a2,a3⟩=>?_) (wR L h (by omega) s k 0 k (Nat.zero_le _) (Nat.le_refl _) (by omega) (fun i hi=>by omega) fun i h1 h2=>by omega);refine YU L f (k+1) _ (bub_pm h _ _) (by omega) fun i j hij hj=>?_;rw[XF h (by omega) a1,XF h (by omega) a1];by_cases ei:i=l
  ·subst ei;rw[if_pos rfl,if_neg (by omega),if_pos (by omega)];exact a3 _ (by omega) (by omega)
  ·rw[if_neg ei];by_cases ej:j=l
   ·subst ej;rw[if_pos rfl,if_neg (by omega)];exact a2 i hij
   ·rw[if_neg ej];by_cases hi:l<i∧i≤k
    ·rw[if_pos hi,if_pos (by omega)];exact s _ _ (by omega) (by omega)
    ·rw[if_neg hi];by_cases hj':l<j∧j≤k
     ·rw[if_pos hj'];exact s _ _ (by omega) (by omega)
     ·rw[if_neg hj'];exact s _ _ hij (by omega)
theorem rng_pm(n:Nat):Pm n (List.toArray (List.range n)):=⟨by simp⟩
theorem sort_sat(L:Lin lt n)(h2:2≤n):Sat lt n (kas_sort n) fun q=>Pm n q∧So lt q n:=by
 unfold kas_sort;refine Sat.bind (fun r ⟨a1,a2,a3,a4⟩=>?_) (count_sat L (rng_pm n) h2);by_cases e:r.1<n
 ·rw[if_pos e];exact YU L _ _ _ a3 (by omega) (by rw[Nat.max_eq_left a1]; exact a4)
 ·rw[if_neg e];exact⟨a3,by rw[show n=r.1 by omega]; exact a4⟩
end
end PySem.W
namespace L2
open PySem PySem.Spec PyProof.Rows
end L2
namespace PySem
open Sem (wp)
section
variable {prog:Program} {w:World} {A:Around} {E:Value→Shared→Prop} {s:Shared}
open PySem.W in
open PySem.W in
end
end PySem
namespace L2
open PySem PySem.Spec PyProof.Rows
end L2
namespace PySem.W
open PySem PySem.Calls PyProof.Rows
section
variable {prog:Program} {w:World} {A:Around} {E:Value→Shared→Prop} {s:Shared}
abbrev ltR (keys:List (List Int)):Nat→Nat→Bool:=fun i j=>lexI (decide ((keys.getD i []).length<(keys.getD j []).length)) (keys.getD i []) (keys.getD j [])
theorem sorted_col{C:Shared→Prop}{keys:List (List Int)}{Q:Value→Shared→Prop}(hcol: ∀(A':Around) (E':Value→Shared→Prop) (R:List Value→Shared→Prop),A'.handled=A.handled→(∀s1,C s1→R vs s1)→wpAny (model prog w) A' (collect u) R E' s)
  (hk:vs.length=keys.length) (h64:vs.length<64) (hlin:2≤vs.length→Lin (ltR keys) vs.length)
  (hrow: ∀s1,C s1→ ∀(i:Nat) (v:Value) (ks:List Int),vs[i]? =some v→keys[i]? =some ks→ks≠[]∧ ∃a o its n,v= .ref a∧s1.heap.get? a=some o∧o.cls= .type "tuple"∧o.data= .seq its n∧Nums its.toList ks)
  (h: ∀s1,C s1→ ∀D h' c (p:List Nat),s1.heap.objs.size≤D→(∀b o,s1.heap.get? b=some o→h'.get? b=some o)→p.Perm (List.range vs.length)→(∀i j,i<j→j<vs.length→ltR keys (p.getD i 0) (p.getD j 0)=true)→h'.get? D=some (seqObj "list" (p.map fun i=>vs.getD i Value.none).toArray c)→Q (.ref D) {s1 with heap:=h'}):
  wpAny (model prog w) A (call (.builtin "sorted") [u]) Q E s:=by
 refine Calls.call_function_entry kind_sorted plain_sorted entry_sorted (args_sorted1 _) ?_;unfold Builtin.«sorted»;refine wpAny_bind (m:=checkCount "sorted" 1 1 _) (wpAny_pure ?_);refine wpAny_bind (hcol _ _ _ rfl fun s1 hs1=>?_);replace hrow:=hrow s1 hs1;replace h:=h s1 hs1;refine wpAny_bind (wpAny_newList ?_ (by rw[sizeLine_eq]; omega));have keep1: ∀b o,s1.heap.get? b=some o→(s1.heap.push (seqObj "list" vs.toArray 0)).get? b=some o:=fun b o q=>Heap.get?_push_of_some _ q;have hoL:(s1.heap.push (seqObj "list" vs.toArray 0)).get? s1.heap.objs.size=some (seqObj "list" vs.toArray 0):=Heap.get?_push_size _ rfl;show wpAny _ _ _ _ _ {s1 with heap:=s1.heap.push (seqObj "list" vs.toArray 0)};generalize s1.heap.push (seqObj "list" vs.toArray 0)=g1 at keep1 hoL ⊢;have hDlt:s1.heap.objs.size<g1.objs.size:=Heap.lt_size hoL;refine wpAny_bind (wpAny_holding (wpAny_call_entry slot_list_sort ⟨_,hoL,rfl⟩ entry_list_sort ?body (args_list_sort _)))
 case body=>
  rw[list_sort_plain];refine wpAny_bind (listItems_at hoL rfl ?_);refine wpAny_bind (listUpdate_at hoL rfl ?_ (by rw[List.size_toArray,sizeLine_eq]; omega) (Nat.zero_le _));obtain⟨e1,ho1⟩: ∃e1,(g1.update s1.heap.objs.size (Obj.mapSeq fun _=>(#[]:Array Value))).get? s1.heap.objs.size=some (seqObj "list" #[] e1):=⟨_,get?_update_seq hoL fun _=>#[]⟩;have keep2: ∀b o,s1.heap.get? b=some o→(g1.update s1.heap.objs.size (Obj.mapSeq fun _=>(#[]:Array Value))).get? b=some o:=fun b o q=>by
   rw[Heap.get?_update_ne _ _ _ _ (Nat.ne_of_lt (Heap.lt_size q))];exact keep1 b o q
  show wpAny _ _ _ _ _ {s1 with heap:=g1.update s1.heap.objs.size (Obj.mapSeq fun _=>(#[]:Array Value))};generalize g1.update s1.heap.objs.size (Obj.mapSeq fun _=>(#[]:Array Value))=g2 at keep2 ho1 ⊢;refine wpAny_bind (seqEpoch_at ho1 rfl ?_);refine wpAny_bind (wpAny_newTuple ?_ (by show vs.length≤_; rw[sizeLine_eq]; omega));refine wpAny_bind (wpAny_newList ?_ (Nat.zero_le _));refine wpAny_holding ?_;show wpAny (model prog w) _ _ _ _ {s1 with heap:=(g2.push (seqObj "tuple" vs.toArray 0)).push (seqObj "list" #[] 0)};dsimp only;by_cases hn2:vs.toArray.size<2
  ·have ho3:((g2.push (seqObj "tuple" vs.toArray 0)).push (seqObj "list" #[] 0)).get? s1.heap.objs.size=some (seqObj "list" #[] e1):=Heap.get?_push_of_some _ (Heap.get?_push_of_some _ ho1);have keep3: ∀b o,s1.heap.get? b=some o→((g2.push (seqObj "tuple" vs.toArray 0)).push (seqObj "list" #[] 0)).get? b=some o:=fun b o q=>Heap.get?_push_of_some _ (Heap.get?_push_of_some _ (keep2 b o q));generalize (g2.push (seqObj "tuple" vs.toArray 0)).push (seqObj "list" #[] 0)=g3 at keep3 ho3 ⊢;rw[if_pos hn2,if_pos hn2];refine wpAny_bind (wpAny_pure ?_);refine wpAny_bind (wpAny_pure (a:=((),SortSt.mk' general' (vs.toArray.zip vs.toArray) #[] 7 none)) ?_);dsimp only;have hl2:vs.length<2:=by rw[List.size_toArray] at hn2; exact hn2
   have hout:Array.map (fun x=>x.snd) (arrOf (SortSt.mk' general' (vs.toArray.zip vs.toArray) #[] 7 none))=(List.toArray ((List.range vs.length).map fun i=>vs.getD i Value.none)):=by
    show Array.map (fun x=>x.snd) (vs.toArray.zip vs.toArray)=_
    match vs,hl2 with
    | [],_=>simp
    | [v],_=>simp
   rw[hout];obtain⟨c2,hc2⟩: ∃c2,(g3.update s1.heap.objs.size (Obj.mapSeq fun _=>List.toArray ((List.range vs.length).map fun i=>vs.getD i Value.none))).get? s1.heap.objs.size=some (seqObj "list" (List.toArray ((List.range vs.length).map fun i=>vs.getD i Value.none)) c2):=⟨_,get?_update_seq ho3 fun _=>List.toArray ((List.range vs.length).map fun i=>vs.getD i Value.none)⟩;refine wpAny_bind (seqEpoch_at ho3 rfl ?_);refine wpAny_bind (listUpdate_at ho3 rfl ?_ (Nat.zero_le _) (by rw[List.size_toArray,List.length_map,List.length_range,sizeLine_eq]; omega));simp only[bne_self_eq_false,Bool.false_eq_true,if_false];refine wpAny_pure ⟨_,rfl,wpAny_pure ⟨_,rfl,h _ _ c2 (List.range vs.length) (Nat.le_refl _) (fun b o q=>?_) (List.Perm.refl _) (fun i j hij hj=>by omega) hc2⟩⟩;rw[Heap.get?_update_ne _ _ _ _ (Nat.ne_of_lt (Heap.lt_size q))];exact keep3 b o q
  rw[if_neg hn2,if_neg hn2];have h2:2≤vs.length:=by rw[List.size_toArray] at hn2; omega
  have L2:=sort_sat (hlin h2) h2;have hok:=L2.ok.1;have hso:=L2.ok.2;have ho3:((g2.push (seqObj "tuple" vs.toArray 0)).push (seqObj "list" #[] 0)).get? s1.heap.objs.size=some (seqObj "list" #[] e1):=Heap.get?_push_of_some _ (Heap.get?_push_of_some _ ho1);have keep3: ∀b o,s1.heap.get? b=some o→((g2.push (seqObj "tuple" vs.toArray 0)).push (seqObj "list" #[] 0)).get? b=some o:=fun b o q=>Heap.get?_push_of_some _ (Heap.get?_push_of_some _ (keep2 b o q));generalize (g2.push (seqObj "tuple" vs.toArray 0)).push (seqObj "list" #[] 0)=g3 at keep3 ho3 ⊢;have rows: ∀(i:Nat),i<vs.length→ ∃a o its n,vs.getD i Value.none= .ref a∧g3.get? a=some o∧o.cls= .type "tuple"∧o.data= .seq its n∧Nums its.toList (keys.getD i [])∧keys.getD i []≠[]:=fun i hi=>by
   have hi':i<keys.length:=by omega
   obtain⟨h0,a,o,its,n,e1,e2,e3,e4,e5⟩:=hrow i vs[i] keys[i] (by simp[hi]) (by simp[hi']);refine⟨a,o,its,n,by simp[hi,e1],keep3 _ _ e2,e3,e4,by simpa[hi'] using e5,by simpa[hi'] using h0⟩
  have firsts: ∀(us:List Value),(∀v∈us,v∈vs)→ ∃fs,KatTups g3 us fs∧fs.length=us.length∧ ∀f∈fs,∃i t,f=Value.int i t:=by
   intro us
   induction us with
   | nil=>exact fun _=>⟨[],trivial,rfl,fun f h=>nomatch h⟩
   | cons v us ih=>
    intro hm;obtain⟨fs,t1,t2,t3⟩:=ih fun x hx=>hm x (List.mem_cons_of_mem _ hx);obtain⟨i,hi,rfl⟩:=List.getElem_of_mem (hm v List.mem_cons_self);obtain⟨a,o,its,n,e1,e2,e3,e4,e5,e6⟩:=rows i hi;have ev:vs[i]= .ref a:=by simpa[hi] using e1
    rw[ev];generalize keys.getD i []=kk at e5 e6;cases its with | mk il=>
    cases e5 with
    | nil=>exact absurd rfl e6
    | @cons j t us' ns' hh=>exact⟨.int j t::fs,KatTups.cons e2 e3 e4 rfl t1,by rw[List.length_cons,t2]; rfl,fun f hf=>by
      rcases List.mem_cons.mp hf with rfl | hf
      ·exact⟨_,_,rfl⟩
      ·exact t3 f hf⟩
  obtain⟨fs,t1,t2,t3⟩:=firsts vs fun _ h=>h;refine wpAny_bind (kat_kind (T:= .type "int") t1 (by omega) (fun f hf=>by
   obtain⟨i,t,rfl⟩:=t3 f hf;exact Looks.of_pure rfl) (by decide) ?_)
  have hcmp: ∀i j C,C (lexI (decide ((keys.getD i []).length<(keys.getD j []).length)) (keys.getD i []) (keys.getD j [])) ({s1 with heap:=g3}:Shared)→i<vs.length→j<vs.length→kas_ask prog w A.in1.in1 (tuples' (Value.type "int" !=Value.type "tuple")) vs i j C {s1 with heap:=g3}:=fun i j C hC hi hj=>by
   unfold kas_ask;obtain⟨a,o,its,n,e1,e2,e3,e4,e5,e6⟩:=rows i hi;obtain⟨a',o',its',n',e1',e2',e3',e4',e5',e6'⟩:=rows j hj;rw[e1,e1'];refine kat_lt e2 e4 e2' e4' ?_;have hs1:its.size=(keys.getD i []).length:=by rw[←Array.length_toList]; exact e5.len
   have hs2:its'.size=(keys.getD j []).length:=by rw[←Array.length_toList]; exact e5'.len
   rw[hs1,hs2];exact ZM 0 e5 e5' hC
  refine wpAny_bind (wpAny_mono (kat_run (κ:=tuples' (Value.type "int" !=Value.type "tuple")) (Q:=fun st' s'=> ∃p:Array Nat,p.size=vs.length∧arrOf st'=p.map (kas_item (vs.toArray.zip vs.toArray))∧failedOf st'=none∧p=(kas_sort vs.length).eval (fun i j=>lexI (decide ((keys.getD i []).length<(keys.getD j []).length)) (keys.getD i []) (keys.getD j []))∧s'={s1 with heap:=g3}) rfl h2 h64 (fun p' st' s' a1 a2 a3 a4=>⟨p',a1,a2,a3,a4⟩) (KasT.eval_wp (n:=vs.length) hcmp _ hok ⟨rfl,rfl⟩)) ?_ fun _ _ e=>e);rintro⟨⟨⟩,st'⟩ s' ⟨p,hp,har,hf,rfl,rfl⟩;dsimp only;have hout:=kat_snds rfl har;generalize (kas_sort vs.length).eval (fun i j=>lexI (decide ((keys.getD i []).length<(keys.getD j []).length)) (keys.getD i []) (keys.getD j []))=p at hp hout hso;have ppm:p.toList.Perm (List.range vs.length):=hso.1.pm;have pso: ∀i j,i<j→j<vs.length→ltR keys (p.toList.getD i 0) (p.toList.getD j 0)=true:=fun i j hij hj=>by
   have e:=hso.2 i j hij hj
   rwa [show p.getD i 0=p.toList.getD i 0 by simp[Array.getD_eq_getD_getElem?,List.getD_eq_getElem?_getD],show p.getD j 0=p.toList.getD j 0 by simp[Array.getD_eq_getD_getElem?,List.getD_eq_getElem?_getD]] at e
  have hsz':(List.toArray (p.toList.map fun i=>vs.getD i Value.none)).size=vs.length:=by rw[List.size_toArray,List.length_map,Array.length_toList,hp]
  rw[hout];obtain⟨c2,hc2⟩: ∃c2,(g3.update s1.heap.objs.size (Obj.mapSeq fun _=>List.toArray (p.toList.map fun i=>vs.getD i Value.none))).get? s1.heap.objs.size=some (seqObj "list" (List.toArray (p.toList.map fun i=>vs.getD i Value.none)) c2):=⟨_,get?_update_seq ho3 fun _=>List.toArray (p.toList.map fun i=>vs.getD i Value.none)⟩;refine wpAny_bind (seqEpoch_at ho3 rfl ?_);refine wpAny_bind (listUpdate_at ho3 rfl ?_ (Nat.zero_le _) (Nat.le_trans (Nat.le_of_eq hsz') (by rw[sizeLine_eq]; omega)));rw[hf];simp only[bne_self_eq_false,Bool.false_eq_true,if_false];refine wpAny_pure ⟨_,rfl,wpAny_pure ⟨_,rfl,h _ _ c2 p.toList (Nat.le_refl _) (fun b o q=>?_) ppm pso hc2⟩⟩;rw[Heap.get?_update_ne _ _ _ _ (Nat.ne_of_lt (Heap.lt_size q))];exact keep3 b o q
end
theorem ZO: ∀xs:List Int,lexI false xs xs=false
 | []=>rfl
 | x::xs=>by unfold lexI; rw[if_pos rfl]; exact ZO xs
theorem YH: ∀{xs ys zs:List Int},lexI false xs ys=true→lexI false ys zs=true→lexI false xs zs=true
 | [],_,_,h,_=>by cases h
 | _::_,[],_,h,_=>by cases h
 | _::_,_::_,[],_,h=>by cases h
 | x::xs,y::ys,z::zs,h1,h2=>by
  unfold lexI at h1 h2 ⊢;by_cases e1:x=y
  ·rw[if_pos e1] at h1;by_cases e2:y=z
   ·rw[if_pos e2] at h2;rw[if_pos (e1.trans e2)];exact YH h1 h2
   ·rw[if_neg e2] at h2;have:=of_decide_eq_true h2;rw[if_neg (by omega)];exact decide_eq_true (by omega)
  ·rw[if_neg e1] at h1;have a:=of_decide_eq_true h1;by_cases e2:y=z
   ·rw[if_neg (by omega)];exact decide_eq_true (by omega)
   ·rw[if_neg e2] at h2;have b:=of_decide_eq_true h2;rw[if_neg (by omega)];exact decide_eq_true (by omega)
theorem ZN: ∀{xs ys:List Int},xs.length=ys.length→xs≠ys→lexI false xs ys=false→lexI false ys xs=true
 | [],[],_,h,_=>absurd rfl h
 | [],_::_,h,_,_=>by simp at h
 | _::_,[],h,_,_=>by simp at h
 | x::xs,y::ys,hl,hne,h=>by
  unfold lexI at h ⊢;by_cases e:x=y
  ·subst e;rw[if_pos rfl] at h ⊢;exact ZN (by simpa using hl) (fun z=>hne (by rw[z])) h
  ·rw[if_neg e] at h;have:=of_decide_eq_false h;rw[if_neg (Ne.symm e)];exact decide_eq_true (by omega)
theorem lin_rows(hl: ∀k∈keys,k.length=m)(nd:keys.Nodup):Lin (ltR keys) keys.length:=by
 have at': ∀i,i<keys.length→(keys.getD i []).length=m:=fun i hi=>hl _ (by rw[List.getD_eq_getElem?_getD,List.getElem?_eq_getElem hi]; exact List.getElem_mem hi);have e: ∀i j,i<keys.length→j<keys.length→ltR keys i j=lexI false (keys.getD i []) (keys.getD j []):=fun i j hi hj=>by
  unfold ltR;rw[at' i hi,at' j hj,decide_eq_false (Nat.lt_irrefl _)]
 refine⟨fun i hi=>by rw[e i i hi hi]; exact ZO _,fun i j k hi hj hk h1 h2=>?_,fun i j hi hj hne h=>?_⟩
 ·rw[e _ _ hi hj] at h1;rw[e _ _ hj hk] at h2;rw[e _ _ hi hk];exact YH h1 h2
 ·rw[e _ _ hi hj] at h;rw[e _ _ hj hi];refine ZN (by rw[at' i hi,at' j hj]) (fun z=>hne ?_) h;rw[List.getD_eq_getElem?_getD,List.getD_eq_getElem?_getD,List.getElem?_eq_getElem hi,List.getElem?_eq_getElem hj] at z;exact(List.getElem_inj nd).mp z
end PySem.W
namespace L2
open PySem PySem.Spec PyProof.Rows
section
variable {X:Cx} {k:Nat}
theorem RowsAt.perm(h:RowsAt H as keys): ∀p:List Nat,(∀i∈p,i<keys.length)→RowsAt H (p.map fun i=>as.getD i 0) (p.map fun i=>keys.getD i [])
 | [],_=>trivial
 | i::p,hp=>by
  have hi:=hp i List.mem_cons_self;have hi':i<as.length:=by rw[h.len]; exact hi
  refine⟨?_,RowsAt.perm h p fun j hj=>hp j (List.mem_cons_of_mem _ hj)⟩;show H (as.getD i 0)=some (.tup ((keys.getD i []).map V.int));obtain⟨ks,e1,e2⟩:=h.at (i:=i) (a:=as[i]) (by simp[hi']);rw[show as.getD i 0=as[i] by simp[hi'],e2,show keys.getD i []=ks by rw[List.getD_eq_getElem?_getD,e1]; rfl]
theorem perm_rows{keys:List (List Int)}{p:List Nat}(hp:p.Perm (List.range keys.length)):(p.map fun i=>keys.getD i []).Perm keys:=by
 refine(hp.map _).trans (List.Perm.of_eq ?_);refine List.ext_getElem (by simp) fun i h1 h2=>?_;have:i<keys.length:=h2;simp[List.getD_eq_getElem?_getD,this]
theorem pair_rows{keys:List (List Int)}{p:List Nat}(hl:p.length=keys.length)(h: ∀i j,i<j→j<keys.length→PySem.W.lexI false (keys.getD (p.getD i 0) []) (keys.getD (p.getD j 0) [])=true):(p.map fun i=>keys.getD i []).Pairwise fun a b=>PySem.W.lexI false a b=true:=by
 rw[List.pairwise_iff_getElem];intro i j hi hj hij;have hi':i<p.length:=by simpa using hi
 have hj':j<p.length:=by simpa using hj
 have:=h i j hij (by omega);rw[List.getElem_map,List.getElem_map]
 rwa [show p.getD i 0=p[i] by simp[hi'],show p.getD j 0=p[j] by simp[hj']] at this
def YV (H:Hp) (Q:VK) (keys:List (List Int)):Prop:= ∀(D:Addr) (as':List Addr) (ks':List (List Int)),H D=none→RowsAt H as' ks'→ks'.Perm keys→(ks'.Pairwise fun a b=>PySem.W.lexI false a b=true)→Q (.ref D) (upd H D (.lst (as'.map V.ref)))
theorem sort_end(hr:RowsAt H as keys)(hl: ∀ks∈keys,ks.length=m)(q:YV H Q keys){p:List Nat}(hp:p.Perm (List.range keys.length))
  (hs: ∀i j,i<j→j<keys.length→PySem.W.ltR keys (p.getD i 0) (p.getD j 0)=true) (hD:H D=none):Q (.ref D) (upd H D (.lst ((p.map fun i=>as.getD i 0).map V.ref))):=by
 have hpl:p.length=keys.length:=by rw[hp.length_eq,List.length_range]
 have hlt: ∀i∈p,i<keys.length:=fun i hi=>List.mem_range.mp (hp.mem_iff.mp hi);have at': ∀i,i<keys.length→(keys.getD i []).length=m:=fun i hi=>hl _ (by rw[List.getD_eq_getElem?_getD,List.getElem?_eq_getElem hi]; exact List.getElem_mem hi);refine q D _ _ hD (hr.perm p hlt) (perm_rows hp) (pair_rows hpl fun i j hij hj=>?_);have e:=hs i j hij hj;have b1:p.getD i 0<keys.length:=hlt _ (by rw[List.getD_eq_getElem?_getD,List.getElem?_eq_getElem (by omega)]; exact List.getElem_mem _);have b2:p.getD j 0<keys.length:=hlt _ (by rw[List.getD_eq_getElem?_getD,List.getElem?_eq_getElem (by omega)]; exact List.getElem_mem _);unfold PySem.W.ltR at e
 rwa [at' _ b1,at' _ b2,decide_eq_false (Nat.lt_irrefl _)] at e
def rSortL:List V→Hp→VK→Prop:=fun xs H Q=> ∃(l:Addr) (as:List Addr) (keys:List (List Int)) (m:Nat),xs=[.ref l]∧H l=some (.lst (as.map V.ref))∧RowsAt H as keys∧0<m∧(∀ks∈keys,ks.length=m)∧keys.Nodup∧keys.length<64∧YV H Q keys
theorem refs_perm{as:List Addr}{n:Nat}(hn:as.length=n){p:List Nat}(hp: ∀i∈p,i<n):(p.map fun i=>(as.map V.ref).getD i .non)=(p.map fun i=>as.getD i 0).map V.ref:=by
 rw[List.map_map];refine List.map_congr_left fun i hi=>?_;have:i<as.length:=by rw[hn]; exact hp i hi
 simp[this]
theorem call_sortL:yn X (.builtin "sorted") rSortL:=by
 intro pins s σ H xs us Q I r h;obtain⟨l,as,keys,m,rfl,hl,hrows,m0,hlen,nd,h64,q⟩:=h;obtain⟨u,rfl,ru⟩:=r.one;cases ru
 obtain⟨its,rv,pl,hz⟩:=I.list (SqL.of hl);have hlen':its.length=keys.length:=by rw[←rv.length,List.length_map,hrows.len]
 have hsz:((s.heap.push (seqObj "list" #[] 0)).update s.heap.objs.size (Obj.mapSeq (· ++its.toArray))).objs.size=s.heap.objs.size+1:=by rw[Heap.size_update,size_push']
 have keep1: ∀b o,s.heap.get? b=some o→((s.heap.push (seqObj "list" #[] 0)).update s.heap.objs.size (Obj.mapSeq (· ++its.toArray))).get? b=some o:=fun b o e=>by
  have hlt:b<s.heap.objs.size:=Heap.lt_size e;rw[Heap.get?_update_ne _ _ _ _ (Nat.ne_of_lt hlt),Heap.get?_push_ne _ _ _ (Nat.ne_of_lt hlt)];exact e
 refine PySem.W.sorted_col (u:= .ref l) (C:=fun s1=>s1={s with heap:=(s.heap.push (seqObj "list" #[] 0)).update s.heap.objs.size (Obj.mapSeq (· ++its.toArray))}) (vs:=its) (keys:=keys) (fun A' E' R hh hR=>collect_list pl.isList (hR _ rfl) (by rw[sizeLine_eq]; omega)) hlen' (by omega) (fun _=>by rw[hlen']; exact PySem.W.lin_rows hlen nd) ?_ ?_
 ·rintro _ rfl i v ks hv hk;have hi:i<as.length:=by
   have:=(List.getElem?_eq_some_iff.mp hv).1;rw[hlen',←hrows.len] at this;exact this
  obtain⟨ks',e1,e2⟩:=hrows.at (i:=i) (a:=as[i]) (by simp[hi]);rw[hk] at e1;cases e1
  obtain⟨jts,r2,pt,_⟩:=I.tuple (SqT.of e2);obtain⟨o,ho,hc,n,hd⟩:=pt;refine⟨fun z=>by have:=hlen ks (List.mem_of_getElem? hk); rw[z] at this; simp at this; omega,as[i],o,jts.toArray,n,?_,keep1 _ _ ho,hc,hd,by simpa using YD r2⟩;have:=Vals.getD rv i;rw[show(as.map V.ref).getD i .non=V.ref as[i] by simp[hi]] at this;have hv':its.getD i .none=v:=by rw[List.getD_eq_getElem?_getD,hv]; rfl
  rw[hv'] at this;exact this
 ·rintro _ rfl D h' c p hD hk hp hs hd;rw[hlen'] at hp hs;have hpl:p.length=keys.length:=by rw[hp.length_eq,List.length_range]
  have hDs:s.heap.objs.size≤D:=Nat.le_of_succ_le (Nat.le_trans (Nat.le_of_eq hsz.symm) hD);refine⟨.ref D,_,I.laid (t':=s.toks) (fun b o e=>hk b o (keep1 b o e)) hDs ?_,rfl,sort_end hrows hlen q hp hs (I.hok.fresh hDs)⟩;refine⟨by rw[List.length_map,List.length_map,hpl]; exact Nat.le_of_lt (zu (by omega)),_,c,?_,hd⟩;rw[←refs_perm hrows.len fun i hi=>List.mem_range.mp (hp.mem_iff.mp hi)];exact Vals.perm rv p
end
end L2
namespace K16
open PySem L2 G2 WG EL
theorem _root_.L2.nob(o:HO)(h:H a=none): ∃H2,upd H a o=H2∧Same H H2∧H2 a=some o:=⟨_,rfl,Same.new (Same.refl _) h,zf⟩
theorem _root_.L2.nop(o:HO)(M:Same H G)(h:H a=none): ∃H2,upd G a o=H2∧Same H H2∧H2 a=some o:=⟨_,rfl,M.put h,zf⟩
local macro_rules | `(tactic| walk_at "v") => `(tactic| repeat (with_reducible first
  | refine xg ?_ | refine yL ?_ | refine zM ?_ | refine w_op ?_ | refine yt rfl ?_ | refine w_c ?_ | refine xF ?_ | refine xG ?_ | refine xH ?_ | refine yP ?_ | refine w_tb ?_ | refine w_bl ?_ | refine w_not ?_ | refine xj ?_ | refine w_retN ?_
  | refine yK ?_ | refine yh ?_ | refine xu ?_ | refine y9 ?_ | refine w_cb ?_ | refine yV ?_ | refine yQ ?_ | refine xI ?_ | refine w_or ?_ | refine yg ?_ | refine zZ ?_ | refine yO ?_ | refine yp ?_ | refine yo ?_ | refine yS ?_ | refine yR ?_ | refine yT ?_ | refine yU ?_ | refine w_bm ?_ | refine yF ?_ | refine yG ?_ | refine w_chain ?_ | refine w_sl ?_ | refine zT ?_ | refine yy ?_ | refine x5 ?_ | refine iteT ?_ | refine iteF ?_))
abbrev sCd:Stmt:=top 1
abbrev nCd:List Str:=["numbers","divisor","number","other","rest"]
theorem nmCd:Nm nCd (ze sCd):=nmk (by decide+kernel)
theorem scCd:FnScope nCd ["numbers"] (ze sCd):=fsk (by decide+kernel)
def spCd:Sp:=fun vs H Q _=> ∃(p:Addr) (xs:List Int),vs=[.ref p]∧H p=some (.lst (xs.map V.int))∧Q (.int ((gcdL xs:Nat):Int)) H
section
variable {P:Program} {w:World} {K:W.Frag} {mg:Str→Option Value} {base:Heap}
theorem ok_Cd(B:Bl mg)(F:Fun K "common_divisor" "common_divisor" sCd f fd):FnOk P w K mg base CX0 1 f fd ["numbers"] spCd:=by
 refine F.ok scCd (fun vs H Q E h=>?_) (fun cdv A outer s H vs Q E hr h=>?_)
 ·obtain⟨p,xs,rfl,_⟩:=h;rfl
 obtain⟨p,xs,rfl,hp,k⟩:=h;refine'⟨_,?hb,?rd⟩
 case' hb=>skip
 case' hb=>refine' zd ?g1 ?g2
 case' g2=>refine' zd ?g3 ?g4
 case' g4=>refine' zj ?g5
 case g1=>exact zk nmCd 1 zg
 case' g3=>refine' yX PassesOwn.never rfl ?g6 (pgd nmCd 2) ?g7
 case g6=>exact xm (pvd nmCd 0)
 case' g7=>refine' zd ?g8 ?g9
 case' g9=>refine' zj ?g10
 case g8=>exact zk nmCd 3 (zU vN B.abs PyProof.Rows.boot_abs (pa_1 (pvd nmCd 2)))
 case' g10=>refine' vy PassesOwn.never ?g11 ?g12
 case g11=>exact zt xn (pvd nmCd 3) zg (zv _)
 case' g12=>refine' zd ?g13 ?g14
 case' g14=>refine' zd ?g15 ?g16
 case' g16=>refine' zj ?g17
 case g13=>exact zk nmCd 4 (zo yr (pvd nmCd 1) (pvd nmCd 3))
 case g15=>exact zk nmCd 1 (pvd nmCd 3)
 case g17=>exact zk nmCd 3 (pvd nmCd 4)
 case g5=>exact zy (pvd nmCd 1)
 walk_at"v";refine⟨p,rfl,⟨_,SqL.of hp⟩,?_⟩;refine for_list (xs:=xs.map V.int) (fun i σ H'=> ∃u2 u3 u4,σ=[some (.ref p),some (.int ((gcdL (xs.take i):Nat):Int)),u2,u3,u4]∧H=H') ⟨none,none,none,rfl,rfl⟩ (fun i σ H' _ ⟨_,_,_,_,e⟩=>e▸SqL.of hp) ?_ ?_
 ·rintro i x σ H' hx ⟨u2,u3,u4,rfl,rfl⟩;obtain⟨hi,rfl⟩:=itI hx;walk_at"v";refine⟨_,rfl,?_⟩;rw[absN];walk_at"v";refine Zh ⟨fun n σ H'=> ∃(d o:Nat) (u4:Option V),σ=[some (.ref p),some (.int (d:Int)),some (.int (xs.getD i 0)),some (.int (o:Int)),u4]∧H=H'∧n=o∧Nat.gcd d o=Nat.gcd (gcdL (xs.take i)) (xs.getD i 0).natAbs,⟨_,_,_,u4,rfl,rfl,rfl,rfl⟩,?_⟩;rintro n σ H' ⟨d,o,u4',rfl,rfl,rfl,hg⟩;walk_at"v";refine⟨rfl,?_⟩;walk_at"v";refine YI (fun h=>?_) (fun h=>?_)
  ·have ho:n≠0:=fun z=>h (by rw[z]; rfl);refine⟨_,fun σ' H' w=>⟨d%n,Nat.mod_lt _ (by omega),w⟩,?_⟩;walk_at"v";refine⟨_,_,rfl,rfl,by omega,?_⟩;walk_at"v";refine⟨n,d%n,_,rfl,rfl,rfl,?_⟩;rw[←hg,Nat.gcd_comm,←Nat.gcd_rec,Nat.gcd_comm]
  ·have ho:n=0:=by injection h with h; omega
   subst ho;rw[Nat.gcd_zero_right] at hg;rw[hg,←ZT xs i hi];exact⟨_,_,_,rfl,rfl⟩
 ·rintro σ H' ⟨u2,u3,u4,rfl,rfl⟩;rw[List.length_map,List.take_length];walk_at"v";exact k
abbrev sMe:Stmt:=wE (top 9) 7
abbrev nMe:List Str:=["self","tops","unknown","numbers","divisor"]
theorem nmMe:Nm nMe (ze sMe):=nmk (by decide+kernel)
theorem scMe:FnScope nMe ["self"] (ze sMe):=fsk (by decide+kernel)
def qMea (s:Stmt):Scope:=match s with
 | .Assign _ (.ListComp _ _ sc _) _=>sc
 | _=>nsc
abbrev cMea:Scope:=qMea ((zm sMe).getD 0 (.Pass ⟨0,0,0,0⟩))
theorem bsMea:BScope (ze sMe) cMea ["column"] [] []:={okind:=by decide+kernel,kind:=by decide+kernel,nocell:=by decide+kernel,names:=by decide+kernel,fr:=by decide+kernel,ff:=by decide+kernel,nd:=by decide+kernel,vis:=by decide+kernel,loc:=by decide+kernel,gl:=by decide+kernel}
def qMeb (s:Stmt):Scope:=match s with
 | .Return (some (.Tuple [(.Call _ [(.ListComp _ _ sc _)] _ _),_] _ _)) _=>sc
 | _=>nsc
abbrev cMeb:Scope:=qMeb ((zm sMe).getD 3 (.Pass ⟨0,0,0,0⟩))
theorem bsMeb:BScope (ze sMe) cMeb ["top"] ["divisor"] []:={okind:=by decide+kernel,kind:=by decide+kernel,nocell:=by decide+kernel,names:=by decide+kernel,fr:=by decide+kernel,ff:=by decide+kernel,nd:=by decide+kernel,vis:=by decide+kernel,loc:=by decide+kernel,gl:=by decide+kernel}
theorem loMe_1:(ze sMe).names.lookup ("tops":Str)=some .local:=by decide+kernel
def topF (S:Tb) (n:Nat):Nat→Nat→Int
 | 0,_=>0
 | i+1,j=>if S.ru i=j then S.M j n else topF S n i j
theorem Yp{S:Tb}: ∀{i j:Nat},(∃r,r<i∧S.ru r=j)→topF S n i j=S.M j n
 | 0,_,⟨_,h,_⟩=>by omega
 | i+1,j,⟨r,h,e⟩=>by
  unfold topF;by_cases z:S.ru i=j
  ·rw[if_pos z]
  ·rw[if_neg z];exact Yp ⟨r,by have:r≠i:=fun q=>z (q▸e); omega,e⟩
theorem ZF{S:Tb}: ∀{i j:Nat},(∀r,r<i→S.ru r≠j)→topF S n i j=0
 | 0,_,_=>rfl
 | i+1,j,h=>by
  unfold topF;rw[if_neg (h i (by omega))];exact ZF fun r hr=>h r (by omega)
theorem topF_all{v:Nat→Nat→Int}(I:Inv n m v S)(hj:j<n):topF S n m j=S.M j n:=by
 rcases I.al j (by omega) with ⟨r,hr,e⟩ | ⟨c,hc,e⟩
 ·exact Yp ⟨r,hr,e⟩
 ·rw[ZF fun r hr z=>I.rc r hr c hc (z.trans e.symm),←e,I.mc c hc n (Nat.le_refl _),if_neg (by omega)]
def spMe (C:Addr):Sp:=fun vs H Q _=> ∃(o:Addr) (n m:Nat) (v:Nat→Nat→Int) (S:Tb) (t:Nat) (dx pr pu pc:Addr) (ras:List Addr),vs=[.ref o]∧TbA H C o n m S t dx pr pu pc ras∧Inv n m v S∧n≤40∧m≤60∧Sm S.D∧
 ∀H' q p (g:Int),Same H H'→0<g→g ∣ S.D→(∀j<n,g ∣ S.M j n)→H' q=some (.tup [.ref p,.int (S.D / g)])→H' p=some (.tup ((List.range n).map fun j=>V.int (S.M j n / g)))→Q (.ref q) H'
theorem ok_Me(R:TC K C)(B:Bl mg)(fC:Has P w K mg base 1 "common_divisor" ["numbers"] spCd)(F:Fun K "met" "Tableau.met" sMe f fd):FnOk P w K mg base CX0 2 f fd ["self"] (spMe C):=by
 refine F.ok scMe (fun vs H Q E h=>?_) (fun cdv A outer s H vs Q E hr h=>?_)
 ·obtain⟨o,n,m,v,S,t,dx,pr,pu,pc,ras,rfl,_⟩:=h;rfl
 obtain⟨o,n,m,v,S,t,dx,pr,pu,pc,ras,rfl,T,I,hn,hm,hsd,k⟩:=h;refine'⟨_,?hb,?rd⟩
 case' hb=>skip
 case' hb=>refine' zd ?g1 ?g2
 case' g2=>refine' zd ?g3 ?g4
 case' g4=>refine' zd ?g5 ?g6
 case' g6=>refine' zj ?g7
 case' g1=>refine' yj (i:=1) (ix:=[]) nmMe.nd rfl loMe_1 bsMea.toCScope rfl rfl ?g8 ?g9 ?g10 ?g11
 case g8=>exact yN B.range (pa_1 (zG (pvd nmMe 0) rfl))
 case g9=>exact fun _ _ _ _ _ _=>pgb bsMea 0
 case g10=>exact fun _ _ _ _ _ _=>zB
 case g11=>exact fun _ _ _ _ _ _=>zg
 case' g3=>refine' yX PassesOwn.never rfl ?g12 (wT rfl (zH (pgd nmMe 2) (zH (pgd nmMe 3) yI))) ?g13
 case g12=>exact Z9 B.zip (pa_2 (zG (pvd nmMe 0) rfl) (zG (pvd nmMe 0) rfl))
 case' g13=>refine' zj ?g14
 case' g14=>refine' zY ?g15 ?g16 zC
 case g15=>exact zt x8 (pvd nmMe 2) (zG (pvd nmMe 0) rfl) (zv _)
 case' g16=>refine' zj ?g18
 case g18=>exact zW (ziq (pvd nmMe 3) (w9 xL zg)) (zX (pvd nmMe 1) (pvd nmMe 2) yl)
 case g5=>exact zk nmMe 4 (pe_f fC hr (by decide) (pa_1 (zo Yb (yk (pa_1 (zG (pvd nmMe 0) rfl))) (pvd nmMe 1))))
 case' g7=>refine' zy ?g19
 case' g19=>refine' z0 ?g20
 case' g20=>refine' pa_2 ?g21 (zo EL.op_fdivL (zG (pvd nmMe 0) rfl) (pvd nmMe 4))
 case' g21=>refine' ya yd B.tuple PyProof.Rows.boot_tuple ?g22
 case' g22=>refine' pa_1 ?g23
 case' g23=>refine' zR (ix:=[4]) bsMeb.toCScope rfl rfl ?g24 ?g25 ?g26 ?g27
 case g24=>exact xm (pvd nmMe 1)
 case g25=>exact fun _ _ _ _ _ _=>pgb bsMeb 0
 case g26=>exact fun _ _ _ _ _ _=>zB
 case g27=>exact fun _ _ _ _ _ _=>zo EL.op_fdivL (pvb bsMeb 0) (pvb bsMeb 1)
 walk_at"v";refine zQ ?_;walk_at"v";refine⟨o,C,_,_,_,rfl,T.ob,R.c,R.n1,rfl,?_⟩;walk_at"v";refine⟨_,rfl,by omega,by omega,fun D1 hD1=>?_⟩;rw[Int.toNat_natCast];refine ZB (fun i=>V.int 0) (by omega) hD1 (fun i hi H' K' R' kR=>?_) (fun H1 K1 e1=>?_)
 ·walk_at"v";exact kR _ (Same.refl _)
 have T1:=T.same fun a u e _=>K1 a u e;walk_at"v";refine Ym ?_;walk_at"v";refine zQ ?_;walk_at"v";refine⟨o,C,_,_,_,rfl,T1.ob,R.c,R.n4,rfl,?_⟩;walk_at"v";refine zQ ?_;walk_at"v";refine⟨o,C,_,_,_,rfl,T1.ob,R.c,R.n3,rfl,?_⟩;refine⟨pu,pr,rfl,⟨_,SqL.of T1.ru⟩,⟨_,SqL.of T1.rs⟩,?_⟩;have hrl:=T.rl;refine ZV (xs:=natV m S.ru) (zs:=ras.map V.ref) (by rw[yb,List.length_map]; omega) (fun i σ H'=> ∃u2 u3 u4,σ=[some (.ref o),some (.ref D1),u2,u3,u4]∧Same H H'∧H' D1=some (.lst ((List.range n).map fun j=>V.int (topF S n i j)))) ⟨_,_,_,rfl,K1,e1⟩ (fun i σ H' ⟨_,_,_,_,K',_⟩=>⟨SqL.of (K' _ _ T.ru),SqL.of (K' _ _ T.rs)⟩) ?_ ?_
 ·rintro i x y σ H' p hx hy ⟨u2,u3,u4,rfl,K',e'⟩ hp;have hi:i<m:=by have:=(List.getElem?_eq_some_iff.mp hx).1; rw[yb] at this; exact this
  obtain⟨a,f1,f2⟩:=T.row hi;rw[yq hi] at hx;cases hx
  rw[List.getElem?_map,f1] at hy;cases hy
  have kp:Same H' (upd H' p (.tup [.int ((S.ru i:Nat):Int),.ref a])):=Same.new (Same.refl _) hp;have ep:upd H' p (.tup [.int ((S.ru i:Nat):Int),.ref a]) p=some (.tup [.int ((S.ru i:Nat):Int),.ref a]):=zf;generalize upd H' p (.tup [.int ((S.ru i:Nat):Int),.ref a])=H2 at kp ep ⊢;refine⟨p,[.int ((S.ru i:Nat):Int),.ref a],rfl,SqT.of ep,rfl,.int ((S.ru i:Nat):Int),[.ref a],rfl,?_⟩;walk_at"v";refine⟨.ref a,[],rfl,?_⟩;walk_at"v";refine⟨rfl,?_⟩;have K2:=K'.trans kp;walk_at"v";refine zQ ?_;walk_at"v";refine⟨o,C,_,_,_,rfl,(K2 _ _ T.ob),R.c,R.n1,rfl,?_⟩;walk_at"v";refine iteD (fun h1=>?_) (fun h1=>?_)
  ·walk_at"v";refine⟨_,rfl,?_⟩;refine zA (K2 _ _ f2) wQ ?_;walk_at"v";refine yx (kp _ _ e') (j:=S.ru i) (by rw[List.length_map,List.length_range]; exact x3 (by omega)) ?_;refine⟨_,_,_,rfl,K2.put hD1,?_⟩;rw[zf];congr 2;refine List.ext_getElem? fun j=>?_;by_cases hj:j<n
   ·rw[List.getElem?_map,List.getElem?_range hj];by_cases e:S.ru i=j
    ·rw[e,List.getElem?_set_self (by simp[hj])];simp[topF,e]
    ·rw[List.getElem?_set_ne e,List.getElem?_map,List.getElem?_range hj];simp[topF,e]
   ·rw[List.getElem?_eq_none (by simp; omega),List.getElem?_eq_none (by simp; omega)]
  ·refine⟨_,_,_,rfl,K2,?_⟩;rw[kp _ _ e'];congr 2;refine List.map_congr_left fun j hj=>?_;have hj:=List.mem_range.mp hj;have:S.ru i≠j:=by omega
   simp[topF,this]
 ·rintro σ H2 ⟨u2,u3,u4,rfl,K2,e2⟩;rw[yb] at e2;have e2':H2 D1=some (.lst (((List.range n).map fun j=>S.M j n).map V.int)):=by
   rw[e2,List.map_map];congr 2;exact List.map_congr_left fun j hj=>by rw[topF_all I (List.mem_range.mp hj)]; rfl
  have T2:=T.same fun a u e _=>K2 a u e;walk_at"v";refine zQ ?_;walk_at"v";refine⟨o,C,_,_,_,rfl,T2.ob,R.c,R.n2,rfl,?_⟩;refine⟨sz1,fun l2 hl2=>?_⟩;obtain⟨H3,q,k3,e3⟩:=nob (.lst [.int S.D]) hl2; rw[q]; clear q;walk_at"v";refine⟨l2,D1,_,_,rfl,rfl,e3,k3 _ _ e2',by rw[List.length_map,List.length_map,List.length_range]; show 1+n≤sizeLine; exact Nat.le_trans (show 1+n≤1000 by omega) (by decide),fun l4 hl4=>?_⟩;have k4:Same H3 (upd H3 l4 (.lst ([.int S.D]++((List.range n).map fun j=>S.M j n).map V.int))):=Same.new (Same.refl _) hl4;have e4:upd H3 l4 (.lst ([.int S.D]++((List.range n).map fun j=>S.M j n).map V.int)) l4=some (.lst ((S.D::(List.range n).map fun j=>S.M j n).map V.int)):=zf;generalize upd H3 l4 (.lst ([.int S.D]++((List.range n).map fun j=>S.M j n).map V.int))=H4 at k4 e4 ⊢;have K04:=(K2.trans k3).trans k4;refine⟨l4,_,rfl,e4,?_⟩;have hgd: ∀x∈S.D::(List.range n).map (fun j=>S.M j n),((gcdL (S.D::(List.range n).map fun j=>S.M j n):Nat):Int) ∣ x:=fun x hx=>by
   have:=xT hx;exact Int.ofNat_dvd_left.mpr this
  have hg0:(0:Int)<((gcdL (S.D::(List.range n).map fun j=>S.M j n):Nat):Int):=by
   rcases Nat.eq_zero_or_pos (gcdL (S.D::(List.range n).map fun j=>S.M j n)) with z | z
   ·have:=wW z S.D List.mem_cons_self;have:=I.D0;omega
   ·omega
  have hgs:Sm ((gcdL (S.D::(List.range n).map fun j=>S.M j n):Nat):Int):=by
   have h1:=Zu (xs:=S.D::(List.range n).map fun j=>S.M j n) List.mem_cons_self (by have:=I.D0; omega);have h2:S.D.natAbs<2^4000:=hsd;show(Int.natAbs ((gcdL _:Nat):Int))<2^4000;rw[Int.natAbs_natCast];exact Nat.lt_of_le_of_lt h1 h2
  generalize ((gcdL (S.D::(List.range n).map fun j=>S.M j n):Nat):Int)=g at hgd hg0 hgs ⊢;walk_at"v";have e42:=k4 _ _ (k3 _ _ e2');refine⟨D1,rfl,⟨_,SqL.of e42⟩,fun D5 hD5=>?_⟩;rw[List.map_map] at e42;refine XE (ws:=List.range n) (V.int ∘ fun j=>S.M j n) (fun j=>V.int (S.M j n / g)) e42 (by rw[List.length_range]; omega) hD5 (fun j hj H' K' R' kR=>?_) (fun H5 K5 e5=>?_)
  ·walk_at"v";refine⟨_,_,rfl,rfl,⟨hg0,Yv hgs⟩,?_⟩;exact kR _ (Same.refl _)
  walk_at"v";refine⟨D5,_,rfl,e5,fun l6 H6 K6 e6=>?_⟩;have K06:=(K04.trans K5).trans K6;walk_at"v";refine zQ ?_;walk_at"v";refine⟨o,C,_,_,_,rfl,(K06 _ _ T.ob),R.c,R.n2,rfl,?_⟩;walk_at"v";refine⟨_,_,rfl,rfl,⟨hg0,Yv hgs⟩,?_⟩;refine⟨sz2,fun l7 hl7=>?_⟩;have k7:Same H6 (upd H6 l7 (.tup [.ref l6,.int (S.D / g)])):=Same.new (Same.refl _) hl7;exact k _ l7 l6 g (K06.trans k7) hg0 (hgd _ List.mem_cons_self) (fun j hj=>hgd _ (List.mem_cons_of_mem _ (List.mem_map_of_mem (f:=fun j=>S.M j n) (List.mem_range.mpr hj)))) zf (k7 _ _ e6)
abbrev sBo:Stmt:=wE (top 9) 8
abbrev nBo:List Str:=["self","row","pairs","unknown","number","divisor"]
theorem nmBo:Nm nBo (ze sBo):=nmk (by decide+kernel)
theorem scBo:FnScope nBo ["self","row"] (ze sBo):=fsk (by decide+kernel)
def qBoa (s:Stmt):Scope:=match s with
 | .Assign _ (.Call _ [(.ListComp _ _ sc _)] _ _) _=>sc
 | _=>nsc
abbrev cBoa:Scope:=qBoa ((zm sBo).getD 2 (.Pass ⟨0,0,0,0⟩))
theorem bsBoa:BScope (ze sBo) cBoa ["number","times"] [] []:={okind:=by decide+kernel,kind:=by decide+kernel,nocell:=by decide+kernel,names:=by decide+kernel,fr:=by decide+kernel,ff:=by decide+kernel,nd:=by decide+kernel,vis:=by decide+kernel,loc:=by decide+kernel,gl:=by decide+kernel}
def qBob (s:Stmt):Scope:=match s with
 | .Return (some (.Call _ [(.ListComp _ _ sc _)] _ _)) _=>sc
 | _=>nsc
abbrev cBob:Scope:=qBob ((zm sBo).getD 3 (.Pass ⟨0,0,0,0⟩))
theorem bsBob:BScope (ze sBo) cBob ["number","times"] ["divisor"] []:={okind:=by decide+kernel,kind:=by decide+kernel,nocell:=by decide+kernel,names:=by decide+kernel,fr:=by decide+kernel,ff:=by decide+kernel,nd:=by decide+kernel,vis:=by decide+kernel,loc:=by decide+kernel,gl:=by decide+kernel}
def PsA (H:Hp) (qs:List Addr) (ws:List (Int×Int)):Prop:=qs.length=ws.length∧ ∀(i:Nat) (q:Addr) (w:Int×Int),qs[i]? =some q→ws[i]? =some w→H q=some (.tup [.int w.1,.int w.2])
theorem PsA.same(h:PsA H qs ws)(k:Same H H'):PsA H' qs ws:=⟨h.1,fun i q w e1 e2=>k _ _ (h.2 i q w e1 e2)⟩
theorem PsA.snoc{w:Int×Int}(h:PsA H qs ws)(e:H q=some (.tup [.int w.1,.int w.2])):PsA H (qs++[q]) (ws++[w]):=by
 refine⟨by simp[h.1],fun i q' w' e1 e2=>?_⟩;by_cases hi:i<qs.length
 ·rw[List.getElem?_append_left hi] at e1;rw[List.getElem?_append_left (by rw[←h.1]; exact hi)] at e2;exact h.2 i q' w' e1 e2
 ·have hl:i=qs.length:=by
   have:=(List.getElem?_eq_some_iff.mp e1).1;simp at this;omega
  subst hl;rw[List.getElem?_append_right (Nat.le_refl _)] at e1;rw[h.1,List.getElem?_append_right (Nat.le_refl _)] at e2;simp at e1 e2;subst e1; subst e2;exact e
theorem Yy: ∀{ys:List V},(∀y∈ys,∃q,y= .ref q)→ ∃qs:List Addr,ys=qs.map V.ref
 | [],_=>⟨[],rfl⟩
 | y::ys,h=>by
  obtain⟨q,rfl⟩:=h y List.mem_cons_self;obtain⟨qs,rfl⟩:=Yy fun z hz=>h z (List.mem_cons_of_mem _ hz);exact⟨q::qs,rfl⟩
theorem Z5(hg:0<g)(h:Sm x):Sm (x / g):=by
 unfold Sm at h ⊢;refine Nat.lt_of_le_of_lt ?_ h;exact Int.natAbs_ediv_le_natAbs x g
abbrev pk (w:Int×Int):List Int:=[w.1,w.2]
theorem ZI: ∀{qs:List Addr} {ws:List (Int×Int)},PsA H qs ws→RowsAt H qs (ws.map pk)
 | [],[],_=>trivial
 | [],_::_,h=>by have:=h.1; simp at this
 | _::_,[],h=>by have:=h.1; simp at this
 | q::qs,w::ws,h=>⟨h.2 0 q w rfl rfl,ZI ⟨by have:=h.1; simpa using this,fun i q' w' e1 e2=>h.2 (i+1) q' w' e1 e2⟩⟩
theorem rows_psa{ws:List (Int×Int)}(h:RowsAt H qs (ws.map pk)):PsA H qs ws:=by
 refine⟨by have:=h.len; simpa using this,fun i q w e1 e2=>?_⟩;obtain⟨ks,f1,f2⟩:=h.at e1;rw[List.getElem?_map,e2] at f1;cases f1
 exact f2
theorem perm_pk{ks:List (List Int)}{ws:List (Int×Int)}(h:ks.Perm (ws.map pk)): ∃us:List (Int×Int),ks=us.map pk∧us.Perm ws:=by
 refine⟨ks.map fun k=>(k.getD 0 0,k.getD 1 0),?_,?_⟩
 ·rw[List.map_map];have: ∀k∈ks,k=(pk ∘ fun k:List Int=>(k.getD 0 0,k.getD 1 0)) k:=fun k hk=>by
   obtain⟨w,_,rfl⟩:=List.mem_map.mp (h.mem_iff.mp hk);rfl
  exact(List.map_id ks).symm.trans (List.map_congr_left this)
 ·have:=h.map fun k=>(k.getD 0 0,k.getD 1 0);rw[List.map_map] at this;have e:ws.map ((fun k:List Int=>(k.getD 0 0,k.getD 1 0)) ∘ pk)=ws:=(List.map_congr_left fun w _=>rfl).trans (List.map_id ws)
  rwa [e] at this
theorem rise_pk{us:List (Int×Int)}(h:(us.map pk).Pairwise fun a b=>PySem.W.lexI false a b=true)(nd:(us.map (·.1)).Nodup):us.Pairwise fun a b=>a.1<b.1:=by
 rw[List.pairwise_map] at h;have nd':us.Pairwise fun a b=>a.1≠b.1:=by
  have:=nd;unfold List.Nodup at this
  rwa [List.pairwise_map] at this
 refine List.Pairwise.imp₂ ?_ h nd';intro a b h1 h2;unfold pk PySem.W.lexI at h1;rw[if_neg h2] at h1;exact of_decide_eq_true h1
def prsI (n:Nat) (S:Tb) (r i:Nat):List (Int×Int):=((S.ru r:Int)-n,S.D)::((List.range i).filter fun c=>decide (S.M (S.ru r) c≠0)).map fun c=>((S.cu c:Int)-n,- S.M (S.ru r) c)
def spBo (C:Addr):Sp:=fun vs H Q _=> ∃(o:Addr) (n m r:Nat) (v:Nat→Nat→Int) (S:Tb) (t:Nat) (dx pr pu pc:Addr) (ras:List Addr),vs=[.ref o,.int (r:Int)]∧TbA H C o n m S t dx pr pu pc ras∧Inv n m v S∧Stuck n m S r∧n≤40∧m≤60∧Sm S.D∧(∀c≤n,Sm (S.M (S.ru r) c))∧
 ∀H' p qs ws,Same H H'→Bw n m v ws→(∀w∈ws,Sm w.2)→H' p=some (.tup (qs.map V.ref))→PsA H' qs ws→Q (.ref p) H'
theorem ok_Bo(R:TC K C)(B:Bl mg)(fC:Has P w K mg base 1 "common_divisor" ["numbers"] spCd)(F:Fun K "borne" "Tableau.borne" sBo f fd):FnOk P w K mg base CX0 2 f fd ["self","row"] (spBo C):=by
 refine F.ok scBo (fun vs H Q E h=>?_) (fun cdv A outer s H vs Q E hr h=>?_)
 ·obtain⟨o,n,m,r,v,S,t,dx,pr,pu,pc,ras,rfl,_⟩:=h;rfl
 obtain⟨o,n,m,r,v,S,t,dx,pr,pu,pc,ras,rfl,T,I,Kk,hn,hm,hsd,hsm,k⟩:=h;refine'⟨_,?hb,?rd⟩
 case' hb=>skip
 case' hb=>refine' zd ?g1 ?g2
 case' g2=>refine' zd ?g3 ?g4
 case' g4=>refine' zd ?g5 ?g6
 case' g6=>refine' zj ?g7
 case g1=>exact zk nmBo 2 (yk (pa_1 (z0 (pa_2 (zo wb (ziq (zG (pvd nmBo 0) rfl) (pvd nmBo 1)) (zG (pvd nmBo 0) rfl)) (zG (pvd nmBo 0) rfl)))))
 case' g3=>refine' yX PassesOwn.never rfl ?g8 (wT rfl (zH (pgd nmBo 3) (zH (pgd nmBo 4) yI))) ?g9
 case g8=>exact Z9 B.zip (pa_2 (zG (pvd nmBo 0) rfl) (ziq (zG (pvd nmBo 0) rfl) (pvd nmBo 1)))
 case' g9=>refine' zj ?g10
 case' g10=>refine' zY ?g11 ?g12 zC
 case g11=>exact zt xn (pvd nmBo 4) zg (zv _)
 case' g12=>refine' zj ?g14
 case g14=>exact wy (ZJ PySem.F.plainAttrs_list PySem.F.slot_list_append PySem.F.type_list_append wU (pvd nmBo 2) (pa_1 (z0 (pa_2 (zo wb (pvd nmBo 3) (zG (pvd nmBo 0) rfl)) (w9 xL (pvd nmBo 4))))))
 case' g5=>refine' zk nmBo 5 ?g15
 case' g15=>refine' pe_f fC hr (by decide) ?g16
 case' g16=>refine' pa_1 ?g17
 case' g17=>refine' zR (ix:=[]) bsBoa.toCScope rfl rfl ?g18 ?g19 ?g20 ?g21
 case g18=>exact xm (pvd nmBo 2)
 case g19=>
  intro _ _ _ _ _ _;refine' wz (n:=2) rfl ?g22
  case' g22=>refine' zH ?g26 ?g25
  case g26=>exact pgb bsBoa 0
  case' g25=>refine' zH ?g28 yI
  case g28=>exact pgb bsBoa 1
 case g20=>exact fun _ _ _ _ _ _=>zB
 case g21=>exact fun _ _ _ _ _ _=>pvb bsBoa 1
 case' g7=>refine' zy ?g29
 case' g29=>refine' ya yd B.tuple PyProof.Rows.boot_tuple ?g30
 case' g30=>refine' pa_1 ?g31
 case' g31=>refine' zR (ix:=[5]) bsBob.toCScope rfl rfl ?g32 ?g33 ?g34 ?g35
 case g32=>exact xm (zU call_sortL B.sorted PyProof.Rows.boot_sorted (pa_1 (pvd nmBo 2)))
 case g33=>
  intro _ _ _ _ _ _;refine' wz (n:=2) rfl ?g36
  case' g36=>refine' zH ?g40 ?g39
  case g40=>exact pgb bsBob 0
  case' g39=>refine' zH ?g42 yI
  case g42=>exact pgb bsBob 1
 case g34=>exact fun _ _ _ _ _ _=>zB
 case g35=>exact fun _ _ _ _ _ _=>z0 (pa_2 (pvb bsBob 0) (zo EL.op_fdivL (pvb bsBob 1) (pvb bsBob 2)))
 have hrm:=Kk.lo.1;obtain⟨ra,g1,g2⟩:=T.row hrm;walk_at"v";refine zQ ?_;walk_at"v";refine⟨o,C,_,_,_,rfl,T.ob,R.c,R.n4,rfl,?_⟩;walk_at"v";refine zA (v:= .int ((S.ru r:Nat):Int)) T.ru (zz (yq hrm)) ?_;walk_at"v";refine zQ ?_;walk_at"v";refine⟨o,C,_,_,_,rfl,T.ob,R.c,R.n1,rfl,?_⟩;walk_at"v";refine zQ ?_;walk_at"v";refine⟨o,C,_,_,_,rfl,T.ob,R.c,R.n2,rfl,?_⟩;walk_at"v";refine⟨sz2,fun p1 hp1=>?_⟩;obtain⟨H1,q,k1,e1⟩:=nob (.tup [.int ((S.ru r:Int) - n),.int S.D]) hp1; rw[q]; clear q;walk_at"v";refine⟨sz1,fun D1 hD1=>?_⟩;obtain⟨H2,q,k2,e2⟩:=nob (.lst [.ref p1]) hD1; rw[q]; clear q;have K02:=k1.trans k2;have hD0:H D1=none:=Same.free k1 hD1;have T2:=T.same fun a u e _=>K02 a u e;walk_at"v";refine Ym ?_;walk_at"v";refine zQ ?_;walk_at"v";refine⟨o,C,_,_,_,rfl,T2.ob,R.c,R.n5,rfl,?_⟩;walk_at"v";refine zQ ?_;walk_at"v";refine⟨o,C,_,_,_,rfl,T2.ob,R.c,R.n3,rfl,?_⟩;walk_at"v";refine zA (v:= .ref ra) T2.rs (zz (by rw[List.getElem?_map,g1]; rfl)) ?_;refine⟨pc,ra,rfl,⟨_,SqL.of T2.cu⟩,⟨_,SqL.of (K02 _ _ g2)⟩,?_⟩;refine ZV (xs:=natV n S.cu) (zs:=rowV n (S.M (S.ru r))) (by rw[yb,yz]; omega) (fun i σ H'=> ∃u3 u4 u5 qs,σ=[some (.ref o),some (.int (r:Int)),some (.ref D1),u3,u4,u5]∧Same H H'∧H' D1=some (.lst (qs.map V.ref))∧PsA H' qs (prsI n S r i)) ⟨_,_,_,[p1],rfl,K02,e2,rfl,fun i q w h1 h2=>?_⟩ (fun i σ H' ⟨_,_,_,_,_,K',_⟩=>⟨SqL.of (K' _ _ T.cu),SqL.of (K' _ _ g2)⟩) ?_ ?_
 ·cases i with
  | zero=>
   have z1:p1=q:=Option.some.inj h1;have z2:((S.ru r:Int)-n,S.D)=w:=Option.some.inj h2;subst z1; subst z2;exact k2 _ _ e1
  | succ i=>simp at h1
 ·rintro i x y σ H' p hx hy ⟨u3,u4,u5,qs,rfl,K',e',hP⟩ hp;have hi:i<n:=by have:=(List.getElem?_eq_some_iff.mp hx).1; rw[yb] at this; exact this
  rw[yq hi] at hx;cases hx
  rw[yi (by omega)] at hy;cases hy
  have kp:Same H' (upd H' p (.tup [.int ((S.cu i:Nat):Int),.int (S.M (S.ru r) i)])):=Same.new (Same.refl _) hp;have ep:upd H' p (.tup [.int ((S.cu i:Nat):Int),.int (S.M (S.ru r) i)]) p=some (.tup [.int ((S.cu i:Nat):Int),.int (S.M (S.ru r) i)]):=zf;generalize upd H' p (.tup [.int ((S.cu i:Nat):Int),.int (S.M (S.ru r) i)])=H3 at kp ep ⊢;refine⟨p,[.int ((S.cu i:Nat):Int),.int (S.M (S.ru r) i)],rfl,SqT.of ep,rfl,.int ((S.cu i:Nat):Int),[.int (S.M (S.ru r) i)],rfl,?_⟩;walk_at"v";refine⟨.int (S.M (S.ru r) i),[],rfl,?_⟩;walk_at"v";refine⟨rfl,?_⟩;have K3:=K'.trans kp;walk_at"v";refine⟨rfl,?_⟩;walk_at"v";have e3:=kp _ _ e';have hql:qs.length≤i+1:=by
   rw[hP.1];unfold prsI;rw[List.length_cons,List.length_map];have:=List.length_filter_le (fun c=>decide (S.M (S.ru r) c≠0)) (List.range i);rw[List.length_range] at this;omega
  refine YI (fun h1=>?_) (fun h1=>?_)
  ·have hne:S.M (S.ru r) i≠0:=fun z=>h1 (by rw[z]);walk_at"v";refine⟨.inl ⟨rfl,_,SqL.of e3⟩,?_⟩;walk_at"v";refine zQ ?_;walk_at"v";refine⟨o,C,_,_,_,rfl,(K3 _ _ T.ob),R.c,R.n1,rfl,?_⟩;walk_at"v";refine⟨_,rfl,?_⟩;refine⟨sz2,fun p4 hp4=>?_⟩;obtain⟨H4,q,k4,e4⟩:=nob (.tup [.int ((S.cu i:Int) - n),.int (- S.M (S.ru r) i)]) hp4; rw[q]; clear q;walk_at"v";refine⟨D1,_,_,rfl,rfl,k4 _ _ e3,zu (by rw[List.length_map]; omega),?_⟩;have nq: ∀q w,H4 q=some (.tup w)→q≠D1:=fun q w e z=>by rw[z,k4 _ _ e3] at e; cases e
   have hP4:=(hP.same (kp.trans k4)).snoc (w:=((S.cu i:Int)-n,- S.M (S.ru r) i)) e4;refine⟨_,_,_,qs++[p4],rfl,(K3.trans k4).put hD0,by rw[zf]; simp,?_⟩;have:prsI n S r (i+1)=prsI n S r i++[((S.cu i:Int)-n,- S.M (S.ru r) i)]:=by
    unfold prsI;rw[List.range_succ,List.filter_append,List.filter_cons_of_pos (by simp[hne])];simp
   rw[this];exact⟨hP4.1,fun i q w e1 e2=>by rw[zh (nq _ _ (hP4.2 i q w e1 e2))]; exact hP4.2 i q w e1 e2⟩
  ·have hz:S.M (S.ru r) i=0:=by injection h1
   refine⟨_,_,_,qs,rfl,K3,e3,?_⟩;have:prsI n S r (i+1)=prsI n S r i:=by
    unfold prsI;rw[List.range_succ,List.filter_append,List.filter_cons_of_neg (by simp[hz])];simp
   rw[this];exact hP.same kp
 ·rintro σ H3 ⟨u3,u4,u5,qs,rfl,K3,e3,hP⟩;rw[yb] at hP;walk_at"v";have hP:PsA H3 qs (prs0 n S r):=hP;have hlen:(prs0 n S r).length≤41:=by
   unfold prs0;rw[List.length_cons,List.length_map];have:=List.length_filter_le (fun c=>decide (S.M (S.ru r) c≠0)) (List.range n);rw[List.length_range] at this;omega
  refine⟨D1,rfl,⟨_,SqL.of e3⟩,fun D4 hD4=>?_⟩;refine prs_mapL (xs:=prs0 n S r) (fun w=>V.int w.1) (fun w=>V.int w.2) (fun w=>V.int w.2) e3 hP.1 (by omega) (fun i q w h1 h2=>hP.2 i q w h1 h2) (fun i w H' hw K' R' kR=>?_) (fun H4 K4 e4=>?_) hD4
  ·walk_at"v";exact kR _ (Same.refl _)
  walk_at"v";have e4':H4 D4=some (.lst (((prs0 n S r).map (·.2)).map V.int)):=by rw[e4,List.map_map]; rfl
  refine⟨D4,_,rfl,e4',?_⟩;have hgd: ∀w∈prs0 n S r,((gcdL ((prs0 n S r).map (·.2)):Nat):Int) ∣ w.2:=fun w hw=>Int.ofNat_dvd_left.mpr (xT (List.mem_map_of_mem hw));have hDm:S.D∈(prs0 n S r).map (·.2):=by unfold prs0; simp
  have hg0:(0:Int)<((gcdL ((prs0 n S r).map (·.2)):Nat):Int):=by
   rcases Nat.eq_zero_or_pos (gcdL ((prs0 n S r).map (·.2))) with z | z
   ·have:=wW z S.D hDm;have:=I.D0;omega
   ·omega
  have hgs:Sm ((gcdL ((prs0 n S r).map (·.2)):Nat):Int):=by
   have h1:=Zu hDm (by have:=I.D0; omega);have h2:S.D.natAbs<2^4000:=hsd;show(Int.natAbs ((gcdL _:Nat):Int))<2^4000;rw[Int.natAbs_natCast];exact Nat.lt_of_le_of_lt h1 h2
  generalize ((gcdL ((prs0 n S r).map (·.2)):Nat):Int)=g at hgd hg0 hgs ⊢;have K04:=K3.trans K4;have hP4:=hP.same K4;walk_at"v";have hnd:=prs_nodup I hrm;refine⟨D1,qs,(prs0 n S r).map pk,2,rfl,K4 _ _ e3,ZI hP4,by decide,fun ks hk=>?_,?_,by rw[List.length_map]; omega,?_⟩
  ·obtain⟨w,_,rfl⟩:=List.mem_map.mp hk;rfl
  ·refine List.pairwise_map.mpr ?_;have nd':(prs0 n S r).Pairwise fun a b=>a.1≠b.1:=by
    have:=hnd;unfold List.Nodup at this
    rwa [List.pairwise_map] at this
   exact nd'.imp fun h z=>h (by injection z)
  intro D5 qs5 ks5 hD5 hr5 hp5 hs5;obtain⟨us,rfl,hpu⟩:=perm_pk hp5;have hP5:=rows_psa hr5;have hrise:=rise_pk hs5 ((hpu.map (·.1)).nodup_iff.mpr hnd);have hul:=hpu.length_eq;obtain⟨H5,q,k5,e5⟩:=nob (.lst (qs5.map V.ref)) hD5; rw[q]; clear q;have hP6:=hP5.same k5;refine⟨D5,rfl,⟨_,SqL.of e5⟩,fun D6 hD6=>?_⟩;refine gm_lst2 (S:=Same) (rs:=qs5) (fun i y H'=> ∃q w,us[i]? =some w∧y= .ref q∧H' q=some (.tup [.int w.1,.int (w.2 / g)])) (Kp.same hD6) (fun t ⟨q,w,a,b,e⟩=>⟨q,w,a,b,t.t _ _ e⟩) (fun _ b=>G2.TK.same b) (by have:=hP5.1; omega) (fun H' K'=>SqL.of (K' _ _ e5)) (fun i q H' hq K'=>?_) (fun ys H6 gp e6=>?_)
  ·have hi:i<us.length:=by have:=(List.getElem?_eq_some_iff.mp hq).1; have:=hP5.1; omega
   have hw:us[i]? =some us[i]:=List.getElem?_eq_getElem hi;refine⟨.int us[i].1,.int us[i].2,K' _ _ (hP6.2 i q _ hq hw),fun R' kR=>?_⟩;walk_at"v";refine⟨_,_,rfl,rfl,⟨hg0,Yv hgs⟩,?_⟩;walk_at"v";refine⟨sz2,fun p7 hp7=>?_⟩;exact kR _ _ (Same.new (Same.refl _) hp7) ⟨p7,_,hw,rfl,zf⟩
  obtain⟨K6,hl6,hy6⟩:=gp;obtain⟨qs7,rfl,hq7⟩: ∃qs7:List Addr,ys=qs7.map V.ref∧PsA H6 qs7 (us.map fun w=>(w.1,w.2 / g)):=by
   have hall: ∀y∈ys,∃q,y= .ref q:=fun y hy=>by
    obtain⟨i,hi⟩:=List.getElem?_of_mem hy;obtain⟨q,w,_,e,_⟩:=hy6 i y hi;exact⟨q,e⟩
   obtain⟨qs7,rfl⟩:=Yy hall;refine⟨qs7,rfl,by rw[List.length_map] at hl6 ⊢; rw[hl6,hP5.1],fun i q w e1 e2=>?_⟩;obtain⟨q',w',f1,f2,f3⟩:=hy6 i (.ref q) (by rw[List.getElem?_map,e1]; rfl);injection f2 with f2
   subst f2;rw[List.getElem?_map,f1] at e2;cases e2
   exact f3
  walk_at"v";refine⟨D6,_,rfl,e6,fun l8 H8 K8 e8=>?_⟩;have hB:=bears I Kk hg0 hgd hpu hrise;refine k H8 l8 qs7 _ (((K04.trans k5).trans K6).trans K8) hB (fun w hw=>?_) e8 (hq7.same K8);obtain⟨u,hu,rfl⟩:=List.mem_map.mp hw;have hu':=hpu.mem_iff.mp hu;have hsu:Sm u.2:=by
   rcases(Zm I Kk hu').2.2 with e | ⟨c,hc,e⟩
   ·rw[e]; exact hsd
   ·rw[e];unfold Sm;rw[Int.natAbs_neg];exact hsm c (by omega)
  exact Z5 hg0 hsu
end
end K16
namespace WG
theorem Xy: ∀n,det n (fun a b=>if a=b then 1 else 0)=1
 | 0=>rfl
 | n+1=>by
  show sm (n+1) _=1;rw[xr (k:=0) (by omega) fun i hi hne=>by simp[hne]];have e:(fun a b=>(if skip 0 a=b+1 then (1:Int) else 0))=fun a b=>if a=b then 1 else 0:=by
   funext a b
   unfold skip;by_cases h:a=b
   ·simp[h]
   ·simp[h]
  show sg 0*1*det n (fun a b=>(if skip 0 a=b+1 then (1:Int) else 0))=1;rw[e,Xy n];rfl
theorem inv0{v:Nat→Nat→Int}(hv: ∀u<n,∀j,v u j=if j=u then 1 else 0):Inv n m v ⟨1,v,fun r=>n+r,fun c=>c⟩:=by
 have hw: ∀a<n+1,∀b<n+1,wv n v (fun c=>c) a b=if a=b then 1 else 0:=fun a ha b hb=>by
  unfold wv un;by_cases h:a<n
  ·rw[if_pos h,hv a h];by_cases e:a=b
   ·rw[if_pos e,if_pos e.symm]
   ·rw[if_neg e,if_neg (Ne.symm e)]
  ·rw[if_neg h];by_cases e:a=b
   ·rw[if_pos e,if_pos (by omega)]
   ·rw[if_neg e,if_neg (by omega)]
 refine⟨Int.one_pos,fun r hr=>by dsimp only; omega,fun c hc=>by dsimp only; omega,fun u hu=>?_,fun a _ b _ e=>by dsimp only at e; omega,fun a _ b _ e=>e,fun a _ b hb e=>by dsimp only at e; omega,fun c hc k hk=>?_,fun u hu j hj=>?_,fun u hu k hk=>?_,⟨1,rfl,?_⟩⟩
 ·by_cases h:u<n
  ·exact .inr ⟨u,h,rfl⟩
  ·exact .inl ⟨u-n,by omega,by dsimp only; omega⟩
 ·exact hv c hc k
 ·show 1*v u j=sm (n+1) fun c=>v u c*wv n v (fun c=>c) c j;rw[xr (k:=j) (by omega) fun i hi hne=>by rw[hw i hi j (by omega),if_neg hne]; simp,hw j (by omega) j (by omega),if_pos rfl];omega
 ·show v u k=(sm n fun j=>v u j*v j k)+v u n*(if k=n then 1 else 0);by_cases h:k=n
  ·subst h;rw[if_pos rfl,xW fun j hj=>by rw[hv j hj,if_neg (by omega)]; simp];omega
  ·rw[if_neg h,xr (k:=k) (by omega) fun i hi hne=>by rw[hv i hi,if_neg (Ne.symm hne)]; simp,hv k (by omega),if_pos rfl];omega
 ·show(1:Int)=1*det (n+1) (wv n v fun c=>c);rw[x4 (w':=fun a b=>if a=b then 1 else 0) fun a ha b hb=>hw a ha b hb,Xy];rfl
end WG
namespace K16
open PySem L2 G2 WG EL
local macro_rules | `(tactic| walk_at "v") => `(tactic| repeat (with_reducible first
  | refine xg ?_ | refine yL ?_ | refine zM ?_ | refine w_op ?_ | refine yt rfl ?_ | refine w_c ?_ | refine xF ?_ | refine xG ?_ | refine xH ?_ | refine yP ?_ | refine w_tb ?_ | refine w_bl ?_ | refine w_not ?_ | refine xj ?_ | refine w_retN ?_
  | refine yK ?_ | refine yh ?_ | refine xu ?_ | refine y9 ?_ | refine w_cb ?_ | refine yV ?_ | refine yQ ?_ | refine xI ?_ | refine w_or ?_ | refine yg ?_ | refine zZ ?_ | refine yO ?_ | refine yp ?_ | refine yo ?_ | refine yS ?_ | refine yR ?_ | refine yT ?_ | refine yU ?_ | refine w_bm ?_ | refine yF ?_ | refine yG ?_ | refine w_chain ?_ | refine w_sl ?_ | refine zT ?_ | refine yy ?_ | refine x5 ?_ | refine iteT ?_ | refine iteF ?_))
abbrev sWg:Stmt:=top 11
abbrev nWg:List Str:=["many","problem","table","row","column"]
theorem nmWg:Nm nWg (ze sWg):=nmk (by decide+kernel)
theorem scWg:FnScope nWg ["many","problem"] (ze sWg):=fsk (by decide+kernel)
theorem w_notN(h:ta σ H fun x H1=>Q (.bl (!decide (x= .non))) H1):Y1 ta σ H Q:=h
theorem w_isN(h:ta σ H fun x H1=>Q (.bl (decide (x= .non))) H1):tIsN ta σ H Q:=h
def Tbs (H:Hp) (p1 p2:Addr):Prop:=TabAt H p1 qLr∧TabAt H p2 qCf
def SameT (p1 p2:Addr) (H H':Hp):Prop:= ∀a u,a≠p1→a≠p2→H a=some u→H' a=some u
theorem _root_.L2.TabAt.keep(h:TabAt H P q)(k1: ∀ps,H P=some (.tbl ps)→H' P=some (.tbl ps))(k2: ∀a φ,H a=some (.ext φ)→H' a=some (.ext φ)):TabAt H' P q:=by
 obtain⟨ps,h1,h2,h3⟩:=h;refine⟨ps,k1 _ h1,h2,fun pos cv e'=>?_⟩;obtain⟨c,rfl,hc⟩:=h3 pos cv e';exact⟨c,rfl,k2 _ _ hc⟩
theorem _root_.L2.TabAt.tbl(h:TabAt H P q): ∃ps,H P=some (.tbl ps):=let ⟨ps,e,_⟩:=h; ⟨ps,e⟩
theorem _root_.L2.TabAt.other(h:TabAt H P q)(h':TabAt H P' q')(hne:P≠P')(k:SameB P' H H'):TabAt H' P q:=by
 obtain⟨ps,e⟩:=h'.tbl;exact h.keep (fun qs e1=>k _ _ hne e1) fun a φ e1=>k _ _ (fun z=>by rw[z,e] at e1; cases e1) e1
structure PrS (n:Nat) (rows:List (List Int×Int)) (Bd:Nat):Prop where
 n40:n≤40
 m60:rows.length≤60
 b1:1≤Bd
 bd: ∀r∈rows,(∀x∈r.1,x.natAbs≤Bd)∧r.2.natAbs≤Bd
 big:fac (n+1)*Bd^(n+1)<2^4000
theorem PrS.vec(h:PrS n rows Bd)(u j:Nat):(vec n rows u j).natAbs≤Bd:=by
 have h1:=h.b1;unfold K16.vec;split
 ·split<;>simp<;>omega
 ·split
  ·rename_i b p e
   have hb:=h.bd (b,p) (List.mem_of_getElem? e);split
   ·rw[List.getD_eq_getElem?_getD];cases e2:b[j]? with
    | none=>simp
    | some x=>exact hb.1 x (List.mem_of_getElem? e2)
   ·split
    ·exact hb.2
    ·simp
  ·simp
theorem PrS.sm(h:PrS n rows Bd)(I:Inv n rows.length (K16.vec n rows) S)(hu:u<n+rows.length)(hk:k≤n):Sm (S.M u k):=Nat.lt_of_le_of_lt (I.bound (fun u _ j _=>h.vec u j) h.b1 hu hk) h.big
theorem PrS.smD(h:PrS n rows Bd)(I:Inv n rows.length (K16.vec n rows) S):Sm S.D:=Nat.lt_of_le_of_lt (I.D_bound (fun u _ j _=>h.vec u j) h.b1) h.big
def spWg (p1 p2:Addr):Sp:=fun vs H Q _=> ∃(l:Addr) (n:Nat) (rows:List (List Int×Int)) (Bd:Nat),vs=[.int (n:Int),.ref l]∧PrAt H n rows l∧PrS n rows Bd∧Tbs H p1 p2∧
 (∀H' q p (x:Nat→Int) (d:Int),SameT p1 p2 H H'→Tbs H' p1 p2→1≤d→Met n rows.length (vec n rows) x d→Sm d→(∀j<n,Sm (x j))→H' q=some (.tup [.str "numbers",.ref p,.int d])→H' p=some (.tup ((List.range n).map fun j=>V.int (x j)))→Q (.ref q) H')∧
 (∀H' q p qs ws,SameT p1 p2 H H'→Tbs H' p1 p2→Bw n rows.length (vec n rows) ws→(∀w∈ws,Sm w.2)→H' q=some (.tup [.str "weights",.ref p])→H' p=some (.tup (qs.map V.ref))→PsA H' qs ws→Q (.ref q) H')
section
variable {P:Program} {w:World} {K:W.Frag} {mg:Str→Option Value} {base:Heap}
theorem ok_Wg(h12:p1≠p2)(B:Bl mg)(hK:HasK P w K mg base 1 "Tableau" C ["self","many","problem"] (spTi C))(hL:HasM P w K mg base 3 C "low_row" ["self"] (spLr C p1))(hF:HasM P w K mg base 3 C "column_for" ["self","row"] (spCf C p2))(hT:HasM P w K mg base 2 C "turn" ["self","row","column"] (spTn C))(hM:HasM P w K mg base 2 C "met" ["self"] (spMe C))(hO:HasM P w K mg base 2 C "borne" ["self","row"] (spBo C))(F:Fun K "weighed" "weighed" sWg f fd):FnOk P w K mg base CX0 5 f fd ["many","problem"] (spWg p1 p2):=by
 refine F.ok scWg (fun vs H Q E h=>?_) (fun cdv A outer s H vs Q E hr h=>?_)
 ·obtain⟨l,n,rows,Bd,rfl,_⟩:=h;rfl
 obtain⟨l,n,rows,Bd,rfl,hP,hS,hT0,kN,kW⟩:=h;refine'⟨_,?hb,?rd⟩
 case' hb=>skip
 case' hb=>refine' zd ?g1 ?g2
 case' g2=>refine' zd ?g3 ?g4
 case' g4=>refine' zd ?g5 ?g6
 case' g6=>refine' zj ?g7
 case g1=>exact zk nmWg 2 (pe_mk hK hr (by decide) (pa_2 (pvd nmWg 0) (pvd nmWg 1)))
 case g3=>exact zk nmWg 3 (Xe hL hr (by decide) (pvd nmWg 2))
 case' g5=>refine' vy PassesOwn.never ?g8 ?g9
 case g8=>exact Zl (YA (pvd nmWg 3))
 case' g9=>refine' zd ?g10 ?g11
 case' g11=>refine' zd ?g12 ?g13
 case' g13=>refine' zd ?g14 ?g15
 case' g15=>refine' zj ?g16
 case g10=>exact zk nmWg 4 (pe_m hF hr (by omega) (pvd nmWg 2) (pa_1 (pvd nmWg 3)))
 case' g12=>refine' zY ?g17 ?g18 zC
 case g17=>exact Zl (Xh (pvd nmWg 4))
 case' g18=>refine' zj ?g20
 case g20=>exact zy (z0 (pa_2 yY (pe_m hO hr (by omega) (pvd nmWg 2) (pa_1 (pvd nmWg 3)))))
 case g14=>exact wy (pe_m hT hr (by omega) (pvd nmWg 2) (pa_2 (pvd nmWg 3) (pvd nmWg 4)))
 case g16=>exact zk nmWg 3 (Xe hL hr (by decide) (pvd nmWg 2))
 case g7=>exact zy (zo xp (z0 (pa_1 yY)) (Xe hM hr (by decide) (pvd nmWg 2)))
 have hT1:=hT0.1;have hT2:=hT0.2;obtain⟨tb1,et1⟩:=hT1.tbl;obtain⟨tb2,et2⟩:=hT2.tbl;walk_at"v";refine w_make ?_;walk_at"v";rintro o dx0 ho hdx hne;have k1:Same H (upd (upd H dx0 (.own o)) o (.ins C dx0 [])):=(Same.new (Same.refl _) hdx).new (by rw[zh (Ne.symm hne)]; exact ho);have e1:upd (upd H dx0 (.own o)) o (.ins C dx0 []) o=some (.ins C dx0 []):=zf;generalize upd (upd H dx0 (.own o)) o (.ins C dx0 [])=H1 at k1 e1 ⊢;obtain⟨ras0,bas0,hP0⟩:=hP;refine⟨o,dx0,l,n,rows,rfl,e1,⟨ras0,bas0,hP0.same fun a u e _=>k1 a u e⟩,hS.n40,hS.m60,fun H2 dx pr0 pu pc ras2 b2 T2 hpu hpc=>⟨rfl,?_⟩⟩;have hpu:H pu=none:=Same.free k1 hpu;have hpc:H pc=none:=Same.free k1 hpc;have K2:Same H H2:=fun a u e=>b2 a u (zi e ho) (k1 a u e);have hn40:=hS.n40;have hm60:=hS.m60;have I0:Inv n rows.length (vec n rows) (tb0 n rows):=inv0 fun u hu j=>by unfold vec; rw[if_pos hu]
 let LI:Hp→Tb→Nat→Addr→List Addr→Prop:=fun H' S t pr ras=>TbA H' C o n rows.length S t dx pr pu pc ras∧Inv n rows.length (vec n rows) S∧SameT p1 p2 H H'∧Tbs H' p1 p2
 have L2':LI H2 (tb0 n rows) 0 pr0 ras2:=⟨T2,I0,fun a u _ _ e=>K2 a u e,hT1.same K2,hT2.same K2⟩
 -- low_row
 have lowr: ∀{H':Hp} {S:Tb} {t:Nat} {pr:Addr} {ras:List Addr} {Q':VK},LI H' S t pr ras→(∀H'' (ob:Option Nat),LI H'' S t pr ras→(ob=none→ ∀r,¬low n rows.length S r)→(∀r,ob=some r→low n rows.length S r∧(200≤t→ ∀q,low n rows.length S q→S.ru r≤S.ru q))→Q' (ob.elim .non fun r=> .int (r:Int)) H'')→spLr C p1 [.ref o] H' Q' E0:=fun {H' S t pr ras Q'} ⟨T,I,sT,tT⟩ q=>by
  refine⟨o,n,rows.length,S,t,rfl,⟨dx,pr,pu,pc,ras,T⟩,hm60,tT.1,fun H'' ob k3 hT3 h0 h1=>q H'' ob ⟨T.tab tT.1 k3,I,fun a u n1 n2 e=>k3 a u n1 (sT a u n1 n2 e),hT3,tT.2.other tT.1 (Ne.symm h12) k3⟩ h0 h1⟩
 walk_at"v";refine xq ?_;walk_at"v";refine⟨o,dx,_,rfl,T2.ob,rfl,?_⟩;walk_at"v";refine lowr L2' fun H3 ob3 L3 h30 h31=>?_;walk_at"v";refine Zh ⟨fun mm σ H'=> ∃(S:Tb) (t:Nat) (pr:Addr) (ras:List Addr) (k:Nat) (h:Nat→Tb) (rw_ cw:Nat→Nat) (ob:Option Nat) (u4:Option V),σ=[some (.int (n:Int)),some (.ref l),some (.ref o),some (ob.elim .non fun r=> .int (r:Int)),u4]∧LI H' S t pr ras∧Way n rows.length (vec n rows) k h rw_ cw∧h k=S∧mm=(200 - t)*(2^(n+rows.length)+1)+(2^(n+rows.length) - k)∧(ob=none→ ∀r,¬low n rows.length S r)∧(∀r,ob=some r→low n rows.length S r∧(200≤t→ ∀q,low n rows.length S q→S.ru r≤S.ru q)),
  ⟨_,_,_,_,_,_,_,_,_,_,_,rfl,L3,Way.one I0,rfl,rfl,h30,h31⟩,?_⟩
 rintro mm σ H' ⟨S,t,pr,ras,k,h,rw_,cw,ob,u4,rfl,⟨T,I,sT,tT⟩,Wy,hk,rfl,h0,h1⟩;walk_at"v";refine w_notN ?_;walk_at"v";have hsmD:=hS.smD I;have hsm: ∀q k,q<rows.length→k≤n→Sm (S.M (S.ru q) k):=fun q k hq hk=>hS.sm I (I.rl q hq) hk;cases ob with
 | none=>
  refine iteF ?_;walk_at"v";refine⟨sz1,fun p5 hp5=>?_⟩;have k5:Same H' (upd H' p5 (.tup [.str "numbers"])):=Same.new (Same.refl _) hp5;have e5:upd H' p5 (.tup [.str "numbers"]) p5=some (.tup [.str "numbers"]):=zf;generalize upd H' p5 (.tup [.str "numbers"])=H5 at k5 e5 ⊢;walk_at"v";refine xq ?_;walk_at"v";refine⟨o,dx,_,rfl,k5 _ _ T.ob,rfl,?_⟩;walk_at"v";refine⟨o,n,rows.length,vec n rows,S,t,dx,pr,pu,pc,ras,rfl,T.same fun a u e _=>k5 a u e,I,hn40,hm60,hsmD,fun H6 q6 p6 g K6 hg hgD hgM e6 f6=>?_⟩;obtain⟨hd,hM⟩:=meets I (h0 rfl) hg hgD hgM;refine⟨p5,q6,_,_,rfl,rfl,K6 _ _ e5,e6,by show 1+2≤1000; decide,fun q7 H7 K7 e7=>?_⟩;have hK:=(k5.trans K6).trans K7;exact kN H7 q7 p6 (fun j=>S.M j n / g) (S.D / g) (fun a u n1 n2 e=>hK _ _ (sT a u n1 n2 e)) ⟨tT.1.same hK,tT.2.same hK⟩ hd hM (Z5 hg hsmD) (fun j hj=>Z5 hg (hS.sm I (by omega) (Nat.le_refl _))) e7 (K7 _ _ f6)
 | some r=>
  obtain⟨hlo,hlm⟩:=h1 r rfl;have hrm:=hlo.1;refine iteT ?_;refine⟨_,fun σ' H' z=>z,?_⟩;walk_at"v";refine xq ?_;walk_at"v";refine⟨o,dx,_,rfl,T.ob,rfl,?_⟩;walk_at"v";refine⟨o,n,rows.length,r,S,t,rfl,⟨dx,pr,pu,pc,ras,T⟩,hrm,hn40,tT.2,fun H4 oc k4 hT4 g0 g1=>?_⟩;have T4:=T.tab tT.2 k4;have sT4:SameT p1 p2 H H4:=fun a u n1 n2 e=>k4 a u n2 (sT a u n1 n2 e);have tT4:Tbs H4 p1 p2:=⟨tT.1.other tT.2 h12 k4,hT4⟩;walk_at"v";refine w_isN ?_;walk_at"v";cases oc with
  | none=>
   refine iteT ?_;walk_at"v";refine xq ?_;walk_at"v";refine⟨o,dx,_,rfl,T4.ob,rfl,?_⟩;walk_at"v";refine⟨o,n,rows.length,r,vec n rows,S,t,dx,pr,pu,pc,ras,rfl,T4,I,⟨hlo,g0 rfl⟩,hn40,hm60,hsmD,fun c hc=>hsm r c hrm hc,fun H6 p6 qs ws K6 hB hws e6 f6=>?_⟩;walk_at"v";refine⟨sz2,fun q7 hq7=>?_⟩;have k7:Same H6 (upd H6 q7 (.tup [.str "weights",.ref p6])):=Same.new (Same.refl _) hq7;exact kW _ q7 p6 qs ws (fun a u n1 n2 e=>k7 _ _ (K6 _ _ (sT4 a u n1 n2 e))) ⟨tT4.1.same (K6.trans k7),tT4.2.same (K6.trans k7)⟩ hB hws zf (k7 _ _ e6) (f6.same k7)
  | some c=>
   obtain⟨hmy,hml⟩:=g1 c rfl;refine iteF ?_;have hcn:=hmy.1;have hnz:S.M (S.ru r) c≠0:=by
    rcases hmy.2 with z | z
    ·exact z.2
    ·have:=z.2.1;omega
   walk_at"v";refine xq ?_;walk_at"v";refine⟨o,dx,_,rfl,T4.ob,rfl,?_⟩;walk_at"v";refine⟨o,n,rows.length,r,c,vec n rows,S,t,dx,pr,pu,pc,ras,rfl,T4,I,hrm,hcn,hnz,hn40,hm60,hsm,hsmD,fun H6 pr6 ras6 k6 T6=>?_⟩;have nT: ∀{a:Addr} {u:HO},H4 a=some u→(∀C dx fs,u≠.ins C dx fs)→(∀xs,u≠.lst xs)→H6 a=some u:=fun {a u} e n1 n2=>k6 a u (fun z=>by rw[z,T4.ob] at e; cases e; exact n1 _ _ _ rfl) (fun z=>by rw[z,T4.ru] at e; cases e; exact n2 _ rfl) (fun z=>by rw[z,T4.cu] at e; cases e; exact n2 _ rfl) e;have I6:=I.turn hrm hcn hnz;have L6:LI H6 (turn S r c) (t+1) pr6 ras6:=⟨T6,I6,fun a u n1 n2 e=>k6 a u (zi e ho) (zi e hpu) (zi e hpc) (sT4 a u n1 n2 e),tT4.1.keep (fun ps e=>nT e (fun _ _ _ z=>by cases z) (fun _ z=>by cases z)) (fun a φ e=>nT e (fun _ _ _ z=>by cases z) (fun _ z=>by cases z)),tT4.2.keep (fun ps e=>nT e (fun _ _ _ z=>by cases z) (fun _ z=>by cases z)) (fun a φ e=>nT e (fun _ _ _ z=>by cases z) (fun _ z=>by cases z))⟩;walk_at"v";refine xq ?_;walk_at"v";refine⟨o,dx,_,rfl,T6.ob,rfl,?_⟩;walk_at"v";refine lowr L6 fun H8 ob8 L8 h80 h81=>?_;walk_at"v";have hfew:=Wy.few;by_cases ht:200≤t
   ·have bs:BStep n rows.length (h k) r c:=by
     rw[hk];exact⟨hlo,hlm ht,hcn,hnz,hmy.2.elim (fun z=> .inl z.1) fun z=>(hml ht).imp id fun q=>⟨z.2.1,z.2.2,q⟩⟩
    obtain⟨h',r',c',Wy',hk'⟩:=Wy.more bs;have hfew':=Wy'.few;rw[hk] at hk';refine⟨_,?_,_,_,_,_,k+1,h',r',c',ob8,_,rfl,L8,Wy',hk',rfl,h80,h81⟩;rw[show 200-(t+1)=0 by omega,show 200-t=0 by omega];omega
   ·refine⟨_,?_,_,_,_,_,0,_,_,_,ob8,_,rfl,L8,Way.one I6,rfl,rfl,h80,h81⟩;rw[show 200-t=(200-(t+1))+1 by omega,Nat.succ_mul];omega
end
end K16
namespace L2
open PySem
theorem pi_zpB{X:Cx}(hm:X.mg "zip"=none)(ha:PA X [e,e'] ta)(hK:X.K=K)(hg:Gl X "zip":=by rfl)(h:yc e=false:=by rfl)(h':yc e'=false:=by rfl):PI X (.Tuple es kt pt) (.Call (.Name "zip" p) [e,e'] [] pos) (iZp K ta):=hK▸pi_zp hm ha hg h h'
theorem pg_tupK{X:Cx}(hK:X.K=K)(hc:X.calm=true)(hn:(assignEach es X.env).length=n)(hst:(assignEach es X.env).findIdx? (·.1)=none)(h:PGs X es t):PG X (.Tuple es k pos) (gTup K n t):=hK▸wT hc h hn hst
end L2
namespace K16
open PySem L2 G2 WG EL
local macro_rules | `(tactic| walk_at "v") => `(tactic| repeat (with_reducible first
  | refine xg ?_ | refine yL ?_ | refine zM ?_ | refine w_op ?_ | refine yt rfl ?_ | refine w_c ?_ | refine xF ?_ | refine xG ?_ | refine xH ?_ | refine yP ?_ | refine w_tb ?_ | refine w_bl ?_ | refine w_not ?_ | refine xj ?_ | refine w_retN ?_
  | refine yK ?_ | refine yh ?_ | refine xu ?_ | refine y9 ?_ | refine w_cb ?_ | refine yV ?_ | refine yQ ?_ | refine xI ?_ | refine w_or ?_ | refine yg ?_ | refine zZ ?_ | refine yO ?_ | refine yp ?_ | refine yo ?_ | refine yS ?_ | refine yR ?_ | refine yT ?_ | refine yU ?_ | refine w_bm ?_ | refine yF ?_ | refine yG ?_ | refine w_chain ?_ | refine w_sl ?_ | refine zT ?_ | refine yy ?_ | refine x5 ?_ | refine iteT ?_ | refine iteF ?_))
structure KZ (mg:Str→Option Value):Prop where
 s:Kn mg "SORTS" 0
 r:Kn mg "RULES" 1
 t:Kn mg "TAKES" 0
 g:Kn mg "GIVES" 1
abbrev sCq:Stmt:=top 1
abbrev nCq:List Str:=["numbers","divisor","number","other","rest"]
theorem nmCq:Nm nCq (ze sCq):=nmk (by decide+kernel)
theorem scCq:FnScope nCq ["numbers"] (ze sCq):=fsk (by decide+kernel)
def spCq:Sp:=fun vs H Q _=> ∃(p:Addr) (xs:List Int),vs=[.ref p]∧H p=some (.tup (xs.map V.int))∧Q (.int ((gcdL xs:Nat):Int)) H
section
variable {P:Program} {w:World} {K:W.Frag} {mg:Str→Option Value} {base:Heap}
theorem ok_Cq(B:Bl mg)(F:Fun K "common_divisor" "common_divisor" sCq f fd):FnOk P w K mg base CX0 1 f fd ["numbers"] spCq:=by
 refine F.ok scCq (fun vs H Q E h=>?_) (fun cdv A outer s H vs Q E hr h=>?_)
 ·obtain⟨p,xs,rfl,_⟩:=h;rfl
 obtain⟨p,xs,rfl,hp,k⟩:=h;refine'⟨_,?hb,?rd⟩
 case' hb=>skip
 case' hb=>refine' zd ?g1 ?g2
 case' g2=>refine' zd ?g3 ?g4
 case' g4=>refine' zj ?g5
 case g1=>exact zk nmCq 1 zg
 case' g3=>refine' yX PassesOwn.never rfl ?g6 (pgd nmCq 2) ?g7
 case g6=>exact yC (pvd nmCq 0)
 case' g7=>refine' zd ?g8 ?g9
 case' g9=>refine' zj ?g10
 case g8=>exact zk nmCq 3 (zU vN B.abs PyProof.Rows.boot_abs (pa_1 (pvd nmCq 2)))
 case' g10=>refine' vy PassesOwn.never ?g11 ?g12
 case g11=>exact zt xn (pvd nmCq 3) zg (zv _)
 case' g12=>refine' zd ?g13 ?g14
 case' g14=>refine' zd ?g15 ?g16
 case' g16=>refine' zj ?g17
 case g13=>exact zk nmCq 4 (zo yr (pvd nmCq 1) (pvd nmCq 3))
 case g15=>exact zk nmCq 1 (pvd nmCq 3)
 case g17=>exact zk nmCq 3 (pvd nmCq 4)
 case g5=>exact zy (pvd nmCq 1)
 walk_at"v";refine⟨p,rfl,⟨_,SqT.of hp⟩,?_⟩;refine YN (xs:=xs.map V.int) (fun i σ H'=> ∃u2 u3 u4,σ=[some (.ref p),some (.int ((gcdL (xs.take i):Nat):Int)),u2,u3,u4]∧H=H') ⟨none,none,none,rfl,rfl⟩ (fun i σ H' _ ⟨_,_,_,_,e⟩=>e▸SqT.of hp) ?_ ?_
 ·rintro i x σ H' hx ⟨u2,u3,u4,rfl,rfl⟩;obtain⟨hi,rfl⟩:=itI hx;walk_at"v";refine⟨_,rfl,?_⟩;rw[absN];walk_at"v";refine Zh ⟨fun n σ H'=> ∃(d o:Nat) (u4:Option V),σ=[some (.ref p),some (.int (d:Int)),some (.int (xs.getD i 0)),some (.int (o:Int)),u4]∧H=H'∧n=o∧Nat.gcd d o=Nat.gcd (gcdL (xs.take i)) (xs.getD i 0).natAbs,⟨_,_,_,u4,rfl,rfl,rfl,rfl⟩,?_⟩;rintro n σ H' ⟨d,o,u4',rfl,rfl,rfl,hg⟩;walk_at"v";refine⟨rfl,?_⟩;walk_at"v";refine YI (fun h=>?_) (fun h=>?_)
  ·have ho:n≠0:=fun z=>h (by rw[z]; rfl);refine⟨_,fun σ' H' w=>⟨d%n,Nat.mod_lt _ (by omega),w⟩,?_⟩;walk_at"v";refine⟨_,_,rfl,rfl,by omega,?_⟩;walk_at"v";refine⟨n,d%n,_,rfl,rfl,rfl,?_⟩;rw[←hg,Nat.gcd_comm,←Nat.gcd_rec,Nat.gcd_comm]
  ·have ho:n=0:=by injection h with h; omega
   subst ho;rw[Nat.gcd_zero_right] at hg;rw[hg,←ZT xs i hi];exact⟨_,_,_,rfl,rfl⟩
 ·rintro σ H' ⟨u2,u3,u4,rfl,rfl⟩;rw[List.length_map,List.take_length];walk_at"v";exact k
abbrev sWd:Stmt:=top 2
abbrev nWd:List Str:=["numbers","divisor"]
theorem nmWd:Nm nWd (ze sWd):=nmk (by decide+kernel)
theorem scWd:FnScope nWd ["numbers"] (ze sWd):=fsk (by decide+kernel)
def qWda (s:Stmt):Scope:=match s with
 | .Return (some (.ListComp _ _ sc _)) _=>sc
 | _=>nsc
abbrev cWda:Scope:=qWda ((zm sWd).getD 1 (.Pass ⟨0,0,0,0⟩))
theorem bsWda:BScope (ze sWd) cWda ["number"] ["divisor"] []:={okind:=by decide+kernel,kind:=by decide+kernel,nocell:=by decide+kernel,names:=by decide+kernel,fr:=by decide+kernel,ff:=by decide+kernel,nd:=by decide+kernel,vis:=by decide+kernel,loc:=by decide+kernel,gl:=by decide+kernel}
def spWd:Sp:=fun vs H Q _=> ∃(p:Addr) (xs:List Int),vs=[.ref p]∧H p=some (.tup (xs.map V.int))∧xs.length≤1000∧(gcdL xs).log2<9000∧ ∀q H',Same H H'→H q=none→H' q=some (.lst ((wd xs).map V.int))→Q (.ref q) H'
theorem ok_Wd(B:Bl mg)(fC:Has P w K mg base 1 "common_divisor" ["numbers"] spCq)(F:Fun K "without_divisor" "without_divisor" sWd f fd):FnOk P w K mg base CX0 2 f fd ["numbers"] spWd:=by
 refine F.ok scWd (fun vs H Q E h=>?_) (fun cdv A outer s H vs Q E hr h=>?_)
 ·obtain⟨p,xs,rfl,_⟩:=h;rfl
 obtain⟨p,xs,rfl,hp,hl,hg,k⟩:=h;refine'⟨_,?hb,?rd⟩
 case' hb=>skip
 case' hb=>refine' zd ?g1 ?g2
 case' g2=>refine' zj ?g3
 case g1=>exact zk nmWd 1 (pe_f fC hr (by decide) (pa_1 (pvd nmWd 0)))
 case' g3=>refine' zy ?g4
 case' g4=>refine' zR (ix:=[1]) bsWda.toCScope rfl rfl ?g5 ?g6 ?g7 ?g8
 case g5=>exact yC (pvd nmWd 0)
 case g6=>exact fun _ _ _ _ _ _=>pgb bsWda 0
 case g7=>exact fun _ _ _ _ _ _=>zB
 case g8=>exact fun _ _ _ _ _ _=>xP (zt vV (pvb bsWda 1) zg (zv _)) (zo op_fdivL (pvb bsWda 0) (pvb bsWda 1)) zg
 walk_at"v";refine⟨p,xs,rfl,hp,?_⟩;walk_at"v";refine⟨p,rfl,⟨_,SqT.of hp⟩,fun D hD=>?_⟩;refine Yj (ws:=xs) V.int (fun x=>V.int (if 0<gcdL xs then x / (gcdL xs:Int) else 0)) (SqT.of hp) hl hD (fun x hx H' K' R kR=>?_) (fun H2 K2 e2=>?_)
 ·walk_at"v";have kR:=kR _ (Same.refl _);refine iteD (fun h=>?_) (fun h=>?_)
  ·rw[if_pos (by omega)] at kR;walk_at"v";exact⟨_,_,rfl,rfl,⟨by omega,by rw[Int.natAbs_natCast]; exact hg⟩,kR⟩
  ·rw[if_neg (by omega)] at kR;walk_at"v";exact kR
 exact k D H2 K2 hD (by rw[e2]; unfold wd; rw[List.map_map]; rfl)
def PrY (rows:List (List Int×Int)) (i:Nat) (y:V) (H:Hp):Prop:= ∃r,rows[i]? =some r∧ ∃a b,y= .ref a∧H a=some (.tup [.ref b,.int r.2])∧H b=some (.tup (r.1.map V.int))
theorem PrY.tk(t:G2.TK H H')(h:PrY rows i y H):PrY rows i y H':=let ⟨r,h1,a,b,h2,h3,h4⟩:=h; ⟨r,h1,a,b,h2,t.t _ _ h3,t.t _ _ h4⟩
theorem pr_gp{rows:List (List Int×Int)}{n:Nat}: ∀{ys:List V},ys.length=rows.length→(∀(j:Nat) (y:V),ys[j]? =some y→PrY rows j y H)→ ∃ras bas:List Addr,ys=ras.map V.ref∧ras.length=rows.length∧bas.length=rows.length∧ ∀(i:Nat) (b:List Int) (p:Int),rows[i]? =some (b,p)→ ∃a c,ras[i]? =some a∧bas[i]? =some c∧H a=some (.tup [.ref c,.int p])∧H c=some (.tup (b.map V.int)):=by
 induction rows with
 | nil=>intro ys hl _; exact⟨[],[],by cases ys with | nil=>rfl | cons y ys=>simp at hl,rfl,rfl,fun i b p e=>by simp at e⟩
 | cons r rows ih=>
  intro ys hl h;cases ys with
  | nil=>simp at hl
  | cons y ys=>
   obtain⟨ras,bas,h1,h2,h3,h4⟩:=ih (ys:=ys) (by simpa using hl) fun j y e=>h (j+1) y e;obtain⟨r',e0,a,b,rfl,e1,e2⟩:=h 0 y rfl;cases e0
   refine⟨a::ras,b::bas,by rw[h1]; rfl,by simp[h2],by simp[h3],fun i bb p e=>?_⟩;cases i with
   | zero=>cases e; exact⟨a,b,rfl,rfl,e1,e2⟩
   | succ i=>exact h4 i bb p e
theorem XY{rows:List (List Int×Int)}{ys:List V}(hl:ys.length=rows.length)(h: ∀(j:Nat) (y:V),ys[j]? =some y→PrY rows j y H)(wd: ∀r∈rows,r.1.length=n)(e:H D=some (.lst ys)):PrAt H n rows D:=by
 obtain⟨ras,bas,rfl,h2,h3,h4⟩:=pr_gp (n:=n) hl h;exact⟨ras,bas,e,h2,h3,h4,wd⟩
theorem PrAt.app(h1:PrAt H n r1 a)(h2:PrAt H n r2 b): ∃xs ys,H a=some (.lst xs)∧H b=some (.lst ys)∧xs.length=r1.length∧ys.length=r2.length∧ ∀H',Same H H'→H' D=some (.lst (xs++ys))→PrAt H' n (r1++r2) D:=by
 obtain⟨ra,ba,p1⟩:=h1;obtain⟨rb,bb,p2⟩:=h2;refine⟨_,_,p1.ob,p2.ob,by rw[List.length_map,p1.rl],by rw[List.length_map,p2.rl],fun H' k e=>⟨ra++rb,ba++bb,by rw[e,List.map_append],by rw[List.length_append,List.length_append,p1.rl,p2.rl],by rw[List.length_append,List.length_append,p1.bl,p2.bl],fun i x p ei=>?_,fun r hr=>(List.mem_append.mp hr).elim (p1.wd r) (p2.wd r)⟩⟩;by_cases hi:i<r1.length
 ·rw[List.getElem?_append_left hi] at ei;obtain⟨c,d,f1,f2,f3,f4⟩:=p1.at_ i x p ei;exact⟨c,d,by rw[List.getElem?_append_left (by rw[p1.rl]; exact hi)]; exact f1,by rw[List.getElem?_append_left (by rw[p1.bl]; exact hi)]; exact f2,k _ _ f3,k _ _ f4⟩
 ·rw[List.getElem?_append_right (by omega)] at ei;obtain⟨c,d,f1,f2,f3,f4⟩:=p2.at_ _ x p ei;exact⟨c,d,by rw[List.getElem?_append_right (by rw[p1.rl]; omega),p1.rl]; exact f1,by rw[List.getElem?_append_right (by rw[p1.bl]; omega),p1.bl]; exact f2,k _ _ f3,k _ _ f4⟩
def zD (m:Nat):List (List Int×Int):=(List.range m).map fun s=>((List.range m).map fun p=>if p=s then (1:Int) else 0,0)
def zO (tg:Rows):List (List Int×Int):=tg.map fun x=>(List.zipWith (fun t g=>t-g) x.1 x.2,-1)
abbrev sSr:Stmt:=top 14
abbrev nSr:List Str:=["many"]
theorem nmSr:Nm nSr (ze sSr):=nmk (by decide+kernel)
theorem scSr:FnScope nSr ["many"] (ze sSr):=fsk (by decide+kernel)
def qSra (s:Stmt):Scope:=match s with
 | .Return (some (.ListComp _ _ sc _)) _=>sc
 | _=>nsc
abbrev cSra:Scope:=qSra ((zm sSr).getD 0 (.Pass ⟨0,0,0,0⟩))
theorem bsSra:NBScope (ze sSr) cSra ["sort"] ["many"] ["tuple","range"]:={okind:=by decide+kernel,kind:=by decide+kernel,names:=by decide+kernel,clN:=by decide+kernel,fr:=by decide+kernel,ff:=by decide+kernel,nd:=by decide+kernel,vis:=by decide+kernel,loc:=by decide+kernel,gl:=by decide+kernel}
def qSrb (s:Stmt):Scope:=match s with
 | .Return (some (.ListComp (.Tuple [(.Call _ [(.ListComp _ _ sc _)] _ _),_] _ _) _ _ _)) _=>sc
 | _=>nsc
abbrev cSrb:Scope:=qSrb ((zm sSr).getD 0 (.Pass ⟨0,0,0,0⟩))
theorem bsSrb:BScope (ym cSra (ze sSr)) cSrb ["place"] ["sort"] []:={okind:=by decide+kernel,kind:=by decide+kernel,nocell:=by decide+kernel,names:=by decide+kernel,fr:=by decide+kernel,ff:=by decide+kernel,nd:=by decide+kernel,vis:=by decide+kernel,loc:=by decide+kernel,gl:=by decide+kernel}
def spSr:Sp:=fun vs H Q _=> ∃(m:Nat),vs=[.int (m:Int)]∧m≤8∧ ∀l H',Same H H'→H l=none→PrAt H' m (zD m) l→Q (.ref l) H'
theorem ok_Sr(B:Bl mg)(F:Fun K "sorts_rows" "sorts_rows" sSr f fd):FnOk P w K mg base CX0 1 f fd ["many"] spSr:=by
 refine F.ok scSr (fun vs H Q E h=>?_) (fun cdv A outer s H vs Q E hr h=>?_)
 ·obtain⟨m,rfl,_⟩:=h;rfl
 obtain⟨m,rfl,hm,k⟩:=h;refine'⟨_,?hb,?rd⟩
 case' hb=>skip
 case' hb=>refine' zj ?g1
 case' g1=>refine' zy ?g2
 case' g2=>refine' vA (ix:=[0]) bsSra.toNScope rfl rfl ?g3 ?g4 ?g5 ?g6
 case g3=>exact yN B.range (pa_1 (pvd nmSr 0))
 case g4=>exact fun _ _ _ _ _ _=>pgbN bsSra 0
 case g5=>exact fun _ _ _ _ _ _=>zB
 case g6=>
  intro _ _ _ _ _ _;refine' z0 ?g7
  case' g7=>refine' pa_2 ?g8 zg
  case' g8=>refine' ya yd B.tuple PyProof.Rows.boot_tuple ?g9 (bsSra.g 0)
  case' g9=>refine' pa_1 ?g10
  case' g10=>refine' zR (ix:=[0]) bsSrb.toCScope rfl rfl ?g11 ?g12 ?g13 ?g14
  case g11=>exact yN B.range (pa_1 (pvbN bsSra 1)) (bsSra.g 1)
  case g12=>exact fun _ _ _ _ _ _=>pgb bsSrb 0
  case g13=>exact fun _ _ _ _ _ _=>zB
  case g14=>exact fun _ _ _ _ _ _=>xP (zt xJ (pvb bsSrb 0) (pvb bsSrb 1) (zv _)) zg zg
 walk_at"v";refine⟨_,rfl,by omega,by omega,fun D hD=>?_⟩;rw[Int.toNat_natCast];refine gm_rng (S:=Same) (ρ:=[some (.int (m:Int))]) (PrY (zD m)) (Kp.same hD) PrY.tk (fun _ b=>G2.TK.same b) (by omega) (fun i H' R hi K' kR=>?_) (fun ys H' g e=>?_)
 ·walk_at"v";refine⟨_,rfl,by omega,by omega,fun D2 hD2=>?_⟩;rw[Int.toNat_natCast];refine ZB (fun p=>V.int (if p=i then 1 else 0)) (by omega) hD2 (fun j hj H2 K2 R2 kR2=>?_) (fun H2 K2 e2=>?_)
  ·have q:=kR2 _ (Same.refl _);walk_at"v";refine⟨rfl,?_⟩;walk_at"v";refine iteD (fun h=>?_) (fun h=>?_)
   ·rw[if_pos (by injection h with h; omega)] at q;exact q
   ·rw[if_neg fun z=>h (by rw[z])] at q;exact q
  ·walk_at"v";refine⟨D2,_,rfl,e2,fun b H3 K3 e3=>?_⟩;walk_at"v";refine⟨sz2,fun a ha=>kR _ _ ((K2.trans K3).trans (Same.new (Same.refl _) ha)) ⟨((List.range m).map fun p=>if p=i then (1:Int) else 0,0),?_,a,b,rfl,zf,?_⟩⟩
   ·unfold zD;simp[hi]
   ·rw[zh (zi e3 ha),e3,List.map_map];rfl
 ·refine k D H' g.1 hD (XY (by rw[g.2.1]; simp[zD]) g.2.2 (fun r hr=>?_) e);unfold zD at hr;obtain⟨s,_,rfl⟩:=List.mem_map.mp hr;simp
abbrev sRr:Stmt:=top 15
abbrev nRr:List Str:=["pot"]
theorem nmRr:Nm nRr (ze sRr):=nmk (by decide+kernel)
theorem scRr:FnScope nRr ["pot"] (ze sRr):=fsk (by decide+kernel)
def qRra (s:Stmt):Scope:=match s with
 | .Return (some (.ListComp _ _ sc _)) _=>sc
 | _=>nsc
abbrev cRra:Scope:=qRra ((zm sRr).getD 0 (.Pass ⟨0,0,0,0⟩))
theorem bsRra:NBScope (ze sRr) cRra ["rule"] [] ["tuple","zip","TAKES","GIVES"]:={okind:=by decide+kernel,kind:=by decide+kernel,names:=by decide+kernel,clN:=by decide+kernel,fr:=by decide+kernel,ff:=by decide+kernel,nd:=by decide+kernel,vis:=by decide+kernel,loc:=by decide+kernel,gl:=by decide+kernel}
def qRrb (s:Stmt):Scope:=match s with
 | .Return (some (.ListComp (.Tuple [(.Call _ [(.ListComp _ _ sc _)] _ _),_] _ _) _ _ _)) _=>sc
 | _=>nsc
abbrev cRrb:Scope:=qRrb ((zm sRr).getD 0 (.Pass ⟨0,0,0,0⟩))
theorem bsRrb:BScope (ym cRra (ze sRr)) cRrb ["taken","given"] [] []:={okind:=by decide+kernel,kind:=by decide+kernel,nocell:=by decide+kernel,names:=by decide+kernel,fr:=by decide+kernel,ff:=by decide+kernel,nd:=by decide+kernel,vis:=by decide+kernel,loc:=by decide+kernel,gl:=by decide+kernel}
def spRr:Sp:=fun vs H Q _=> ∃(p:Addr) (m:Nat) (tg:Rows),vs=[.ref p]∧PotK H p m tg∧ ∀l H',Same H H'→H l=none→PrAt H' m (zO tg) l→Q (.ref l) H'
theorem ok_Rr(B:Bl mg)(Z:KZ mg)(F:Fun K "rules_rows" "rules_rows" sRr f fd):FnOk P w K mg base CX0 1 f fd ["pot"] spRr:=by
 refine F.ok scRr (fun vs H Q E h=>?_) (fun cdv A outer s H vs Q E hr h=>?_)
 ·obtain⟨p,m,tg,rfl,_⟩:=h;rfl
 obtain⟨p,m,tg,rfl,hp,k⟩:=h;refine'⟨_,?hb,?rd⟩
 case' hb=>skip
 case' hb=>refine' zj ?g1
 case' g1=>refine' zy ?g2
 case' g2=>refine' vA (ix:=[]) bsRra.toNScope rfl rfl ?g3 ?g4 ?g5 ?g6
 case g3=>exact yC (ziq (pvd nmRr 0) (pe_k Z.r))
 case g4=>exact fun _ _ _ _ _ _=>pgbN bsRra 0
 case g5=>exact fun _ _ _ _ _ _=>zB
 case g6=>
  intro _ _ _ _ _ _;refine' z0 ?g7
  case' g7=>refine' pa_2 ?g8 (w9 xL zg)
  case' g8=>refine' ya yd B.tuple PyProof.Rows.boot_tuple ?g9 (bsRra.g 0)
  case' g9=>refine' pa_1 ?g10
  case' g10=>refine' zR (ix:=[]) bsRrb.toCScope rfl rfl ?g11 ?g12 ?g13 ?g14
  case g11=>exact pi_zpB (K:=K) B.zip (pa_2 (ziq (pvbN bsRra 0) (pe_k Z.t (bsRra.g 2))) (ziq (pvbN bsRra 0) (pe_k Z.g (bsRra.g 3)))) rfl (bsRra.g 1)
  case g12=>
   intro _ _ _ _ _ _;refine' pg_tupK (K:=K) (n:=2) rfl rfl rfl rfl ?g15
   case' g15=>refine' zH ?g19 ?g18
   case g19=>exact pgb bsRrb 0
   case' g18=>refine' zH ?g21 yI
   case g21=>exact pgb bsRrb 1
  case g13=>exact fun _ _ _ _ _ _=>zB
  case g14=>exact fun _ _ _ _ _ _=>zo wb (pvb bsRrb 0) (pvb bsRrb 1)
 obtain⟨ps,pr,pin,pb,ans,rs,nmz,e1,e2,e3,e4,hR⟩:=hp.ex;have m8:=hp.m8;have n8:=hp.n8;have hrl:=hR.1;walk_at"v";refine zN e1 rfl ?_;refine⟨pr,rfl,⟨_,SqT.of e4⟩,fun D hD=>?_⟩;refine Xv (S:=Same) (ρ:=[]) (xs:=rs.map V.ref) (PrY (zO tg)) (Kp.same hD) PrY.tk (fun _ b=>G2.TK.same b) (by simp; omega) (fun H' K'=>SqT.of (K' _ _ e4)) (fun i x H' R hx K' kR=>?_) (fun ys H' g e=>?_)
 ·have hi:i<rs.length:=by simpa using (List.getElem?_eq_some_iff.mp hx).1
  have hx':V.ref rs[i]=x:=by simpa[hi] using hx
  subst hx';obtain⟨h1,h2,h3,h4,a,b,f1,f2,f3⟩:=hR.2 i rs[i] tg[i].1 tg[i].2 (by simp[hi]) (List.getElem?_eq_getElem _);walk_at"v";refine zN (K' _ _ f1) rfl ?_;walk_at"v";refine zN (K' _ _ f1) rfl ?_;walk_at"v";refine⟨a,b,rfl,⟨_,SqT.of (K' _ _ f2)⟩,⟨_,SqT.of (K' _ _ f3)⟩,fun D2 hD2=>?_⟩;refine zip_map (fun x y=>x - y) (K' _ _ f2) (K' _ _ f3) (by omega) (by omega) (fun j x y H2 hx hy K2 R2 kR2=>?_) (fun H2 K2 e2=>?_) hD2
  ·walk_at"v";exact kR2 _ (Same.refl _)
  ·walk_at"v";refine⟨D2,_,rfl,e2,fun c H3 K3 e3=>?_⟩;walk_at"v";refine⟨_,rfl,?_⟩;walk_at"v";refine⟨sz2,fun q hq=>kR _ _ ((K2.trans K3).trans (Same.new (Same.refl _) hq)) ⟨(List.zipWith (fun t g=>t - g) tg[i].1 tg[i].2,-1),?_,q,c,rfl,zf,?_⟩⟩
   ·unfold zO;rw[List.getElem?_map,List.getElem?_eq_getElem (by omega)];rfl
   ·rw[zh (zi e3 hq),e3]
 ·refine k D H' g.1 hD (XY (by rw[g.2.1]; simp[zO,hrl]) g.2.2 (fun r hr=>?_) e);unfold zO at hr;obtain⟨x,hx,rfl⟩:=List.mem_map.mp hr;obtain⟨i,hi,rfl⟩:=List.getElem_of_mem hx;obtain⟨h1,h2,_⟩:=hR.2 i (rs[i]'(by omega)) tg[i].1 tg[i].2 (by simp) (by simp[hi]);simp[h1,h2]
end
end K16
namespace WG
theorem sm_swap(f:Nat→Nat→Int):(sm m fun j=>sm k fun r=>f r j)=sm k fun r=>sm m fun j=>f r j:=by
 induction m with
 | zero=>
  show(0:Int)=_;exact(xW fun r hr=>rfl).symm
 | succ m ih=>
  show(sm m fun j=>sm k fun r=>f r j)+sm k (fun r=>f r m)=_;rw[ih];have:=xh (n:=k) (f:=fun r=>sm m fun j=>f r j) (g:=fun r=>f r m) 1 1;simp only[Int.one_mul] at this;rw[←this];rfl
theorem Zi{f:Nat→Int}(c:Int):sm n (fun i=>c*f i)=c*sm n f:=by
 have:=xh (n:=n) (f:=f) (g:=fun _=>0) c 0;simpa using this
theorem Y6{f:Nat→Int}(h: ∀i<n,0≤f i):0≤sm n f:=by
 induction n with
 | zero=>exact Int.le_refl _
 | succ n ih=>show 0≤sm n f+f n; have:=ih fun i hi=>h i (by omega); have:=h n (by omega); omega
theorem sm_le{f g:Nat→Int}(h: ∀i<n,f i≤g i):sm n f≤sm n g:=by
 induction n with
 | zero=>exact Int.le_refl _
 | succ n ih=>show sm n f+f n≤sm n g+g n; have:=ih fun i hi=>h i (by omega); have:=h n (by omega); omega
theorem fall_round{c:Nat→Nat→Int}{h t:Nat→Int}(h0: ∀j<m,0≤h j)(hf: ∀r<k,(sm m fun j=>h j*c r j)≤ -1)(t0: ∀r<k,0≤t r)(tn: ∃r<k,t r≠0)(tr: ∀j<m,0≤sm k fun r=>t r*c r j):False:=by
 have e1:(sm m fun j=>h j*sm k fun r=>t r*c r j)=sm k fun r=>t r*sm m fun j=>h j*c r j:=by
  rw[zx (g:=fun j=>sm k fun r=>h j*(t r*c r j)) fun j _=>(Zi _).symm,sm_swap];refine zx fun r _=>?_;rw[←Zi];exact zx fun j _=>by rw[←Int.mul_assoc,←Int.mul_assoc,Int.mul_comm (h j)]
 have e2:0≤sm m fun j=>h j*sm k fun r=>t r*c r j:=Y6 fun j hj=>Int.mul_nonneg (h0 j hj) (tr j hj);have e3:(sm k fun r=>t r*sm m fun j=>h j*c r j)≤sm k fun r=> -1*t r:=sm_le fun r hr=>by
  have:=Int.mul_le_mul_of_nonneg_left (hf r hr) (t0 r hr);omega
 rw[Zi] at e3;have e4:1≤sm k t:=by
  obtain⟨r,hr,hne⟩:=tn;clear e1 e2 e3 tr hf
  induction k with
  | zero=>omega
  | succ k ih=>
   show 1≤sm k t+t k;have a:=t0 k (by omega);by_cases z:r=k
   ·subst z;have b:=Y6 (n:=r) (f:=t) fun i hi=>t0 i (by omega);omega
   ·have:=ih (fun i hi=>t0 i (by omega)) (by omega);omega
 omega
theorem sm_set{f:Nat→Int}(hp:p<n)(h0:f p=0)(F:Nat→Int):(sm n fun i=>(if i=p then v else f i)*F i)=(sm n fun i=>f i*F i)+v*F p:=by
 induction n with
 | zero=>omega
 | succ n ih=>
  show(sm n fun i=>(if i=p then v else f i)*F i)+(if n=p then v else f n)*F n=(sm n fun i=>f i*F i)+f n*F n+v*F p;by_cases z:n=p
  ·subst z;rw[if_pos rfl,h0,zx (g:=fun i=>f i*F i) fun i hi=>by rw[if_neg (by omega)]];omega
  ·rw[if_neg z,ih (by omega)];omega
def tsOf (m:Nat):List (Int×Int)→(Nat→Int)→Nat→Int
 | [],f=>f
 | w::ws,f=>tsOf m ws fun i=>if (m:Int)≤w.1∧i=(w.1-m).toNat then w.2 else f i
theorem ZE(F:Nat→Int): ∀(ws:List (Int×Int)) (f:Nat→Int),(ws.Pairwise fun a b=>a.1<b.1)→(∀w∈ws,w.1<((m+k:Nat):Int))→(∀w∈ws,(m:Int)≤w.1→f (w.1-m).toNat=0)→
  (sm k fun r=>tsOf m ws f r*F r)=(sm k fun r=>f r*F r)+wsum (ws.filter fun w=>decide ((m:Int)≤w.1)) fun i=>F (i-m).toNat
 | [],f,_,_,_=>by simp[tsOf,wsum]
 | w::ws,f,hp,hb,h0=>by
  obtain⟨p1,p2⟩:=List.pairwise_cons.mp hp;unfold tsOf;rw[ZE F ws _ p2 (fun u hu=>hb u (List.mem_cons_of_mem _ hu)) fun u hu hm=>by
   have:=p1 u hu;rw[if_neg fun z=>by have:=z.1; have:=z.2; omega];exact h0 u (List.mem_cons_of_mem _ hu) hm]
  by_cases hm:(m:Int)≤w.1
  ·have e:(sm k fun r=>(if (m:Int)≤w.1∧r=(w.1-m).toNat then w.2 else f r)*F r)=sm k fun r=>(if r=(w.1-m).toNat then w.2 else f r)*F r:=zx fun r _=>by simp only[hm,true_and]
   have hb':=hb w List.mem_cons_self;rw[e,sm_set (by omega) (h0 w List.mem_cons_self hm) F,List.filter_cons_of_pos (by simpa using hm),zL];omega
  ·rw[List.filter_cons_of_neg (by simpa using hm),zx (g:=fun r=>f r*F r) fun r _=>by rw[if_neg fun z=>hm z.1]]
theorem Yo: ∀(ws:List (Int×Int)) (f:Nat→Int),(∀w∈ws,0≤w.2)→(∀r,0≤f r)→ ∀r,0≤tsOf m ws f r
 | [],f,_,h,r=>h r
 | w::ws,f,hw,h,r=>Yo ws _ (fun u hu=>hw u (List.mem_cons_of_mem _ hu)) (fun i=>by split; exact hw w List.mem_cons_self; exact h i) r
theorem vm(p:Int×Int→Bool)(f:Int→Int):wsum ws f=wsum (ws.filter p) f+wsum (ws.filter fun w=> !p w) f:=by
 induction ws with
 | nil=>rfl
 | cons w ws ih=>
  rw[zL,ih];cases h:p w
  ·rw[List.filter_cons_of_neg (by simp[h]),List.filter_cons_of_pos (by simp[h]),zL]; omega
  ·rw[List.filter_cons_of_pos h,List.filter_cons_of_neg (by simp[h]),zL]; omega
theorem vP: ∀(ws:List (Int×Int)) (f:Nat→Int) (i:Nat) (w:Int×Int),ws[i]? =some w→tsOf m (ws.take (i+1)) f=fun r=>if (m:Int)≤w.1∧r=(w.1-m).toNat then w.2 else tsOf m (ws.take i) f r
 | [],f,i,w,h=>by simp at h
 | u::ws,f,0,w,h=>by simp at h; subst h; rfl
 | u::ws,f,i+1,w,h=>by
  simp only[List.getElem?_cons_succ] at h;rw[List.take_succ_cons,List.take_succ_cons];unfold tsOf;exact vP ws _ i w h
end WG
namespace K16
open PySem L2 G2 WG EL
local macro_rules | `(tactic| walk_at "v") => `(tactic| repeat (with_reducible first
  | refine xg ?_ | refine yL ?_ | refine zM ?_ | refine w_op ?_ | refine yt rfl ?_ | refine w_c ?_ | refine xF ?_ | refine xG ?_ | refine xH ?_ | refine yP ?_ | refine w_tb ?_ | refine w_bl ?_ | refine w_not ?_ | refine xj ?_ | refine w_retN ?_
  | refine yK ?_ | refine yh ?_ | refine xu ?_ | refine y9 ?_ | refine w_cb ?_ | refine yV ?_ | refine yQ ?_ | refine xI ?_ | refine w_or ?_ | refine yg ?_ | refine zZ ?_ | refine yO ?_ | refine yp ?_ | refine yo ?_ | refine yS ?_ | refine yR ?_ | refine yT ?_ | refine yU ?_ | refine w_bm ?_ | refine yF ?_ | refine yG ?_ | refine w_chain ?_ | refine w_sl ?_ | refine zT ?_ | refine yy ?_ | refine x5 ?_ | refine iteT ?_ | refine iteF ?_))
def cg (tg:Rows) (r j:Nat):Int:=((tg.getD r ([],[])).2.getD j 0)-((tg.getD r ([],[])).1.getD j 0)
structure Fl (m:Nat) (tg:Rows) (hs:List Int):Prop where
 len:hs.length=m
 nn: ∀h∈hs,0≤h
 lo: ∀r<tg.length,(sm m fun j=>hs.getD j 0*cg tg r j)≤ -1
structure Rn (m:Nat) (tg:Rows) (ts:List Int):Prop where
 len:ts.length=tg.length
 nn: ∀t∈ts,0≤t
 ne: ∃r<tg.length,ts.getD r 0≠0
 up: ∀j<m,0≤sm tg.length fun r=>ts.getD r 0*cg tg r j
theorem YM{xs:List Int}(h: ∀x∈xs,0≤x)(j:Nat):0≤xs.getD j 0:=by
 rw[List.getD_eq_getElem?_getD];cases e:xs[j]? with
 | none=>exact Int.le_refl _
 | some x=>exact h x (List.mem_of_getElem? e)
theorem Xx(a:Fl m tg hs)(b:Rn m tg ts):False:=fall_round (c:=cg tg) (fun j _=>YM a.nn j) a.lo (fun r _=>YM b.nn r) b.ne b.up
theorem vecS(hi:i<m):vec m (zD m++zO tg) (m+i) j=if j<m then (if j=i then 1 else 0) else 0:=by
 unfold vec;rw[if_neg (by omega),List.getElem?_append_left (by simp[zD]; omega),show m+i-m=i by omega];unfold zD;rw[List.getElem?_map,List.getElem?_range hi];dsimp only[Option.map];by_cases hj:j<m
 ·rw[if_pos hj,if_pos hj];simp[List.getD_eq_getElem?_getD,hj]
 ·rw[if_neg hj,if_neg hj];split<;>rfl
theorem vecR(hw: ∀x∈tg,x.1.length=m∧x.2.length=m)(hr:r<tg.length):vec m (zD m++zO tg) (m+(m+r)) j=if j<m then-cg tg r j else if j=m then -1 else 0:=by
 unfold vec;rw[if_neg (by omega),List.getElem?_append_right (by simp[zD])];have e:m+(m+r)-m-(zD m).length=r:=by simp[zD]
 rw[e];unfold zO;rw[List.getElem?_map,List.getElem?_eq_getElem hr];dsimp only[Option.map];obtain⟨w1,w2⟩:=hw tg[r] (List.getElem_mem hr);by_cases hj:j<m
 ·rw[if_pos hj,if_pos hj];have e1:j<tg[r].1.length:=by omega
  have e2:j<tg[r].2.length:=by omega
  simp[List.getD_eq_getElem?_getD,cg,hr,e1,e2,List.getElem?_zipWith];omega
 ·rw[if_neg hj,if_neg hj]
theorem num_fl(hw: ∀x∈tg,x.1.length=m∧x.2.length=m){x:Nat→Int}(hd:1≤d)(M:Met m (zD m++zO tg).length (vec m (zD m++zO tg)) x d):Fl m tg (wd ((List.range m).map x)):=by
 have hl:(zD m++zO tg).length=m+tg.length:=by simp[zD,zO]
 rw[hl] at M;have x0: ∀j<m,0≤x j:=fun j hj=>by
  have:=M j (by omega);rw[vecS hj,if_neg (by omega),xr hj fun i hi hne=>by rw[vecS hj,if_pos hi,if_neg hne,Int.zero_mul],vecS hj,if_pos hj,if_pos rfl] at this;omega
 refine⟨by rw[YX]; simp,fun h hh=>?_,fun r hr=>?_⟩
 ·unfold wd at hh;obtain⟨y,hy,rfl⟩:=List.mem_map.mp hh;obtain⟨j,hj,rfl⟩:=List.mem_map.mp hy;have:=x0 j (List.mem_range.mp hj);split
  ·exact Int.ediv_nonneg this (by omega)
  ·exact Int.le_refl _
 ·have a:=M (m+r) (by omega);rw[vecR hw hr,if_neg (by omega),if_pos rfl,zx (g:=fun j=> -1*(x j*cg tg r j)) fun j hj=>by rw[vecR hw hr,if_pos hj,Int.neg_mul,Int.mul_comm]; omega,yW] at a;have e: ∀j<m,x j=dv ((List.range m).map x)*(wd ((List.range m).map x)).getD j 0:=fun j hj=>by
   have:=wd_at ((List.range m).map x) j;unfold cf at this;rw[this];simp[List.getD_eq_getElem?_getD,hj]
  rw[zx (g:=fun j=>dv ((List.range m).map x)*((wd ((List.range m).map x)).getD j 0*cg tg r j)) fun j hj=>by rw[←Int.mul_assoc,←e j hj],yW] at a;have h0:0≤dv ((List.range m).map x):=by unfold dv; split<;>omega
  generalize (sm m fun j=>(wd ((List.range m).map x)).getD j 0*cg tg r j)=S at a ⊢;rcases Int.lt_or_le S 0 with h | h
  ·omega
  ·have:=Int.mul_nonneg h0 h;omega
theorem wt_rn(hw: ∀x∈tg,x.1.length=m∧x.2.length=m)(W:Bw m (zD m++zO tg).length (vec m (zD m++zO tg)) ws):Rn m tg ((List.range tg.length).map (tsOf m ws fun _=>0)):=by
 have hl:(zD m++zO tg).length=m+tg.length:=by simp[zD,zO]
 obtain⟨rise,rng,pos,ne,zer,neg⟩:=W;rw[hl] at rng;have gd: ∀r,r<tg.length→((List.range tg.length).map (tsOf m ws fun _=>0)).getD r 0=tsOf m ws (fun _=>0) r:=fun r hr=>by simp[List.getD_eq_getElem?_getD,hr]
 have key: ∀j≤m,(sm tg.length fun r=>tsOf m ws (fun _=>0) r*(if j<m then-cg tg r j else -1))=wsum (ws.filter fun w=>decide ((m:Int)≤w.1)) fun i=>vec m (zD m++zO tg) (m+i.toNat) j:=fun j hj=>by
  rw[ZE (m:=m) (k:=tg.length) _ ws (fun _=>0) rise (fun w hw'=>(rng w hw').2) fun _ _ _=>rfl,xW fun r _=>Int.zero_mul _,Int.zero_add];refine vn fun w hw'=>?_;obtain⟨h1,h2⟩:=List.mem_filter.mp hw';have h2:(m:Int)≤w.1:=by simpa using h2
  have h3:=rng w h1;have e:m+w.1.toNat=m+(m+(w.1-m).toNat):=by omega
  rw[e,vecR hw (by omega)];by_cases z:j<m
  ·rw[if_pos z,if_pos z]
  ·rw[if_neg z,if_neg z,if_pos (by omega)]
 have low: ∀j≤m,0≤wsum (ws.filter fun w=> !decide ((m:Int)≤w.1)) (fun i=>vec m (zD m++zO tg) (m+i.toNat) j)∧(j=m→wsum (ws.filter fun w=> !decide ((m:Int)≤w.1)) (fun i=>vec m (zD m++zO tg) (m+i.toNat) j)=0):=fun j hj=>by
  have at_: ∀w∈ws.filter fun w=> !decide ((m:Int)≤w.1),vec m (zD m++zO tg) (m+w.1.toNat) j=if j<m then (if j=w.1.toNat then 1 else 0) else 0:=fun w hw'=>by
   obtain⟨h1,h2⟩:=List.mem_filter.mp hw';have h2: ¬(m:Int)≤w.1:=by simpa using h2
   have h3:=rng w h1;exact vecS (by omega)
  refine⟨wsum_nonneg fun w hw'=>⟨by have:=pos w (List.mem_filter.mp hw').1; omega,?_⟩,fun z=>?_⟩
  ·rw[at_ w hw'];split
   ·split<;>decide
   ·decide
  ·rw[vn (g:=fun _=>0) fun w hw'=>by rw[at_ w hw',if_neg (by omega)]];unfold wsum;generalize ws.filter (fun w=> !decide ((m:Int)≤w.1))=l
   induction l with
   | nil=>rfl
   | cons a l ih=>simpa using ih
 refine⟨by simp,fun t ht=>?_,?_,fun j hj=>?_⟩
 ·obtain⟨r,_,rfl⟩:=List.mem_map.mp ht;exact Yo ws _ (fun w hw'=>by have:=pos w hw'; omega) (fun _=>Int.le_refl _) r
 ·have a:=key m (Nat.le_refl _);rw[vm fun w=>decide ((m:Int)≤w.1),(low m (Nat.le_refl _)).2 rfl,←a,Int.add_zero] at neg;refine Classical.byContradiction fun z=>?_;rw[xW fun r hr=>by
   have:tsOf m ws (fun _=>0) r=0:=Classical.byContradiction fun y=>z ⟨r,hr,by rw[gd r hr]; exact y⟩;rw[this,Int.zero_mul]] at neg
  omega
 ·have a:=key j (by omega);have b:=zer j hj;rw[vm fun w=>decide ((m:Int)≤w.1),←a] at b;have c:=(low j (by omega)).1;rw[zx (g:=fun r=> -1*(((List.range tg.length).map (tsOf m ws fun _=>0)).getD r 0*cg tg r j)) fun r hr=>by rw[if_pos hj,gd r hr,Int.mul_neg]; omega,yW] at b;omega
theorem SameT.k(T:Tbs H p1 p2)(s:SameT p1 p2 H H'): ∀a u,H a=some u→(∀ps,u≠.tbl ps)→H' a=some u:=fun a u e h=>by
 obtain⟨t1,e1⟩:=T.1.tbl;obtain⟨t2,e2⟩:=T.2.tbl;exact s a u (fun z=>by rw[z,e1] at e; cases e; exact h _ rfl) (fun z=>by rw[z,e2] at e; cases e; exact h _ rfl) e
theorem SameT.tk(T:Tbs H p1 p2)(s:SameT p1 p2 H H'):K16.TK H H':=⟨fun _ _ e=>s.k T _ _ e (fun _ z=>by cases z),fun _ _ _ e=>s.k T _ _ e (fun _ z=>by cases z)⟩
theorem Tbs.same(T:Tbs H p1 p2)(k:Same H H'):Tbs H' p1 p2:=⟨T.1.same k,T.2.same k⟩
theorem Tbs.at_(T:Tbs H p1 p2)(hD:H D=some (.lst xs))(k:SameB D H H'):Tbs H' p1 p2:=
 ⟨T.1.keep (fun ps e=>k _ _ (fun z=>by rw[z,hD] at e; cases e) e) fun a φ e=>k _ _ (fun z=>by rw[z,hD] at e; cases e) e,T.2.keep (fun ps e=>k _ _ (fun z=>by rw[z,hD] at e; cases e) e) fun a φ e=>k _ _ (fun z=>by rw[z,hD] at e; cases e) e⟩
theorem fa_big: ∀k≤8,fac (k+1)*30^(k+1)<2^4000:=by decide+kernel
theorem Rls.wd(h:Rls H rs tg m): ∀x∈tg,(x.1.length=m∧x.2.length=m)∧(∀y∈x.1,0≤y∧y≤30)∧ ∀y∈x.2,0≤y∧y≤30:=fun x hx=>by
 obtain⟨i,hi,rfl⟩:=List.getElem_of_mem hx;obtain⟨h1,h2,h3,h4,_⟩:=h.2 i (rs[i]'(by rw[h.1]; exact hi)) tg[i].1 tg[i].2 (List.getElem?_eq_getElem _) (List.getElem?_eq_getElem hi);exact⟨⟨h1,h2⟩,h3,h4⟩
theorem fa_prs(h:Rls H rs tg m)(m8:m≤8)(n8:tg.length≤8):PrS m (zD m++zO tg) 30:=by
 refine⟨by omega,by simp[zD,zO]; omega,by decide,fun r hr=>?_,fa_big m m8⟩;rcases List.mem_append.mp hr with hr | hr
 ·unfold zD at hr;obtain⟨s,_,rfl⟩:=List.mem_map.mp hr;refine⟨fun x hx=>?_,by show(0:Int).natAbs≤30; decide⟩;obtain⟨j,_,rfl⟩:=List.mem_map.mp hx;split<;>decide
 ·unfold zO at hr;obtain⟨x,hx,rfl⟩:=List.mem_map.mp hr;obtain⟨_,b1,b2⟩:=h.wd x hx;refine⟨fun y hy=>?_,by show(-1:Int).natAbs≤30; decide⟩;rw[List.mem_iff_getElem] at hy;obtain⟨j,hj,rfl⟩:=hy;rw[List.length_zipWith] at hj;rw[List.getElem_zipWith];have c1:=b1 _ (List.getElem_mem (l:=x.1) (n:=j) (by omega));have c2:=b2 _ (List.getElem_mem (l:=x.2) (n:=j) (by omega));omega
theorem sm_log(h: ∀x∈xs,Sm x):(gcdL xs).log2<9000:=by
 by_cases z:gcdL xs=0
 ·rw[z]; decide
 ·obtain⟨x,hx,h0⟩:=gcdL_ex z;have a:=Zu hx h0;have b:x.natAbs<2^4000:=h x hx;have c:(gcdL xs).log2<4000:=(Nat.log2_lt z).mpr (Nat.lt_of_le_of_lt a b);omega
theorem wd_sm(h: ∀x∈xs,Sm x): ∀y∈wd xs,Sm y:=fun y hy=>by
 obtain⟨x,hx,hle⟩:=wd_abs hy;exact Nat.lt_of_le_of_lt hle (h x hx)
theorem XJ: ∀(ws:List (Int×Int)) (f:Nat→Int),(∀w∈ws,Sm w.2)→(∀r,Sm (f r))→ ∀r,Sm (tsOf m ws f r)
 | [],f,_,h,r=>h r
 | w::ws,f,hw,h,r=>XJ ws _ (fun u hu=>hw u (List.mem_cons_of_mem _ hu)) (fun i=>by split; exact hw w List.mem_cons_self; exact h i) r
abbrev sFa:Stmt:=top 13
abbrev nFa:List Str:=["pot","many","told","times","number","often"]
theorem nmFa:Nm nFa (ze sFa):=nmk (by decide+kernel)
theorem scFa:FnScope nFa ["pot"] (ze sFa):=fsk (by decide+kernel)
def qFaa (s:Stmt):Scope:=match s with
 | .Assign _ (.ListComp _ _ sc _) _=>sc
 | _=>nsc
abbrev cFaa:Scope:=qFaa ((zm sFa).getD 3 (.Pass ⟨0,0,0,0⟩))
theorem bsFaa:BScope (ze sFa) cFaa ["rule"] [] []:={okind:=by decide+kernel,kind:=by decide+kernel,nocell:=by decide+kernel,names:=by decide+kernel,fr:=by decide+kernel,ff:=by decide+kernel,nd:=by decide+kernel,vis:=by decide+kernel,loc:=by decide+kernel,gl:=by decide+kernel}
theorem loFa_3:(ze sFa).names.lookup ("times":Str)=some .local:=by decide+kernel
def spFa (p1 p2:Addr):Sp:=fun vs H Q _=> ∃(p:Addr) (m:Nat) (tg:Rows),vs=[.ref p]∧PotK H p m tg∧Tbs H p1 p2∧
 (∀H' q r hs,SameT p1 p2 H H'→Tbs H' p1 p2→Fl m tg hs→(∀h∈hs,Sm h)→H' q=some (.tup [.str "falls",.ref r])→H' r=some (.tup (hs.map V.int))→Q (.ref q) H')∧
 (∀H' q r ts,SameT p1 p2 H H'→Tbs H' p1 p2→Rn m tg ts→(∀t∈ts,Sm t)→H' q=some (.tup [.str "round",.ref r])→H' r=some (.tup (ts.map V.int))→Q (.ref q) H')
section
variable {P:Program} {w:World} {K:W.Frag} {mg:Str→Option Value} {base:Heap}
theorem ok_Fa(B:Bl mg)(Z:KZ mg)(fG:Has P w K mg base 5 "weighed" ["many","problem"] (spWg p1 p2))(fS:Has P w K mg base 1 "sorts_rows" ["many"] spSr)(fR:Has P w K mg base 1 "rules_rows" ["pot"] spRr)(fW:Has P w K mg base 2 "without_divisor" ["numbers"] spWd)(F:Fun K "falls" "falls" sFa f fd):FnOk P w K mg base CX0 6 f fd ["pot"] (spFa p1 p2):=by
 refine F.ok scFa (fun vs H Q E h=>?_) (fun cdv A outer s H vs Q E hr h=>?_)
 ·obtain⟨p,m,tg,rfl,_⟩:=h;rfl
 obtain⟨p,m,tg,rfl,hp,hT,kF,kR⟩:=h;refine'⟨_,?hb,?rd⟩
 case' hb=>skip
 case' hb=>refine' zd ?g1 ?g2
 case' g2=>refine' zd ?g3 ?g4
 case' g4=>refine' zd ?g5 ?g6
 case' g6=>refine' zd ?g7 ?g8
 case' g8=>refine' zd ?g9 ?g10
 case' g10=>refine' zj ?g11
 case g1=>exact zk nmFa 1 (zU zq B.len PySem.boot_len (pa_1 (ziq (pvd nmFa 0) (pe_k Z.s))))
 case g3=>exact zk nmFa 2 (pe_f fG hr (by decide) (pa_2 (pvd nmFa 1) (zo Yb (pe_f fS hr (by decide) (pa_1 (pvd nmFa 1))) (pe_f fR hr (by decide) (pa_1 (pvd nmFa 0))))))
 case' g5=>refine' zY ?g12 ?g13 zC
 case g12=>exact zt xJ (ziq (pvd nmFa 2) zg) yY (zv _)
 case' g13=>refine' zj ?g15
 case g15=>exact zy (z0 (pa_2 yY (ya yd B.tuple PyProof.Rows.boot_tuple (pa_1 (pe_f fW hr (by decide) (pa_1 (ziq (pvd nmFa 2) zg)))))))
 case' g7=>refine' yj (i:=3) (ix:=[]) nmFa.nd rfl loFa_3 bsFaa.toCScope rfl rfl ?g16 ?g17 ?g18 ?g19
 case g16=>exact yC (ziq (pvd nmFa 0) (pe_k Z.r))
 case g17=>exact fun _ _ _ _ _ _=>pgb bsFaa 0
 case g18=>exact fun _ _ _ _ _ _=>zB
 case g19=>exact fun _ _ _ _ _ _=>zg
 case' g9=>refine' yX PassesOwn.never rfl ?g20 (wT rfl (zH (pgd nmFa 4) (zH (pgd nmFa 5) yI))) ?g21
 case g20=>exact yC (ziq (pvd nmFa 2) zg)
 case' g21=>refine' zj ?g22
 case' g22=>refine' zY ?g23 ?g24 zC
 case g23=>exact zt Xi (pvd nmFa 4) (pvd nmFa 1) (zv _)
 case' g24=>refine' zj ?g26
 case g26=>exact zW (pvd nmFa 5) (zX (pvd nmFa 3) (zo wb (pvd nmFa 4) (pvd nmFa 1)) yl)
 case g11=>exact zy (z0 (pa_2 yY (ya zK B.tuple PyProof.Rows.boot_tuple (pa_1 (pvd nmFa 3)))))
 obtain⟨ps,pr,pin,pb,ans,rs,nmz,e1,e2,e3,e4,hR⟩:=hp.ex;have m8:=hp.m8;have n8:=hp.n8;have hrl:=hR.1;have hw:=fun x hx=>(hR.wd x hx).1;walk_at"v";refine zN e1 rfl ?_;walk_at"v";refine⟨ps,_,rfl,.inr e2.sq,?_⟩;rw[List.length_map,e3];walk_at"v";refine⟨m,rfl,m8,fun l1 H1 K1 f1 P1=>?_⟩;walk_at"v";refine⟨p,m,tg,rfl,hp.same K1,fun l2 H2 K2 f2 P2=>?_⟩;walk_at"v";have P1:PrAt H2 m (zD m) l1:=let ⟨ra,ba,q⟩:=P1; ⟨ra,ba,q.same fun a u e _=>K2 a u e⟩
 obtain⟨xs,ys,g1,g2,g3,g4,_⟩:=PrAt.app (D:=0) P1 P2;refine⟨l1,l2,xs,ys,rfl,rfl,g1,g2,?_,fun l3 hl3=>?_⟩
 ·rw[g3,g4];have:(zD m).length+(zO tg).length≤16:=by simp[zD,zO]; omega
  exact Nat.le_trans this (by decide)
 obtain⟨xs',ys',g1',g2',_,_,g5⟩:=PrAt.app (D:=l3) P1 P2;rw[g1] at g1'; rw[g2] at g2';cases g1'; cases g2'
 have K3:Same H2 (upd H2 l3 (.lst (xs++ys))):=Same.new (Same.refl _) hl3;have P3:=g5 _ K3 zf;generalize upd H2 l3 (.lst (xs++ys))=H3 at K3 P3 ⊢;have K3:=(K1.trans K2).trans K3;have T3:=hT.same K3;walk_at"v";refine⟨l3,m,_,30,rfl,P3,fa_prs hR m8 n8,T3,fun H4 q pp x d s4 T4 hd M Sd Sx eq ep=>?_,fun H4 q pp qs ws s4 T4 W Sw eq ep hPs=>?_⟩
 ·have hxs: ∀y∈(List.range m).map x,Sm y:=fun y hy=>by
   obtain⟨j,hj,rfl⟩:=List.mem_map.mp hy;exact Sx j (List.mem_range.mp hj)
  walk_at"v";refine zN eq rfl ?_;walk_at"v";refine⟨rfl,?_⟩;walk_at"v";refine iteP rfl ?_;walk_at"v";refine zN eq rfl ?_;walk_at"v";refine⟨pp,(List.range m).map x,rfl,by rw[ep,List.map_map]; rfl,by simp; omega,sm_log hxs,fun q2 H5 K5 f5 e5=>?_⟩;walk_at"v";refine⟨q2,_,rfl,e5,fun r H6 K6 e6=>?_⟩;walk_at"v";refine⟨sz2,fun q3 hq3=>?_⟩;have K7:=(K5.trans K6).trans (Same.new (o:= .tup [.str "falls",.ref r]) (Same.refl _) hq3);exact kF _ q3 r _ (fun a u n1 n2 e=>K7 _ _ (s4 a u n1 n2 (K3 _ _ e))) (T4.same K7) (num_fl hw hd M) (wd_sm hxs) zf (by rw[zh (zi e6 hq3),e6])
 ·walk_at"v";refine zN eq rfl ?_;walk_at"v";refine⟨rfl,?_⟩;walk_at"v";refine iteQ (by decide) ?_;walk_at"v";have tk:K16.TK H H4:=⟨fun _ _ e=>s4.k T3 _ _ (K3 _ _ e) (fun _ z=>by cases z),fun _ _ _ e=>s4.k T3 _ _ (K3 _ _ e) (fun _ z=>by cases z)⟩;refine zN (tk.t _ _ e1) rfl ?_;refine⟨pr,rfl,⟨_,SqT.of (tk.t _ _ e4)⟩,fun D hD=>?_⟩;refine Yj (ws:=rs) V.ref (fun _=>V.int 0) (SqT.of (tk.t _ _ e4)) (by omega) hD (fun r _ H' K' R kR'=>?_) (fun H5 K5 e5=>?_)
  ·walk_at"v";exact kR' _ (Same.refl _)
  walk_at"v";refine zN (K5 _ _ eq) rfl ?_;refine⟨pp,rfl,⟨_,SqT.of (K5 _ _ ep)⟩,?_⟩;have T5:=T4.same K5;have e5':H5 D=some (.lst (((List.range tg.length).map (tsOf m (ws.take 0) fun _=>0)).map V.int)):=by
   rw[e5];congr 2;refine List.ext_getElem (by simp[hrl]) fun i h1 h2=>?_;simp[tsOf]
  refine YN (xs:=qs.map V.ref) (fun i σ H'=> ∃u4 u5,σ=[some (.ref p),some (.int (m:Int)),some (.ref q),some (.ref D),u4,u5]∧SameB D H5 H'∧H' D=some (.lst (((List.range tg.length).map (tsOf m (ws.take i) fun _=>0)).map V.int))) ⟨none,none,rfl,fun _ _ _ e=>e,e5'⟩ (fun i σ H' _ ⟨_,_,_,k,_⟩=>SqT.of (k _ _ (zi ep hD) (K5 _ _ ep))) ?_ ?_
  ·rintro i x σ H' hx ⟨u4,u5,rfl,k5,eD⟩;have hi:i<qs.length:=by simpa using (List.getElem?_eq_some_iff.mp hx).1
   have hx':V.ref qs[i]=x:=by simpa[hi] using hx
   subst hx';have hiw:i<ws.length:=by rw[←hPs.1]; exact hi
   have hq:=hPs.2 i qs[i] ws[i] (by simp[hi]) (by simp[hiw]);have hrg:=W.rng ws[i] (List.getElem_mem hiw);have hll:(zD m++zO tg).length=m+tg.length:=by simp[zD,zO]
   rw[hll] at hrg;have tt:=vP (m:=m) ws (fun _=>0) i ws[i] (by simp[hiw]);refine⟨_,_,rfl,SqT.of (k5 _ _ (zi hq hD) (K5 _ _ hq)),rfl,?_⟩;refine⟨_,_,rfl,?_⟩;walk_at"v";refine⟨_,_,rfl,?_⟩;walk_at"v";refine⟨rfl,?_⟩;walk_at"v";refine iteD (fun h=>?_) (fun h=>?_)
   ·walk_at"v";have hix:ixN (((List.range tg.length).map (tsOf m (ws.take i) fun _=>0)).map V.int).length (ws[i].1 - (m:Int))=some (ws[i].1 - (m:Int)).toNat:=by
     unfold ixN;rw[if_pos (by omega),if_pos (by simp; omega)]
    refine yx eD hix ?_;refine⟨_,_,rfl,fun a u n e=>by rw[zh n]; exact k5 a u n e,?_⟩;rw[zf,tt];congr 2;refine List.ext_getElem (by simp) fun a h1 h2=>?_;rw[List.getElem_set];by_cases z:(ws[i].1-(m:Int)).toNat=a
    ·rw[if_pos z];simp[h,z]
    ·rw[if_neg z];simp[h];intro y;exact absurd (by omega) z
   ·walk_at"v";refine⟨_,_,rfl,k5,?_⟩;rw[eD,tt];congr 2;refine List.ext_getElem (by simp) fun a h1 h2=>?_;simp[h]
  ·rintro σ H' ⟨u4,u5,rfl,k5,eD⟩;rw[List.length_map,hPs.1,List.take_length] at eD;walk_at"v";refine⟨D,_,rfl,.inl ⟨SqL.of eD,fun r hr'=>?_⟩⟩;have K6:Same H' (upd H' r (.tup (((List.range tg.length).map (tsOf m ws fun _=>0)).map V.int))):=Same.new (Same.refl _) hr';have e6:upd H' r (.tup (((List.range tg.length).map (tsOf m ws fun _=>0)).map V.int)) r=some (.tup (((List.range tg.length).map (tsOf m ws fun _=>0)).map V.int)):=zf;generalize upd H' r (.tup (((List.range tg.length).map (tsOf m ws fun _=>0)).map V.int))=H6 at K6 e6 ⊢;walk_at"v";refine⟨sz2,fun q3 hq3=>?_⟩;have K7:=K6.trans (Same.new (o:= .tup [.str "round",.ref r]) (Same.refl _) hq3);refine kR _ q3 r _ (fun a u n1 n2 e=>?_) ((T5.at_ e5 k5).same K7) (wt_rn hw W) (fun t ht=>?_) zf (by rw[zh (zi e6 hq3),e6])
   ·have:=s4 a u n1 n2 (K3 _ _ e);exact K7 _ _ (k5 _ _ (zi this hD) (K5 _ _ this))
   ·obtain⟨j,_,rfl⟩:=List.mem_map.mp ht;exact XJ ws _ Sw (fun _=>show(0:Int).natAbs<2^4000 by decide+kernel) j
end
end K16
namespace L2
open PySem PySem.Spec PyProof.Rows G2
section
variable {D:Addr} {tc:TT} {te:TE} {Q:VK} {ρ:St} {H:Hp} {K:W.Frag} {a:Addr}
theorem Zw{ws:List α}(c r:α→V)(f:α→Bool)(hs:SqT K H a (ws.map c))(hn:ws.length≤1000)(hD:H D=none)
  (test: ∀(i:Nat) (w:α),ws[i]? =some w→ ∀H',Same H H'→ ∀R:Bool→Hp→Prop,(∀H'',Same H' H''→R (f w) H'')→tc (some (c w)::ρ) H' R)
  (elt: ∀w∈ws,f w=true→ ∀H',Same H H'→ ∀R:V→Hp→Prop,(∀H'',Same H' H''→R (r w) H'')→te (some (c w)::ρ) H' R)
  (q: ∀H',Same H H'→H' D=some (.lst ((ws.filter f).map r))→Q (.ref D) H'):CGo (Itt K a) D (zI 0) tc te Q (none::ρ) H:=by
 refine vk (xs:=ws.map c) (fun i ys H'=>ys=((ws.take i).filter f).map r∧Same H H') ⟨rfl,Same.new (Same.refl H) hD⟩ (fun i ys H' _ ⟨_,k'⟩=>SqT.sm k' hs) ?_ ?_
 ·rintro i x ys H' hx ⟨rfl,K'⟩ hDy R S kR kS;rw[List.getElem?_map] at hx;cases hw:ws[i]? with
  | none=>rw[hw] at hx; cases hx
  | some w=>
   rw[hw] at hx;cases hx
   have hi:=(List.getElem?_eq_some_iff.mp hw).1;have ht:ws.take (i+1)=ws.take i++[w]:=by rw[List.take_succ,hw]; rfl
   refine test i w hw H' K' _ fun H2 K2=>?_;cases hf:f w with
   | true=>
    refine iteT (elt w (List.mem_of_getElem? hw) hf H2 (K'.trans K2) R fun H3 K3=>?_);have e3:=K3 _ _ (K2 _ _ hDy);refine kR _ _ e3 (zu (by rw[List.length_map]; have:=List.length_filter_le f (ws.take i); rw[List.length_take] at this; omega)) ⟨?_,((K'.trans K2).trans K3).put hD⟩;rw[ht,List.filter_append,List.map_append,List.filter_cons_of_pos hf];rfl
   | false=>
    refine iteF (kS _ (K2 _ _ hDy) ⟨?_,K'.trans K2⟩);rw[ht,List.filter_append,List.filter_cons_of_neg (by rw[hf]; exact Bool.false_ne_true)];simp
 ·rintro ys H' ⟨rfl,K'⟩ hDy;rw[List.length_map,List.take_length] at hDy;exact q H' K' hDy
theorem fil_lst{ws:List α}(c r:α→V)(f:α→Bool)(hs:SqL K H a (ws.map c))(hn:ws.length≤1000)(hD:H D=none)
  (test: ∀(i:Nat) (w:α),ws[i]? =some w→ ∀H',Same H H'→ ∀R:Bool→Hp→Prop,(∀H'',Same H' H''→R (f w) H'')→tc (some (c w)::ρ) H' R)
  (elt: ∀w∈ws,f w=true→ ∀H',Same H H'→ ∀R:V→Hp→Prop,(∀H'',Same H' H''→R (r w) H'')→te (some (c w)::ρ) H' R)
  (q: ∀H',Same H H'→H' D=some (.lst ((ws.filter f).map r))→Q (.ref D) H'):CGo (Itl K a) D (zI 0) tc te Q (none::ρ) H:=by
 refine vM (xs:=ws.map c) (fun i ys H'=>ys=((ws.take i).filter f).map r∧Same H H') ⟨rfl,Same.new (Same.refl H) hD⟩ (fun i ys H' _ ⟨_,k'⟩=>SqL.sm k' hs) ?_ ?_
 ·rintro i x ys H' hx ⟨rfl,K'⟩ hDy R S kR kS;rw[List.getElem?_map] at hx;cases hw:ws[i]? with
  | none=>rw[hw] at hx; cases hx
  | some w=>
   rw[hw] at hx;cases hx
   have hi:=(List.getElem?_eq_some_iff.mp hw).1;have ht:ws.take (i+1)=ws.take i++[w]:=by rw[List.take_succ,hw]; rfl
   refine test i w hw H' K' _ fun H2 K2=>?_;cases hf:f w with
   | true=>
    refine iteT (elt w (List.mem_of_getElem? hw) hf H2 (K'.trans K2) R fun H3 K3=>?_);have e3:=K3 _ _ (K2 _ _ hDy);refine kR _ _ e3 (zu (by rw[List.length_map]; have:=List.length_filter_le f (ws.take i); rw[List.length_take] at this; omega)) ⟨?_,((K'.trans K2).trans K3).put hD⟩;rw[ht,List.filter_append,List.map_append,List.filter_cons_of_pos hf];rfl
   | false=>
    refine iteF (kS _ (K2 _ _ hDy) ⟨?_,K'.trans K2⟩);rw[ht,List.filter_append,List.filter_cons_of_neg (by rw[hf]; exact Bool.false_ne_true)];simp
 ·rintro ys H' ⟨rfl,K'⟩ hDy;rw[List.length_map,List.take_length] at hDy;exact q H' K' hDy
end
theorem YZ{σ:St}(hi:σ[i]? =some (some (.ref pl)))(hj:σ[j]? =some (some (.ref lr)))(e1:H pl=some (.tup (u1::u2::us)))(el:H lr=some (.lst ys))(hu:us.length≤10)
  (q: ∀q6 q2 H',Same H H'→H' q6=some (.tup (u1:: .ref q2::us))→H' q2=some (.tup ys)→Q (.ref q6) H'):
  (tOp vS (tOp vS (tSl rSlG (tVar i) xV (vQ (tC (V.int 1)))) (tTup (y0 (tCB XW (y0 (tVar j) tNil)) tNil))) (tSl rSlG (tVar i) (vQ (tC (V.int 2))) xV)) σ H Q:=by
 refine w_op (w_op (w_sl (yt hi (zT (yy (w_c ?_))))));refine⟨_,rfl,pl,_,rfl,e1,fun q1 H1 K1 g1=>?_⟩;refine y9 (yh (w_cb (yh (yt hj (yK ?_)))));refine⟨lr,ys,rfl,K1 _ _ el,fun q2 H2 K2 g2=>yK ⟨sz1,fun q3 h3=>?_⟩⟩;obtain⟨H3,q,K3,g3⟩:=nob (.tup [.ref q2]) h3; rw[q]; clear q;refine⟨q1,q3,_,_,rfl,rfl,K3 _ _ (K2 _ _ g1),g3,?_,fun q4 H4 K4 g4=>?_⟩
 ·simp[cutV];omega
 refine w_sl (yt hi (yy (w_c ⟨_,rfl,zT ?_⟩)));have K14:=((K1.trans K2).trans K3).trans K4;refine⟨pl,_,rfl,K14 _ _ e1,fun q5 H5 K5 g5=>?_⟩;refine⟨q4,q5,_,_,rfl,rfl,K5 _ _ g4,g5,?_,fun q6 H6 K6 g6=>?_⟩
 ·simp[cutV];omega
 refine q q6 q2 H6 ((K14.trans K5).trans K6) ?_ (K6 _ _ (K5 _ _ (K4 _ _ (K3 _ _ g2))));have c1:cutV (u1::u2::us) none (some 1)=[u1]:=by simp[cutV,HT.sIx]
 have c2:cutV (u1::u2::us) (some 2) none=us:=by simp[cutV,HT.sIx]
 rw[g6,c1,c2];rfl
theorem w_potA{σ:St}(hi:σ[i]? =some (some (.ref pl)))(hj:σ[j]? =some (some x))(e1:H pl=some (.tup (u1:: .ref pr::us)))(el:H pr=some (.tup ys))(hu:us.length≤10)(hy:ys.length≤100)
  (q: ∀q6 q2 H',Same H H'→H' q6=some (.tup (u1:: .ref q2::us))→H' q2=some (.tup (ys++[x]))→Q (.ref q6) H'):
  (tOp vS (tOp vS (tSl rSlG (tVar i) xV (vQ (tC (V.int 1)))) (tTup (y0 (tOp vS (tOp rIxd (tVar i) (tC (V.int 1))) (tTup (y0 (tVar j) tNil))) tNil))) (tSl rSlG (tVar i) (vQ (tC (V.int 2))) xV)) σ H Q:=by
 refine w_op (w_op (w_sl (yt hi (zT (yy (w_c ?_))))));refine⟨_,rfl,pl,_,rfl,e1,fun q1 H1 K1 g1=>?_⟩;refine y9 (yh (w_op (w_op (yt hi (w_c ?_)))));refine zN (K1 _ _ e1) (zz (j:=1) (show(u1::V.ref pr::us)[1]? =some (V.ref pr) from rfl)) ?_;refine y9 (yh (yt hj (yK ⟨sz1,fun q9 h9=>?_⟩)));obtain⟨H9,q,K9,g9⟩:=nob (.tup [x]) h9; rw[q]; clear q;refine⟨pr,q9,_,_,rfl,rfl,K9 _ _ (K1 _ _ el),g9,by simp; omega,fun q2 H2 K2 g2=>yK ⟨sz1,fun q3 h3=>?_⟩⟩;have K2:=K9.trans K2;obtain⟨H3,q,K3,g3⟩:=nob (.tup [.ref q2]) h3; rw[q]; clear q;refine⟨q1,q3,_,_,rfl,rfl,K3 _ _ (K2 _ _ g1),g3,?_,fun q4 H4 K4 g4=>?_⟩
 ·simp[cutV];omega
 refine w_sl (yt hi (yy (w_c ⟨_,rfl,zT ?_⟩)));have K14:=((K1.trans K2).trans K3).trans K4;refine⟨pl,_,rfl,K14 _ _ e1,fun q5 H5 K5 g5=>?_⟩;refine⟨q4,q5,_,_,rfl,rfl,K5 _ _ g4,g5,?_,fun q6 H6 K6 g6=>?_⟩
 ·simp[cutV];omega
 refine q q6 q2 H6 ((K14.trans K5).trans K6) ?_ (K6 _ _ (K5 _ _ (K4 _ _ (K3 _ _ g2))));have c1:cutV (u1:: .ref pr::us) none (some 1)=[u1]:=by simp[cutV,HT.sIx]
 have c2:cutV (u1:: .ref pr::us) (some 2) none=us:=by simp[cutV,HT.sIx]
 rw[g6,c1,c2];rfl
end L2
namespace K16
open PySem L2 G2 WG EL
local macro_rules | `(tactic| walk_at "v") => `(tactic| repeat (with_reducible first
  | refine xg ?_ | refine yL ?_ | refine zM ?_ | refine w_op ?_ | refine yt rfl ?_ | refine w_c ?_ | refine xF ?_ | refine xG ?_ | refine xH ?_ | refine yP ?_ | refine w_tb ?_ | refine w_bl ?_ | refine w_not ?_ | refine xj ?_ | refine w_retN ?_
  | refine yK ?_ | refine yh ?_ | refine xu ?_ | refine y9 ?_ | refine w_cb ?_ | refine yV ?_ | refine yQ ?_ | refine xI ?_ | refine w_or ?_ | refine yg ?_ | refine zZ ?_ | refine yO ?_ | refine yp ?_ | refine yo ?_ | refine yS ?_ | refine yR ?_ | refine yT ?_ | refine yU ?_ | refine w_bm ?_ | refine yF ?_ | refine yG ?_ | refine w_chain ?_ | refine w_sl ?_ | refine zT ?_ | refine yy ?_ | refine x5 ?_ | refine iteT ?_ | refine iteF ?_))
def SB (p:Addr) (H H':Hp):Prop:=SameB p H H'∧(FeedAt H p→FeedAt H' p)
theorem SB.trans(a:SB p H H1)(b:SB p H1 H2):SB p H H2:=⟨a.1.trans b.1,fun f=>b.2 (a.2 f)⟩
theorem SB.same(k:Same H H'):SB p H H':=⟨fun a u _ e=>k a u e,fun⟨x,y,z,e⟩=>⟨x,y,z,k _ _ e⟩⟩
theorem SB.drawn:SB p H (upd H p (.lst [.int x,.int y,.int z])):=⟨fun a u n e=>by rw[zh n]; exact e,fun _=>FeedAt.here⟩
theorem FeedAt.np(F:FeedAt H p)(h:H a=none):a≠p:=fun z=>by obtain⟨x,y,w,e⟩:=F; rw[z,e] at h; cases h
theorem kp_sb(F:FeedAt H p)(hD:H D=none):Kp (SB p) D H:=by
 have n:D≠p:=F.np hD;refine⟨SB.same (Same.new (Same.refl _) hD),fun a b=>a.trans b,fun _ b e=>b.1 _ _ n e,fun {H1 o} a=>⟨fun q u hq e=>?_,fun f=>?_⟩⟩
 ·rw[zh (zi e hD)]; exact a.1 q u hq e
 ·obtain⟨x,y,z,e⟩:=a.2 f;exact⟨x,y,z,by rw[zh (Ne.symm n)]; exact e⟩
theorem xx(F:FeedAt H p)(a:SB p H H'):G2.TK H H':=by
 obtain⟨x,y,z,e⟩:=F;exact⟨fun q xs h=>a.1 q _ (fun w=>by rw[w,e] at h; cases h) h,fun q o u h=>a.1 q _ (fun w=>by rw[w,e] at h; cases h) h⟩
theorem ints_ok{ys:List V}{P:Int→Prop}(h: ∀(j:Nat) (y:V),ys[j]? =some y→ ∃x:Int,y= .int x∧P x): ∃xs:List Int,ys=xs.map V.int∧ ∀x∈xs,P x:=by
 induction ys with
 | nil=>exact⟨[],rfl,fun x hx=>by cases hx⟩
 | cons y ys ih=>
  obtain⟨x,rfl,hx⟩:=h 0 y rfl;obtain⟨xs,rfl,hxs⟩:=ih fun j z e=>h (j+1) z e;exact⟨x::xs,rfl,fun z hz=>by rcases List.mem_cons.mp hz with rfl | hz; exact hx; exact hxs z hz⟩
theorem SB.but(F:FeedAt H' p)(b:But p H H'):SB p H H':=⟨fun a u n e=>b a u e n,fun _=>F⟩
theorem wj(F:FeedAt H p)(h0:0<m)(h1:m<1000000)(k: ∀r H',0≤r→r<m→FeedAt H' p→SB p H H'→Q (.int r) H'):xA [.ref p,.int m] H Q E:=⟨p,m,rfl,F,h0,h1,fun r x y z r0 r1=>k r _ r0 r1 FeedAt.here SB.drawn⟩
theorem sum_sm(n:Nat)(f:Nat→Int):((List.range n).map f).sum=sm n f:=by
 induction n with
 | zero=>rfl
 | succ n ih=>rw[List.range_succ,List.map_append,List.sum_append,ih]; simp[sm]
theorem YO{xs ys:List Int}(h:xs.length=ys.length):dz xs ys=sm xs.length fun j=>xs.getD j 0*ys.getD j 0:=by rw[←ZW h,sum_sm]
def RuA (H:Hp) (m:Nat) (r:Addr) (x:List Int×List Int):Prop:=x.1.length=m∧x.2.length=m∧(∀y∈x.1,0≤y∧y≤30)∧(∀y∈x.2,0≤y∧y≤30)∧ ∃a b,H r=some (.tup [.ref a,.ref b])∧H a=some (.tup (x.1.map V.int))∧H b=some (.tup (x.2.map V.int))
theorem RuA.tk(h:RuA H m r x)(k:G2.TK H H'):RuA H' m r x:=let ⟨h1,h2,h3,h4,a,b,h5,h6,h7⟩:=h; ⟨h1,h2,h3,h4,a,b,k.t _ _ h5,k.t _ _ h6,k.t _ _ h7⟩
theorem rls_zip{H:Hp}{m:Nat}{zs:List (Addr×(List Int×List Int))}(h: ∀z∈zs,RuA H m z.1 z.2):Rls H (zs.map (·.1)) (zs.map (·.2)) m:=by
 refine⟨by simp,fun i r t g e1 e2=>?_⟩;rw[List.getElem?_map] at e1 e2;cases hz:zs[i]? with
 | none=>rw[hz] at e1; cases e1
 | some z=>
  rw[hz] at e1 e2;have:=h z (List.mem_of_getElem? hz);cases e1
  have e2:z.2=(t,g):=Option.some.inj e2;rw[e2] at this;exact this
theorem Zj(h:Rls H rs tg m): ∀z∈rs.zip tg,RuA H m z.1 z.2:=fun z hz=>by
 obtain⟨i,hi,rfl⟩:=List.getElem_of_mem hz;rw[List.length_zip] at hi;rw[List.getElem_zip];exact h.2 i _ tg[i].1 tg[i].2 (List.getElem?_eq_getElem (by omega)) (List.getElem?_eq_getElem (by omega))
theorem Zn{nmz:List Str}{zs:List (Addr×(List Int×List Int))}(e1:H q=some (.tup [.ref ps,.ref q2,.ref pin,.ref pb,.int ans]))(e2:TupF H ps (nmz.map V.str))(e3:nmz.length=m)(e4:H q2=some (.tup ((zs.map (·.1)).map V.ref)))(h: ∀z∈zs,RuA H m z.1 z.2)(n8:zs.length≤8)(m8:m≤8)(m0:0<m):PotK H q m (zs.map (·.2)):=
 ⟨⟨ps,q2,pin,pb,ans,_,nmz,e1,e2,e3,e4,rls_zip h⟩,by simpa using n8,m8,m0⟩
theorem wM{xs:List Int}{n:Nat}(h: ∀x∈xs,0≤x∧x≤(n:Int))(hn:n≤1000): ∀x∈xs,Bb x:=fun x hx=>bb_of (m:=10) (by have:=h x hx; show x.natAbs<1024; omega) (by decide)
theorem XD{zs:List (Addr×(List Int×List Int))}(hr:r<zs.length):cg (zs.map (·.2)) r j=zs[r].2.2.getD j 0-zs[r].2.1.getD j 0:=by
 have e:(zs.map (·.2)).getD r ([],[])=zs[r].2:=by simp[List.getD_eq_getElem?_getD,hr]
 unfold cg;rw[e]
def CL (H:Hp) (a:Addr) (m:Nat) (xs:List Int):Prop:=H a=some (.lst (xs.map V.int))∧xs.length=m∧ ∀x∈xs,0≤x∧x≤30
theorem YY{σ:St}(hi:σ[i]? =some (some (.int (m:Int))))(m8:m≤8)(q: ∀a H',Same H H'→H a=none→CL H' a m (List.replicate m 0)→Q (.ref a) H'):tOp rRep (tLst (y0 (tC (V.int 0)) tNil)) (tVar i) σ H Q:=by
 refine w_op (xu (yh (w_c (yK ⟨sz1,fun z1 hz1=>?_⟩))));have K9:Same H (upd H z1 (.lst [.int 0])):=Same.new (Same.refl H) hz1;have e9:upd H z1 (.lst [.int 0]) z1=some (.lst [.int 0]):=zf;generalize upd H z1 (.lst [.int 0])=H9 at K9 e9 ⊢;refine yt hi ⟨z1,_,_,rfl,rfl,e9,by omega,by omega,by rw[Int.toNat_natCast]; exact Nat.le_of_lt (zu (by simp; omega)),fun a ha=>?_⟩;rw[Int.toNat_natCast,Xw];exact q a _ (K9.new ha) (Same.free K9 ha) ⟨zf,List.length_replicate,fun x hx=>by rw[List.eq_of_mem_replicate hx]; decide⟩
theorem CL.ix{H:Hp}{Q:VK}{a:Addr}{m:Nat}{xs:List Int}{r:Int}(h:CL H a m xs)(r0:0≤r)(r1:r<m)(q: ∀v:Int,0≤v→v≤30→Q (.int v) H):rIxd (.ref a) (.int r) H Q:=by
 obtain⟨j,rfl⟩:=Nat.ofI r0;have hj:j<xs.length:=by have:=h.2.1; omega
 have hb:=h.2.2 xs[j] (List.getElem_mem hj);exact zA h.1 (zz (by simp[hj])) (q _ hb.1 hb.2)
theorem CL.st{H:Hp}{a:Addr}{m:Nat}{xs:List Int}{r v:Int}{QH:Hp→Prop}(h:CL H a m xs)(r0:0≤r)(r1:r<m)(v0:0≤v)(v1:v≤30)(q: ∀ys,CL (upd H a (.lst (ys.map V.int))) a m ys→QH (upd H a (.lst (ys.map V.int)))):Xa (.ref a) (.int r) (.int v) H QH:=by
 obtain⟨j,rfl⟩:=Nat.ofI r0;have hj:j<xs.length:=by have:=h.2.1; omega
 refine yx h.1 (j:=j) ?_ ?_
 ·unfold ixN;rw[if_pos (by omega),if_pos (by simp; omega)];simp
 ·rw[←List.map_set];refine q _ ⟨zf,by simp[h.2.1],fun x hx=>?_⟩;rcases List.mem_or_eq_of_mem_set hx with hx | rfl
  ·exact h.2.2 x hx
  ·exact⟨v0,v1⟩
theorem CL.sb(h:CL H a m xs)(k:SB p H H')(n:a≠p):CL H' a m xs:=⟨k.1 _ _ n h.1,h.2⟩
theorem CL.ot(h:CL H a m xs)(n:a≠b):CL (upd H b o) a m xs:=⟨by rw[zh n]; exact h.1,h.2⟩
theorem SB.put(b:SB p H H')(h:H a=none):SB p H (upd H' a o):=⟨fun q u n e=>by rw[zh (zi e h)]; exact b.1 q u n e,fun F=>by
 obtain⟨x,y,z,e⟩:=b.2 F;exact⟨x,y,z,by rw[zh (Ne.symm (F.np h))]; exact e⟩⟩
theorem SB.free(b:SB p H H')(n:a≠p)(h:H' a=none):H a=none:=by
 cases e:H a with
 | none=>rfl
 | some u=>rw[b.1 _ _ n e] at h; cases h
theorem md2{x:Int}{m:Nat}(h:0<m):0≤x%(m:Int)∧x%(m:Int)<m:=⟨Int.emod_nonneg _ (by omega),Int.emod_lt_of_pos _ (by omega)⟩
theorem tk6(k:G2.TK H H'):K16.TK H H':=⟨k.t,k.f⟩
abbrev sLw:Stmt:=top 25
abbrev nLw:List Str:=["_law_feed_here","_law_pot_here","_law_high","_law_rules"]
theorem nmLw:Nm nLw (ze sLw):=nmk (by decide+kernel)
theorem scLw:FnScope nLw ["_law_feed_here","_law_pot_here"] (ze sLw):=fsk (by decide+kernel)
def qLwa (s:Stmt):Scope:=match s with
 | .Assign _ (.ListComp _ _ sc _) _=>sc
 | _=>nsc
abbrev cLwa:Scope:=qLwa ((zm sLw).getD 0 (.Pass ⟨0,0,0,0⟩))
theorem bsLwa:BScope (ze sLw) cLwa ["_law_sort"] ["_law_feed_here"] ["_law_draw"]:={okind:=by decide+kernel,kind:=by decide+kernel,nocell:=by decide+kernel,names:=by decide+kernel,fr:=by decide+kernel,ff:=by decide+kernel,nd:=by decide+kernel,vis:=by decide+kernel,loc:=by decide+kernel,gl:=by decide+kernel}
def qLwb (s:Stmt):Scope:=match s with
 | .Assign _ (.ListComp _ _ sc _) _=>sc
 | _=>nsc
abbrev cLwb:Scope:=qLwb ((zm sLw).getD 1 (.Pass ⟨0,0,0,0⟩))
theorem bsLwb:BScope (ze sLw) cLwb ["_law_rule_here"] ["_law_high"] ["_law_dot"]:={okind:=by decide+kernel,kind:=by decide+kernel,nocell:=by decide+kernel,names:=by decide+kernel,fr:=by decide+kernel,ff:=by decide+kernel,nd:=by decide+kernel,vis:=by decide+kernel,loc:=by decide+kernel,gl:=by decide+kernel}
theorem loLw_3:(ze sLw).names.lookup ("_law_rules":Str)=some .local:=by decide+kernel
def spLw:Sp:=fun vs H Q _=> ∃(p l:Addr) (m:Nat) (tg:Rows),vs=[.ref p,.ref l]∧FeedAt H p∧PotK H l m tg∧ ∀l' H' tg' hi,PotK H' l' m tg'→FeedAt H' p→SB p H H'→Fl m tg' hi→Q (.ref l') H'
section
variable {P:Program} {w:World} {K:W.Frag} {mg:Str→Option Value} {base:Heap}
theorem ok_Lw(B:Bl mg)(fD:Has P w K mg base 1 "_law_draw" ["_law_feed_here","_law_many"] xA)(fT:Has P w K mg base 1 "_law_dot" ["_law_one","_law_other"] Yu)(F:Fun K "_law_lowered" "_law_lowered" sLw f fd):FnOk P w K mg base CX0 2 f fd ["_law_feed_here","_law_pot_here"] spLw:=by
 refine F.ok scLw (fun vs H Q E h=>?_) (fun cdv A outer s H vs Q E hr h=>?_)
 ·obtain⟨p,l,m,tg,rfl,_⟩:=h;rfl
 obtain⟨p,l,m,tg,rfl,F0,hp,k⟩:=h;refine'⟨_,?hb,?rd⟩
 case' hb=>skip
 case' hb=>refine' zd ?g1 ?g2
 case' g2=>refine' zd ?g3 ?g4
 case' g4=>refine' zj ?g5
 case' g1=>refine' zk nmLw 2 ?g6
 case' g6=>refine' zR (ix:=[0]) bsLwa.toCScope rfl rfl ?g7 ?g8 ?g9 ?g10
 case g7=>exact yC (ziq (pvd nmLw 1) zg)
 case g8=>exact fun _ _ _ _ _ _=>pgb bsLwa 0
 case g9=>exact fun _ _ _ _ _ _=>zB
 case g10=>exact fun _ _ _ _ _ _=>zo zP zg (pe_f fD hr (by decide) (pa_2 (pvb bsLwa 1) zg) (bsLwa.g 0))
 case' g3=>refine' yj (i:=3) (ix:=[2]) nmLw.nd rfl loLw_3 bsLwb.toCScope rfl rfl ?g11 ?g12 ?g13 ?g14
 case g11=>exact yC (ziq (pvd nmLw 1) zg)
 case g12=>exact fun _ _ _ _ _ _=>pgb bsLwb 0
 case g13=>exact fun _ _ _ _ _ _=>xC (zt x8 (pe_f fT hr (by decide) (pa_2 (pvb bsLwb 1) (ziq (pvb bsLwb 0) zg)) (bsLwb.g 0)) (pe_f fT hr (by decide) (pa_2 (pvb bsLwb 1) (ziq (pvb bsLwb 0) zg)) (bsLwb.g 0)) (zv _))
 case g14=>exact fun _ _ _ _ _ _=>pvb bsLwb 0
 case g5=>exact zy (zo xp (zo xp (yA xX (pvd nmLw 1) y4 (y3 zg)) (z0 (pa_1 (ya yd B.tuple PyProof.Rows.boot_tuple (pa_1 (pvd nmLw 3)))))) (yA xX (pvd nmLw 1) (y3 zg) y4))
 obtain⟨ps,pr,pin,pb,ans,rs,nmz,e1,e2,e3,e4,hR⟩:=hp.ex;have m8:=hp.m8;have n8:=hp.n8;have hrl:=hR.1;walk_at"v";refine zN e1 rfl ?_;refine⟨ps,rfl,⟨_,e2.sq⟩,fun D1 hD1=>?_⟩;refine Xv (S:=SB p) (xs:=nmz.map V.str) (fun _ y _=> ∃x:Int,y= .int x∧(1≤x∧x≤9)) (kp_sb F0 hD1) (fun _ h=>h) (fun a b=>xx (a.2 F0) b) (by simp; omega) (fun H' K'=>((tk6 (xx F0 K')).tf e2).sq) (fun i x H' R hx K' kR=>?_) (fun ys H1 g eD=>?_)
 ·walk_at"v";refine wj (K'.2 F0) (by decide) (by decide) fun r H2 r0 r1 F2 b2=>?_;walk_at"v";exact kR _ _ b2 ⟨_,rfl,by omega⟩
 obtain⟨hi,rfl,hib⟩:=ints_ok g.2.2;have hil:hi.length=m:=by have:=g.2.1; simpa[e3] using this
 have F1:=g.1.2 F0;have t1:=xx F0 g.1;walk_at"v";refine zN (t1.t _ _ e1) rfl ?_;refine⟨pr,rfl,⟨_,SqT.of (t1.t _ _ e4)⟩,fun D2 hD2=>?_⟩;have hR1:=hR.tk (tk6 t1);have hzs:=Zj hR1;have hzc:(rs.zip tg).map (fun z=>V.ref z.1)=rs.map V.ref:=by
  rw[show(fun z:Addr×(List Int×List Int)=>V.ref z.1)=V.ref ∘ Prod.fst from rfl,←List.map_map,List.map_fst_zip (by omega)]
 refine Zw (ws:=rs.zip tg) (fun z=>V.ref z.1) (fun z=>V.ref z.1) (fun z=>decide (dz hi z.2.2<dz hi z.2.1)) (by rw[hzc]; exact SqT.of (t1.t _ _ e4)) (by rw[List.length_zip]; omega) hD2 (fun i z hz H' K' R kR=>?_) (fun z hz hf H' K' R kR=>?_) (fun H2 K2 e5=>?_)
 ·obtain⟨h1,h2,h3,h4,a,b,f1,f2,f3⟩:=hzs z (List.mem_of_getElem? hz);have hib': ∀x∈hi,0≤x∧x≤((9:Nat):Int):=fun x hx=>by have:=hib x hx; omega
  walk_at"v";refine zN (K' _ _ f1) rfl ?_;walk_at"v";refine⟨D1,b,hi,z.2.2,rfl,.inr (K' _ _ eD),.inl (K' _ _ f3),by omega,by omega,wM hib' (by decide),wM (n:=30) h4 (by decide),fun H3 K3=>?_⟩;walk_at"v";refine zN (K3 _ _ (K' _ _ f1)) rfl ?_;walk_at"v";refine⟨D1,a,hi,z.2.1,rfl,.inr (K3 _ _ (K' _ _ eD)),.inl (K3 _ _ (K' _ _ f2)),by omega,by omega,wM hib' (by decide),wM (n:=30) h3 (by decide),fun H4 K4=>?_⟩;walk_at"v";exact kR _ (K3.trans K4)
 ·walk_at"v";exact kR _ (Same.refl _)
 have t2:=t1.trans (G2.TK.same K2);refine zM ?_;with_reducible refine xj ?_
 refine YZ (by rfl) (by rfl) (t2.t _ _ e1) e5 (by simp) fun q6 q2 H3 K3 g1 g2=>?_;have t3:=t2.trans (G2.TK.same K3);have K23:=K2.trans K3;refine k q6 H3 _ hi (Zn g1 ((tk6 t3).tf e2) e3 (by rw[g2,List.map_map]; rfl) (fun z hz=>(hzs z (List.mem_filter.mp hz).1).tk (G2.TK.same K23)) ?_ m8 hp.m0) (F1.same K23) (g.1.trans (SB.same K23)) ⟨hil,fun h hh=>by have:=hib h hh; omega,fun r hr=>?_⟩
 ·have:=List.length_filter_le (fun z=>decide (dz hi z.2.2<dz hi z.2.1)) (rs.zip tg);rw[List.length_zip] at this;omega
 ·rw[List.length_map] at hr;have hm:=List.getElem_mem hr;obtain⟨hm1,hm2⟩:=List.mem_filter.mp hm;have hm2:=of_decide_eq_true hm2;obtain⟨h1,h2,_⟩:=hzs _ hm1;rw[YO (by omega),YO (by omega),hil] at hm2;have e: ∀j,_:=fun j=>XD (j:=j) hr;generalize ((rs.zip tg).filter fun z=>decide (dz hi z.2.2<dz hi z.2.1))[r]=z at hm2 e;rw[zx (g:=fun j=>1*(hi.getD j 0*z.2.2.getD j 0)+-1*(hi.getD j 0*z.2.1.getD j 0)) fun j _=>by rw[e,Int.mul_sub]; omega,xh];omega
abbrev sCi:Stmt:=top 26
abbrev nCi:List Str:=["_law_feed_here","_law_pot_here","_law_many","_law_first","_law_length","_law_rules","_law_k","_law_takes","_law_gives"]
theorem nmCi:Nm nCi (ze sCi):=nmk (by decide+kernel)
theorem scCi:FnScope nCi ["_law_feed_here","_law_pot_here"] (ze sCi):=fsk (by decide+kernel)
def spCi:Sp:=fun vs H Q _=> ∃(p l:Addr) (m:Nat) (tg:Rows),vs=[.ref p,.ref l]∧FeedAt H p∧PotK H l m tg∧ ∀l' H' tg',PotK H' l' m tg'→FeedAt H' p→SB p H H'→Q (.ref l') H'
theorem ok_Ci{f:Addr}{fd:FuncData}(B:Bl mg)(fD:Has P w K mg base 1 "_law_draw" ["_law_feed_here","_law_many"] xA)(F:Fun K "_law_circled" "_law_circled" sCi f fd):FnOk P w K mg base CX0 2 f fd ["_law_feed_here","_law_pot_here"] spCi:=by
 refine F.ok scCi (fun vs H Q E h=>?_) (fun cdv A outer s H vs Q E hr h=>?_)
 ·obtain⟨p,l,m,tg,rfl,_⟩:=h;rfl
 obtain⟨p,l,m,tg,rfl,F0,hp,k⟩:=h;refine'⟨_,?hb,?rd⟩
 case' hb=>skip
 case' hb=>refine' zd ?g1 ?g2
 case' g2=>refine' zd ?g3 ?g4
 case' g4=>refine' zd ?g5 ?g6
 case' g6=>refine' zd ?g7 ?g8
 case' g8=>refine' zd ?g9 ?g10
 case' g10=>refine' zj ?g11
 case g1=>exact zk nmCi 2 (zU zq B.len PySem.boot_len (pa_1 (ziq (pvd nmCi 1) zg)))
 case g3=>exact zk nmCi 3 (pe_f fD hr (by decide) (pa_2 (pvd nmCi 0) (pvd nmCi 2)))
 case g5=>exact zk nmCi 4 (zo zP zg (pe_f fD hr (by decide) (pa_2 (pvd nmCi 0) zg)))
 case g7=>exact zk nmCi 5 (yA sl_list (ya wK B.list PyProof.Rows.boot_list (pa_1 (ziq (pvd nmCi 1) zg))) y4 (y3 zg))
 case' g9=>refine' yX PassesOwn.never rfl ?g12 (pgd nmCi 6) ?g13
 case g12=>exact yN B.range (pa_1 (pvd nmCi 4))
 case' g13=>refine' zd ?g14 ?g15
 case' g15=>refine' zd ?g16 ?g17
 case' g17=>refine' zd ?g18 ?g19
 case' g19=>refine' zd ?g20 ?g21
 case' g21=>refine' zd ?g22 ?g23
 case' g23=>refine' zj ?g24
 case g14=>exact zk nmCi 7 (zo Zp (yk (pa_1 zg)) (pvd nmCi 2))
 case g16=>exact zk nmCi 8 (zo Zp (yk (pa_1 zg)) (pvd nmCi 2))
 case g18=>exact zW (zo zP zg (pe_f fD hr (by decide) (pa_2 (pvd nmCi 0) zg))) (zX (pvd nmCi 7) (zo yr (zo zP (pvd nmCi 3) (pvd nmCi 6)) (pvd nmCi 2)) yl)
 case g20=>exact zW (ziq (pvd nmCi 7) (zo yr (zo zP (pvd nmCi 3) (pvd nmCi 6)) (pvd nmCi 2))) (zX (pvd nmCi 8) (zo yr (zo zP (pvd nmCi 3) (zo yr (zo zP (pvd nmCi 6) zg) (pvd nmCi 4))) (pvd nmCi 2)) yl)
 case' g22=>refine' zY ?g25 ?g26 zC
 case g25=>exact zt xJ (pvd nmCi 6) zg (zv _)
 case' g26=>refine' zj ?g28
 case g28=>exact zW zg (zX (pvd nmCi 8) (pe_f fD hr (by decide) (pa_2 (pvd nmCi 0) (pvd nmCi 2))) yl)
 case' g24=>refine' zY ?g29 ?g30 zC
 case g29=>exact zt (op_neD hr) (pvd nmCi 7) (pvd nmCi 8) (zv _)
 case' g30=>refine' zj ?g32
 case g32=>exact wy (ZJ PySem.F.plainAttrs_list PySem.F.slot_list_insert PySem.F.type_list_insert mt_insert (pvd nmCi 5) (pa_2 (pe_f fD hr (by decide) (pa_2 (pvd nmCi 0) (zo zP (zU zq B.len PySem.boot_len (pa_1 (pvd nmCi 5))) zg))) (z0 (pa_2 (ya yd B.tuple PyProof.Rows.boot_tuple (pa_1 (pvd nmCi 7))) (ya yd B.tuple PyProof.Rows.boot_tuple (pa_1 (pvd nmCi 8)))))))
 case g11=>exact zy (zo xp (zo xp (yA xX (pvd nmCi 1) y4 (y3 zg)) (z0 (pa_1 (ya yd B.tuple PyProof.Rows.boot_tuple (pa_1 (pvd nmCi 5)))))) (yA xX (pvd nmCi 1) (y3 zg) y4))
 obtain⟨ps,pr,pin,pb,ans,rs,nmz,e1,e2,e3,e4,hR⟩:=hp.ex;have m8:=hp.m8;have m0:=hp.m0;have n8:=hp.n8;have hrl:=hR.1;have hm0:(0:Int)<(m:Int):=by omega
 have hm2:(m:Int)<1000000:=by omega
 walk_at"v";refine zN e1 rfl ?_;refine⟨ps,_,rfl,.inr e2.sq,?_⟩;rw[List.length_map,e3];walk_at"v";refine wj F0 hm0 hm2 fun fi H1 fi0 fi1 F1 b1=>?_;walk_at"v";refine wj F1 (by decide) (by decide) fun r H2 r0 r1 F2 b2=>?_;have b2:=b1.trans b2;have t2:=xx F0 b2;walk_at"v";refine zN (t2.t _ _ e1) rfl ?_;walk_at"v";refine⟨pr,_,rfl,.inr (SqT.of (t2.t _ _ e4)),fun l1 hl1=>?_⟩;obtain⟨H3,q,K3,g3⟩:=nob (.lst (rs.map V.ref)) hl1; rw[q]; clear q;walk_at"v";refine⟨_,rfl,l1,_,rfl,SqL.of g3,fun R hR0=>?_⟩;obtain⟨H4,q,K4,g4⟩:=nob (.lst (cutV (rs.map V.ref) none (some 4))) hR0; rw[q]; clear q;have b4:=b2.trans (SB.same (K3.trans K4));have F4:=b4.2 F0;have t4:=xx F0 b4;have nRp:R≠p:=(F2.same K3).np hR0;have hRH:H R=none:=b2.free nRp (Same.free K3 hR0);have c4:cutV (rs.map V.ref) none (some 4)=(((rs.zip tg).take 4).map (·.1)).map V.ref:=by
  rw[List.map_take,List.map_fst_zip (by omega),List.map_take];unfold cutV;simp[HT.sIx,List.take_take]
 rw[c4] at g4;have h4:=Zj (hR.tk (tk6 t4));walk_at"v";refine⟨_,rfl,by omega,by omega,?_⟩;have hle: ∃n:Nat,(2+r).toNat=n∧n≤3:=⟨_,rfl,by omega⟩;obtain⟨n,hn,n3⟩:=hle;rw[hn];refine yE (fun i σ H'=> ∃(zs:List (Addr×(List Int×List Int))) (u6 u7 u8:Option V),σ=[some (.ref p),some (.ref l),some (.int (m:Int)),some (.int fi),some (.int (2+r)),some (.ref R),u6,u7,u8]∧FeedAt H' p∧SB p H H'∧H' R=some (.lst ((zs.map (·.1)).map V.ref))∧(∀z∈zs,RuA H' m z.1 z.2)∧zs.length≤4+i) ?_ ?_ ?_
 ·exact⟨_,none,none,none,rfl,F4,b4,g4,fun z hz=>h4 z (List.mem_of_mem_take hz),by simp; omega⟩
 ·rintro i σ H6 hi ⟨zs,u6,u7,u8,rfl,F6,b6,l6,h6,c6⟩;refine zM ?_;with_reducible refine xg ?_
  with_reducible refine yL ?_
  refine YY (by rfl) m8 fun ta H7 K7 ft L7=>?_;refine zM ?_;with_reducible refine xg ?_
  with_reducible refine yL ?_
  refine YY (by rfl) m8 fun ga H8 K8 fg L8=>?_;have nta:ta≠p:=F6.np ft;have fg6:=Same.free K7 fg;have nga:ga≠p:=F6.np fg6;have ntg:ta≠ga:=zi L7.1 fg;have s8:=SB.same (p:=p) (K7.trans K8);have F8:=s8.2 F6;have L7:CL H8 ta m _:=⟨K8 _ _ L7.1,L7.2⟩;walk_at"v";refine wj F8 (by decide) (by decide) fun v H9 v0 v1 F9 b9=>?_;have s9:=s8.trans b9;have L7:=L7.sb b9 nta;have L8:=L8.sb b9 nga;walk_at"v";refine⟨_,_,rfl,rfl,hm0,?_⟩;refine L7.st (md2 m0).1 (md2 m0).2 (by omega) (by omega) fun t LT=>?_;have s10:=s9.put (o:= .lst (t.map V.int)) ft;have L8:=L8.ot (o:= .lst (t.map V.int)) (Ne.symm ntg);have F10:=s10.2 F6;generalize upd H9 ta (.lst (t.map V.int))=H10 at LT s10 L8 F10 ⊢;walk_at"v";refine⟨_,_,rfl,rfl,hm0,?_⟩;refine LT.ix (md2 m0).1 (md2 m0).2 fun v2 w0 w1=>?_;walk_at"v";refine⟨_,_,rfl,rfl,by omega,?_⟩;walk_at"v";refine⟨_,_,rfl,rfl,hm0,?_⟩;refine L8.st (md2 m0).1 (md2 m0).2 w0 w1 fun g LG=>?_;have s11:=s10.put (o:= .lst (g.map V.int)) fg6;have LT:=LT.ot (o:= .lst (g.map V.int)) ntg;have F11:=s11.2 F6;generalize upd H10 ga (.lst (g.map V.int))=H11 at LG s11 LT F11 ⊢;with_reducible refine wt (fun σ' H'=> ∃(t g:List Int) (u7 u8:Option V),σ'=[some (.ref p),some (.ref l),some (.int (m:Int)),some (.int fi),some (.int (2+r)),some (.ref R),some (.int (0+(i:Int))),some (.ref ta),some (.ref ga)]∧FeedAt H' p∧SB p H6 H'∧CL H' ta m t∧CL H' ga m g) ?_ ?_
  ·rintro σ' H12 ⟨t,g,_,_,rfl,F12,s12,LT,LG⟩;have l12:=s12.1 _ _ nRp l6;have h12: ∀z∈zs,RuA H12 m z.1 z.2:=fun z hz=>(h6 z hz).tk (xx F6 s12);walk_at"v";refine XH LT.1 LG.1 ?_;walk_at"v";refine iteDN (fun _=>?_) (fun _=>?_)
   ·walk_at"v";refine⟨.inl ⟨rfl,_,SqL.of l12⟩,?_⟩;walk_at"v";refine⟨R,_,rfl,.inl (SqL.of l12),?_⟩;rw[List.length_map,List.length_map];walk_at"v";refine wj F12 (by omega) (by omega) fun at_ H13 a0 a1 F13 b13=>?_;have LT:=LT.sb b13 nta;have LG:=LG.sb b13 nga;have l13:=b13.1 _ _ nRp l12;walk_at"v";refine⟨ta,_,rfl,LT.1,fun q1 H14 K14 g14=>?_⟩;walk_at"v";refine⟨ga,_,rfl,K14 _ _ LG.1,fun q2 H15 K15 g15=>?_⟩;walk_at"v";refine⟨sz2,fun q3 h3=>?_⟩;obtain⟨H16,q,K16,g16⟩:=nob (.tup [.ref q1,.ref q2]) h3; rw[q]; clear q;have K:=(K14.trans K15).trans K16;walk_at"v";have s16:=(s12.trans b13).trans (SB.same K);have hz16: ∀z∈zs,RuA H16 m z.1 z.2:=fun z hz=>(h12 z hz).tk (xx F12 (b13.trans (SB.same K)));refine⟨R,_,at_,_,rfl,rfl,K _ _ l13,a0,by simp; omega,by rw[List.length_map,List.length_map]; exact zu (by omega),?_⟩;have hRl:=K _ _ l13;have tR:G2.TK H16 (upd H16 R (.lst (((zs.map (·.1)).map V.ref).take at_.toNat++V.ref q3::((zs.map (·.1)).map V.ref).drop at_.toNat))):=G2.TK.lst hRl;walk_at"v";refine⟨zs.take at_.toNat++(q3,(t,g))::zs.drop at_.toNat,_,_,_,rfl,?_,(b6.trans s16).put hRH,?_,?_,?_⟩
    ·exact((b6.trans s16).put hRH).2 F0
    ·rw[zf];simp[List.map_take,List.map_drop]
    ·intro z hz;rcases List.mem_append.mp hz with hz | hz
     ·exact(hz16 z (List.mem_of_mem_take hz)).tk tR
     rcases List.mem_cons.mp hz with rfl | hz
     ·exact RuA.tk ⟨LT.2.1,LG.2.1,LT.2.2,LG.2.2,q1,q2,g16,K16 _ _ (K15 _ _ g14),K16 _ _ g15⟩ tR
     ·exact(hz16 z (List.mem_of_mem_drop hz)).tk tR
    ·simp;omega
   ·walk_at"v";exact⟨zs,_,_,_,rfl,F12,b6.trans s12,l12,h12,by omega⟩
  ·intro rest;walk_at"v";refine⟨rfl,?_⟩;walk_at"v";refine iteD (fun _=>?_) (fun _=>?_)
   ·walk_at"v";refine wj F11 hm0 hm2 fun r2 H12 a0 a1 F12 b12=>?_;refine(LG.sb b12 nga).st a0 a1 (by decide) (by decide) fun g2 LG2=>?_;refine rest _ _ ⟨t,g2,none,none,rfl,((s11.trans b12).put fg6).2 F6,(s11.trans b12).put fg6,(LT.sb b12 nta).ot ntg,LG2⟩
   ·with_reducible refine yg ?_
    exact rest _ _ ⟨t,g,none,none,rfl,F11,s11,LT,LG⟩
 ·rintro σ H6 ⟨zs,u6,u7,u8,rfl,F6,b6,l6,h6,c6⟩;with_reducible refine xj ?_
  have t6:=xx F0 b6;refine YZ (by rfl) (by rfl) (t6.t _ _ e1) l6 (by simp) fun q6 q2 H7 K7 g1 g2=>?_;exact k q6 H7 _ (Zn g1 ((tk6 (t6.trans (G2.TK.same K7))).tf e2) e3 g2 (fun z hz=>(h6 z hz).tk (G2.TK.same K7)) (by omega) m8 m0) (F6.same K7) (b6.trans (SB.same K7))
theorem X9{xs:List Int}(h: ∀x∈xs,Sm x): ∀x∈xs,Bb x:=fun x hx=>bb_of (m:=4000) (h x hx) (by decide)
theorem kit_tt(K:W.Frag):PySem.W.kitOne K (.type "tuple") (.type "tuple")=some true:=by rfl
def rIsT:List V→Hp→VK→Prop:=fun xs H Q=> ∃p ys,xs=[.ref p,.ty "tuple"]∧H p=some (.tup ys)∧Q (.bl true) H
theorem Z1:yn X (.builtin "isinstance") rIsT:=fun pins s σ H xs us Q I r h=>Z3 pins s σ H xs us Q I r (by
 obtain⟨p,ys,e,hp,q⟩:=h;exact⟨_,"tuple",_,true,e,.tup hp,kit_tt _,q⟩)
theorem yu{b:Bool}{A B:Prop}(h1:b=true→A)(h2:b=false→B):if b=true then A else B:=by
 cases b
 ·exact iteF (h2 rfl)
 ·exact iteT (h1 rfl)
abbrev sIr:Stmt:=top 27
abbrev nIr:List Str:=["_law_pot_here","_law_found","_law_sort","_law_change"]
theorem nmIr:Nm nIr (ze sIr):=nmk (by decide+kernel)
theorem scIr:FnScope nIr ["_law_pot_here","_law_found"] (ze sIr):=fsk (by decide+kernel)
def qIra (s:Stmt):Scope:=match s with
 | .If (.BoolOp _ [_,(.Compare (.ListComp _ _ sc _) _ _ _)] _) _ _ _=>sc
 | _=>nsc
abbrev cIra:Scope:=qIra ((zm sIr).getD 0 (.Pass ⟨0,0,0,0⟩))
theorem bsIra:BScope (ze sIr) cIra ["_law_often"] [] []:={okind:=by decide+kernel,kind:=by decide+kernel,nocell:=by decide+kernel,names:=by decide+kernel,fr:=by decide+kernel,ff:=by decide+kernel,nd:=by decide+kernel,vis:=by decide+kernel,loc:=by decide+kernel,gl:=by decide+kernel}
def qIrb (s:Stmt):Scope:=match s with
 | .For _ _ [(.Assign _ (.ListComp _ _ sc _) _),_] _ _=>sc
 | _=>nsc
abbrev cIrb:Scope:=qIrb ((zm sIr).getD 1 (.Pass ⟨0,0,0,0⟩))
theorem bsIrb:BScope (ze sIr) cIrb ["_law_takes","_law_gives"] ["_law_sort"] []:={okind:=by decide+kernel,kind:=by decide+kernel,nocell:=by decide+kernel,names:=by decide+kernel,fr:=by decide+kernel,ff:=by decide+kernel,nd:=by decide+kernel,vis:=by decide+kernel,loc:=by decide+kernel,gl:=by decide+kernel}
theorem loIr_3:(ze sIr).names.lookup ("_law_change":Str)=some .local:=by decide+kernel
def spIr:Sp:=fun vs H Q _=> ∃(l q:Addr) (m:Nat) (tg:Rows) (ts:List Int),vs=[.ref l,.ref q]∧PotK H l m tg∧H q=some (.tup (ts.map V.int))∧Rn m tg ts∧(∀t∈ts,Sm t)∧ ∀H',Same H H'→Q (.bl true) H'
theorem ok_Ir{f:Addr}{fd:FuncData}(B:Bl mg)(fT:Has P w K mg base 1 "_law_dot" ["_law_one","_law_other"] Yu)(F:Fun K "_law_is_round" "_law_is_round" sIr f fd):FnOk P w K mg base CX0 2 f fd ["_law_pot_here","_law_found"] spIr:=by
 refine F.ok scIr (fun vs H Q E h=>?_) (fun cdv A outer s H vs Q E hr h=>?_)
 ·obtain⟨l,q,m,tg,ts,rfl,_⟩:=h;rfl
 obtain⟨l,q,m,tg,ts,rfl,hp,eq,hr',hs,k⟩:=h;refine'⟨_,?hb,?rd⟩
 case' hb=>skip
 case' hb=>refine' zd ?g1 ?g2
 case' g2=>refine' zd ?g3 ?g4
 case' g4=>refine' zj ?g5
 case' g1=>refine' zY ?g6 ?g7 zC
 case' g6=>refine' PW.pt ?g9
 case' g9=>refine' wZ (zt xn (zU zq B.len PySem.boot_len (pa_1 (pvd nmIr 1))) (zU zq B.len PySem.boot_len (pa_1 (ziq (pvd nmIr 0) zg))) (zv _)) ?g10
 case' g10=>refine' vw ?g11
 case' g11=>refine' zt (Xj hr) ?g12 (yk zE) (zv _)
 case' g12=>refine' zR (ix:=[]) bsIra.toCScope rfl rfl ?g13 ?g14 ?g15 ?g16
 case g13=>exact yC (pvd nmIr 1)
 case g14=>exact fun _ _ _ _ _ _=>pgb bsIra 0
 case g15=>exact fun _ _ _ _ _ _=>xC (zt xn (pvb bsIra 0) zg (zv _))
 case g16=>exact fun _ _ _ _ _ _=>pvb bsIra 0
 case' g7=>refine' zj ?g17
 case g17=>exact zy vT
 case' g3=>refine' yX PassesOwn.never rfl ?g18 (pgd nmIr 2) ?g19
 case g18=>exact yN B.range (pa_1 (zU zq B.len PySem.boot_len (pa_1 (ziq (pvd nmIr 0) zg))))
 case' g19=>refine' zd ?g20 ?g21
 case' g21=>refine' zj ?g22
 case' g20=>refine' yj (i:=3) (ix:=[2]) nmIr.nd rfl loIr_3 bsIrb.toCScope rfl rfl ?g23 ?g24 ?g25 ?g26
 case g23=>exact yC (ziq (pvd nmIr 0) zg)
 case g24=>
  intro _ _ _ _ _ _;refine' wz (n:=2) rfl ?g27
  case' g27=>refine' zH ?g31 ?g30
  case g31=>exact pgb bsIrb 0
  case' g30=>refine' zH ?g33 yI
  case g33=>exact pgb bsIrb 1
 case g25=>exact fun _ _ _ _ _ _=>zB
 case g26=>exact fun _ _ _ _ _ _=>zo wb (ziq (pvb bsIrb 1) (pvb bsIrb 2)) (ziq (pvb bsIrb 0) (pvb bsIrb 2))
 case' g22=>refine' zY ?g34 ?g35 zC
 case g34=>exact zt x8 (pe_f fT hr (by decide) (pa_2 (pvd nmIr 1) (pvd nmIr 3))) zg (zv _)
 case' g35=>refine' zj ?g37
 case g37=>exact zy vT
 case g5=>exact zy vT
 obtain⟨ps,pr,pin,pb,ans,rs,nmz,e1,e2,e3,e4,hR⟩:=hp.ex;have m8:=hp.m8;have n8:=hp.n8;have hrl:=hR.1;walk_at"v";refine⟨q,_,rfl,.inr (SqT.of eq),?_⟩;walk_at"v";refine zN e1 rfl ?_;walk_at"v";refine⟨pr,_,rfl,.inr (SqT.of e4),?_⟩;walk_at"v";refine⟨rfl,_,rfl,?_⟩;refine yu (fun h=>by simp[hr'.len,hrl] at h) (fun _=>?_);walk_at"v";refine⟨q,rfl,⟨_,SqT.of eq⟩,fun D hD=>?_⟩;refine Zw (ws:=ts) V.int V.int (fun x=> !decide (x=0)) (SqT.of eq) (by have:=hr'.len; omega) hD (fun i x hx H' K' R kR=>?_) (fun x hx hf H' K' R kR=>?_) (fun H1 K1 g1=>?_)
 ·walk_at"v";refine⟨rfl,_,rfl,?_⟩;have:=kR _ (Same.refl _)
  rwa [show(!decide (V.int x=V.int 0))= !decide (x=0) by simp]
 ·walk_at"v";exact kR _ (Same.refl _)
 walk_at"v";refine⟨Nat.zero_le _,fun z hz=>?_⟩;have K2:Same H1 (upd H1 z (.lst [])):=Same.new (Same.refl _) hz;refine⟨D,z,_,rfl,rfl,K2 _ _ g1,zf,_,rfl,?_⟩;have K2:=K1.trans K2;generalize upd H1 z (.lst [])=H2 at K2 ⊢;refine yu (fun h=>?_) (fun _=>?_)
 ·obtain⟨r,hr1,hr2⟩:=hr'.ne;have hr1:r<ts.length:=by rw[hr'.len]; exact hr1
  have:ts[r]∈ts.filter fun x=> !decide (x=0):=List.mem_filter.mpr ⟨List.getElem_mem hr1,by simpa[List.getD_eq_getElem?_getD,hr1] using hr2⟩;rw[List.isEmpty_iff.mp h |>List.map_eq_nil_iff.mp] at this;cases this
 walk_at"v";refine zN (K2 _ _ e1) rfl ?_;refine⟨ps,_,rfl,.inr (((TK.same K2).tf e2).sq),?_⟩;rw[List.length_map,e3];walk_at"v";refine⟨_,rfl,by omega,by omega,?_⟩;rw[Int.toNat_natCast];refine yE (fun i σ H'=> ∃u2 u3,σ=[some (.ref l),some (.ref q),u2,u3]∧Same H H') ⟨_,_,rfl,K2⟩ ?_ ?_
 ·rintro j σ H3 hj ⟨u2,u3,rfl,K3⟩;walk_at"v";refine zN (K3 _ _ e1) rfl ?_;refine⟨pr,rfl,⟨_,SqT.of (K3 _ _ e4)⟩,fun C hC=>?_⟩;refine gm_tup2 (S:=Same) (rs:=rs) (fun i y _=> ∃x,tg[i]? =some x∧y=V.int (x.2.getD j 0 - x.1.getD j 0)) (Kp.same hC) (fun _ h=>h) (fun _ b=>G2.TK.same b) (by omega) (fun H' K'=>SqT.of (K' _ _ (K3 _ _ e4))) (fun i r H' er K'=>?_) (fun ys H4 gp e=>?_)
  ·have hi:i<rs.length:=(List.getElem?_eq_some_iff.mp er).1;have hit:i<tg.length:=by omega
   obtain⟨h1,h2,h3,h4,a,b,f1,f2,f3⟩:=hR.2 i r tg[i].1 tg[i].2 er (List.getElem?_eq_getElem hit);have K3':=K3.trans K';refine⟨_,_,K3' _ _ f1,fun R kR=>?_⟩;walk_at"v";rw[Int.zero_add];refine zN (v:= .int (tg[i].2.getD j 0)) (K3' _ _ f3) (zz (by simp[List.getD_eq_getElem?_getD,h2,hj])) ?_;walk_at"v";refine zN (v:= .int (tg[i].1.getD j 0)) (K3' _ _ f2) (zz (by simp[List.getD_eq_getElem?_getD,h1,hj])) ?_;walk_at"v";exact kR _ _ (Same.refl _) ⟨tg[i],List.getElem?_eq_getElem hit,rfl⟩
  have hys:ys=(tg.map fun x=>x.2.getD j 0-x.1.getD j 0).map V.int:=by
   rw[List.map_map];exact gp_vals (by rw[gp.2.1,hrl]) gp.2.2
  subst hys;have K4:=K3.trans gp.1;walk_at"v";refine⟨q,C,ts,_,rfl,.inl (K4 _ _ eq),.inr e,by rw[hr'.len,List.length_map],by have:=hr'.len; omega,X9 hs,fun y hy=>?_,fun H5 K5=>?_⟩
  ·obtain⟨x,hx,rfl⟩:=List.mem_map.mp hy;obtain⟨⟨w1,w2⟩,b1,b2⟩:=hR.wd x hx;have a1:0≤x.1.getD j 0∧x.1.getD j 0≤30:=by
    rw[List.getD_eq_getElem?_getD,List.getElem?_eq_getElem (by omega)];exact b1 _ (List.getElem_mem _)
   have a2:0≤x.2.getD j 0∧x.2.getD j 0≤30:=by
    rw[List.getD_eq_getElem?_getD,List.getElem?_eq_getElem (by omega)];exact b2 _ (List.getElem_mem _)
   exact bb_of (m:=10) (by show _<1024; omega) (by decide)
  walk_at"v";have hdz: ¬dz ts (tg.map fun x=>x.2.getD j 0 - x.1.getD j 0)<0:=by
   rw[YO (by rw[hr'.len,List.length_map]),hr'.len,zx (g:=fun r=>ts.getD r 0*cg tg r j) fun r hr=>?_]
   ·have:=hr'.up j hj;omega
   ·congr 1;unfold cg;simp[List.getD_eq_getElem?_getD,hr]
  refine iteQ hdz ?_;walk_at"v";exact⟨_,_,rfl,K4.trans K5⟩
 ·rintro σ H3 ⟨u2,u3,rfl,K3⟩;walk_at"v";exact k _ K3
def FR (m:Nat) (tg:Rows) (v:Str) (xs:List Int):Prop:=(∀x∈xs,0≤x∧Sm x)∧((v="falls"∧Fl m tg xs)∨(v="round"∧Rn m tg xs))
theorem fa_one(hp:PotK H l m tg)(hT:Tbs H p1 p2)(k: ∀H' q r v xs,SameT p1 p2 H H'→Tbs H' p1 p2→FR m tg v xs→H' q=some (.tup [.str v,.ref r])→H' r=some (.tup (xs.map V.int))→Q (.ref q) H'):spFa p1 p2 [.ref l] H Q E:=
 ⟨l,m,tg,rfl,hp,hT,fun H' q r hs s t f b e1 e2=>k H' q r _ hs s t ⟨fun x hx=>⟨f.nn x hx,b x hx⟩,.inl ⟨rfl,f⟩⟩ e1 e2,fun H' q r ts s t f b e1 e2=>k H' q r _ ts s t ⟨fun x hx=>⟨f.nn x hx,b x hx⟩,.inr ⟨rfl,f⟩⟩ e1 e2⟩
def KF (m:Nat) (tg:Rows) (v:Str):Prop:=(v="falls"∧ ∃hs,Fl m tg hs)∨(v="round"∧ ∃ts,Rn m tg ts)
abbrev sKi:Stmt:=top 28
abbrev nKi:List Str:=["_law_pot_here","_law_told","_law_some"]
theorem nmKi:Nm nKi (ze sKi):=nmk (by decide+kernel)
theorem scKi:FnScope nKi ["_law_pot_here"] (ze sKi):=fsk (by decide+kernel)
def qKia (s:Stmt):Scope:=match s with
 | .If (.Compare (.ListComp _ _ sc _) _ _ _) _ _ _=>sc
 | _=>nsc
abbrev cKia:Scope:=qKia ((zm sKi).getD 2 (.Pass ⟨0,0,0,0⟩))
theorem bsKia:BScope (ze sKi) cKia ["_law_one"] [] ["isinstance","int","bool"]:={okind:=by decide+kernel,kind:=by decide+kernel,nocell:=by decide+kernel,names:=by decide+kernel,fr:=by decide+kernel,ff:=by decide+kernel,nd:=by decide+kernel,vis:=by decide+kernel,loc:=by decide+kernel,gl:=by decide+kernel}
def qKib (s:Stmt):Scope:=match s with
 | .Assign _ (.ListComp _ _ sc _) _=>sc
 | _=>nsc
abbrev cKib:Scope:=qKib ((zm sKi).getD 5 (.Pass ⟨0,0,0,0⟩))
theorem bsKib:BScope (ze sKi) cKib ["_law_change"] ["_law_told"] ["_law_dot"]:={okind:=by decide+kernel,kind:=by decide+kernel,nocell:=by decide+kernel,names:=by decide+kernel,fr:=by decide+kernel,ff:=by decide+kernel,nd:=by decide+kernel,vis:=by decide+kernel,loc:=by decide+kernel,gl:=by decide+kernel}
theorem loKi_2:(ze sKi).names.lookup ("_law_some":Str)=some .local:=by decide+kernel
def spKi (p1 p2:Addr):Sp:=fun vs H Q _=> ∃(l:Addr) (m:Nat) (tg:Rows),vs=[.ref l]∧PotK H l m tg∧Tbs H p1 p2∧ ∀H' v,SameT p1 p2 H H'→Tbs H' p1 p2→KF m tg v→Q (.str v) H'
theorem ok_Ki{f:Addr}{fd:FuncData}(B:Bl mg)(fT:Has P w K mg base 1 "_law_dot" ["_law_one","_law_other"] Yu)(fA:Has P w K mg base 6 "falls" ["pot"] (spFa p1 p2))(fI:Has P w K mg base 2 "_law_is_round" ["_law_pot_here","_law_found"] spIr)(fC:Has P w K mg base 1 "_law_changes" ["_law_pot_here"] XU)(F:Fun K "_law_kind" "_law_kind" sKi f fd):FnOk P w K mg base CX0 7 f fd ["_law_pot_here"] (spKi p1 p2):=by
 refine F.ok scKi (fun vs H Q E h=>?_) (fun cdv A outer s H vs Q E hr h=>?_)
 ·obtain⟨l,m,tg,rfl,_⟩:=h;rfl
 obtain⟨l,m,tg,rfl,hp,hT,k⟩:=h;refine'⟨_,?hb,?rd⟩
 case' hb=>skip
 case' hb=>refine' zd ?g1 ?g2
 case' g2=>refine' zd ?g3 ?g4
 case' g4=>refine' zd ?g5 ?g6
 case' g6=>refine' zd ?g7 ?g8
 case' g8=>refine' zd ?g9 ?g10
 case' g10=>refine' zd ?g11 ?g12
 case' g12=>refine' zj ?g13
 case g1=>exact zk nmKi 1 (pe_f fA hr (by decide) (pa_1 (pvd nmKi 0)))
 case' g3=>refine' zY ?g14 ?g15 zC
 case g14=>exact PW.pt (wZ (Zk (xM (zU Z1 B.isi PyProof.Rows.boot_isinstance (pa_2 (pvd nmKi 1) (vi (v:= .ty "tuple") rfl B.tuple PyProof.Rows.boot_tuple rfl))))) (wZ (zt xn (zU zq B.len PySem.boot_len (pa_1 (pvd nmKi 1))) zg (zv _)) (vw (Zk (xM (zU Z1 B.isi PyProof.Rows.boot_isinstance (pa_2 (ziq (pvd nmKi 1) zg) (vi (v:= .ty "tuple") rfl B.tuple PyProof.Rows.boot_tuple rfl))))))))
 case' g15=>refine' zj ?g17
 case g17=>exact zy xO
 case' g5=>refine' zY ?g18 ?g19 zC
 case' g18=>refine' zt (op_neE hr) ?g21 (yk zE) (zv _)
 case' g21=>refine' zR (ix:=[]) bsKia.toCScope rfl rfl ?g22 ?g23 ?g24 ?g25
 case g22=>exact yC (ziq (pvd nmKi 1) zg)
 case g23=>exact fun _ _ _ _ _ _=>pgb bsKia 0
 case g24=>exact fun _ _ _ _ _ _=>xC (PW.pt (wZ (Zk (xM (zU Z2 B.isi PyProof.Rows.boot_isinstance (pa_2 (pvb bsKia 0) (vi (v:= .ty "int") (bsKia.g 1) B.int PyProof.Rows.boot_int rfl)) (bsKia.g 0)))) (wZ (xM (zU Z2 B.isi PyProof.Rows.boot_isinstance (pa_2 (pvb bsKia 0) (vi (v:= .ty "bool") (bsKia.g 2) B.bool PyProof.Rows.boot_bool rfl)) (bsKia.g 0))) (vw (zt x8 (pvb bsKia 0) zg (zv _))))))
 case g25=>exact fun _ _ _ _ _ _=>pvb bsKia 0
 case' g19=>refine' zj ?g26
 case g26=>exact zy xO
 case' g7=>refine' zY ?g27 ?g28 zC
 case g27=>exact PW.pt (vx (zt xJ (ziq (pvd nmKi 1) zg) yY (zv _)) (wx (xM (pe_f fI hr (by decide) (pa_2 (pvd nmKi 0) (ziq (pvd nmKi 1) zg))))))
 case' g28=>refine' zj ?g30
 case g30=>exact zy yY
 case' g9=>refine' zY ?g31 ?g32 zC
 case g31=>exact PW.pt (wZ (zt xn (ziq (pvd nmKi 1) zg) yY (zv _)) (vw (zt xn (zU zq B.len PySem.boot_len (pa_1 (ziq (pvd nmKi 1) zg))) (zU zq B.len PySem.boot_len (pa_1 (ziq (pvd nmKi 0) zg))) (zv _))))
 case' g32=>refine' zj ?g34
 case g34=>exact zy xO
 case' g11=>refine' yj (i:=2) (ix:=[1]) nmKi.nd rfl loKi_2 bsKib.toCScope rfl rfl ?g35 ?g36 ?g37 ?g38
 case g35=>exact xm (pe_f fC hr (by decide) (pa_1 (pvd nmKi 0)))
 case g36=>exact fun _ _ _ _ _ _=>pgb bsKib 0
 case g37=>exact fun _ _ _ _ _ _=>xC (zt vV (pe_f fT hr (by decide) (pa_2 (ziq (pvb bsKib 1) zg) (pvb bsKib 0)) (bsKib.g 0)) (w9 xL zg) (zv _))
 case g38=>exact fun _ _ _ _ _ _=>pvb bsKib 0
 case g13=>exact zy (xP (zt (Xj hr) (pvd nmKi 2) (yk zE) (zv _)) yY xO)
 have m8:=hp.m8;have n8:=hp.n8;walk_at"v";refine fa_one hp hT fun H1 q r v xs s1 T1 fr eq er=>?_;have hp1:PotK H1 l m tg:=hp.tk (s1.tk hT);obtain⟨ps,pr,pin,pb,ans,rs,nmz,e1,e2,e3,e4,hR⟩:=hp1.ex;have xl:xs.length≤8:=by
  rcases fr.2 with ⟨_,f⟩ | ⟨_,f⟩
  ·have:=f.len; omega
  ·have:=f.len; omega
 walk_at"v";refine⟨q,_,rfl,eq,_,rfl,?_⟩;refine yu (fun h=>by simp at h) (fun _=>?_);walk_at"v";refine⟨q,_,rfl,.inr (SqT.of eq),?_⟩;walk_at"v";refine⟨rfl,_,rfl,?_⟩;refine yu (fun h=>by simp at h) (fun _=>?_);walk_at"v";refine zN eq rfl ?_;walk_at"v";refine⟨r,_,rfl,er,_,rfl,?_⟩;refine yu (fun h=>by simp at h) (fun _=>?_);walk_at"v";refine zN eq rfl ?_;refine⟨r,rfl,⟨_,SqT.of er⟩,fun D hD=>?_⟩;refine Zw (ws:=xs) V.int V.int (fun x=>false) (SqT.of er) (by omega) hD (fun i x hx H' K' R kR=>?_) (fun x hx hf H' K' R kR=>by cases hf) (fun H2 K2 g2=>?_)
 ·have h0:=(fr.1 x (List.mem_of_getElem? hx)).1;walk_at"v";refine⟨x,true,.inl ⟨rfl,rfl⟩,_,rfl,?_⟩;refine yu (fun h=>by simp at h) (fun _=>?_);walk_at"v";refine⟨x,false,.inr ⟨rfl,rfl⟩,_,rfl,?_⟩;refine yu (fun h=>by simp at h) (fun _=>?_);walk_at"v";have:=kR _ (Same.refl _)
  rwa [show decide (x<0)=false by simpa using h0]
 rw[show xs.filter (fun _=>false)=[] by simp] at g2;walk_at"v";refine⟨Nat.zero_le _,fun z hz=>?_⟩;have K3:Same H2 (upd H2 z (.lst [])):=Same.new (Same.refl _) hz;refine⟨D,z,_,rfl,rfl,K3 _ _ g2,zf,?_⟩;have K3:=K2.trans K3;generalize upd H2 z (.lst [])=H3 at K3 ⊢;walk_at"v";refine yu (fun h=>by simp at h) (fun _=>?_);have eq:=K3 _ _ eq;have er:=K3 _ _ er;have e1:=K3 _ _ e1;have e2:=(TK.same K3).tf e2;have s3:SameT p1 p2 H H3:=fun a u n1 n2 e=>K3 _ _ (s1 a u n1 n2 e);have T3:=T1.same K3;walk_at"v";refine zN eq rfl ?_;refine⟨rfl,_,rfl,?_⟩;rcases fr.2 with ⟨rfl,fl⟩ | ⟨rfl,rn⟩
 ·refine yu (fun h=>absurd (of_decide_eq_true h) (by decide)) (fun _=>?_);walk_at"v";refine zN eq rfl ?_;refine⟨rfl,_,rfl,?_⟩;refine yu (fun h=>by simp at h) (fun _=>?_);walk_at"v";refine zN eq rfl ?_;walk_at"v";refine⟨r,_,rfl,.inr (SqT.of er),?_⟩;walk_at"v";refine zN e1 rfl ?_;walk_at"v";refine⟨ps,_,rfl,.inr e2.sq,?_⟩;walk_at"v";refine⟨rfl,_,rfl,?_⟩;refine yu (fun h=>by simp[fl.len,e3] at h) (fun _=>?_);walk_at"v";refine⟨l,m,tg,rfl,hp1.same K3,fun cl H4 K4 ⟨cs,c1,c2,_,c3⟩ _=>?_⟩;refine⟨cl,rfl,⟨_,SqL.of c1⟩,fun D2 hD2=>?_⟩;refine fil_lst (ws:=cs) V.ref V.ref (fun _=>false) (SqL.of c1) (by omega) hD2 (fun i c hc H' K' R kR=>?_) (fun c hc hf H' K' R kR=>by cases hf) (fun H5 K5 g5=>?_)
  ·have hi:i<tg.length:=by rw[←c2]; exact(List.getElem?_eq_some_iff.mp hc).1
   have ec:=c3 i c tg[i] hc (List.getElem?_eq_getElem hi);obtain⟨⟨w1,w2⟩,b1,b2⟩:=hR.wd tg[i] (List.getElem_mem hi);have cl':(chg tg[i]).length=m:=by unfold chg; simp[w1]
   have cb: ∀y∈chg tg[i],Bb y:=fun y hy=>by
    unfold chg at hy;obtain⟨j,hj,rfl⟩:=List.mem_map.mp hy;have hj:=List.mem_range.mp hj;have a1:0≤tg[i].1.getD j 0∧tg[i].1.getD j 0≤30:=by
     rw[List.getD_eq_getElem?_getD,List.getElem?_eq_getElem hj];exact b1 _ (List.getElem_mem _)
    have a2:0≤tg[i].2.getD j 0∧tg[i].2.getD j 0≤30:=by
     rw[List.getD_eq_getElem?_getD,List.getElem?_eq_getElem (by omega)];exact b2 _ (List.getElem_mem _)
    exact bb_of (m:=10) (by show _<1024; omega) (by decide)
   walk_at"v";refine zN (K' _ _ (K4 _ _ eq)) rfl ?_;walk_at"v";refine⟨r,c,xs,chg tg[i],rfl,.inl (K' _ _ (K4 _ _ er)),.inr (K' _ _ ec),by rw[cl',fl.len],by omega,X9 fun x hx=>(fr.1 x hx).2,cb,fun H6 K6=>?_⟩;walk_at"v";refine⟨_,rfl,?_⟩;walk_at"v";have hlo:=fl.lo i hi;have:=kR _ K6
   rwa [show decide (-1<dz xs (chg tg[i]))=false from decide_eq_false (by
    rw[YO (by rw[cl',fl.len]),fl.len,zx (g:=fun j=>xs.getD j 0*cg tg i j) fun j hj=>?_]
    ·omega
    ·congr 1;unfold chg cg;simp[List.getD_eq_getElem?_getD,hi,w1,hj])]
  rw[show cs.filter (fun _=>false)=[] by simp] at g5;walk_at"v";refine⟨Nat.zero_le _,fun z2 hz2=>?_⟩;have K6:Same H5 (upd H5 z2 (.lst [])):=Same.new (Same.refl _) hz2;refine⟨D2,z2,_,rfl,rfl,K6 _ _ g5,zf,_,rfl,?_⟩;refine yu (fun _=>?_) (fun h=>by simp at h);walk_at"v";have K7:=(K4.trans K5).trans K6;exact k _ _ (fun a u n1 n2 e=>K7 _ _ (s3 a u n1 n2 e)) (T3.same K7) (.inl ⟨rfl,xs,fl⟩)
 ·refine yu (fun _=>?_) (fun h=>by simp at h);walk_at"v";refine zN eq rfl ?_;walk_at"v";refine⟨l,r,m,tg,xs,rfl,hp1.same K3,er,rn,fun x hx=>(fr.1 x hx).2,fun H4 K4=>?_⟩;walk_at"v";exact k _ _ (fun a u n1 n2 e=>K4 _ _ (s3 a u n1 n2 e)) (T3.same K4) (.inr ⟨rfl,xs,rn⟩)
theorem sql_keep(h:SqL K H a xs)(k: ∀u,H a=some u→(∀ps,u≠.tbl ps)→H' a=some u):SqL K H' a xs:=by
 rcases h with (h | ⟨o,h⟩) | h
 ·exact .inl (.inl (k _ h fun ps z=>by cases z))
 ·exact .inl (.inr ⟨o,k _ h fun ps z=>by cases z⟩)
 ·exact .inr h
theorem tbs_sb(T:Tbs H1 p1 p2)(F:FeedAt H1 p)(b:SB p H1 H2):Tbs H2 p1 p2:=by
 obtain⟨x,y,z,e⟩:=F;exact⟨T.1.keep (fun _ h=>b.1 _ _ (fun w=>by rw[w,e] at h; cases h) h) (fun _ _ h=>b.1 _ _ (fun w=>by rw[w,e] at h; cases h) h),T.2.keep (fun _ h=>b.1 _ _ (fun w=>by rw[w,e] at h; cases h) h) (fun _ _ h=>b.1 _ _ (fun w=>by rw[w,e] at h; cases h) h)⟩
def Due (m:Nat) (tg:Rows) (d:V):Prop:=d= .non∨(d= .str "falls"∧ ∀ts,¬Rn m tg ts)∨(d= .str "round"∧ ∀hs,¬Fl m tg hs)
theorem kf_due(h:KF m tg v)(hd:Due m tg d):d= .non∨d= .str v:=by
 rcases hd with rfl | ⟨rfl,z⟩ | ⟨rfl,z⟩
 ·exact .inl rfl
 ·rcases h with ⟨rfl,_⟩ | ⟨rfl,ts,y⟩
  ·exact .inr rfl
  ·exact absurd y (z ts)
 ·rcases h with ⟨rfl,hs,y⟩ | ⟨rfl,_⟩
  ·exact absurd y (z hs)
  ·exact .inr rfl
theorem w_isN0(h:ta σ H fun x H1=>Q (.bl (decide (x= .non))) H1):tIsN ta σ H Q:=h
theorem w_notN0(h:ta σ H fun x H1=>Q (.bl (!decide (x= .non))) H1):Y1 ta σ H Q:=h
theorem Xr(h:KF m tg v)(g:KF m tg u):v=u:=by
 rcases h with ⟨rfl,hs,y⟩ | ⟨rfl,ts,y⟩<;>rcases g with ⟨rfl,hs',z⟩ | ⟨rfl,ts',z⟩
 ·rfl
 ·exact(Xx y z).elim
 ·exact(Xx z y).elim
 ·rfl
theorem Yg(hp:PotK H l m tg)(hT:Tbs H p1 p2)(k: ∀H' v,SameT p1 p2 H H'→Tbs H' p1 p2→KF m tg v→Q (.str v) H'):spKi p1 p2 [.ref l] H Q E:=⟨l,m,tg,rfl,hp,hT,k⟩
abbrev sLaw:Stmt:=top 29
abbrev nLaw:List Str:=["_law_script","_law_k","_law_feed_here","_law_pot_here","_law_due","_law_way","_law_helped","_law_takes","_law_more","_law_found"]
theorem zF:Nm nLaw (ze sLaw):=nmk (by decide+kernel)
theorem scLaw:FnScope nLaw ["_law_script"] (ze sLaw):=fsk (by decide+kernel)
def qLawa (s:Stmt):Scope:=match s with
 | .For _ _ [_,_,_,_,_,(.If _ [_,(.Assign _ (.Call _ [(.ListComp _ _ sc _)] _ _) _),_,_,_] _ _),_,_] _ _=>sc
 | _=>nsc
abbrev cLawa:Scope:=qLawa ((zm sLaw).getD 0 (.Pass ⟨0,0,0,0⟩))
theorem bsLawa:BScope (ze sLaw) cLawa ["_law_sort"] ["_law_helped"] ["int"]:={okind:=by decide+kernel,kind:=by decide+kernel,nocell:=by decide+kernel,names:=by decide+kernel,fr:=by decide+kernel,ff:=by decide+kernel,nd:=by decide+kernel,vis:=by decide+kernel,loc:=by decide+kernel,gl:=by decide+kernel}
def qLawb (s:Stmt):Scope:=match s with
 | .For _ _ [_,_,_,_,_,(.If _ [_,_,(.Assign _ (.Tuple [_,(.Call _ [(.ListComp _ _ sc _)] _ _)] _ _) _),_,_] _ _),_,_] _ _=>sc
 | _=>nsc
abbrev cLawb:Scope:=qLawb ((zm sLaw).getD 0 (.Pass ⟨0,0,0,0⟩))
theorem bsLawb:BScope (ze sLaw) cLawb ["_law_one"] [] []:={okind:=by decide+kernel,kind:=by decide+kernel,nocell:=by decide+kernel,names:=by decide+kernel,fr:=by decide+kernel,ff:=by decide+kernel,nd:=by decide+kernel,vis:=by decide+kernel,loc:=by decide+kernel,gl:=by decide+kernel}
def Yt (K:W.Frag) (p1 p2:Addr):Sp:=fun vs H Q _=> ∃(a:Addr) (ns:List Int),vs=[.ref a]∧SqL K H a (ns.map V.int)∧ns.length≤63∧Tbs H p1 p2∧ ∀H',Q (.bl true) H'
theorem ok_Law{f:Addr}{fd:FuncData}(B:Bl mg)(fF:Has P w K mg base 1 "_law_feed" ["_law_script","_law_k"] (Y5 K))(fD:Has P w K mg base 1 "_law_draw" ["_law_feed_here","_law_many"] xA)(fP:Has P w K mg base 4 "_law_kept_pot" ["_law_feed_here"] Y4)(fL:Has P w K mg base 2 "_law_lowered" ["_law_feed_here","_law_pot_here"] spLw)(fC:Has P w K mg base 2 "_law_circled" ["_law_feed_here","_law_pot_here"] spCi)(fK:Has P w K mg base 7 "_law_kind" ["_law_pot_here"] (spKi p1 p2))(F:Fun K "law" "law" sLaw f fd):FnOk P w K mg base CX0 8 f fd ["_law_script"] (Yt K p1 p2):=by
 refine F.ok scLaw (fun vs H Q E h=>?_) (fun cdv A outer s H vs Q E hr h=>?_)
 ·obtain⟨a,ns,rfl,_⟩:=h;rfl
 obtain⟨a,ns,rfl,hS,hl,hT,k⟩:=h;refine'⟨_,?hb,?rd⟩
 case' hb=>skip
 case' hb=>refine' zd ?g1 ?g2
 case' g2=>refine' zj ?g3
 case' g1=>refine' yX PassesOwn.never rfl ?g4 (pgd zF 1) ?g5
 case g4=>exact yN B.range (pa_1 zg)
 case' g5=>refine' zd ?g6 ?g7
 case' g7=>refine' zd ?g8 ?g9
 case' g9=>refine' zd ?g10 ?g11
 case' g11=>refine' zd ?g12 ?g13
 case' g13=>refine' zd ?g14 ?g15
 case' g15=>refine' zd ?g16 ?g17
 case' g17=>refine' zd ?g18 ?g19
 case' g19=>refine' zj ?g20
 case g6=>exact zk zF 2 (pe_f fF hr (by decide) (pa_2 (pvd zF 0) (pvd zF 1)))
 case g8=>exact zk zF 3 (pe_f fP hr (by decide) (pa_1 (pvd zF 2)))
 case g10=>exact zk zF 4 xO
 case g12=>exact zk zF 5 (pe_f fD hr (by decide) (pa_2 (pvd zF 2) zg))
 case' g14=>refine' zY ?g21 ?g22 zC
 case g21=>exact zt xJ (pvd zF 5) zg (zv _)
 case' g22=>refine' zd ?g24 ?g25
 case' g25=>refine' zj ?g26
 case g24=>exact zk zF 3 (pe_f fL hr (by decide) (pa_2 (pvd zF 2) (pvd zF 3)))
 case g26=>exact zk zF 4 yY
 case' g16=>refine' zY ?g27 ?g28 zC
 case g27=>exact zt xJ (pvd zF 5) zg (zv _)
 case' g28=>refine' zd ?g30 ?g31
 case' g31=>refine' zd ?g32 ?g33
 case' g33=>refine' zd ?g34 ?g35
 case' g35=>refine' zd ?g36 ?g37
 case' g37=>refine' zj ?g38
 case g30=>exact zk zF 6 (pe_f fD hr (by decide) (pa_2 (pvd zF 2) (zU zq B.len PySem.boot_len (pa_1 (ziq (pvd zF 3) zg)))))
 case' g32=>refine' zk zF 7 ?g39
 case' g39=>refine' ya yd B.tuple PyProof.Rows.boot_tuple ?g40
 case' g40=>refine' pa_1 ?g41
 case' g41=>refine' zR (ix:=[6]) bsLawa.toCScope rfl rfl ?g42 ?g43 ?g44 ?g45
 case g42=>exact yN B.range (pa_1 (zU zq B.len PySem.boot_len (pa_1 (ziq (pvd zF 3) zg))))
 case g43=>exact fun _ _ _ _ _ _=>pgb bsLawa 0
 case g44=>exact fun _ _ _ _ _ _=>zB
 case g45=>exact fun _ _ _ _ _ _=>ya wX B.int PyProof.Rows.boot_int (pa_1 (xD xJ (pvb bsLawa 0) (pvb bsLawa 1) (zv _))) (bsLawa.g 0)
 case' g34=>refine' zk zF 8 ?g46
 case' g46=>refine' z0 ?g47
 case' g47=>refine' pa_2 (pvd zF 7) ?g48
 case' g48=>refine' ya yd B.tuple PyProof.Rows.boot_tuple ?g49
 case' g49=>refine' pa_1 ?g50
 case' g50=>refine' zR (ix:=[]) bsLawb.toCScope rfl rfl ?g51 ?g52 ?g53 ?g54
 case g51=>exact yC (pvd zF 7)
 case g52=>exact fun _ _ _ _ _ _=>pgb bsLawb 0
 case g53=>exact fun _ _ _ _ _ _=>zB
 case g54=>exact fun _ _ _ _ _ _=>zo xt zg (pvb bsLawb 0)
 case g36=>exact zk zF 3 (pe_f fC hr (by decide) (pa_2 (pvd zF 2) (pvd zF 3)))
 case' g38=>refine' zY ?g55 ?g56 zC
 case g55=>exact PW.pt (vx (zt xJ (pe_f fD hr (by decide) (pa_2 (pvd zF 2) zg)) zg (zv _)) (wx (zt x8 (zU zq B.len PySem.boot_len (pa_1 (ziq (pvd zF 3) zg))) zg (zv _))))
 case' g56=>refine' zd ?g58 ?g59
 case' g59=>refine' zj ?g60
 case g58=>exact zk zF 3 (zo xp (zo xp (yA xX (pvd zF 3) y4 (y3 zg)) (z0 (pa_1 (zo xp (ziq (pvd zF 3) zg) (z0 (pa_1 (pvd zF 8))))))) (yA xX (pvd zF 3) (y3 zg) y4))
 case g60=>exact zk zF 4 yY
 case g18=>exact zk zF 9 (pe_f fK hr (by decide) (pa_1 (pvd zF 3)))
 case' g20=>refine' zY ?g61 ?g62 zC
 case g61=>exact PW.pt (wZ (Zl (Xh (pvd zF 9))) (wZ (PW.pt (vx (Zl (YA (pvd zF 4))) (wx (zt xn (pvd zF 9) (pvd zF 4) (zv _))))) (vw (zt xn (pe_f fK hr (by decide) (pa_1 (pvd zF 3))) (pvd zF 9) (zv _)))))
 case' g62=>refine' zj ?g64
 case g64=>exact zy vT
 case g3=>exact zy vT
 walk_at"v";refine⟨_,rfl,by decide,by decide,?_⟩;refine yE (n:=10) (fun i σ H'=> ∃(u1 u2 u3 u4 u5 u6 u7 u8 u9:Option V),σ=[some (.ref a),u1,u2,u3,u4,u5,u6,u7,u8,u9]∧SameT p1 p2 H H'∧Tbs H' p1 p2) ⟨_,_,_,_,_,_,_,_,_,rfl,fun a u _ _ e=>e,hT⟩ ?_ ?_
 ·rintro i σ H1 hi ⟨u1,u2,u3,u4,u5,u6,u7,u8,u9,rfl,S1,T1⟩;have hS1:SqL K H1 a (ns.map V.int):=sql_keep hS fun u e hu=>S1.k hT _ _ e hu;rw[Int.zero_add];walk_at"v";refine⟨a,ns,i,rfl,hS1,hl,fun p x y z hp=>?_⟩;have F2:FeedAt (upd H1 p (.lst [.int x,.int y,.int z])) p:=FeedAt.here;have k2:Same H1 (upd H1 p (.lst [.int x,.int y,.int z])):=Same.new (Same.refl _) hp;generalize upd H1 p (.lst [.int x,.int y,.int z])=H2 at F2 k2 ⊢;have T2:=T1.same k2;walk_at"v";refine⟨p,rfl,F2,fun l H3 m tg P3 F3 b3=>?_⟩;have b3:=SB.but F3 b3;have m8:=P3.m8;have m0:=P3.m0;have hm0:(0:Int)<(m:Int):=by omega
  have hm2:(m:Int)<1000000:=by omega
  walk_at"v";refine wj F3 (by decide) (by decide) fun way H4 w0 w1 F4 b4=>?_;have b4:=b3.trans b4;have P4:PotK H4 l m tg:=P3.tk (tk6 (xx F3 (by assumption)));refine zM ?_;with_reducible refine wt (fun σ' H'=> ∃(l':Addr) (tg':Rows) (d:V),σ'=[some (.ref a),some (.int (i:Int)),some (.ref p),some (.ref l'),some d,some (.int way),u6,u7,u8,u9]∧FeedAt H' p∧SB p H2 H'∧PotK H' l' m tg'∧Due m tg' d∧(way=2→d= .non)) ?_ ?_
  ·rintro σ' H5 ⟨l5,tg5,d,rfl,F5,b5,P5,D5,w5⟩;with_reducible refine wt (fun σ' H'=> ∃(l':Addr) (tg':Rows) (d:V) (v6 v7 v8:Option V),σ'=[some (.ref a),some (.int (i:Int)),some (.ref p),some (.ref l'),some d,some (.int way),v6,v7,v8,u9]∧FeedAt H' p∧SB p H2 H'∧PotK H' l' m tg'∧Due m tg' d) ?_ ?_
   ·rintro σ' H6 ⟨l6,tg6,d6,v6,v7,v8,rfl,F6,b6,P6,D6⟩;have T6:Tbs H6 p1 p2:=tbs_sb T2 F2 b6;have S6:SameT p1 p2 H1 H6:=fun a u n1 n2 e=>b6.1 a u (zi e hp) (k2 _ _ e);walk_at"v";refine Yg P6 T6 fun H7 v S7 T7 hv=>?_;have P7:PotK H7 l6 m tg6:=P6.tk (S7.tk T6);walk_at"v";refine w_isN0 ?_;walk_at"v";refine yu (fun h=>by simp at h) (fun _=>?_);have nxt: ∀{H9:Hp},SameT p1 p2 H7 H9→SameT p1 p2 H H9:=fun S9 a u n1 n2 e=>S9 a u n1 n2 (S7 a u n1 n2 (S6 a u n1 n2 (S1 a u n1 n2 e)));walk_at"v";refine w_notN0 ?_;walk_at"v";rcases kf_due hv D6 with rfl | rfl
    ·refine yu (fun h=>by simp at h) (fun _=>?_);walk_at"v";refine Yg P7 T7 fun H9 u S9 T9 hu=>?_;have e:=Xr hv hu;subst e;walk_at"v";refine⟨rfl,_,rfl,?_⟩;refine yu (fun h=>by simp at h) (fun _=>?_);walk_at"v";exact⟨_,_,_,_,_,_,_,_,_,rfl,nxt S9,T9⟩
    ·refine yu (fun _=>?_) (fun h=>by simp at h);walk_at"v";refine⟨rfl,_,rfl,?_⟩;refine yu (fun h=>by simp at h) (fun _=>?_);walk_at"v";refine Yg P7 T7 fun H9 u S9 T9 hu=>?_;have e:=Xr hv hu;subst e;walk_at"v";refine⟨rfl,_,rfl,?_⟩;refine yu (fun h=>by simp at h) (fun _=>?_);walk_at"v";exact⟨_,_,_,_,_,_,_,_,_,rfl,nxt S9,T9⟩
   ·intro rest;walk_at"v";refine⟨rfl,?_⟩;walk_at"v";refine iteD (fun h2=>?_) (fun _=>?_)
    ·have hw2:way=2:=by injection h2
     have d0:=w5 hw2;subst d0;obtain⟨ps,pr,pin,pb,ans,rs,nmz,e1,e2,e3,e4,hR⟩:=P5.ex;walk_at"v";refine zN e1 rfl ?_;walk_at"v";refine⟨ps,_,rfl,.inr e2.sq,?_⟩;rw[List.length_map,e3];walk_at"v";refine wj F5 hm0 hm2 fun he H6 he0 he1 F6 b6=>?_;have t6:=xx F5 b6;obtain⟨hh,rfl⟩:=Nat.ofI he0;walk_at"v";refine zN (t6.t _ _ e1) rfl ?_;walk_at"v";refine⟨ps,_,rfl,.inr ((tk6 t6).tf e2).sq,?_⟩;rw[List.length_map,e3];walk_at"v";refine⟨_,rfl,by omega,by omega,fun D1 hD1=>?_⟩;rw[Int.toNat_natCast];refine ZB (fun j=>V.int (if j=hh then 1 else 0)) (by omega) hD1 (fun j hj H' K' R kR=>?_) (fun H7 K7 g7=>?_)
     ·walk_at"v";refine⟨rfl,?_⟩;walk_at"v";refine .inr ⟨_,rfl,?_⟩;have q:=kR _ (Same.refl _);by_cases z:j=hh
      ·rw[if_pos z] at q;rw[if_pos (decide_eq_true (by rw[z,Int.zero_add]))];exact q
      ·rw[if_neg z] at q;rw[if_neg (by rw[decide_eq_false]; exact Bool.false_ne_true; intro e; injection e with e; omega)];exact q
     have c7:(List.range m).map (fun j=>V.int (if j=hh then 1 else 0))=((List.range m).map fun j=>if j=hh then (1:Int) else 0).map V.int:=by rw[List.map_map]; rfl
     rw[c7] at g7;generalize hT1:((List.range m).map fun j=>if j=hh then (1:Int) else 0)=te at g7;have tel:te.length=m:=by rw[←hT1]; simp
     have teb: ∀x∈te,0≤x∧x≤1:=fun x hx=>by
      rw[←hT1] at hx;obtain⟨j,_,rfl⟩:=List.mem_map.mp hx;split<;>decide
     walk_at"v";refine⟨D1,_,rfl,g7,fun q1 H8 K8 g8=>?_⟩;walk_at"v";refine⟨q1,rfl,⟨_,SqT.of g8⟩,fun D2 hD2=>?_⟩;refine Yj (ws:=te) V.int (fun x=>V.int (2*x)) (SqT.of g8) (by omega) hD2 (fun x hx H' K' R kR=>?_) (fun H9 K9 g9=>?_)
     ·walk_at"v";have:=teb x hx;refine w_rI (mulL (by decide) (by decide)) ?_;exact kR _ (Same.refl _)
     walk_at"v";refine⟨D2,_,rfl,g9,fun q2 H10 K10 g10=>?_⟩;walk_at"v";refine⟨sz2,fun q3 h3=>?_⟩;obtain⟨H11,q,K11,g11⟩:=nob (.tup [.ref q1,.ref q2]) h3; rw[q]; clear q;have K611:=(((K7.trans K8).trans K9).trans K10).trans K11;have b11:=b6.trans (SB.same K611);have F11:=b11.2 F5;have hq3:RuA H11 m q3 (te,te.map (2* ·)):=⟨tel,by simp[tel],fun y hy=>by have:=teb y hy; omega,fun y hy=>by
      obtain⟨z,hz,rfl⟩:=List.mem_map.mp hy;have:=teb z hz;omega,q1,q2,g11,K11 _ _ (K10 _ _ (K9 _ _ g8)),by rw[K11 _ _ g10,List.map_map]; rfl⟩
     walk_at"v";refine⟨p,l5,m,tg5,rfl,F11,P5.tk (tk6 (xx F5 b11)),fun l6 H12 tg6 P6 F12 b12=>?_⟩;have b12':=(b5.trans b11).trans b12;have hq3:=hq3.tk (xx F11 b12);walk_at"v";refine wj F12 (by decide) (by decide) fun r H13 r0 r1 F13 b13=>?_;have b13':=b12'.trans b13;have t13:=xx F12 b13;have P6:=P6.tk (tk6 t13);have hq3:=hq3.tk t13;walk_at"v";refine⟨rfl,_,rfl,?_⟩;refine yu (fun _=>?_) (fun _=>?_)
     ·obtain⟨ps,pr,pin,pb,ans,rs,nmz,e1,e2,e3,e4,hR⟩:=P6.ex;have hrl:=hR.1;walk_at"v";refine zN e1 rfl ?_;walk_at"v";refine⟨pr,_,rfl,.inr (SqT.of e4),?_⟩;walk_at"v";refine iteD (fun h8=>?_) (fun _=>?_)
      ·have h8:rs.length<8:=by rw[List.length_map] at h8; omega
       with_reducible refine xg ?_
       with_reducible refine yL ?_
       refine w_potA (by rfl) (by rfl) e1 e4 (by simp) (by simp; omega) fun q6 q7 H14 K14 g14 g15=>?_;refine zM ?_;with_reducible refine yL ?_
       refine w_c ?_;refine zM ?_;obtain⟨zs,hzs⟩: ∃zs:List (Addr×(List Int×List Int)),zs=rs.zip tg6++[(q3,(te,te.map (2* ·)))]:=⟨_,rfl⟩;have zl:zs.map (·.1)=rs++[q3]:=by rw[hzs,List.map_append,List.map_fst_zip (by omega)]; rfl
       have zn:zs.length=rs.length+1:=by have:=congrArg List.length zl; simpa using this
       have P14:PotK H14 q6 m (zs.map (·.2)):=Zn g14 ((TK.same K14).tf e2) e3 (by rw[g15,zl,List.map_append]; rfl) (fun z hz=>by
        rw[hzs] at hz;rcases List.mem_append.mp hz with hz | hz
        ·exact(Zj hR z hz).tk (G2.TK.same K14)
        ·rw[List.mem_singleton.mp hz];exact hq3.tk (G2.TK.same K14)) (by omega) m8 m0
       refine rest _ _ ⟨q6,_,.str "round",_,_,_,rfl,F13.same K14,b13'.trans (SB.same K14),P14,.inr (.inr ⟨rfl,fun hs fl=>?_⟩)⟩;have hlo:=fl.lo rs.length (by simp[zn]);rw[zx (g:=fun j=>hs.getD j 0*te.getD j 0) fun j hj=>?_] at hlo
       ·have:=Y6 (n:=m) (f:=fun j=>hs.getD j 0*te.getD j 0) fun j _=>Int.mul_nonneg (YM fl.nn j) (YM (fun x hx=>(teb x hx).1) j);omega
       ·have ej:j<te.length:=by omega
        have ez:zs[rs.length]'(by omega)=(q3,(te,te.map (2* ·))):=by simp[hzs,List.getElem_append_right,List.length_zip,hrl]
        rw[XD (by omega),ez];congr 1;simp[List.getD_eq_getElem?_getD,ej];omega
      ·with_reducible refine yg ?_
       exact rest _ _ ⟨l6,tg6,.non,_,_,_,rfl,F13,b13',P6,.inl rfl⟩
     ·refine iteF ?_;with_reducible refine yg ?_
      exact rest _ _ ⟨l6,tg6,.non,_,_,_,rfl,F13,b13',P6,.inl rfl⟩
    ·with_reducible refine yg ?_
     exact rest _ _ ⟨l5,tg5,d,u6,u7,u8,rfl,F5,b5,P5,D5⟩
  ·intro rest;walk_at"v";refine⟨rfl,?_⟩;walk_at"v";refine iteD (fun h1=>?_) (fun _=>?_)
   ·have hw1:way=1:=by injection h1
    walk_at"v";refine⟨p,l,m,tg,rfl,F4,P4,fun l5 H5 tg5 hs P5 F5 b5 fl=>?_⟩;refine zM ?_;with_reducible refine yL ?_
    refine w_c ?_;refine zM ?_;exact rest _ _ ⟨l5,tg5,.str "falls",rfl,F5,b4.trans b5,P5,.inr (.inl ⟨rfl,fun ts h=>Xx fl h⟩),fun z=>by omega⟩
   ·with_reducible refine yg ?_
    exact rest _ _ ⟨l,tg,.non,rfl,F4,b4,P4,.inl rfl,fun _=>rfl⟩
 ·rintro σ H1 ⟨u1,u2,u3,u4,u5,u6,u7,u8,u9,rfl,S1,T1⟩;walk_at"v";exact k _
end
end K16
namespace L2
open PySem PySem.Spec PyProof.Rows
section
variable {P:Program} {w:World} {K:W.Frag} {mg:Str→Option Value} {base h:Heap} {x:Str} {st:Stmt} {ps:List Str}
theorem FnAt.lawT{l:PySem.W.OpenLaw}{k:Nat}{sp:Sp}{fa:Addr}{a:Str}{tabs:List (Addr×Addr)}(A:FnAt K x st)(X:K.In h)(G:h.Ns mainGlobals mg)(hfa:mg x=some (.ref fa))
  (b: ∀(kV doc pm:Value) (an:Option Addr) (cdv ct:Value) (s:Shared) (v:Value),BindsTo s (PySem.W.fnOf x x (zS st) (zm st) (ze st) .none kV doc pm an cdv ct) ⟨[v],[]⟩ [(a,v)])
  (ok: ∀base:Heap,K.In base→base.Ns mainGlobals mg→base.NoSeer→(∀q∈tabs,PySem.W.CodeHd base q.1 q.2)→BmIn mg base→ ∀{f fd},Fun K x x st f fd→FnOk l.prog w K mg base CX0 k f fd [a] sp):
  ∃fd:FuncData,(∀(s:Shared) (v:Value),BindsTo s fd ⟨[v],[]⟩ [(a,v)])∧ ∀base:Heap,K.In base→base.Ns mainGlobals mg→base.NoSeer→(∀q∈tabs,PySem.W.CodeHd base q.1 q.2)→BmIn mg base→FnOk l.prog w K mg base CX0 k fa fd [a] sp:=by
 obtain⟨f,oc,od,kV,doc,pm,an,cdv,ct,osl,e,l,c,k⟩:=A;cases hfa.symm.trans (PySem.W.mg_of X G e)
 exact⟨_,b _ _ _ _ _ _,fun base h1 h2 h3 h4 h5=>ok base h1 h2 h3 h4 h5 (Zv (st:=st) l c k)⟩
end
theorem YG: ∀{K:W.Frag},K.lookup a=some o→(K++T).lookup a=some o
 | [],e=>by cases e
 | p::K,e=>by
  simp only[List.cons_append,List.lookup] at e ⊢;split
  ·rename_i h; rw[h] at e; exact e
  ·rename_i h; rw[h] at e; exact YG e
theorem in_app{K T:W.Frag}{h:Heap}(x:W.Frag.In (K++T) h):K.In h:=fun a o e=>x a o (YG e)
theorem TabAt.nil(h:H p=some (.tbl #[])):TabAt H p q:=⟨#[],h,trivial,fun _ _ e=>by cases e⟩
theorem X4{K:W.Frag}(x:K.In h)(e:K.lookup c=some o)(a1:o.cls= .type "code")(a2:o.data= .fields vs)(a3:vs[11]? =some (.ref p))(a4:vs.getD 11 .none= .ref p)(a5:vs.getD 18 .none= .str file tf)
  (a6:vs.getD 7 .none= .int fl tg) (a7:vs.getD 9 .none= .bool i) (a8:vs.getD 10 .none= .int te tt) (a9:c≠p):PySem.W.CodeHd h c p:=⟨o,vs,file,tf,fl,tg,i,te,tt,x c o e,a1,a2,a3,a4,a5,a6,a7,a8,a9⟩
end L2
namespace K16
open PySem L2 G2
abbrev tbs:List (Addr×Addr):=[(42,40),(54,52)]
set_option maxHeartbeats 0 in
theorem all_mk{l:PySem.W.OpenLaw}{w:World}{K:W.Frag}{h:Heap}{mg:Str→Option Value}{fa:Addr}{C:Addr}(X:K.In h)(G:h.Ns mainGlobals mg)(hfa:mg "law"=some (.ref fa))
  (a1:FnAt K "_law_draw" Y8) (a2:FnAt K "_law_feed" Y7) (a3:FnAt K "_law_names" wP) (a4:FnAt K "_law_rule" wu) (a5:FnAt K "_law_pot" sPot) (a6:FnAt K "_law_kept_pot" vt) (a7:FnAt K "_law_changes" sChg) (a8:FnAt K "_law_dot" sDot) (a9:FnAt K "common_divisor" sCq) (a10:FnAt K "without_divisor" sWd) (a11:FnAt K "sorts_rows" sSr) (a12:FnAt K "rules_rows" sRr) (a13:FnAt K "falls" sFa) (a14:FnAt K "_law_lowered" sLw) (a15:FnAt K "_law_circled" sCi) (a16:FnAt K "_law_is_round" sIr) (a17:FnAt K "_law_kind" sKi) (a18:FnAt K "weighed" sWg) (a19:FnAt K "law" sLaw)
  (z1:NoIn K "len") (z2:NoIn K "range") (z3:NoIn K "tuple") (z4:NoIn K "int") (z5:NoIn K "bool") (z6:NoIn K "list") (z7:NoIn K "str") (z8:NoIn K "all") (z9:NoIn K "any") (z10:NoIn K "isinstance") (z11:NoIn K "repr") (z12:NoIn K "zip") (z13:NoIn K "min") (z14:NoIn K "max") (z15:NoIn K "sum") (z16:NoIn K "enumerate") (z17:NoIn K "sorted") (z18:NoIn K "set") (z19:NoIn K "dict") (z20:NoIn K "abs")
  (g1:IntIn K "QUICK_TURNS" (200)) (g2:IntIn K "SORTS" (0)) (g3:IntIn K "RULES" (1)) (g4:IntIn K "TAKES" (0)) (g5:IntIn K "GIVES" (1))
  (cna:PySem.W.nsIn K mainGlobals "Tableau"=some (some (.ref C)))
  (D:ClsIn K C)
  (cf1:NoAttr K C "many")
  (cf2:NoAttr K C "bottom")
  (cf3:NoAttr K C "rows")
  (cf4:NoAttr K C "row_unknowns")
  (cf5:NoAttr K C "column_unknowns")
  (cf6:NoAttr K C "turns")
  (c0:MthAt K C "is_low" "Tableau.is_low" sLo)
  (c1:MthAt K C "is_sought" "Tableau.is_sought" sSo)
  (c2:MthAt K C "__init__" "Tableau.__init__" sTi)
  (c3:MthC K C "low_row" "Tableau.low_row" sLr 42)
  (c4:MthC K C "column_for" "Tableau.column_for" sCf 54)
  (c5:MthAt K C "turned" "Tableau.turned" sTd)
  (c6:MthAt K C "turn" "Tableau.turn" sTn)
  (c7:MthAt K C "met" "Tableau.met" sMe)
  (c8:MthAt K C "borne" "Tableau.borne" sBo):
  ∃fd:FuncData,(∀(s:Shared) (v:Value),BindsTo s fd ⟨[v],[]⟩ [("_law_script",v)])∧ ∀base:Heap,K.In base→base.Ns mainGlobals mg→base.NoSeer→(∀q∈tbs,PySem.W.CodeHd base q.1 q.2)→BmIn mg base→FnOk l.prog w K mg base CX0 8 fa fd ["_law_script"] (Yt K 40 52):=by
 replace z1:=z1.get X G;replace z2:=z2.get X G;replace z3:=z3.get X G;replace z4:=z4.get X G;replace z5:=z5.get X G;replace z6:=z6.get X G;replace z7:=z7.get X G;replace z8:=z8.get X G;replace z9:=z9.get X G;replace z10:=z10.get X G;replace z11:=z11.get X G;replace z12:=z12.get X G;replace z13:=z13.get X G;replace z14:=z14.get X G;replace z15:=z15.get X G;replace z16:=z16.get X G;replace z17:=z17.get X G;replace z18:=z18.get X G;replace z19:=z19.get X G;replace z20:=z20.get X G;replace g1:=g1.get X G;replace g2:=g2.get X G;replace g3:=g3.get X G;replace g4:=g4.get X G;replace g5:=g5.get X G;have R:TC K C:=⟨D.c,cf1,cf2,cf3,cf4,cf5,cf6⟩;have B:L2.Bl mg:=⟨z1,z2,z3,z4,z5,z6,z7,z8,z9,z10,z11,z12,z13,z14,z15,z16,z17,z18,z19,z20⟩;have B1:Blt mg:=⟨z1,z2,z3,z4⟩;have B2:Blt2 mg:=⟨B1,z6,z13⟩;have BK:BltK mg:=⟨B2,z12,z15,z11,z16⟩;have Z:KZ mg:=⟨g2,g3,g4,g5⟩;refine a19.lawT X G hfa (fun _ _ _ _ _ _ _ _=> .of_eq rfl) fun base _ _ hN hTb hBm {f fd} F=>?_;have hs: ∀{x st k ps sp},FnAt K x st→(∀(kV doc pm:Value) (an:Option Addr) (cdv ct:Value) (us:List Value),us.length=ps.length→bindArgs (PySem.W.fnOf x x (zS st) (zm st) (ze st) .none kV doc pm an cdv ct) ⟨us,[]⟩=pure (ps.zip us))→(∀{f fd},Fun K x x st f fd→FnOk l.prog w K mg base CX0 k f fd ps sp)→Has l.prog w K mg base k x ps sp:=fun a b c=>a.has X G b c;have Hdraw:=hs a1 (fun _ _ _ _ _ _ us hl=>match us,hl with | [_,_],_=>rfl) (ok_draw);have HCi:=hs a15 (fun _ _ _ _ _ _ us hl=>match us,hl with | [_,_],_=>rfl) (ok_Ci B Hdraw);have Hnames:=hs a3 (fun _ _ _ _ _ _ us hl=>match us,hl with | [_,_],_=>rfl) (ok_names z2 Hdraw);have Hrule:=hs a4 (fun _ _ _ _ _ _ us hl=>match us,hl with | [_,_],_=>rfl) (ok_rule B1 Hdraw);have Hpot:=hs a5 (fun _ _ _ _ _ _ us hl=>match us,hl with | [_],_=>rfl) (ok_pot B2 Hdraw Hnames Hrule);have HKept:=hs a6 (fun _ _ _ _ _ _ us hl=>match us,hl with | [_],_=>rfl) (ok_Kept BK Hdraw Hpot);have HChg:=hs a7 (fun _ _ _ _ _ _ us hl=>match us,hl with | [_],_=>rfl) (ok_Chg BK);have HDot:=hs a8 (fun _ _ _ _ _ _ us hl=>match us,hl with | [_,_],_=>rfl) (ok_Dot BK);have HRr:=hs a12 (fun _ _ _ _ _ _ us hl=>match us,hl with | [_],_=>rfl) (ok_Rr B Z);have HSr:=hs a11 (fun _ _ _ _ _ _ us hl=>match us,hl with | [_],_=>rfl) (ok_Sr B);have HCq:=hs a9 (fun _ _ _ _ _ _ us hl=>match us,hl with | [_],_=>rfl) (ok_Cq B);have HWd:=hs a10 (fun _ _ _ _ _ _ us hl=>match us,hl with | [_],_=>rfl) (ok_Wd B HCq);have HCd:=hs a9 (fun _ _ _ _ _ _ us hl=>match us,hl with | [_],_=>rfl) (ok_Cd B);have MBo:=c8.has (P:=l.prog) (w:=w) (mg:=mg) (base:=base) D (fun _ _ _ _ _ _ us hl=>match us,hl with | [_,_],_=>rfl) (ok_Bo R B HCd);have MSo:=c1.has (P:=l.prog) (w:=w) (mg:=mg) (base:=base) D (fun _ _ _ _ _ _ us hl=>match us,hl with | [_,_],_=>rfl) (ok_So R);have MCf:=c4.has (P:=l.prog) (w:=w) (mg:=mg) (base:=base) D (fun _ _ _ _ _ _ us hl=>match us,hl with | [_,_],_=>rfl) (ok_Cf R B (hTb (54,52) (by simp)) hBm g1 MSo);have MLo:=c0.has (P:=l.prog) (w:=w) (mg:=mg) (base:=base) D (fun _ _ _ _ _ _ us hl=>match us,hl with | [_,_],_=>rfl) (ok_Lo R);have MLr:=c3.has (P:=l.prog) (w:=w) (mg:=mg) (base:=base) D (fun _ _ _ _ _ _ us hl=>match us,hl with | [_],_=>rfl) (ok_Lr R B (hTb (42,40) (by simp)) hBm g1 MLo);have MMe:=c7.has (P:=l.prog) (w:=w) (mg:=mg) (base:=base) D (fun _ _ _ _ _ _ us hl=>match us,hl with | [_],_=>rfl) (ok_Me R B HCd);have HK:=c2.make (P:=l.prog) (w:=w) (base:=base) D X G cna (fun _ _ _ _ _ _ us hl=>match us,hl with | [_,_,_],_=>rfl) (ok_Ti R B);have MTd:=c5.has (P:=l.prog) (w:=w) (mg:=mg) (base:=base) D (fun _ _ _ _ _ _ us hl=>match us,hl with | [_,_,_,_,_],_=>rfl) (ok_Td R B);have MTn:=c6.has (P:=l.prog) (w:=w) (mg:=mg) (base:=base) D (fun _ _ _ _ _ _ us hl=>match us,hl with | [_,_,_],_=>rfl) (ok_Tn R B MTd);have HWg:=hs a18 (fun _ _ _ _ _ _ us hl=>match us,hl with | [_,_],_=>rfl) (ok_Wg (by decide) B HK MLr MCf MTn MMe MBo);have HFa:=hs a13 (fun _ _ _ _ _ _ us hl=>match us,hl with | [_],_=>rfl) (ok_Fa B Z HWg HSr HRr HWd);have HIr:=hs a16 (fun _ _ _ _ _ _ us hl=>match us,hl with | [_,_],_=>rfl) (ok_Ir B HDot);have HKi:=hs a17 (fun _ _ _ _ _ _ us hl=>match us,hl with | [_],_=>rfl) (ok_Ki B HDot HFa HIr HChg);have HLw:=hs a14 (fun _ _ _ _ _ _ us hl=>match us,hl with | [_,_],_=>rfl) (ok_Lw B Hdraw HDot);have Hfeed:=hs a2 (fun _ _ _ _ _ _ us hl=>match us,hl with | [_,_],_=>rfl) (ok_feed z1);exact ok_Law B Hfeed Hdraw HKept HLw HCi HKi  F
theorem walk{l:PySem.W.OpenLaw}{XP:(Str→Option Value)→Heap→Prop}{YP:World→Heap→Prop}{d:DefRec}{K:Params→W.Frag}(hi:PyProof.Rows.importsNone q=true)(hn:l.most=some 63)(hdf:d.params.defaults=[])
  (hY: ∀(w:World) (h:Heap),YP w h→(K w.params).In h) (hYT: ∀(w:World) (h:Heap),YP w h→PySem.W.TabsAt tbs h) (hKT: ∀P,PySem.W.noTabs (K P)=true)
  (F: ∀(w:World) (mg:Str→Option Value) (fa:Addr) (h:Heap),(K w.params).In h→h.Ns mainGlobals mg→mg d.name=some (.ref fa)→
   ∃fd:FuncData,(∀(s:Shared) (u:Value),BindsTo s fd ⟨[u],[]⟩ [("_law_script",u)])∧ ∀base:Heap,(K w.params).In base→base.Ns mainGlobals mg→base.NoSeer→(∀q∈tbs,PySem.W.CodeHd base q.1 q.2)→BmIn mg base→FnOk l.prog w (K w.params) mg base CX0 8 fa fd ["_law_script"] (Yt (K w.params) 40 52)):
  PySem.W.WalkO q loose XP YP l.row.toRowW d [] (fun f vs=>PySem.call f vs):=
 L2.walk_ofT (n:=63) (k:=8) (x:="_law_script") (CX:=fun _=>CX0) (sp:=fun w=>Yt (K w.params) 40 52) (tabs:=tbs) hn (by decide) hdf ⟨rfl,by decide,by decide,rfl⟩ hi hY hYT hKT F (fun _ H a ns hl hO hT hS=>⟨a,ns,rfl,hS,hl,⟨TabAt.nil (hT (42,40) (by simp)),TabAt.nil (hT (54,52) (by simp))⟩,fun _=>rfl⟩) fun _ _ _ _ _ z=>z
theorem noT: ∀P,PySem.W.noTabs (KK P)=true:=fun _=>by kernel_rfl
theorem tabT(x:(KT P).In h):PySem.W.TabsAt tbs h:=fun q hq=>by
 simp only[tbs,List.mem_cons,List.not_mem_nil,or_false] at hq;rcases hq with rfl | rfl
 ·exact⟨X4 (o:=cO "low_row" 236 "Tableau.low_row" 237 238 30 1 3 (.ref 39) (.ref 40) .none .none (.ref 41) 239 240) x (by kernel_rfl) rfl rfl rfl rfl rfl rfl rfl rfl (by decide),x _ _ (by kernel_rfl)⟩
 ·exact⟨X4 (o:=cO "column_for" 250 "Tableau.column_for" 251 252 39 2 3 (.ref 51) (.ref 52) .none .none (.ref 53) 253 254) x (by kernel_rfl) rfl rfl rfl rfl rfl rfl rfl rfl (by decide),x _ _ (by kernel_rfl)⟩
end K16
open PySem PySem.W PyProof.Rows
set_option maxRecDepth 100000 in
set_option maxHeartbeats 0 in
theorem PySem.Challenge.cw_dropsums_k16_falls_or_a_round_holds : PySem.Challenge.rw_dropsums_k16_falls_or_a_round.Holds := by
 w_on
 refine PySem.W.holds_law K16.said0 fun said=>?_;refine PySem.W.holds_open (q:=K16.VW) (loose:=[]) (Xt:=fun s=>PySem.W.xlAt K16.VW [] s&&PySem.W.recOk (PySem.W.RowW.records K16.RR.toRowW) s) (XP:=PySem.W.XL K16.VW []) (Yf:=PySem.W.Hook.obs (PySem.W.kHook K16.KT K16.KA K16.ke)) (Ya:=PySem.W.Hook.val (PySem.W.kHook K16.KT K16.KA K16.ke)) (YP:=PySem.W.Hook.says (PySem.W.kHook K16.KT K16.KA K16.ke)) (N:=2278) K16.left0 (PySem.W.Hook.of _) (PySem.W.Hook.keeps _) (fun s e=>PySem.W.xl_of s (Bool.and_eq_true_iff.mp e).1) PySem.W.XL.keeps (by rfl) (by rfl) (by rfl) (fun s e=>PySem.W.recFacts_of (Bool.and_eq_true_iff.mp e).2) (by rfl) said (by decide+kernel) ⟨rfl,rfl,rfl,rfl,rfl,by decide+kernel⟩ ?hw ?hc
 case hw=>w_witness2
 refine K16.walk (l:=PySem.Challenge.rw_dropsums_k16_falls_or_a_round) (K:=K16.KK) (by rfl) rfl rfl (fun w h Y=>L2.in_app (PySem.W.kIn_of Y)) (fun w h Y=>K16.tabT (PySem.W.kIn_of Y)) K16.noT ?F
 case F=>
  k_fill
  intro w mg fa h KX G hmg;refine' K16.all_mk KX G hmg ?a1 ?a2 ?a3 ?a4 ?a5 ?a6 ?a7 ?a8 ?a9 ?a10 ?a11 ?a12 ?a13 ?a14 ?a15 ?a16 ?a17 ?a18 ?a19 ?z1 ?z2 ?z3 ?z4 ?z5 ?z6 ?z7 ?z8 ?z9 ?z10 ?z11 ?z12 ?z13 ?z14 ?z15 ?z16 ?z17 ?z18 ?z19 ?z20 ?g1 ?g2 ?g3 ?g4 ?g5 ?cna ?D ?cf1 ?cf2 ?cf3 ?cf4 ?cf5 ?cf6 ?c0 ?c1 ?c2 ?c3 ?c4 ?c5 ?c6 ?c7 ?c8
  all_goals first | exact L2.fnAt (by k_is) (by k_is) (by k_is) (by k_is) | exact L2.noIn (by k_is) | exact L2.intIn (by k_is) | exact L2.clsIn (by k_is) (by k_is) (by k_is) (by k_is) (by k_is) (by k_is) | exact L2.noAttr (by k_is) | exact L2.mthAt (by k_is) (by k_is) (by k_is) (by k_is) (by k_is) | exact L2.mthC (by k_is) (by k_is) (by k_is) (by k_is) (by k_is) | k_is | skip
