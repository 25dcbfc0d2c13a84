import PyProof.Rows.All
import KE.KIntText
import KE.KSortAsk
import KE.IntBitsLaws
import KE.KIsAll
import KE.KDictList
import KE.KRevSl
import KE.KSortTup
import KE.KRevIter
import PySem.Challenge.RW_dropsums_k30_shapes_of_papers
local macro_rules | `(term| nofun) => `(term| by decide +kernel)
section
open PySem PySem.Spec PyProof.Rows
abbrev γ:=@wpAny_bind
abbrev δ:=@Heap.get?_push_of_some
abbrev ε:=@wpAny_pure
abbrev ζ:=@List.mem_cons_of_mem
abbrev η:=@Nat.le_trans
abbrev θ:=@Nat.lt_of_lt_of_le
abbrev ι:=@Heap.lt_size
abbrev μ:=@Nat.le_refl
abbrev ν:=@List.mem_singleton
abbrev ξ:=@List.mem_cons_self
abbrev ο:=@Heap.get?_push_size
abbrev π:=@List.mem_map
abbrev υ:=@List.getD_eq_getElem?_getD
abbrev χ:=@List.getElem?_eq_getElem
abbrev ψ:=@List.size_toArray
abbrev ω:=@List.length_map
abbrev Α:=@Option.some.inj
abbrev Β:=@List.mem_of_getElem?
abbrev Γ:=@List.mem_append
abbrev Δ:=@Bool.false_ne_true
abbrev Ε:=@List.mem_cons
abbrev Ζ:=@decide_eq_false
abbrev Η:=@List.getElem?_eq_some_iff
abbrev Θ:=@Nat.zero_le
abbrev Ι:=@Nat.ne_of_lt
abbrev Κ:=@wpAny_field
abbrev Λ:=@Nat.lt_irrefl
abbrev Μ:=@List.mem_append_right
abbrev Ν:=@List.getElem?_map
abbrev Ξ:=@List.length_append
abbrev Ο:=@List.lookup_cons
abbrev Ρ:=@List.getElem_mem
abbrev Τ:=@List.mem_range
abbrev Υ:=@Nat.le_of_lt
abbrev Φ:=@Heap.size_push
abbrev Χ:=@Nat.ne_of_gt
abbrev Ψ:=@List.mem_append_left
abbrev Ω:=@List.map_map
end
local macro_rules | `(tactic| show $t) => `(tactic| refine $t)
local macro_rules | `(tactic| exists $t:term) => `(tactic| simpa using $t)
local macro_rules | `(term| ∅) => `(term| by lia)
local macro_rules | `(term| ⋯) => `(term| by decide)
local macro_rules | `(term| Sort) => `(term| by simp)
local macro_rules | `(term| ⇑$s) => `(term| ($s).heap.objs.size)
local macro_rules | `(tactic| ac_rfl) => `(tactic| refine $(Lean.mkIdent `br_i) (λ$(Lean.mkIdent `e)=>?_) λ$(Lean.mkIdent `e)=>?_)
local macro_rules | `(tactic| rfl') => `(tactic| refine ⟨_,rfl,?_⟩)
theorem nn{α}{x:α}{P:Prop}(h:none=some x):P:=nomatch h
abbrev VSP:=PySem.Value->PySem.Shared->Prop
set_option autoImplicit true
set_option relaxedAutoImplicit true
set_option compiler.extract_closed false
def sz0:0<=PySem.sizeLine:=by decide
def sz1:1<=PySem.sizeLine:=by decide
def sz2:2<=PySem.sizeLine:=by decide
def sz3:3<=PySem.sizeLine:=by decide
def sz4:4<=PySem.sizeLine:=by decide
def sz5:5<=PySem.sizeLine:=by decide
def sz6:6<=PySem.sizeLine:=by decide
set_option Elab.async false
set_option linter.all false
set_option maxRecDepth 100000
set_option maxHeartbeats 4000000
def sz7:7<=PySem.sizeLine:=by decide
namespace L2
open PySem PySem.Spec PyProof.Rows
abbrev Key:=Sum Int Str
def Zm:Key->Value->Bool
 | .inl k,v=>Value.isInt k v
 | .inr x,v=>Value.isStrOf x v
def keyH (w:World):Key->Int
 | .inl k=>hashInt k
 | .inr x=>hashStr w x
theorem zH: ∀{k:Key} {v:Value},Zm k v=true->(∃i t,k=Sum.inl i/\v=Value.int i t)\/(∃x t,k=Sum.inr x/\v=Value.str x t)
 | .inl i,v,h=>by
  obtain⟨t,e⟩:=Value.isInt_shape (k:=i) (v:=v) h;show .inl ⟨i,t,rfl,e⟩
 | .inr x,v,h=>by
  obtain⟨t,e⟩:=Value.isStrOf_shape (x:=x) (v:=v) h;show .inr ⟨x,t,rfl,e⟩
def keyIs_int(i:Int)(t:Tok):Zm (.inl i) (.int i t)=true:=by simp[Zm,Value.isInt]
def keyIs_str(x:Str)(t:Tok):Zm (.inr x) (.str x t)=true:=by simp[Zm,Value.isStrOf]
def key_ll(a b:Int):decide ((Sum.inl a:Key)=Sum.inl b)=(a==b):=by
 by_cases e:a=b
 .subst e;simp
 .have h: ¬(Sum.inl a:Key)=Sum.inl b:=λq=>e (Sum.inl.inj q);rw[Ζ h];show(beq_eq_false_iff_ne.mpr e).symm
def key_rr(a b:Str):decide ((Sum.inr a:Key)=Sum.inr b)=decide (a=b):=by
 by_cases e:a=b
 .subst e;simp
 .have h: ¬(Sum.inr a:Key)=Sum.inr b:=λq=>e (Sum.inr.inj q);rw[Ζ h,Ζ e]
def key_lr(a:Int)(b:Str):decide ((Sum.inl a:Key)=Sum.inr b)=false:=Ζ (λq=>nomatch q)
def key_rl(a:Str)(b:Int):decide ((Sum.inr a:Key)=Sum.inl b)=false:=Ζ (λq=>nomatch q)
def zG (prog:Program) (w:World):PySem.KeyKind prog w Key where
 is:=Zm
 hash:=keyH w
 inj:=λv a b ha hb=>by
  rcases zH ha with ⟨i,t,rfl,rfl⟩ | ⟨x,t,rfl,rfl⟩
  .rcases zH hb with ⟨j,u,rfl,e⟩ | ⟨y,u,rfl,e⟩
   .injection e with e1 _;rw[e1]
   .show nomatch e
  .rcases zH hb with ⟨j,u,rfl,e⟩ | ⟨y,u,rfl,e⟩
   .show nomatch e
   .injection e with e1 _;rw[e1]
 byValue:=λk v h=>by
  rcases zH h with ⟨i,t,rfl,rfl⟩ | ⟨x,t,rfl,rfl⟩<;>rfl
 pyHash:=λhv h=>by
  rcases zH hv with ⟨i,t,rfl,rfl⟩ | ⟨x,t,rfl,rfl⟩
  .show wpAny_pyHash_int h
  .show wpAny_pyHash_str h
 eqBool:=λhu hv h=>by
  rcases zH hu with ⟨i,t,rfl,rfl⟩ | ⟨x,t,rfl,rfl⟩
  .rcases zH hv with ⟨j,u,rfl,rfl⟩ | ⟨y,u,rfl,rfl⟩
   .rw[key_ll] at h;show wpAny_eqBool_int h
   .rw[key_lr] at h;show SeqAt.EqAt.int_str i t y u _ _ _ _ h
  .rcases zH hv with ⟨j,u,rfl,rfl⟩ | ⟨y,u,rfl,rfl⟩
   .rw[key_rl] at h;show SeqAt.EqAt.str_int x t j u _ _ _ _ h
   .rw[key_rr] at h;show wpAny_eqBool_str h
 «strs»:=λk x t v h=>by
  rcases zH h with ⟨i,u,rfl,e⟩ | ⟨y,u,rfl,e⟩
  .show nomatch e
  .injection e with e1 _
   subst e1;cases v<;>rfl
def mixKind_int(prog:Program)(w:World)(i:Int)(t:Tok):(zG prog w).is (.inl i) (.int i t)=true:=keyIs_int i t
def mixKind_str(prog:Program)(w:World)(x:Str)(t:Tok):(zG prog w).is (.inr x) (.str x t)=true:=keyIs_str x t
inductive V where
 | non | bl (b:Bool) | int (i:Int) | str (x:Str) | byt (b:Array UInt8) | flt (b:UInt64) | ref (a:Addr) | ty (n:String)
 deriving DecidableEq
def RelV:V->Value->Prop
 | .non,u=>u=Value.none
 | .bl b,u=>u=Value.bool b
 | .int i,u=> ∃t,u=Value.int i t
 | .str x,u=> ∃t,u=Value.str x t
 | .byt b,u=> ∃t,u=Value.bytes b t
 | .flt b,u=> ∃t,u=Value.float b t
 | .ref a,u=>u=Value.ref a
 | .ty n,u=>u=Value.type n
abbrev Vals:List V->List Value->Prop:=Paired RelV
def Vals.length(r:Vals xs us):xs.length=us.length:=Paired.length r
theorem Vals.get: ∀{xs:List V} {us:List Value} {i:Nat} {x:V},Vals xs us->xs[i]? =some x-> ∃u,us[i]? =some u/\RelV x u
 | _,_,_,_,.nil,e=>by simp at e
 | _,_,0,_,.cons r _,e=>by simp at e;subst e;show⟨_,rfl,r⟩
 | _,_,i+1,x,.cons _ t,e=>by
  obtain⟨u,h1,h2⟩:=Vals.get (i:=i) (x:=x) t (by exists e);show⟨u,by simpa using h1,h2⟩
theorem Vals.set(r:RelV x u): ∀{xs:List V} {us:List Value} (i:Nat),Vals xs us->Vals (xs.set i x) (us.set i u)
 | _,_,_,.nil=> .nil
 | _,_,0,.cons _ t=> .cons r t
 | _,_,i+1,.cons q t=> .cons q (Vals.set r i t)
theorem Vals.append: ∀{xs ys:List V} {us ws:List Value},Vals xs us->Vals ys ws->Vals (xs++ys) (us++ws)
 | _,_,_,_,.nil,s=>s
 | _,_,_,_,.cons r t,s=> .cons r (Vals.append t s)
theorem Vals.take: ∀{xs:List V} {us:List Value} (n:Nat),Vals xs us->Vals (xs.take n) (us.take n)
 | _,_,0,_=> .nil
 | _,_,_+1,.nil=> .nil
 | _,_,n+1,.cons r t=> .cons r (Vals.take n t)
theorem Vals.drop: ∀{xs:List V} {us:List Value} (n:Nat),Vals xs us->Vals (xs.drop n) (us.drop n)
 | _,_,0,r=>r
 | _,_,_+1,.nil=> .nil
 | _,_,n+1,.cons _ t=>Vals.drop n t
def RelO:Option V->Option Value->Prop
 | some v,some u=>RelV v u
 | none,none=>True
 | _,_=>False
def KV {κ:Type}:List (κ×V)->List (κ×Value)->Prop:=Paired fun(p:κ×V) (q:κ×Value)=>p.1=q.1/\RelV p.2 q.2
def kV:Key->V
 | .inl i=> .int i
 | .inr x=> .str x
inductive HO where
 | lst (xs:List V)
 | tup (xs:List V)
 | dK (kvs:List (Key×V)) | dT (kvs:List (List Key×V))
 | set (S:Int->Bool) (n:Nat)
 | ins (C dx:Addr) (fs:List (Str×V))
 | own (x:Addr)
 | xd (fs:List (Str×V))
 | met (f x:Addr)
 | rng (lo hi:Int)
 | frz (o:Obj) (u:HO)
 | tbl (ps:Array Value)
 | ext (φ:Heap->Prop)
abbrev Hp:=Addr->Option HO
def upd (H:Hp) (a:Addr) (o:HO):Hp:=λb=>if b=a then some o else H b
def zj:upd H a o a=some o:=by unfold upd;rw[if_pos rfl]
def zi(h:b≠a):upd H a o b=H b:=by unfold upd;rw[if_neg h]
def upd_upd:upd (upd H a o) a u=upd H a u:=by
 funext b;unfold upd;split<;>rfl
def Vw{H:Hp}{a b:Addr}{o u:HO}(h:H a=some o)(h':H b=some u)(d:o≠u):a≠b:=by
 intro e;subst e;rw[h] at h';show d (Α h')
def zg{H:Hp}{a b:Addr}{o:HO}(h:H a=some o)(h':H b=none):a≠b:=by
 intro e;subst e;rw[h] at h';cases h'
section
variable (P:Program)(w:World)
def ObjOk (H:Hp) (h:Heap) (a:Addr):HO->Prop
 | .lst xs=>xs.length<=sizeLine/\ ∃(its:List Value) (n:Nat),Vals xs its/\h.get? a=some {cls:= .type "list",data:= .seq its.toArray n}
 | .tup xs=>xs.length<=sizeLine/\ ∃its:List Value,Vals xs its/\IsTup h a its.toArray
 | .dK kvs=>kvs.length<=sizeLine/\(a==sysModules)=false/\ ∃vs,KV kvs vs/\h.DictOf (zG P w) a vs
 | .dT kvs=>kvs.length<=sizeLine/\(a==sysModules)=false/\ ∃xs:List (List Key×Addr×Value),
   Paired (fun(p:List Key×V) (q:List Key×Addr×Value)=>p.1=q.1/\H q.2.1=some (.tup (p.1.map kV))/\RelV p.2 q.2.2) kvs xs/\
   ∃o es ep,h.get? a=some o/\o.ExactDict/\o.data= .dict es ep/\es.toList=xs.map (entryOfKey (tupleKind (zG P w)))/\(xs.map (·.1)).Nodup
 | .set S n=>h.SetOf (intKind P w) a S n
 | .ins C dx fs=>H dx=some (.own a)/\fs.length<=1000/\dx≠a/\h.get? a=some (W.instObj C dx)/\
   ∃mA,h.Ns1 dx mA/\(∀f,RelO (fs.lookup f) (mA f))/\PySem.Within mA (fs.map (·.1))
 | .own _=> ∃o,h.get? a=some o
 | .xd fs=> ∃mA,h.Ns1 a mA/\ ∀f,RelO (fs.lookup f) (mA f)
 | .rng lo hi=> ∃t u v,h.get? a=some {cls:= .type "range",data:= .fields #[.int lo t,.int hi u,.int 1 v]}
 | .frz o u=>h.get? a=some o/\ObjOk H h a u
 | .tbl ps=>h.get? a=some {cls:= .none,data:= .fields ps}
 | .met f x=>h.get? a=some (W.methodObj (.ref f) (.ref x))
 | .ext φ=>φ h/\(∃o,h.get? a=some o)/\ ∀h1 h2:Heap,φ h1->(∀o,h1.get? a=some o->h2.get? a=some o)->φ h2
def HOk (H:Hp) (h:Heap):Prop:= ∀a o,H a=some o->ObjOk P w H h a o
end
theorem ObjOk.lt(x:ObjOk P w H h a o):a<h.objs.size:=by
 cases o with
 | lst xs=>obtain⟨_,_,_,_,e⟩:=x;show ι e
 | tup xs=>obtain⟨_,_,_,p⟩:=x;show p.lt
 | dK kvs=>obtain⟨_,_,_,_,o,_,_,e,_⟩:=x;show ι e
 | dT kvs=>obtain⟨_,_,_,_,o,_,_,e,_⟩:=x;show ι e
 | set S n=>obtain⟨o,_,_,_,e,_⟩:=x;show ι e
 | ins C dx fs=>obtain⟨_,_,_,e,_⟩:=x;show ι e
 | own y=>obtain⟨_,e⟩:=x;show ι e
 | xd fs=>obtain⟨_,⟨_,_,_,e,_⟩,_⟩:=x;show ι e
 | rng lo hi=>obtain⟨_,_,_,e⟩:=x;show ι e
 | frz ob u=>obtain⟨e,_⟩:=x;show ι e
 | tbl ps=>show ι (show h.get? a=some _ from x)
 | met f y=>show ι (show h.get? a=some _ from x)
 | ext φ=>obtain⟨_,⟨_,e⟩,_⟩:=x;show ι e
theorem Paired.mapP{F G:α->β->Prop}: ∀{l₁:List α} {l₂:List β},Paired F l₁ l₂->(∀a b,F a b->G a b)->Paired G l₁ l₂
 | _,_,.nil,_=> .nil
 | _,_,.cons r t,f=> .cons (f _ _ r) (Paired.mapP t f)
theorem ObjOk.stay(x:ObjOk P w H h a o)(k: ∀b u,(b=a\/H b=some (.own a))->h.get? b=some u->h'.get? b=some u)
  (ho: ∀b,H b=some (.own a)->H' b=some (.own a)) (ht: ∀b xs,H b=some (.tup xs)->H' b=some (.tup xs)):ObjOk P w H' h' a o:=by
 induction o with
 | lst xs=>obtain⟨z,its,n,r,e⟩:=x;show⟨z,its,n,r,k _ _ (.inl rfl) e⟩
 | tup xs=>obtain⟨z,its,r,ob,e,c⟩:=x;show⟨z,its,r,ob,k _ _ (.inl rfl) e,c⟩
 | dK kvs=>obtain⟨z,y,vs,r,ob,es,ep,e,c⟩:=x;show⟨z,y,vs,r,ob,es,ep,k _ _ (.inl rfl) e,c⟩
 | dT kvs=>
  obtain⟨z,y,xs,r,ob,es,ep,e,c⟩:=x;show⟨z,y,xs,Paired.mapP r λp q z=>⟨z.1,ht _ _ z.2.1,z.2.2⟩,ob,es,ep,k _ _ (.inl rfl) e,c⟩
 | set S n=>obtain⟨ob,es,ep,t,e,c⟩:=x;show⟨ob,es,ep,t,k _ _ (.inl rfl) e,c⟩
 | ins C dx fs=>
  obtain⟨d,z,ne,e,mA,⟨od,es,ep,e2,c⟩,r⟩:=x;show⟨ho _ d,z,ne,k _ _ (.inl rfl) e,mA,⟨od,es,ep,k _ _ (.inr d) e2,c⟩,r⟩
 | own y=>obtain⟨ob,e⟩:=x;show⟨ob,k _ _ (.inl rfl) e⟩
 | xd fs=>obtain⟨mA,⟨od,es,ep,e,c⟩,r⟩:=x;show⟨mA,⟨od,es,ep,k _ _ (.inl rfl) e,c⟩,r⟩
 | rng lo hi=>obtain⟨t,u,v,e⟩:=x;show⟨t,u,v,k _ _ (.inl rfl) e⟩
 | frz ob u ih=>obtain⟨e,q⟩:=x;show⟨k _ _ (.inl rfl) e,ih q⟩
 | tbl ps=>
  have e:h.get? a=some {cls:= .none,data:= .fields ps}:=x;change h'.get? a=some {cls:= .none,data:= .fields ps};show k a _ (.inl rfl) e
 | met f y=>
  have e:h.get? a=some (W.methodObj (.ref f) (.ref y)):=x;change h'.get? a=some (W.methodObj (.ref f) (.ref y));show k a _ (.inl rfl) e
 | ext φ=>obtain⟨p,⟨o,e⟩,st⟩:=x;show⟨st _ _ p λo q=>k _ _ (.inl rfl) q,⟨o,k _ _ (.inl rfl) e⟩,st⟩
def HOk.lt(x:HOk P w H h)(e:H a=some o):a<h.objs.size:=(x a o e).lt
theorem HOk.fresh(x:HOk P w H h)(e:h.objs.size<=a):H a=none:=by
 cases q:H a with
 | none=>rfl
 | some u=>show absurd (θ (x.lt q) e) (Λ _)
def HOk.kept(x:HOk P w H h)(k: ∀b u,h.get? b=some u->h'.get? b=some u):HOk P w H h':=λa o e=>
 (x a o e).stay (λb u _ q=>k b u q) (λ_ q=>q) λ_ _ q=>q
def HOk.laid(x:HOk P w H h)(k: ∀b u,h.get? b=some u->h'.get? b=some u)(hp:h.objs.size<=a)(new:ObjOk P w (upd H a o) h' a o):HOk P w (upd H a o) h':=λb u e=>by
 have hn:=x.fresh hp;by_cases hb:b=a
 .subst hb;rw[zj] at e;cases e;show new
 .rw[zi hb] at e;show(x b u e).stay (λc v _ q=>k c v q) (λc q=>by rw[zi (zg q hn)];show q) λc xs q=>by rw[zi (zg q hn)];show q
def Rd (H:Hp) (a:Addr) (u:HO):Prop:=H a=some u\/ ∃o,H a=some (.frz o u)
def Rd.ok(r:Rd H a u)(x:HOk P w H h):ObjOk P w H h a u:=by
 rcases r with r | ⟨o,r⟩
 .show x a u r
 .obtain⟨_,q⟩:=x a _ r;show q
def Mut:Option HO->Prop
 | some (.lst _)=>True
 | some (.dK _)=>True
 | some (.dT _)=>True
 | some (.set _ _)=>True
 | some (.ins _ _ _)=>True
 | some (.ext _)=>True
 | _=>False
def HOk.write(ok:HOk P w H h)(mu:Mut (H x))(he:e=x\/H e=some (.own x))(k: ∀b u,b≠e->h.get? b=some u->h'.get? b=some u)(heo: ∃u,h'.get? e=some u)
  (new:ObjOk P w (upd H x o') h' x o'):HOk P w (upd H x o') h':=λb u q=>by
 have nown: ∀c y,H c=some (.own y)->c≠x:=λc y r z=>by subst z;rw[r] at mu;show mu
 have ntup: ∀c xs,H c=some (.tup xs)->c≠x:=λc xs r z=>by subst z;rw[r] at mu;show mu
 by_cases hb:b=x
 .subst hb;rw[zj] at q;cases q;show new
 .rw[zi hb] at q;by_cases hbe:b=e
  .have q':H b=some (.own x):=by
    rcases he with z | z
    .show absurd (hbe.trans z) hb
    .rw[hbe];show z
   rw[q] at q';cases q';obtain⟨v,hv⟩:=heo;show⟨v,by rw[hbe];show hv⟩
  .show(ok b u q).stay (λc v hc r=>k c v ?_ r) (λc r=>by rw[zi (nown c b r)];show r) λc xs r=>by rw[zi (ntup c xs r)];show r
   rcases hc with rfl | hc
   .show hbe
   .rintro rfl;rcases he with z | z
    .show nown c b hc z
    .rw[hc] at z;cases z;show hb rfl
structure Un (fs ex:List Addr) (H H':Hp) (h h':Heap):Prop where
 keep: ∀b o,h.get? b=some o->H b=none->b∉fs->b∉ex->h'.get? b=some o
 slot: ∀b o,h.get? b=some o->H b=none->b∈fs->b∉ex-> ∃sl,h'.get? b=some {o with slots:=sl}
 free: ∀b o,h.get? b=some o->H b=none->b∉ex->H' b=none
 there: ∀b o,h.get? b=some o->b∉ex-> ∃o',h'.get? b=some o'
 tups: ∀b xs,H b=some (.tup xs)->H' b=some (.tup xs)
 frzs: ∀b o u,H b=some (.frz o u)->H' b=some (.frz o u)
 tbls: ∀b ps,H b=some (.tbl ps)-> ∃more,H' b=some (.tbl (ps++more))
def Un.any(u:Un fs ex H H1 h h1)(q:h.get? b=some ob)(n:H b=none)(hx:b∉ex): ∃sl,h1.get? b=some {ob with slots:=sl}:=by
 by_cases hb:b∈fs
 .show u.slot b ob q n hb hx
 .show⟨ob.slots,u.keep b ob q n hb hx⟩
def Un.kept(k: ∀b u,h.get? b=some u->h'.get? b=some u):Un fs ex H H h h':=
 ⟨λb ob q _ _ _=>k b ob q,λb ob q _ _ _=>⟨ob.slots,k b ob q⟩,λ_ _ _ n _=>n,λb ob q _=>⟨ob,k b ob q⟩,λ_ _ q=>q,λ_ _ _ q=>q,λ_ ps q=>⟨#[],by rw[q];simp⟩⟩
def Un.refl:Un fs ex H H h h:=Un.kept λ_ _ q=>q
def Un.laid(k: ∀b u,h.get? b=some u->h'.get? b=some u)(hp:h.objs.size<=a)(hn:H a=none):Un fs ex H (upd H a o) h h' where
 keep:=λb u q _ _ _=>k b u q
 slot:=λb u q _ _ _=>⟨u.slots,k b u q⟩
 free:=λb u q n _=>by rw[zi (Ι (θ (ι q) hp))];show n
 there:=λb u q _=>⟨u,k b u q⟩
 tups:=λb xs q=>by rw[zi (zg q hn)];show q
 frzs:=λb u xs q=>by rw[zi (zg q hn)];show q
 tbls:=λb ps q=>⟨#[],by rw[zi (zg q hn),q];simp⟩
def Un.write(mu:Mut (H x))(he:e=x\/H e=some (.own x))(k: ∀b u,b≠e->h.get? b=some u->h'.get? b=some u)(heo: ∃u,h'.get? e=some u):Un fs ex H (upd H x o) h h':=by
 have hx: ∀b,H b=none->b≠x:=λb n z=>by subst z;rw[n] at mu;show mu
 have hb: ∀b,H b=none->b≠e:=λb n z=>by
  subst z;rcases he with r | r
  .show hx b n r
  .rw[n] at r;cases r
 have hm: ∀b u,H b=some u-> ¬Mut (some u)->b≠x:=λb u q nm z=>by subst z;rw[q] at mu;show nm mu
 show⟨λb u q n _ _=>k b u (hb b n) q,λb u q n _ _=>⟨u.slots,k b u (hb b n) q⟩,λb u q n _=>by rw[zi (hx b n)];show n,λb u q _=>?_,
  λb xs q=>by rw[zi (hm b _ q λz=>z)];show q,λb u xs q=>by rw[zi (hm b _ q λz=>z)];show q,λb ps q=>⟨#[],by rw[zi (hm b _ q λz=>z),q];simp⟩⟩
 by_cases hbe:b=e
 .subst hbe;show heo
 .show⟨u,k b u hbe q⟩
def trk (h:Heap) (H:Hp):List Addr:=(List.range h.objs.size).filter λa=>(H a).isSome
def hidT (h:Heap) (H:Hp):Heap:=W.hideAll h (trk h H)
def hidT_size(h:Heap)(H:Hp):(hidT h H).objs.size=h.objs.size:=W.hideAll_size _ _
def hidT_get{h:Heap}(e:h.get? b=some o)(n:H b=none):(hidT h H).get? b=some o:=
 W.hideAll_get _ e λhm=>by
  have q:(H b).isSome=true:=(List.mem_filter.mp hm).2;rw[n] at q;simp at q
theorem of_hidT(e:(hidT h H).get? b=some o):h.get? b=some o/\H b=none:=by
 have e':h.get? b=some o:=W.of_hideAll (trk h H) e;show⟨e',?_⟩;cases q:H b with
 | none=>rfl
 | some x=>
  have hm:b∈trk h H:=List.mem_filter.mpr ⟨Τ.mpr (ι e'),by simp[q]⟩;have z:(hidT h H).get? b=none:=W.hideAll_none (trk h H) hm;rw[z] at e;cases e
def allNews (g h:Heap) (L:Addr):List (Addr×Obj):=(List.range h.objs.size).filterMap λa=>if a=L\/(g.get? a).isSome=true then none else (h.get? a).map λo=>(a,o)
def rest (g h:Heap) (L d:Addr):List (Addr×Obj):=(allNews g h L).filter λp=>decide (p.1≠d)
structure Mod (K:W.Frag) (mg:Str->Option Value) (base:Heap):Prop where
 kin:K.In base
 glob:base.Ns mainGlobals mg
 blt: ∃mb,base.Ns builtinsNs mb/\ ∀x:Str,x≠"__name__"->mb x=bootBuiltins x
 nolimit:base.NoLimit
structure Cx where
 prog:Program
 w:World
 K:W.Frag
 mg:Str->Option Value
 base:Heap
 A:Around
 N:List Str
 s₀:Shared
 H₀:Hp
 env:Env
 outer:List Env
 stack:List Env
 ex:List Addr
 fn:Str->Bool
 calm:Bool
 pn:List (Addr×Obj)
 xe:VSP
def frs (l:List Env):List Addr:=l.filterMap (·.frame)
abbrev Cx.fs (X:Cx):List Addr:=frs X.outer
def Vis (sc:Scope) (x:Str):Prop:=sc.names.lookup x=some .local\/sc.names.lookup x=some .cell\/sc.names.lookup x=some .free
def Loc (sc:Scope) (x:Str):Prop:=sc.names.lookup x=some .local\/sc.names.lookup x=some .cell
def Look (env:Env) (h:Heap) (m:Str->Option Value) (x:Str) (u:Value):Prop:=
 (env.kindOf x=some .local/\m x=some u)\/((env.kindOf x=some .cell\/env.kindOf x=some .free)/\ ∃c,env.cells.lookup x=some c/\h.IsCell c (some u))
structure Cx.Ok (X:Cx):Prop where
 mod:Mod X.K X.mg X.base
 kind:X.env.scope.kind= .function
 glob:X.env.globals=mainGlobals
 blt:X.env.builtins=builtinsNs
 above:X.s₀.heap.objs.size<=X.env.locals
 inj: ∀x y c,X.env.cells.lookup x=some c->X.env.cells.lookup y=some c->x=y
 has: ∀x,(X.env.kindOf x=some .cell\/X.env.kindOf x=some .free)-> ∃c,X.env.cells.lookup x=some c
 cab: ∀x c,X.fn x=true->X.env.cells.lookup x=some c->X.s₀.heap.objs.size<=c
 hd:X.calm=true->X.A.handled=none
 frames:X.A.frames=some X.stack
 stk:X.stack=X.outer\/(X.stack=X.env::X.outer/\X.env.frame=some X.env.locals)
 exf: ∀b∈X.ex,b≠X.env.locals/\ ∀x c,X.env.cells.lookup x=some c->c≠b
 bs: ∀b o,X.base.get? b=some o->X.s₀.heap.get? b=some o/\X.H₀ b=none
 bsz:X.base.objs.size<=X.s₀.heap.objs.size
 noex: ∀b o,X.base.get? b=some o->b∉X.ex
 exfs: ∀b∈X.ex,b∉X.fs
 funs:X.s₀.heap.FunFrames X.base X.outer
 frf: ∀b∈X.fs,X.H₀ b=none
structure Inv (X:Cx) (ϖ:List (Addr×Obj)) (σ:List (Option V)) (H:Hp) (s:Shared):Prop where
 ok:X.Ok
 os:s.os=X.s₀.os
 bare:AllBare s.gens
 base:Un X.fs X.ex X.H₀ H X.s₀.heap s.heap
 loc: ∃m,s.heap.Ns X.env.locals m/\ ∀(i:Nat) (x:Str) (v:V),X.N[i]? =some x->σ[i]? =some (some v)->Vis X.env.scope x-> ∃u,RelV v u/\Look X.env s.heap m x u
 cell: ∀x c,X.env.cells.lookup x=some c-> ∃v,s.heap.IsCell c v
 free:H X.env.locals=none
 freeC: ∀x c,X.env.cells.lookup x=some c->H c=none
 pin: ∀p∈X.pn++ϖ,s.heap.get? p.1=some p.2/\H p.1=none/\p.1≠X.env.locals/\p.1∉X.fs/\ ∀v,p.2.data≠.cell v
 hok:HOk X.prog X.w H s.heap
 len:σ.length=X.N.length
section
variable {X:Cx}{σ:List (Option V)}
def Cx.Ok.nofr(ok:X.Ok)(e:X.base.get? b=some o):b∉X.fs:=λhb=>by
 have:=(ok.funs.mem hb).1;rw[e] at this;cases this
def Inv.bs(I:Inv X ϖ σ H s): ∀b o,X.base.get? b=some o->s.heap.get? b=some o/\H b=none:=λb o e=>
 ⟨I.base.keep b o (I.ok.bs b o e).1 (I.ok.bs b o e).2 (I.ok.nofr e) (I.ok.noex b o e),I.base.free b o (I.ok.bs b o e).1 (I.ok.bs b o e).2 (I.ok.noex b o e)⟩
def Inv.bk(I:Inv X ϖ σ H s): ∀b o,X.base.get? b=some o->s.heap.get? b=some o:=λb o e=>(I.bs b o e).1
def Inv.mod(I:Inv X ϖ σ H s):Mod X.K X.mg X.base:=I.ok.mod
def Inv.kIn(I:Inv X ϖ σ H s):X.K.In s.heap:=I.ok.mod.kin.keeps I.bk
def Inv.lt(I:Inv X ϖ σ H s):X.env.locals<⇑s:=let ⟨_,hn,_⟩:=I.loc;hn.lt
def Inv.sz(I:Inv X ϖ σ H s):X.s₀.heap.objs.size<=⇑s:=η I.ok.above (Υ I.lt)
def Inv.nofs(I:Inv X ϖ σ H s)(h:⇑s<=a):a∉X.fs:=λhb=>by
 obtain⟨_,o,ho,_⟩:=I.ok.funs.mem hb;show absurd (θ (ι ho) (η I.sz h)) (Λ _)
def Inv.cne(I:Inv X ϖ σ H s): ∀x c,X.env.cells.lookup x=some c->c≠X.env.locals:=λx c e z=>by
 obtain⟨v,o,ho,hd⟩:=I.cell x c e;obtain⟨m,⟨o',es,ep,ho',hd',_⟩,_⟩:=I.loc;rw[z,ho'] at ho;cases ho;rw[hd'] at hd;cases hd
theorem Inv.funs(I:Inv X ϖ σ H s):s.heap.FunFrames X.base X.outer:=by
 have all: ∀(l:List Env),(∀b∈frs l,b∈X.fs)->X.s₀.heap.FunFrames X.base l->s.heap.FunFrames X.base l:=by
  intro l
  induction l with
  | nil=>intro _ _;trivial
  | cons env r ih=>
   intro hs hl;obtain⟨hk,⟨L,o,hf,hn,ho,hd⟩,hr⟩:=hl;have hL:L∈X.fs:=hs L (by unfold frs;rw[List.filterMap_cons,hf];show ξ);obtain⟨sl,e⟩:=I.base.slot L o ho (I.ok.frf L hL) hL λz=>I.ok.exfs L z hL;show⟨hk,⟨L,_,hf,hn,e,hd⟩,ih (λb hb=>hs b (by unfold frs;rw[List.filterMap_cons,hf];show ζ _ hb)) hr⟩
 show all X.outer (λ_ hb=>hb) I.ok.funs
def Inv.stack(I:Inv X ϖ σ H s):s.heap.FunFrames X.base X.stack:=by
 rcases I.ok.stk with e | ⟨e,hf⟩
 .rw[e];show I.funs
 .rw[e];obtain⟨m,hn,_⟩:=I.loc;show .cons (by rw[I.ok.kind];decide) hf hn ?_ I.funs;show Heap.get?_none_of_le (η I.ok.bsz I.ok.above)
def Inv.stkSub(I:Inv X ϖ σ H s): ∀b∈frs X.stack,b∈X.env.locals::X.fs:=λb hb=>by
 rcases I.ok.stk with e | ⟨e,hf⟩
 .rw[e] at hb;show ζ _ hb
 .rw[e] at hb;unfold frs at hb;rw[List.filterMap_cons,hf] at hb;show hb
def Inv.stkFree(I:Inv X ϖ σ H s): ∀b∈frs X.stack,H b=none:=λb hb=>by
 rcases Ε.mp (I.stkSub b hb) with e | hb
 .rw[e];show I.free
 .obtain⟨_,o,ho,_⟩:=I.ok.funs.mem hb;show I.base.free b o ho (I.ok.frf b hb) λz=>I.ok.exfs b z hb
def Inv.step{g':Array GenState}{t':Nat}{d':Drawn}{ch:List Addr}(I:Inv X ϖ σ H s)
  (hch: ∀b∈ch,(b∈X.ex\/X.s₀.heap.objs.size<=b)/\b≠X.env.locals/\(∀x c,X.env.cells.lookup x=some c->c≠b)/\ ∀p∈X.pn++ϖ,p.1≠b)
  (keep: ∀b o,b≠X.env.locals->b∉X.fs->b∉ch->s.heap.get? b=some o->H b=none->h'.get? b=some o)
  (slot: ∀b o,b≠X.env.locals->b∈X.fs->b∉ch->s.heap.get? b=some o->H b=none-> ∃sl,h'.get? b=some {o with slots:=sl}) (free: ∀b o,b∉ch->s.heap.get? b=some o->H b=none->H' b=none)
  (there: ∀b o,b∉ch->s.heap.get? b=some o-> ∃o',h'.get? b=some o')
  (tups: ∀b xs,H b=some (.tup xs)->H' b=some (.tup xs)) (frzs: ∀b o u,H b=some (.frz o u)->H' b=some (.frz o u)) (tbls: ∀b ps,H b=some (.tbl ps)-> ∃more,H' b=some (.tbl (ps++more)))
  (ns: ∀m,s.heap.Ns X.env.locals m->h'.Ns X.env.locals m) (hok:HOk X.prog X.w H' h') (hg:AllBare g'):
  Inv X ϖ σ H' {s with heap:=h',gens:=g',drawn:=d',toks:=t'}:=by
 have neL: ∀b o,X.s₀.heap.get? b=some o->b≠X.env.locals:=λb o e=>Ι (θ (ι e) I.ok.above);have neC: ∀b o,X.s₀.heap.get? b=some o->b∉X.ex->b∉ch:=λb o e hx hb=>by
  rcases(hch b hb).1 with z | z
  .show hx z
  .show absurd (θ (ι e) z) (Λ _)
 have cellK: ∀x c,X.env.cells.lookup x=some c-> ∀v,s.heap.IsCell c v->h'.IsCell c v:=λx c e v ⟨o,ho,hd⟩=>by
  have nch:c∉ch:=λz=>(hch c z).2.2.1 x c e rfl;by_cases hc:c∈X.fs
  .obtain⟨sl,q⟩:=slot c o (I.cne x c e) hc nch ho (I.freeC x c e);show⟨_,q,hd⟩
  .show⟨o,keep c o (I.cne x c e) hc nch ho (I.freeC x c e),hd⟩
 show⟨I.ok,I.os,hg,⟨λb o e n hb hx=>?_,λb o e n hb hx=>?_,λb o e n hx=>?_,λb o e hx=>?_,λb xs e=>tups b xs (I.base.tups b xs e),λb o xs e=>frzs b o xs (I.base.frzs b o xs e),λb ps e=>?_⟩,?_,λx c e=>?_,?_,λx c e=>?_,λp hp=>?_,hok,I.len⟩
 .show keep b o (neL b o e) hb (neC b o e hx) (I.base.keep b o e n hb hx) (I.base.free b o e n hx)
 .obtain⟨sl,e1⟩:=I.base.slot b o e n hb hx;obtain⟨sl',e2⟩:=slot b _ (neL b o e) hb (neC b o e hx) e1 (I.base.free b o e n hx);show⟨sl',e2⟩
 .obtain⟨o',e1⟩:=I.base.there b o e hx;show free b o' (neC b o e hx) e1 (I.base.free b o e n hx)
 .obtain⟨o',e1⟩:=I.base.there b o e hx;show there b o' (neC b o e hx) e1
 .obtain⟨m1,e1⟩:=I.base.tbls b ps e;obtain⟨m2,e2⟩:=tbls b _ e1;show⟨m1++m2,by rw[e2,Array.append_assoc]⟩
 .obtain⟨m,hn,hl⟩:=I.loc;show⟨m,ns m hn,λi x v e1 e2 e3=>?_⟩;obtain⟨u,r,l⟩:=hl i x v e1 e2 e3;show⟨u,r,?_⟩;rcases l with l | ⟨k,c,e,z⟩
  .show .inl l
  .show .inr ⟨k,c,e,cellK x c e _ z⟩
 .obtain⟨v,z⟩:=I.cell x c e;show⟨v,cellK x c e v z⟩
 .obtain⟨m,⟨o,_,_,ho,_⟩,_⟩:=I.loc;show free _ o (λz=>(hch _ z).2.1 rfl) ho I.free
 .obtain⟨v,o,ho,hd⟩:=I.cell x c e;show free c o (λz=>(hch c z).2.2.1 x c e rfl) ho (I.freeC x c e)
 .obtain⟨e,n,ne,nf,d⟩:=I.pin p hp;have nch:p.1∉ch:=λz=>(hch p.1 z).2.2.2 p hp rfl;show⟨keep p.1 p.2 ne nf nch e n,free p.1 p.2 nch e n,ne,nf,d⟩
def Inv.un{t':Nat}(I:Inv X ϖ σ H s)(u:Un X.fs [] H H' s.heap h')(hok:HOk X.prog X.w H' h'):Inv X ϖ σ H' {s with heap:=h',toks:=t'}:=by
 obtain⟨m,⟨o,es,ep,ho,r⟩,_⟩:=id I.loc;obtain⟨sl,hL⟩:=u.any ho I.free Sort;show I.step (g':=s.gens) (d':=s.drawn) (ch:=[]) (λ_ z=>nomatch z) (λb o _ hb _ e n=>u.keep b o e n hb Sort) (λb o _ hb _ e n=>u.slot b o e n hb Sort) (λb o _ e n=>u.free b o e n Sort) (λb o _ e=>u.there b o e Sort) u.tups u.frzs u.tbls (λm' hm=>by
  obtain⟨o',es',ep',ho',r'⟩:=hm;rw[ho] at ho';cases ho';show⟨_,es',ep',hL,r'⟩) hok I.bare
def Inv.call{g':Array GenState}{t':Nat}{d':Drawn}{ch:List Addr}(I:Inv X ϖ σ H s)(u:Un (frs X.stack) ch H H' s.heap h')(hok:HOk X.prog X.w H' h')(hg:AllBare g')
  (hch: ∀b∈ch,(b∈X.ex\/X.s₀.heap.objs.size<=b)/\b≠X.env.locals/\(∀x c,X.env.cells.lookup x=some c->c≠b)/\ ∀p∈X.pn++ϖ,p.1≠b):
  Inv X ϖ σ H' {s with heap:=h',gens:=g',drawn:=d',toks:=t'}:=by
 obtain⟨m,⟨o,es,ep,ho,r⟩,_⟩:=id I.loc;obtain⟨sl,hL⟩:=u.any ho I.free λz=>(hch _ z).2.1 rfl;show I.step (ch:=ch) hch (λb o hL hb hc e n=>u.keep b o e n (λz=>(Ε.mp (I.stkSub b z)).elim hL hb) hc) (λb o _ _ hc e n=>u.any e n hc) (λb o hc e n=>u.free b o e n hc) (λb o hc e=>u.there b o e hc) u.tups u.frzs u.tbls (λm' hm=>by
  obtain⟨o',es',ep',ho',r'⟩:=hm;rw[ho] at ho';cases ho';show⟨_,es',ep',hL,r'⟩) hok hg
def Inv.turned{t':Nat}{it:Addr}(I:Inv X ϖ σ H s)(k: ∀b o,b≠it->s.heap.get? b=some o->h'.get? b=some o)(hn:H it=none)(hL:it≠X.env.locals)
  (h1:it∈X.ex\/X.s₀.heap.objs.size<=it) (h2: ∀x c,X.env.cells.lookup x=some c->c≠it) (h3: ∀p∈X.pn++ϖ,p.1≠it):Inv X ϖ σ H {s with heap:=h',toks:=t'}:=by
 have nit: ∀b u,H b=some u->b≠it:=λb u e z=>by rw[z,hn] at e;cases e
 show I.step (g':=s.gens) (d':=s.drawn) (ch:=[it]) (λb hb=>?_) (λb o _ _ hc e _=>k b o (λz=>hc (by simp[z])) e) (λb o _ _ hc e _=>⟨o.slots,k b o (λz=>hc (by simp[z])) e⟩) (λ_ _ _ _ n=>n)
  (λb o hc e=>⟨o,k b o (λz=>hc (by simp[z])) e⟩) (λ_ _ e=>e) (λ_ _ _ e=>e) (λb ps e=>⟨#[],by rw[e];simp⟩) (λm hm=>?_) (λb u e=>?_) I.bare
 .have e:b=it:=by exists hb
  subst e;show⟨h1,hL,h2,h3⟩
 .obtain⟨o,es,ep,ho,r⟩:=hm;show⟨o,es,ep,k _ o (Ne.symm hL) ho,r⟩
 .show(I.hok b u e).stay (λc v hc q=>k c v ?_ q) (λ_ q=>q) λ_ _ q=>q;rcases hc with z | z
  .rw[z];show nit b u e
  .show nit c _ z
def Inv.tok(I:Inv X ϖ σ H s)(t:Nat):Inv X ϖ σ H {s with toks:=t}:=I.un (h':=s.heap) (t':=t) Un.refl I.hok
def Inv.kept(I:Inv X ϖ σ H s)(k: ∀b u,s.heap.get? b=some u->h'.get? b=some u):Inv X ϖ σ H {s with heap:=h',toks:=t'}:=I.un (Un.kept k) (I.hok.kept k)
def Inv.laid(I:Inv X ϖ σ H s)(k: ∀b u,s.heap.get? b=some u->h'.get? b=some u)(hp:⇑s<=a)(new:ObjOk X.prog X.w (upd H a o) h' a o):
  Inv X ϖ σ (upd H a o) {s with heap:=h',toks:=t'}:=I.un (Un.laid k hp (I.hok.fresh hp)) (I.hok.laid k hp new)
def Inv.write(I:Inv X ϖ σ H s)(mu:Mut (H x))(he:e=x\/H e=some (.own x))(k: ∀b u,b≠e->s.heap.get? b=some u->h'.get? b=some u)(heo: ∃u,h'.get? e=some u)
  (new:ObjOk X.prog X.w (upd H x o) h' x o):Inv X ϖ σ (upd H x o) {s with heap:=h',toks:=t'}:=I.un (Un.write mu he k heo) (I.hok.write mu he k heo new)
def Inv.pins_of(I:Inv X ϖ σ H s)(h: ∀p∈pins',s.heap.get? p.1=some p.2/\H p.1=none/\p.1≠X.env.locals/\p.1∉X.fs/\ ∀v,p.2.data≠.cell v):Inv X pins' σ H s:=
 ⟨I.ok,I.os,I.bare,I.base,I.loc,I.cell,I.free,I.freeC,λp hp=>(Γ.mp hp).elim (λz=>I.pin p (Ψ _ z)) (h p),I.hok,I.len⟩
def vI{N:List Str}(hN:N.Nodup){i j:Nat}{x:Str}(a:N[i]? =some x)(b:N[j]? =some x):i=j:=by
 obtain⟨h1,e1⟩:=Η.mp a;obtain⟨h2,e2⟩:=Η.mp b;show(List.getElem_inj hN).mp (e1.trans e2.symm)
def Zb{E:VSP}{Q:Unit->Shared->Prop}(I:Inv X ϖ σ H s)(hN:X.N.Nodup)(hi:X.N[i]? =some x)(hx:Loc X.env.scope x)(r:RelV v u)
  (h: ∀s',Inv X ϖ (σ.set i (some v)) H s'->(∃a,Heap.SameBut a s.heap s'.heap/\(a=X.env.locals\/X.env.cells.lookup x=some a))->Q () s') (hf:X.fn x=true\/X.env.scope.names.lookup x=some .local:=by first | show .inl rfl | show .inr rfl | assumption):wpAny M A (storeName X.env x u) Q E s:=by
 obtain⟨m,hn,hl⟩:=id I.loc;have hcls:(X.env.scope.kind== .class || (X.env.scope.kind== .module&&X.env.locals !=X.env.globals))=false:=by rw[I.ok.kind];rfl
 have hiσ:i<σ.length:=by rw[I.len];show(Η.mp hi).1
 have cne:=I.cne;have tracked: ∀{a:Addr} {h':Heap},(∃o,s.heap.get? a=some o/\H a=none)->Heap.SameBut a s.heap h'->HOk X.prog X.w H h':=λ{a h'} ha hs b ob e=>by
  obtain⟨_,_,hfree⟩:=ha;show(I.hok b ob e).stay (λc w' hc q=>(hs.2 c ?_).trans q) (λ_ q=>q) λ_ _ q=>q;rintro rfl;rcases hc with rfl | hc
  .rw[hfree] at e;cases e
  .rw[hfree] at hc;cases hc
 rcases hx with hk | hk
 .show wpAny_storeName_local hk hn (λh' hn' hs=>?_) hcls;obtain⟨oL,_,_,hoL,_⟩:=id hn;show h _ ⟨I.ok,I.os,I.bare,⟨λb o e n hb hx=>?_,λb o e n hb hx=>?_,I.base.free,λb o e hx=>?_,I.base.tups,I.base.frzs,I.base.tbls⟩,⟨_,hn',λj y v' e1 e2 e3=>?_⟩,λy c e=>?_,I.free,I.freeC,λp hp=>?_,tracked ⟨oL,hoL,I.free⟩ hs,by exists I.len⟩ ⟨_,hs,.inl rfl⟩
  .show(hs.2 b (Ι (θ (ι e) I.ok.above))).trans (I.base.keep b o e n hb hx)
  .obtain⟨sl,e1⟩:=I.base.slot b o e n hb hx;show⟨sl,(hs.2 b (Ι (θ (ι e) I.ok.above))).trans e1⟩
  .obtain⟨o',e1⟩:=I.base.there b o e hx;show⟨o',(hs.2 b (Ι (θ (ι e) I.ok.above))).trans e1⟩
  .by_cases hj:j=i
   .subst hj;rw[hi] at e1;cases e1;rw[List.getElem?_set_self hiσ] at e2;cases e2
    show⟨u,r,.inl ⟨hk,by simp⟩⟩
   .rw[List.getElem?_set_ne (Ne.symm hj)] at e2;obtain⟨u',r',q⟩:=hl j y v' e1 e2 e3;show⟨u',r',?_⟩;rcases q with ⟨k,e⟩ | ⟨k,c,e,z⟩
    .show .inl ⟨k,?_⟩;have:y≠x:=λe=>hj (vI hN e1 (e▸hi));simp[this,e]
    .show .inr ⟨k,c,e,z.sameBut hs (cne y c e)⟩
  .obtain⟨w',z⟩:=I.cell y c e;show⟨w',z.sameBut hs (cne y c e)⟩
  .obtain⟨e,n,ne,nf,d⟩:=I.pin p hp;show⟨(hs.2 p.1 ne).trans e,n,ne,nf,d⟩
 .have hfn:X.fn x=true:=by
   rcases hf with z | z
   .show z
   .rw[z] at hk;cases hk
  obtain⟨c,hc⟩:=I.ok.has x (.inl hk);obtain⟨w',z⟩:=I.cell x c hc;show wpAny_storeName_cell I.ok.kind hk hc z (λh' hc' hs=>?_);obtain⟨oc,hoc,hocd⟩:=id z;show h {s with heap:=h'} ⟨I.ok,I.os,I.bare,⟨λb o e n hb hx=>?_,λb o e n hb hx=>?_,I.base.free,λb o e hx=>?_,I.base.tups,I.base.frzs,I.base.tbls⟩,⟨m,hn.sameBut hs (Ne.symm (cne x c hc)),λj y v' e1 e2 e3=>?_⟩,λy c' e=>?_,I.free,I.freeC,λp hp=>?_,tracked ⟨oc,hoc,I.freeC x c hc⟩ hs,by exists I.len⟩ ⟨c,hs,.inr hc⟩
  .show(hs.2 b (Ι (θ (ι e) (I.ok.cab x c hfn hc)))).trans (I.base.keep b o e n hb hx)
  .obtain⟨sl,e1⟩:=I.base.slot b o e n hb hx;show⟨sl,(hs.2 b (Ι (θ (ι e) (I.ok.cab x c hfn hc)))).trans e1⟩
  .obtain⟨o',e1⟩:=I.base.there b o e hx;show⟨o',(hs.2 b (Ι (θ (ι e) (I.ok.cab x c hfn hc)))).trans e1⟩
  .by_cases hj:j=i
   .subst hj;rw[hi] at e1;cases e1;rw[List.getElem?_set_self hiσ] at e2;cases e2
    show⟨u,r,.inr ⟨.inl hk,c,hc,hc'⟩⟩
   .rw[List.getElem?_set_ne (Ne.symm hj)] at e2;obtain⟨u',r',q⟩:=hl j y v' e1 e2 e3;show⟨u',r',?_⟩;rcases q with q | ⟨k,c',e,z'⟩
    .show .inl q
    .show .inr ⟨k,c',e,z'.sameBut hs ?_⟩;rintro rfl;show hj (vI hN e1 (I.ok.inj _ _ _ e hc▸hi))
  .by_cases hcc:c'=c
   .subst hcc;show⟨_,hc'⟩
   .obtain⟨w2,z2⟩:=I.cell y c' e;show⟨w2,z2.sameBut hs hcc⟩
  .obtain⟨e,n,ne,nf,d⟩:=I.pin p hp;show⟨(hs.2 p.1 ?_).trans e,n,ne,nf,d⟩;intro q;rw[q,hoc] at e;have q':oc=p.2:=Α e;show d w' (by rw[<-q'];show hocd)
def yZ{E:VSP}{Q:Unit->Shared->Prop}(I:Inv X ϖ σ H s)(hN:X.N.Nodup)(hi:X.N[i]? =some x)(hx:Loc X.env.scope x)(r:RelV v u)
  (h: ∀s',Inv X ϖ (σ.set i (some v)) H s'->Q () s') (hf:X.fn x=true\/X.env.scope.names.lookup x=some .local:=by first | show .inl rfl | show .inr rfl | assumption):wpAny M A (storeName X.env x u) Q E s:=
 Zb I hN hi hx r (λs' I' _=>h s' I') hf
def Inv.call'{s':Shared}(I:Inv X ϖ σ H s)(ho:s'.os=s.os)(u:Un (frs X.stack) ch H H' s.heap s'.heap)(hok:HOk X.prog X.w H' s'.heap)(hg:AllBare s'.gens)
  (hch: ∀b∈ch,(b∈X.ex\/X.s₀.heap.objs.size<=b)/\b≠X.env.locals/\(∀x c,X.env.cells.lookup x=some c->c≠b)/\ ∀p∈X.pn++ϖ,p.1≠b):Inv X ϖ σ H' s':=by
 obtain⟨h',g',d',t',o'⟩:=s';have e:o'=s.os:=ho;subst e;show I.call (g':=g') (t':=t') (d':=d') u hok hg hch
end
abbrev XK:=Value->Option Addr->Hp->Prop
abbrev St:=List (Option V)
abbrev VK:=V->Hp->Prop
abbrev TE:=St->Hp->VK->Prop
abbrev TT:=St->Hp->(Bool->Hp->Prop)->Prop
abbrev TA:=St->Hp->(List V->Hp->Prop)->Prop
structure Ends where
 nx:St->Hp->Prop
 rt:VK
 bk:St->Hp->Prop:=λ_ _=>False
 ct:St->Hp->Prop:=λ_ _=>False
abbrev TS:=Ends->St->Hp->Prop
def EP (X:Cx) (ϖ:List (Addr×Obj)) (σ:St) (Q:VK) (u:Value) (s':Shared):Prop:= ∃v H',Inv X ϖ σ H' s'/\RelV v u/\Q v H'
def TP (X:Cx) (ϖ:List (Addr×Obj)) (σ:St) (Q:Bool->Hp->Prop) (b:Bool) (s':Shared):Prop:= ∃H',Inv X ϖ σ H' s'/\Q b H'
def AP (X:Cx) (ϖ:List (Addr×Obj)) (σ:St) (Q:List V->Hp->Prop) (us:List Value) (s':Shared):Prop:= ∃vs H',Inv X ϖ σ H' s'/\Vals vs us/\Q vs H'
def SP (X:Cx) (ϖ:List (Addr×Obj)) (D:Ends) (f:Flow) (s':Shared):Prop:=
 match f with
 | .next=> ∃σ' H',Inv X ϖ σ' H' s'/\D.nx σ' H'
 | .brk=> ∃σ' H',Inv X ϖ σ' H' s'/\D.bk σ' H'
 | .cont=> ∃σ' H',Inv X ϖ σ' H' s'/\D.ct σ' H'
 | .ret u=> ∃v σ' H',Inv X ϖ σ' H' s'/\RelV v u/\D.rt v H'
def PE (X:Cx) (e:Expr) (t:TE):Prop:=
 ∀(ϖ:List (Addr×Obj)) (s:Shared) (σ:St) (H:Hp) (Q:VK),Inv X ϖ σ H s->t σ H Q->wpAny (model X.prog X.w) X.A (eval e X.env) (EP X ϖ σ Q) X.xe s
def PT (X:Cx) (e:Expr) (t:TT):Prop:=
 ∀(ϖ:List (Addr×Obj)) (s:Shared) (σ:St) (H:Hp) (Q:Bool->Hp->Prop),Inv X ϖ σ H s->t σ H Q->wpAny (model X.prog X.w) X.A (isTrue e X.env (eval e X.env)) (TP X ϖ σ Q) X.xe s
def PW (X:Cx) (e:Expr) (t:TT):Prop:=
 ∀(whole:Sem Value) (ϖ:List (Addr×Obj)) (s:Shared) (σ:St) (H:Hp) (Q:Bool->Hp->Prop),Inv X ϖ σ H s->t σ H Q->wpAny (model X.prog X.w) X.A (isTrue e X.env whole) (TP X ϖ σ Q) X.xe s
def PW.pt(h:PW X e t):PT X e t:=h _
def PA (X:Cx) (es:List Expr) (t:TA):Prop:=
 ∀(pos:Pos) (ϖ:List (Addr×Obj)) (s:Shared) (σ:St) (H:Hp) (Q:List V->Hp->Prop),Inv X ϖ σ H s->t σ H Q->wpAny (model X.prog X.w) X.A (spliced (backTo pos (starEach es X.env))) (AP X ϖ σ Q) X.xe s
def PS (X:Cx) (st:Stmt) (t:TS):Prop:=
 ∀(ϖ:List (Addr×Obj)) (s:Shared) (σ:St) (H:Hp) (D:Ends),Inv X ϖ σ H s->t D σ H->wpAny (model X.prog X.w) X.A (exec st X.env) (SP X ϖ D) X.xe s
def PSs (X:Cx) (st:List Stmt) (t:TS):Prop:=
 ∀(ϖ:List (Addr×Obj)) (s:Shared) (σ:St) (H:Hp) (D:Ends),Inv X ϖ σ H s->t D σ H->wpAny (model X.prog X.w) X.A (execs st X.env) (SP X ϖ D) X.xe s
def thn{t:Sem α}{Q Q':α->Shared->Prop}{E:VSP}(h:wpAny M A t Q E s)(hQ: ∀a s,Q a s->Q' a s):wpAny M A t Q' E s:=wpAny_mono h hQ λ_ _ x=>x
section
variable {X:Cx}
def tVar (i:Nat):TE:=fun σ H Q=> ∃v,σ[i]? =some (some v)/\Q v H
def tC (v:V):TE:=λ_ H Q=>Q v H
def YS(hN:X.N[i]? =some x)(hv:Vis X.env.scope x)(hd:(x==("__debug__":Str))=false:=by decide)(hcd:(x==("__classdict__":Str))=false:=by decide):PE X (.Name x pos) (tVar i):=by
 intro ϖ s σ H Q I h;obtain⟨v,e,h⟩:=h;obtain⟨m,hn,hl⟩:=I.loc;obtain⟨u,r,l⟩:=hl i x v hN e hv;have fin:EP X ϖ σ Q u s:=⟨v,H,I,r,h⟩;rcases l with ⟨hk,hm⟩ | ⟨hk,c,hc,hcell⟩
 .show wpAny_Name (wpAny_loadName_local I.ok.kind hk hn hm fin) hd
 .rcases hk with hk | hk
  .show wpAny_Name (wpAny_loadName_cell I.ok.kind hk hc hcell fin) hd
  .show wpAny_Name (wpAny_loadName_free I.ok.kind hk hc hcell fin hcd) hd
def ZG{i j pos}:PE X (.Constant (.int i) j pos) (tC (.int i)):=λ_ _ _ H _ I h=>wpAny_Constant_int ⟨.int i,H,I.tok _,⟨_,rfl⟩,h⟩
def Vu{b j pos}:PE X (.Constant (.bool b) j pos) (tC (.bl b)):=λ_ _ _ H _ I h=>Constant_bool ⟨.bl b,H,I,rfl,h⟩
def WD{j pos}:PE X (.Constant .none j pos) (tC .non):=λ_ _ _ H _ I h=>Constant_none ⟨.non,H,I,rfl,h⟩
def YU{x j pos}:PE X (.Constant (.str x) j pos) (tC (.str x)):=λ_ _ _ H _ I h=>Calls.Constant_str ⟨.str x,H,I.tok _,⟨_,rfl⟩,h⟩
def Gl (X:Cx) (x:Str):Prop:=X.env.kindOf x=some .globalImplicit
def xo{E:VSP}{Q:VSP}(I:Inv X ϖ σ H s)(hg:Gl X x)(hm:X.mg x=some u)(h:Q u s)
  (hd:(x==("__debug__":Str))=false:=by decide):wpAny (model X.prog X.w) X.A (eval (.Name x pos) X.env) Q E s:=
 Calls.Name_function_global I.ok.kind hg (Calls.loadGlobal_global (by rw[I.ok.glob];show I.mod.glob.keeps I.bk) hm h) hd
def xh{E:VSP}{Q:VSP}(I:Inv X ϖ σ H s)(hg:Gl X x)(hm:X.mg x=none)(hv:bootBuiltins x=some u)(h:Q u s)
  (hn:x≠"__name__":=by decide) (hd:(x==("__debug__":Str))=false:=by decide):wpAny (model X.prog X.w) X.A (eval (.Name x pos) X.env) Q E s:=by
 obtain⟨mb,h1,h2⟩:=I.mod.blt;show Calls.Name_function_global I.ok.kind hg (Calls.loadGlobal_builtin (by rw[I.ok.glob];show I.mod.glob.keeps I.bk) hm (by rw[I.ok.blt];show h1.keeps I.bk) ((h2 x hn).trans hv) h) hd
def Xs(hg:Gl X x)(hm:X.mg x=some u)(r:RelV v u)(hd:(x==("__debug__":Str))=false:=by decide):PE X (.Name x pos) (tC v):=
 λ_ _ _ H _ I h=>xo I hg hm ⟨v,H,I,r,h⟩ hd
def Xu(hg:Gl X x)(hm:X.mg x=none)(hv:bootBuiltins x=some u)(r:RelV v u)(hn:x≠"__name__":=by decide)(hd:(x==("__debug__":Str))=false:=by decide):PE X (.Name x pos) (tC v):=
 λ_ _ _ H _ I h=>xh I hg hm hv ⟨v,H,I,r,h⟩ hn hd
def tB (t:TE):TT:=fun σ H Q=>t σ H λx H1=> ∃c,x= .bl c/\Q c H1
def pt_val(h:PE X e t)(he: ∀whole,isTrue e X.env whole=(do let v<-whole;standAt e.pos;holding [v] (truthy v)):=by intro _;rfl):PT X e (tB t):=by
 intro ϖ s σ H Q I hw;show isTrue_plain (thn (h ϖ s σ H _ I hw) λv s1 ⟨x,H1,I1,r1,q1⟩=>?_) (he _);obtain⟨d,rfl,q⟩:=q1;cases r1
 show wpAny_truthy_bool ⟨H1,I1,q⟩
variable {rest:List Expr}
def tAnd (t u:TT):TT:=fun σ H Q=>t σ H λc H1=>if c=true then u σ H1 Q else Q false H1
def tOr (t u:TT):TT:=fun σ H Q=>t σ H λc H1=>if c=true then Q true H1 else u σ H1 Q
def tNot (t:TT):TT:=fun σ H Q=>t σ H λc H1=>Q (!c) H1
theorem pw_and1(ha:PT X a tA):PW X (.BoolOp .And [a] pos) tA:=by
 intro wh ϖ s σ H Q I h;show isTrue_and (thn (ha ϖ s σ H Q I h) λc s1 e=>?_);cases c with
 | true=>show isTrue_and_nil e
 | false=>show e
theorem pw_or1(ha:PT X a tA):PW X (.BoolOp .Or [a] pos) tA:=by
 intro wh ϖ s σ H Q I h;show isTrue_or (thn (ha ϖ s σ H Q I h) λc s1 e=>?_);cases c with
 | false=>show isTrue_or_nil e
 | true=>show e
theorem pw_and(ha:PT X a tA)(hb:PW X (.BoolOp .And (b::rest) pos) tB'):PW X (.BoolOp .And (a::b::rest) pos) (tAnd tA tB'):=by
 intro wh ϖ s σ H Q I h;show isTrue_and (thn (ha ϖ s σ H _ I h) λc s1 ⟨H1,I1,q1⟩=>?_);cases c with
 | true=>show hb wh ϖ s1 σ H1 Q I1 q1
 | false=>show⟨H1,I1,q1⟩
theorem pw_or(ha:PT X a tA)(hb:PW X (.BoolOp .Or (b::rest) pos) tB'):PW X (.BoolOp .Or (a::b::rest) pos) (tOr tA tB'):=by
 intro wh ϖ s σ H Q I h;show isTrue_or (thn (ha ϖ s σ H _ I h) λc s1 ⟨H1,I1,q1⟩=>?_);cases c with
 | true=>show⟨H1,I1,q1⟩
 | false=>show hb wh ϖ s1 σ H1 Q I1 q1
def pt_not(ha:PT X a tA):PT X (.UnaryOp .Not a pos) (tNot tA):=by
 intro ϖ s σ H Q I h;show isTrue_not (ha ϖ s σ H (λc H1=>Q (!c) H1) I h)
def Vb (ta tb:TE):TE:=fun σ H Q=>ta σ H λx H1=> ∃c,x= .bl c/\if c=true then tb σ H1 Q else Q (.bl false) H1
def tOrV (ta tb:TE):TE:=fun σ H Q=>ta σ H λx H1=> ∃c,x= .bl c/\if c=true then Q (.bl true) H1 else tb σ H1 Q
def W7 (ta:TE):TE:=fun σ H Q=>ta σ H λx H1=> ∃c,x= .bl c/\Q (.bl (!c)) H1
def pe_one{op}(h:PE X a t):PE X (.BoolOp op [a] pos) t:=λϖ s σ H Q I hw=>BoolOp_one (h ϖ s σ H Q I hw)
theorem pe_and(ha:PE X a ta)(hb:PE X (.BoolOp .And (b::rest) pos) tb):PE X (.BoolOp .And (a::b::rest) pos) (Vb ta tb):=by
 intro ϖ s σ H Q I h;show BoolOp_and (thn (ha ϖ s σ H _ I h) λv s1 ⟨x,H1,I1,r1,q1⟩=>?_);obtain⟨c,rfl,q1⟩:=q1;cases r1
 show wpAny_truthy_bool ?_;cases c with
 | true=>show hb ϖ s1 σ H1 Q I1 q1
 | false=>show⟨.bl false,H1,I1,rfl,q1⟩
theorem pe_or(ha:PE X a ta)(hb:PE X (.BoolOp .Or (b::rest) pos) tb):PE X (.BoolOp .Or (a::b::rest) pos) (tOrV ta tb):=by
 intro ϖ s σ H Q I h;show BoolOp_or (thn (ha ϖ s σ H _ I h) λv s1 ⟨x,H1,I1,r1,q1⟩=>?_);obtain⟨c,rfl,q1⟩:=q1;cases r1
 show wpAny_truthy_bool ?_;cases c with
 | false=>show hb ϖ s1 σ H1 Q I1 q1
 | true=>show⟨.bl true,H1,I1,rfl,q1⟩
def pe_not(ha:PE X a ta):PE X (.UnaryOp .Not a pos) (W7 ta):=by
 intro ϖ s σ H Q I h;show UnaryOp_ (thn (ha ϖ s σ H _ I h) λv s1 ⟨x,H1,I1,r1,q1⟩=>?_);obtain⟨c,rfl,q1⟩:=q1;cases r1
 show not_of (wpAny_truthy_bool ⟨.bl (!c),H1,I1,rfl,q1⟩)
def tIf (t:TT) (ta tb:TE):TE:=fun σ H Q=>t σ H λc H1=>if c=true then ta σ H1 Q else tb σ H1 Q
theorem pe_ifExp(hc:PT X c tA)(ha:PE X a ta)(hb:PE X b tb):PE X (.IfExp c a b pos) (tIf tA ta tb):=by
 intro ϖ s σ H Q I h;show wpAny_IfExp (thn (hc ϖ s σ H _ I h) λd s1 ⟨H1,I1,q1⟩=>?_);cases d with
 | true=>show ha ϖ s1 σ H1 Q I1 q1
 | false=>show hb ϖ s1 σ H1 Q I1 q1
end
def SqL (K:W.Frag) (H:Hp) (a:Addr) (xs:List V):Prop:=
 Rd H a (.lst xs)\/
  ∃(o:Obj) (its:Array Value) (n:Nat),K.lookup a=some o/\o.cls= .type "list"/\o.dict=none/\o.data= .seq its n/\its.size<=sizeLine/\Vals xs its.toList
def SqT (K:W.Frag) (H:Hp) (a:Addr) (xs:List V):Prop:=
 Rd H a (.tup xs)\/
  ∃(o:Obj) (its:Array Value) (n:Nat),K.lookup a=some o/\o.cls= .type "tuple"/\o.data= .seq its n/\its.size<=sizeLine/\Vals xs its.toList
def absV:Value->Option V
 | .none=>some .non
 | .bool b=>some (.bl b)
 | .int i _=>some (.int i)
 | .str x _=>some (.str x)
 | .bytes b _=>some (.byt b)
 | .float b _=>some (.flt b)
 | .ref a=>some (.ref a)
 | .type n=>some (.ty n)
 | _=>none
theorem RelV.abs(r:RelV x u):absV u=some x:=by
 cases x with
 | non=>cases r;rfl
 | bl _=>cases r;rfl
 | int _=>obtain⟨t,rfl⟩:=r;rfl
 | str _=>obtain⟨t,rfl⟩:=r;rfl
 | byt _=>obtain⟨t,rfl⟩:=r;rfl
 | flt _=>obtain⟨t,rfl⟩:=r;rfl
 | ref _=>cases r;rfl
 | ty _=>cases r;rfl
def RelV.inj(r:RelV x u)(q:RelV y u):x=y:=Α (r.abs.symm.trans q.abs)
theorem Vals.inj: ∀{xs ys:List V} {us:List Value},Vals xs us->Vals ys us->xs=ys
 | _,_,_,.nil,.nil=>rfl
 | _,_,_,.cons r t,.cons r' t'=>by rw[r.inj r',Vals.inj t t']
section
variable {X:Cx}{xs ys:List V}
def SqL.of{K:W.Frag}(h:H a=some (.lst xs)):SqL K H a xs:= .inl (.inl h)
def SqT.of{K:W.Frag}(h:H a=some (.tup xs)):SqT K H a xs:= .inl (.inl h)
def Inv.list(I:Inv X ϖ σ H s)(h:SqL X.K H a xs): ∃its:List Value,Vals xs its/\PlainL s.heap a its.toArray/\xs.length<=sizeLine:=by
 rcases h with h | ⟨o,its,n,hk,hc,hd,hs,hz,r⟩
 .obtain⟨z,its,n,r,e⟩:=h.ok I.hok;show⟨its,r,⟨_,n,e,rfl,rfl,rfl⟩,z⟩
 .show⟨its.toList,r,⟨o,n,I.kIn a o hk,hc,hd,by exists hs⟩,?_⟩;have e:=r.length;simp only[Array.length_toList] at e;lia
def Inv.tuple(I:Inv X ϖ σ H s)(h:SqT X.K H a xs): ∃its:List Value,Vals xs its/\IsTup s.heap a its.toArray/\xs.length<=sizeLine:=by
 rcases h with h | ⟨o,its,n,hk,hc,hs,hz,r⟩
 .obtain⟨z,its,r,p⟩:=h.ok I.hok;show⟨its,r,p,z⟩
 .show⟨its.toList,r,⟨o,I.kIn a o hk,hc,n,by exists hs⟩,?_⟩;have e:=r.length;simp only[Array.length_toList] at e;lia
def Inv.list_inj(I:Inv X ϖ σ H s)(h:SqL X.K H a xs)(h':SqL X.K H a ys):xs=ys:=by
 obtain⟨its,r,⟨o,n,e,_,_,d⟩,_⟩:=I.list h;obtain⟨its',r',⟨o',n',e',_,_,d'⟩,_⟩:=I.list h';rw[e] at e';cases e';rw[d] at d';injection d' with d1 _
 have:its=its':=by exists congrArg Array.toList d1
 subst this;show r.inj r'
def Inv.tuple_inj(I:Inv X ϖ σ H s)(h:SqT X.K H a xs)(h':SqT X.K H a ys):xs=ys:=by
 obtain⟨its,r,⟨o,e,_,n,d⟩,_⟩:=I.tuple h;obtain⟨its',r',⟨o',e',_,n',d'⟩,_⟩:=I.tuple h';rw[e] at e';cases e';rw[d] at d';injection d' with d1 _
 have:its=its':=by exists congrArg Array.toList d1
 subst this;show r.inj r'
end
abbrev Cx.wish (X:Cx) (E:VSP):Cx:={X with xe:=E}
abbrev Cx.nox (X:Cx):Cx:=X.wish λ_ _=>False
def Cx.Ok.wish{X:Cx}(ok:X.Ok)(E:VSP):(X.wish E).Ok:=
 ⟨ok.mod,ok.kind,ok.glob,ok.blt,ok.above,ok.inj,ok.has,ok.cab,ok.hd,ok.frames,ok.stk,ok.exf,ok.bs,ok.bsz,ok.noex,ok.exfs,ok.funs,ok.frf⟩
def Cx.Ok.unwish{X:Cx}{E:VSP}(ok:(X.wish E).Ok):X.Ok:=
 ⟨ok.mod,ok.kind,ok.glob,ok.blt,ok.above,ok.inj,ok.has,ok.cab,ok.hd,ok.frames,ok.stk,ok.exf,ok.bs,ok.bsz,ok.noex,ok.exfs,ok.funs,ok.frf⟩
section
variable {X:Cx}
def Inv.wish(I:Inv X ϖ σ H s)(E:VSP):Inv (X.wish E) ϖ σ H s:=⟨I.ok.wish E,I.os,I.bare,I.base,I.loc,I.cell,I.free,I.freeC,I.pin,I.hok,I.len⟩
def Inv.unwish(I:Inv (X.wish E) ϖ σ H s):Inv X ϖ σ H s:=⟨I.ok.unwish,I.os,I.bare,I.base,I.loc,I.cell,I.free,I.freeC,I.pin,I.hok,I.len⟩
theorem SP.unwish{f:Flow}(h:SP (X.wish E) ϖ D f s'):SP X ϖ D f s':=by
 cases f with
 | next=>obtain⟨σ',H',I,q⟩:=h;show⟨σ',H',I.unwish,q⟩
 | brk=>obtain⟨σ',H',I,q⟩:=h;show⟨σ',H',I.unwish,q⟩
 | cont=>obtain⟨σ',H',I,q⟩:=h;show⟨σ',H',I.unwish,q⟩
 | ret u=>obtain⟨v,σ',H',I,r,q⟩:=h;show⟨v,σ',H',I.unwish,r,q⟩
def PSs.nox{st:List Stmt}{t:TS}(h:PSs X.nox st t):PSs X st t:=λϖ s σ H D I hw=>
 wpAny_mono (h ϖ s σ H D (I.wish _) hw) (λ_ _ q=>q.unwish) λ_ _ z=>False.elim z
end
section
variable {X:Cx}{st:Stmt}{rest:List Stmt}
def Wc:TS:=λD σ H=>D.nx σ H
def tSeq (t u:TS):TS:=λD σ H=>t {D with nx:=u D} σ H
def pss_nil:PSs X [] Wc:=λ_ _ σ H _ I h=>wpAny_execs_nil ⟨σ,H,I,h⟩
theorem Yl(h1:PS X st t)(h2:PSs X rest u):PSs X (st::rest) (tSeq t u):=by
 intro ϖ s σ H D I h;show wpAny_execs_cons (thn (h1 ϖ s σ H {D with nx:=u D} I h) λf s1 q=>?_);cases f with
 | next=>
  obtain⟨σ',H',I',q⟩:=q;show h2 ϖ s1 σ' H' D I' q
 | ret v=>show q
 | brk=>show q
 | cont=>show q
theorem ZE(h1:PS X st t):PSs X [st] t:=by
 intro ϖ s σ H D I h;show wpAny_execs_cons (thn (h1 ϖ s σ H D I h) λf s1 q=>?_);cases f with
 | next=>show wpAny_execs_nil q
 | ret v=>show q
 | brk=>show q
 | cont=>show q
def Wg:TS:=λD σ H=>D.bk σ H
def Va:TS:=λD σ H=>D.ct σ H
def ps_pass:PS X (.Pass pos) Wc:=λ_ _ σ H _ I h=>wpAny_Pass ⟨σ,H,I,h⟩
def ps_break:PS X (.Break pos) Wg:=λ_ _ σ H _ I h=>wpAny_Break ⟨σ,H,I,h⟩
def ps_continue:PS X (.Continue pos) Va:=λ_ _ σ H _ I h=>wpAny_Continue ⟨σ,H,I,h⟩
def Inv.quiet(I:Inv X ϖ σ H s):interactive X.env=false:=by simp[interactive,I.ok.kind]
def W8 (te:TE):TS:=λD σ H=>te σ H λ_ H1=>D.nx σ H1
def ps_expr(he:PE X e te)(hs:swapsWith e none pos.line X.env=pure false:=by rfl):PS X (.Expr e pos) (W8 te):=by
 intro ϖ s σ H D I h;show wpAny_Expr_any (thn (he ϖ s σ H _ I h) λv s1 ⟨x,H1,I1,r1,q1⟩=>⟨σ,H1,I1,q1⟩) I.quiet hs
def tRet (te:TE):TS:=λD σ H=>te σ H D.rt
def ps_ret(he:PE X e te):PS X (.Return (some e) pos) (tRet te):=by
 intro ϖ s σ H D I h;show wpAny_Return_some (thn (he ϖ s σ H _ I h) λv s1 ⟨x,H1,I1,r1,q1⟩=>⟨x,σ,H1,I1,r1,q1⟩)
def W6:TS:=λD _ H=>D.rt .non H
def ps_retN:PS X (.Return none pos) W6:=λ_ _ σ H _ I h=>wpAny_Return_none ⟨.non,σ,H,I,rfl,h⟩
def tIfS (c:TT) (t u:TS):TS:=λD σ H=>c σ H λb H1=>if b=true then t D σ H1 else u D σ H1
theorem ps_if(hc:PT X c tc)(ha:PSs X a t)(hb:PSs X b u):PS X (.If c a b pos) (tIfS tc t u):=by
 intro ϖ s σ H D I h;show wpAny_If (thn (hc ϖ s σ H _ I h) λd s1 ⟨H1,I1,q1⟩=>?_);cases d with
 | true=>show ha ϖ s1 σ H1 D I1 q1
 | false=>show hb ϖ s1 σ H1 D I1 q1
def YJ:TS:=λ_ _ _=>False
def Ym:PS X st YJ:=λ_ _ _ _ _ _ h=>h.elim
end
abbrev TG:=V->St->Hp->(St->Hp->Prop)->Prop
abbrev TGs:=List V->St->Hp->(St->Hp->Prop)->Prop
def PG (X:Cx) (target:Expr) (t:TG):Prop:=
 ∀(ϖ:List (Addr×Obj)) (s:Shared) (σ:St) (H:Hp) (v:V) (u:Value) (Q:St->Hp->Prop),Inv X ϖ σ H s->RelV v u->t v σ H Q->
  wpAny (model X.prog X.w) X.A (assign target X.env u) (λ_ s'=> ∃σ' H',Inv X ϖ σ' H' s'/\Q σ' H') X.xe s
def PGs (X:Cx) (ts:List Expr) (t:TGs):Prop:=
 ∀(ϖ:List (Addr×Obj)) (s:Shared) (σ:St) (H:Hp) (vs:List V) (us:List Value) (Q:St->Hp->Prop),Inv X ϖ σ H s->Vals vs us->t vs σ H Q->
  wpAny (model X.prog X.w) X.A (assignInOrder ((assignEach ts X.env).map (·.2)) us) (λ_ s'=> ∃σ' H',Inv X ϖ σ' H' s'/\Q σ' H') X.xe s
abbrev TSet:=V->V->V->Hp->(Hp->Prop)->Prop
def PSet (X:Cx) (t:TSet):Prop:=
 ∀(ϖ:List (Addr×Obj)) (s:Shared) (σ:St) (H:Hp) (o i v:V) (ov iv u:Value) (Q:Hp->Prop),Inv X ϖ σ H s->RelV o ov->RelV i iv->RelV v u->t o i v H Q->
  wpAny (model X.prog X.w) X.A (setItem ov iv u) (λ_ s'=> ∃H',Inv X ϖ σ H' s'/\Q H') X.xe s
abbrev TIp:=V->V->Hp->VK->Prop
def PIp (X:Cx) (op:Operator) (t:TIp):Prop:=
 ∀(ϖ:List (Addr×Obj)) (s:Shared) (σ:St) (H:Hp) (x y:V) (v u:Value) (Q:VK),Inv X ϖ σ H s->RelV x v->RelV y u->t x y H Q->
  wpAny (model X.prog X.w) X.A (inplaceOp op v u) (EP X ϖ σ Q) X.xe s
section
variable {X:Cx}
def yj (i:Nat):TG:=λv σ H Q=>Q (σ.set i (some v)) H
def ZF(hN:X.N.Nodup)(hi:X.N[i]? =some x)(hx:Loc X.env.scope x)(hf:X.fn x=true\/X.env.scope.names.lookup x=some .local:=by first | show .inl rfl | show .inr rfl | assumption):PG X (.Name x pos) (yj i):=by
 intro ϖ s σ H v u Q I r h;show wpAny_assign_Name (yZ I hN hi hx r (λs' I'=>⟨_,H,I',h⟩) hf)
def gNil:TGs:=λvs σ H Q=>vs=[]/\Q σ H
def VG (t:TG) (u:TGs):TGs:=λvs σ H Q=> ∃v r,vs=v::r/\t v σ H fun σ' H'=>u r σ' H' Q
def pgs_nil:PGs X [] gNil:=by
 intro ϖ s σ H vs us Q I r h;obtain⟨e,h⟩:=h;subst e;cases r
 show assignInOrder_nil ⟨σ,H,I,h⟩
theorem pgs_cons(h1:PG X e t)(h2:PGs X es u)
  (hs:(assignEach (e::es) X.env).map (·.2)=assign e X.env::(assignEach es X.env).map (·.2):=by rfl):PGs X (e::es) (VG t u):=by
 intro ϖ s σ H vs us Q I r h;obtain⟨v,vr,e1,h⟩:=h;subst e1;cases r with
 | cons r rr=>
  rw[hs];show assignInOrder_cons (thn (h1 ϖ s σ H _ _ _ I r h) λ_ s1 ⟨σ1,H1,I1,q1⟩=>?_);show h2 ϖ s1 σ1 H1 _ _ Q I1 rr q1
def gTup (K:W.Frag) (n:Nat) (t:TGs):TG:=λv σ H Q=> ∃a xs,v= .ref a/\SqT K H a xs/\xs.length=n/\t xs σ H Q
def WA{n:Nat}(hc:X.calm=true)(h:PGs X es t)
  (hn:(assignEach es X.env).length=n:=by rfl) (hst:(assignEach es X.env).findIdx? (·.1)=none:=by rfl):PG X (.Tuple es k pos) (gTup X.K n t):=by
 intro ϖ s σ H v u Q I r hw;obtain⟨a,xs,e1,hq,hl,hw⟩:=hw;subst e1;cases r
 obtain⟨its,rv,ht,hz⟩:=I.tuple hq;show assign_Tuple_tuple (I.ok.hd hc) ht (by simp[hn,<-hl,rv.length]) hst λh' hx=>?_;have I1:Inv X ϖ σ H {s with heap:=h'}:=I.kept (t':=s.toks) λb o e=>hx b o (Ι (ι e)) e;show h ϖ _ σ H xs _ Q I1 (by exists rv) hw
def gSub (to ti:TE) (t:TSet):TG:=λv σ H Q=>to σ H λo H1=>ti σ H1 λi H2=>t o i v H2 λH3=>Q σ H3
def pg_sub(ho:PE X o to)(hi:PE X i ti)(hs:PSet X t)
  (ha: ∀v,assign (.Subscript o i pos) X.env v=(do
   let ov<-holding [v] (eval o X.env)
   let iv<-holding [v,ov] (eval i X.env)
   standAt pos
   holding [v,ov,iv] (setItem ov iv v)
   release [v,ov,iv] []):=by intro _;rfl):PG X (.Subscript o i pos) (gSub to ti t):=by
 intro ϖ s σ H v u Q I r h;rw[ha];show γ (wpAny_holding (thn (ho ϖ s σ H _ I h) λov s1 ⟨x,H1,I1,r1,q1⟩=>?_));show γ (wpAny_holding (thn (hi ϖ s1 σ H1 _ I1 q1) λiv s2 ⟨y,H2,I2,r2,q2⟩=>?_));show γ (wpAny_standAt (γ (wpAny_holding (thn (hs ϖ s2 σ H2 x y v ov iv u _ I2 r1 r2 r q2) λ_ s3 ⟨H3,I3,q3⟩=>?_))));show wpAny_release ⟨σ,H3,I3,q3⟩
def tAsg (te:TE) (g:TG):TS:=λD σ H=>te σ H λx H1=>g x σ H1 D.nx
def Wy(he:PE X e te)(hg:PG X tg g)(hs:swapsWithSole [tg] e pos.line X.env=pure false:=by rfl)(hw:swappedStores [tg] e X.env=pure none:=by rfl)
  (h1:(assignEach [tg] X.env).map (·.2)=[assign tg X.env]:=by rfl):PS X (.Assign [tg] e pos) (tAsg te g):=by
 intro ϖ s σ H D I h;show wpAny_Assign_stores (thn (he ϖ s σ H _ I h) λv s1 ⟨x,H1,I1,r1,q1⟩=>?_) hs hw;rw[h1];show thn (hg ϖ s1 σ H1 x v _ I1 r1 q1) λ_ s2 q=>q
def YQ(hN:X.N.Nodup)(hi:X.N[i]? =some x)(hx:Loc X.env.scope x)(he:PE X e te)(hs:swapsWith e (some (.Name x pos')) pos.line X.env=pure false:=by rfl)(hf:X.fn x=true\/X.env.scope.names.lookup x=some .local:=by first | show .inl rfl | show .inr rfl | assumption):
  PS X (.Assign [.Name x pos'] e pos) (tAsg te (yj i)):=by
 intro ϖ s σ H D I h;show wpAny_Assign_Name (thn (he ϖ s σ H _ I h) λv s1 ⟨y,H1,I1,r1,q1⟩=>?_) hs;show yZ I1 hN hi hx r1 (λs2 I2=>⟨_,H1,I2,q1⟩) hf
def tAug (i:Nat) (te:TE) (ti:TIp):TS:=λD σ H=> ∃x,σ[i]? =some (some x)/\te σ H λy H1=>ti x y H1 λz H2=>D.nx (σ.set i (some z)) H2
def Wx(hN:X.N.Nodup)(hi:X.N[i]? =some x)(hx:Loc X.env.scope x)(he:PE X e te)(ho:PIp X op ti)(hf:X.fn x=true\/X.env.scope.names.lookup x=some .local:=by first | show .inl rfl | show .inr rfl | assumption):
  PS X (.AugAssign (.Name x pos') op e pos) (tAug i te ti):=by
 intro ϖ s σ H D I h;obtain⟨v,e1,h⟩:=h;obtain⟨m,hn,hl⟩:=I.loc;have vis:Vis X.env.scope x:=by rcases hx with k | k;show .inl k;show .inr (.inl k)
 obtain⟨u,r,l⟩:=hl i x v hi e1 vis;show wpAny_AugAssign_Name ?_;have go:wpAny (model X.prog X.w) X.A (eval e X.env) (λw s₂=>wpAny (model X.prog X.w) X.A (inplaceOp op u w) (λr s₃=>wpAny (model X.prog X.w) X.A (storeName X.env x r) (λ_=>SP X ϖ D .next) X.xe s₃) X.xe s₂) X.xe s:=by
  show thn (he ϖ s σ H _ I h) λw s1 ⟨y,H1,I1,r1,q1⟩=>?_;show thn (ho ϖ s1 σ H1 v y u w _ I1 r r1 q1) λz s2 ⟨zv,H2,I2,r2,q2⟩=>?_;show yZ I2 hN hi hx r2 (λs3 I3=>⟨_,H2,I3,q2⟩) hf
 rcases l with ⟨hk,hm⟩ | ⟨hk,c,hc,hcell⟩
 .show wpAny_loadName_local I.ok.kind hk hn hm go
 .rcases hk with hk | hk
  .show wpAny_loadName_cell I.ok.kind hk hc hcell go
  .rcases hx with k | k
   .have:X.env.scope.names.lookup x=some .free:=hk;rw[k] at this;cases this
   .have:X.env.scope.names.lookup x=some .free:=hk;rw[k] at this;cases this
def ipI (f:Int->Int->Int):TIp:=λx y H Q=> ∃i j,x= .int i/\y= .int j/\Q (.int (f i j)) H
def ip_add:PIp X .Add (ipI λi j=>i+j):=by
 intro ϖ s σ H x y v u Q I r1 r2 h;obtain⟨i,j,e1,e2,q⟩:=h;subst e1;subst e2;obtain⟨t,rfl⟩:=r1;obtain⟨t',rfl⟩:=r2;show iadd_int ⟨.int _,H,I.tok _,⟨_,rfl⟩,q⟩
def ip_sub:PIp X .Sub (ipI λi j=>i-j):=by
 intro ϖ s σ H x y v u Q I r1 r2 h;obtain⟨i,j,e1,e2,q⟩:=h;subst e1;subst e2;obtain⟨t,rfl⟩:=r1;obtain⟨t',rfl⟩:=r2;show isub_int ⟨.int _,H,I.tok _,⟨_,rfl⟩,q⟩
def Wa (c:TT) (tb:TS):TS:=λD σ H=> ∃W:Nat->St->Hp->Prop,(∃m,W m σ H)/\ ∀m σ H,W m σ H->
 c σ H λb H1=>if b=true then∃N:St->Hp->Prop,(∀σ' H',N σ' H'-> ∃m',m'<m/\W m' σ' H')/\tb {D with nx:=N,ct:=N,bk:=D.nx} σ H1 else D.nx σ H1
theorem ps_while(hp:PassesOwn (model X.prog X.w) X.A X.env X.xe)(hc:PT X c tc)(hb:PSs X body tb):PS X (.While c body [] pos) (Wa tc tb):=by
 intro ϖ s σ H D I h;obtain⟨W,⟨m0,w0⟩,turn⟩:=h;show wpAny_While (codeAny_whileLoop (λn s'=> ∃σ' H',Inv X ϖ σ' H' s'/\W n σ' H') ?_ m0 ⟨σ,H,I,w0⟩);rintro n s1 ⟨σ1,H1,I1,w1⟩;show wpAny_passesOwn hp (thn (hc ϖ s1 σ1 H1 _ I1 (turn n σ1 H1 w1)) λb s2 ⟨H2,I2,q2⟩=>?_);cases b with
 | true=>
  obtain⟨N,hN,q2⟩:=q2;rw[if_pos rfl];show wpAny_passesOwn hp (thn (hb ϖ s2 σ1 H2 _ I2 q2) λf s3 q3=>?_);cases f with
  | next=>
   obtain⟨σ3,H3,I3,n3⟩:=q3;obtain⟨m',hm,w3⟩:=hN σ3 H3 n3;show⟨m',hm,σ3,H3,I3,w3⟩
  | cont=>
   obtain⟨σ3,H3,I3,n3⟩:=q3;obtain⟨m',hm,w3⟩:=hN σ3 H3 n3;show⟨m',hm,σ3,H3,I3,w3⟩
  | brk=>show q3
  | ret v=>show q3
 | false=>
  rw[if_neg Δ];show wpAny_execs_nil ⟨σ1,H2,I2,q2⟩
end
structure It where
 go:Nat->Hp->Prop
 yld:Nat->Hp->V->Hp->Prop
 stop:Nat->Hp->Prop
def FpOk (X:Cx) (ϖ:List (Addr×Obj)) (H:Hp) (b:Addr):Prop:=
 H b=none/\b≠X.env.locals/\b∉X.fs/\(b∈X.ex\/X.s₀.heap.objs.size<=b)/\(∀x c,X.env.cells.lookup x=some c->c≠b)/\ ∀p∈X.pn++ϖ,p.1≠b
def Inv.fpOk(I:Inv X ϖ σ H s)(hb:⇑s<=b)(hn:H' b=none):FpOk X ϖ H' b:=by
 show⟨hn,Χ (θ I.lt hb),I.nofs hb,.inr (η I.sz hb),λx c e z=>?_,λp hp z=>?_⟩
 .obtain⟨v,q⟩:=I.cell x c e;show absurd (θ q.lt (by rw[z];show hb)) (Λ _)
 .show absurd (θ (ι (I.pin p hp).1) (by rw[z];show hb)) (Λ _)
structure Turn (P:Program) (w:World) (K:W.Frag) (tg:Expr) (J:It) (fp:List Addr) (it:Addr) (tn:Nat->Heap->Prop):Prop where
 mem:it∈fp
 obj: ∀i h,tn i h-> ∀b∈fp,∃o,h.get? b=some o/\ ∀v,o.data≠.cell v
 keep: ∀i h h',tn i h->(∀b∈fp,∀o,h.get? b=some o->h'.get? b=some o)->tn i h'
 item: ∀(X:Cx),X.prog=P->X.w=w->X.K=K->X.calm=true-> ∀(i:Nat) (ϖ:List (Addr×Obj)) (s:Shared) (σ:St) (H:Hp) (E:VSP),Inv X ϖ σ H s->(∀b∈fp,FpOk X ϖ H b)->tn i s.heap->J.go i H->
  wpAny (model P w) X.A (pyNext (.ref it)) (λr s1=> ∃u,r=some u/\
   wpAny (model P w) X.A (letOwnedTupleGo tg (.ref it) u) (λ_ s2=> ∃x H',Inv X ϖ σ H' s2/\RelV x u/\J.yld i H x H'/\tn (i+1) s2.heap/\ ∀b∈fp,H' b=none) E s1) E s
 done: ∀(X:Cx),X.prog=P->X.w=w->X.K=K->X.calm=true-> ∀(i:Nat) (ϖ:List (Addr×Obj)) (s:Shared) (σ:St) (H:Hp) (E:VSP),Inv X ϖ σ H s->(∀b∈fp,FpOk X ϖ H b)->tn i s.heap->J.stop i H->
  wpAny (model P w) X.A (pyNext (.ref it)) (λr s1=>r=none/\Inv X ϖ σ H s1) E s
 self: ∀(A:Around) (i:Nat) (s:Shared) (Q:VSP) (E:VSP),tn i s.heap->Q (.ref it) s->wpAny (model P w) A (pyIter (.ref it)) Q E s
abbrev TI:=St->Hp->(It->Hp->Prop)->Prop
def PIE (X:Cx) (ϖ:List (Addr×Obj)) (σ:St) (tg:Expr) (R:It->Hp->Prop) (itv:Value) (s2:Shared):Prop:=
 ∃(it:Addr) (fp:List Addr) (tn:Nat->Heap->Prop) (J:It) (H':Hp),itv= .ref it/\Inv X ϖ σ H' s2/\Turn X.prog X.w X.K tg J fp it tn/\tn 0 s2.heap/\(∀b∈fp,FpOk X ϖ H' b)/\R J H'
def PI (X:Cx) (tg iter:Expr) (wi:TI):Prop:=
 ∀(ϖ:List (Addr×Obj)) (s:Shared) (σ:St) (H:Hp) (R:It->Hp->Prop),Inv X ϖ σ H s->wi σ H R->
  wpAny (model X.prog X.w) X.A (eval iter X.env) (λv s1=>wpAny (model X.prog X.w) X.A (pyIter v) (PIE X ϖ σ tg R) X.xe s1) X.xe s
theorem XJ{E:VSP}{s:Shared}{Q:Unit->Shared->Prop}(ho:s.heap.get? it=some o)(hc:o.cls= .type n)(hd:o.data= .fields vs)
    (hn:["enumerate","zip","dict_itemiterator","dict_reverseitemiterator","odict_iterator","itertools.zip_longest","itertools.pairwise"].contains n=false) (hQ:Q () s):wpAny M A (letOwnedTupleGo tg (.ref it) u) Q E s:=by
  unfold letOwnedTupleGo;cases tg<;>first
    | show ε hQ
    | (cases u<;>first
        | show ε hQ
        | (show γ (wpAny_load ho ?_)
           rw[hc,hd];change wpAny M A (if (["enumerate","zip","dict_itemiterator","dict_reverseitemiterator","odict_iterator","itertools.zip_longest","itertools.pairwise"].contains n&&vs[0]? ==some (rawInt _))=true then _ else _) Q E s;rw[if_neg (by intro h;rw[hn,Bool.false_and] at h;cases h)];show ε hQ))
def Itl (K:W.Frag) (a:Addr):It:=
 ⟨λi H=> ∃xs x,SqL K H a xs/\xs[i]? =some x,λi H x H'=>H'=H/\ ∀xs,SqL K H a xs->xs[i]? =some x,λi H=> ∃xs,SqL K H a xs/\xs.length<=i⟩
def Itt (K:W.Frag) (a:Addr):It:=
 ⟨λi H=> ∃xs x,SqT K H a xs/\xs[i]? =some x,λi H x H'=>H'=H/\ ∀xs,SqT K H a xs->xs[i]? =some x,λi H=> ∃xs,SqT K H a xs/\xs.length<=i⟩
def Itr (lo:Int) (n:Nat):It:=⟨λi _=>i<n,λi H x H'=>H'=H/\x= .int (lo+i),λi _=>n<=i⟩
def turn_list{P:Program}{w:World}{K:W.Frag}{tg:Expr}(a it:Addr):Turn P w K tg (Itl K a) [it] it (λi h=>h.IsListIter it a i) where
 mem:=by simp
 obj:=λi h st b hb=>by
  have e:b=it:=by exists hb
  subst e;obtain⟨o,e,c,d⟩:=st;show⟨o,e,λv z=>by rw[d] at z;cases z⟩
 keep:=λi h h' st k=>st.at λo e=>k it Sort o e
 item:=by
  intro X hP hw hK hc i ϖ s σ H E I hf st hg;subst hP hw hK;obtain⟨xs,x,hq,hx⟩:=hg;obtain⟨its,rv,p,hz⟩:=I.list hq;obtain⟨u,hu,ru⟩:=rv.get hx;obtain⟨f0,f1,f2,f3,f4,f5⟩:=hf it Sort;show wpAny_pyNext_list_item st p.isList (x:=u) (by exists hu) λh' st' sb=>?_;have I1:Inv X ϖ σ H {s with heap:=h'}:=I.turned (t':=s.toks) (λb o hb e=>(sb.2 b hb).trans e) f0 f1 f3 f4 f5;obtain⟨o,e,c,d⟩:=id st';show⟨u,rfl,XJ (s:={s with heap:=h'}) e c d ⋯ ⟨x,H,I1,ru,⟨rfl,λys hy=>by rw[I.list_inj hy hq];show hx⟩,st',λb hb=>(hf b hb).1⟩⟩
 done:=by
  intro X hP hw hK hc i ϖ s σ H E I hf st hg;subst hP hw hK;obtain⟨xs,hq,hx⟩:=hg;obtain⟨its,rv,p,hz⟩:=I.list hq;obtain⟨f0,f1,f2,f3,f4,f5⟩:=hf it Sort;have hl:=rv.length;show wpAny_pyNext_list_end (I.ok.hd hc) st p.isList (by simp;lia) λh' eb=>⟨rfl,I.turned (t':=s.toks) (λb o hb e=>eb b o hb e) f0 f1 f3 f4 f5⟩
 self:=λ_ _ _ _ _ st h=>wpAny_pyIter_listiter st h
def turn_tuple{P:Program}{w:World}{K:W.Frag}{tg:Expr}(a it:Addr):Turn P w K tg (Itt K a) [it] it (λi h=>h.IsTupleIter it a i) where
 mem:=by simp
 obj:=λi h st b hb=>by
  have e:b=it:=by exists hb
  subst e;obtain⟨o,e,c,d⟩:=st;show⟨o,e,λv z=>by rw[d] at z;cases z⟩
 keep:=λi h h' st k=>st.at λo e=>k it Sort o e
 item:=by
  intro X hP hw hK hc i ϖ s σ H E I hf st hg;subst hP hw hK;obtain⟨xs,x,hq,hx⟩:=hg;obtain⟨its,rv,p,hz⟩:=I.tuple hq;obtain⟨u,hu,ru⟩:=rv.get hx;obtain⟨f0,f1,f2,f3,f4,f5⟩:=hf it Sort;show wpAny_pyNext_tuple_item st (show s.heap.IsTuple a its.toArray from p) (x:=u) (by exists hu) λh' st' sb=>?_;have I1:Inv X ϖ σ H {s with heap:=h'}:=I.turned (t':=s.toks) (λb o hb e=>(sb.2 b hb).trans e) f0 f1 f3 f4 f5;obtain⟨o,e,c,d⟩:=id st';show⟨u,rfl,XJ (s:={s with heap:=h'}) e c d ⋯ ⟨x,H,I1,ru,⟨rfl,λys hy=>by rw[I.tuple_inj hy hq];show hx⟩,st',λb hb=>(hf b hb).1⟩⟩
 done:=by
  intro X hP hw hK hc i ϖ s σ H E I hf st hg;subst hP hw hK;obtain⟨xs,hq,hx⟩:=hg;obtain⟨its,rv,p,hz⟩:=I.tuple hq;obtain⟨f0,f1,f2,f3,f4,f5⟩:=hf it Sort;have hl:=rv.length;show wpAny_pyNext_tuple_end (I.ok.hd hc) st (show s.heap.IsTuple a its.toArray from p) (by simp;lia) λh' eb=>⟨rfl,I.turned (t':=s.toks) (λb o hb e=>eb b o hb e) f0 f1 f3 f4 f5⟩
 self:=λ_ _ _ _ _ st h=>wpAny_pyIter_tupleiter st h
def turn_range{P:Program}{w:World}{K:W.Frag}{tg:Expr}(it:Addr)(lo:Int)(n:Nat):Turn P w K tg (Itr lo n) [it] it (λi h=>IsRangeIter h it (lo+(i:Nat)*1) ((n:Int)-(i:Nat)) 1) where
 mem:=by simp
 obj:=λi h st b hb=>by
  have e:b=it:=by exists hb
  subst e;show⟨_,st,λv z=>by
   have z':Data.fields _=Data.cell v:=z;cases z'⟩
 keep:=λi h h' st k=>k it Sort _ st
 item:=by
  intro X hP hw hK hc i ϖ s σ H E I hf st hg;subst hP hw hK;obtain⟨f0,f1,f2,f3,f4,f5⟩:=hf it Sort;have W:=Walks.range (prog:=X.prog) (w:=X.w) (I.ok.hd hc) it lo 1 n;show W.item i s _ _ hg st λv h' tk hv st' kk=>?_;obtain⟨t,rfl⟩:=hv;have I1:Inv X ϖ σ H {s with heap:=h',toks:=tk}:=I.turned (λb o hb e=>kk b o (by exists hb) e) f0 f1 f3 f4 f5;show⟨_,rfl,XJ (s:={s with heap:=h',toks:=tk}) (n:="range_iterator") st' rfl rfl ⋯ ⟨.int (lo+i),H,I1,⟨t,?_⟩,⟨rfl,rfl⟩,st',λb hb=>(hf b hb).1⟩⟩;rw[Int.mul_one]
 done:=by
  intro X hP hw hK hc i ϖ s σ H E I hf st hg;subst hP hw hK;obtain⟨f0,f1,f2,f3,f4,f5⟩:=hf it Sort;show wpAny_pyNext_range_end (I.ok.hd hc) st (by have:n<=i:=hg;lia) λh' eb=>⟨rfl,I.turned (t':=s.toks) (λb o hb e=>eb b o hb e) f0 f1 f3 f4 f5⟩
 self:=λ_ _ _ _ _ st h=>wpAny_pyIter_rangeiter st h
section
variable {X:Cx}
def Yk{ϖ:List (Addr×Obj)}{σ:St}{H:Hp}{s:Shared}{R:It->Hp->Prop}{E:VSP}{lo hi:Int}{t u v:Tok}{tk:Nat}(I:Inv X ϖ σ H s)(h1: -(2^62)<=lo)(h2:lo<2^62)(h3: -(2^62)<=hi)(h4:hi<2^62)
  (q:R (Itr lo (hi - lo).toNat) H):wpAny (model X.prog X.w) X.A (pyIter (.ref ⇑s)) (PIE X ϖ σ tg R) E {s with heap:=s.heap.push {cls:= .type "range",data:= .fields #[.int lo t,.int hi u,.int 1 v]},toks:=tk}:=by
 show wpAny_pyIter_range (IsRange.new ..) (small_one h1 h2 h3 h4) ?_;have I1:Inv X ϖ σ H {s with heap:=s.heap.push {cls:= .type "range",data:= .fields #[.int lo t,.int hi u,.int 1 v]},toks:=tk}:=I.kept λb o e=>δ _ e;show⟨(s.heap.push {cls:= .type "range",data:= .fields #[.int lo t,.int hi u,.int 1 v]}).objs.size,[(s.heap.push {cls:= .type "range",data:= .fields #[.int lo t,.int hi u,.int 1 v]}).objs.size],_,_,H,rfl,
  I1.kept (t':=tk) λb o e=>δ _ e,turn_range _ lo (hi-lo).toNat,?_,λb hb=>?_,q⟩
 .have e1:lo+((0:Nat):Int)*1=lo:=by simp
  have e2:(((hi-lo).toNat:Nat):Int)-((0:Nat):Int)=Builtin.Range.rangeSize lo hi 1:=by rw[rangeSize_one];split<;>lia
  change IsRangeIter _ _ (lo+((0:Nat):Int)*1) ((((hi-lo).toNat:Nat):Int)-((0:Nat):Int)) 1;rw[e1,e2];show ο _ rfl
 .have e:b=(s.heap.push {cls:= .type "range",data:= .fields #[.int lo t,.int hi u,.int 1 v]}).objs.size:=by exists hb
  subst e;show I1.fpOk (μ _) (I1.hok.fresh (μ _))
def WP (ta:TA):TI:=fun σ H R=>ta σ H λvs H1=> ∃j:Int,vs=[.int j]/\ -(2^62)<=j/\j<2^62/\R (Itr 0 j.toNat) H1
def WO (ta:TA):TI:=fun σ H R=>ta σ H λvs H1=> ∃i j:Int,vs=[.int i,.int j]/\(-(2^62)<=i/\i<2^62/\ -(2^62)<=j/\j<2^62)/\R (Itr i (j-i).toNat) H1
theorem pi_range1{a:Expr}{ta:TA}{p pos:Pos}(hg:Gl X "range")(hm:X.mg "range"=none)(ha:PA X [a] ta)(hs:starEach [a] X.env=[(false,eval a X.env)]:=by rfl):PI X tg (.Call (.Name "range" p) [a] [] pos) (WP ta):=by
 intro ϖ s σ H R I h;show Call_ (xh I hg hm boot_range (PyProof.Rows.callWith_type1 (thn (ha pos ϖ s σ H _ I h) λus s1 ⟨vs,H1,I1,r1,q1⟩=>?_) hs rfl));obtain⟨j,e,q1,q2,q⟩:=q1;subst e;cases r1 with
 | cons r rr=>
  cases rr
  obtain⟨t,rfl⟩:=r;show call_range_1 (Yk I1 ∅ ∅ q1 q2 (by exists q))
theorem pi_range2(hg:Gl X "range")(hm:X.mg "range"=none)(ha:PA X [a,b] ta)(hs:starEach [a,b] X.env=[(false,eval a X.env),(false,eval b X.env)]:=by rfl)(hs2:starEach [b] X.env=[(false,eval b X.env)]:=by rfl):
  PI X tg (.Call (.Name "range" p) [a,b] [] pos) (WO ta):=by
 intro ϖ s σ H R I h;show Call_ (xh I hg hm boot_range (PyProof.Rows.callWith_type1 (thn (ha pos ϖ s σ H _ I h) λus s1 ⟨vs,H1,I1,r1,q1⟩=>?_) (by rw[hs,hs2]) (by rw[hs2];rfl)));obtain⟨i,j,e,⟨q1,q2,q3,q4⟩,q⟩:=q1;subst e;cases r1 with
 | cons r rr=>
  cases rr with
  | cons r' rr=>
   cases rr
   obtain⟨t,rfl⟩:=r;obtain⟨t',rfl⟩:=r';show call_range_2 (Yk I1 q1 q2 q3 q4 q)
def tFor (wi:TI) (g:TG) (tb:TS):TS:=λD σ H=>wi σ H λJ H1=> ∃W:Nat->Nat->St->Hp->Prop,(∃m,W 0 m σ H1)/\ ∀i m σ H,W i m σ H->
 (J.stop i H/\D.nx σ H)\/(J.go i H/\ ∃N:St->Hp->Prop,(∀σ' H',N σ' H'-> ∃m',m'<m/\W (i+1) m' σ' H')/\ ∀x H',J.yld i H x H'->g x σ H' fun σ2 H2=>tb {D with nx:=N,ct:=N,bk:=D.nx} σ2 H2)
def vG (fp:List Addr) (h:Heap):List (Addr×Obj):=fp.filterMap λb=>(h.get? b).map λo=>(b,o)
def yE{h:Heap}(hb:b∈fp)(e:h.get? b=some o):(b,o)∈vG fp h:=List.mem_filterMap.mpr ⟨b,hb,by rw[e];rfl⟩
theorem of_pinsAt(hp:p∈vG fp h):p.1∈fp/\h.get? p.1=some p.2:=by
 obtain⟨b,hb,e⟩:=List.mem_filterMap.mp hp;cases q:h.get? b with
 | none=>rw[q] at e;cases e
 | some o=>
  rw[q] at e;have e':(b,o)=p:=Α e;subst e';show⟨hb,q⟩
def Inv.pinned(I:Inv X ϖ σ H s)(hf: ∀b∈fp,FpOk X ϖ H b)(ho: ∀b∈fp,∃o,s.heap.get? b=some o/\ ∀v,o.data≠.cell v):Inv X (ϖ++vG fp s.heap) σ H s:=
 I.pins_of λp hp=>(Γ.mp hp).elim (λz=>I.pin p (Μ _ z)) λz=>by
  obtain⟨hb,e⟩:=of_pinsAt z;obtain⟨f0,f1,f2,_⟩:=hf p.1 hb;obtain⟨o,e',d⟩:=ho p.1 hb;rw[e] at e';cases e';show⟨e,f0,f1,f2,d⟩
def Inv.unpinned(I:Inv X (ϖ++pl) σ H s):Inv X ϖ σ H s:=I.pins_of λp hp=>I.pin p (Μ _ (Ψ _ hp))
theorem ps_for(hp:PassesOwn (model X.prog X.w) X.A X.env X.xe)(hc:X.calm=true)(hi:PI X tg iter wi)(hg:PG X tg g)(hb:PSs X body tb)
  (hs: ∀x,foldedSetIterable iter X.env x=pure x:=by intro _;rfl):PS X (.For tg iter body [] pos) (tFor wi g tb):=by
 intro ϖ s σ H D I h;show wpAny_For (thn (hi ϖ s σ H _ I h) λv s1 h1=>thn h1 λitv s2 h2=>?_) hs;obtain⟨it,fp,tn,J,H2,e,I2,T,st2,f2,W,⟨m0,w0⟩,turn⟩:=h2;subst e

 have stat: ∀{H':Hp},(∀b∈fp,H' b=none)-> ∀b∈fp,FpOk X ϖ H' b:=λhn b hb=>⟨hn b hb,(f2 b hb).2⟩;show codeAny_forLoop_any (λn s'=> ∃i σ' H',Inv X ϖ σ' H' s'/\tn i s'.heap/\(∀b∈fp,H' b=none)/\W i n σ' H') ?_ m0 ⟨0,σ,H2,I2,st2,λb hb=>(f2 b hb).1,w0⟩;rintro n s3 ⟨i,σ3,H3,I3,st3,fr3,w3⟩;rcases turn i n σ3 H3 w3 with ⟨stop,qn⟩ | ⟨go,N,hN,step⟩
 .show wpAny_passesOwn hp (thn (T.done X rfl rfl rfl hc i ϖ s3 σ3 H3 X.xe I3 (stat fr3) st3 stop) λr s4 ⟨hr,I4⟩=>?_);subst hr;show wpAny_execs_nil ⟨σ3,H3,I4,qn⟩
 .show wpAny_passesOwn hp (thn (T.item X rfl rfl rfl hc i ϖ s3 σ3 H3 X.xe I3 (stat fr3) st3 go) λr s4 ⟨u,hr,h4⟩=>?_);subst hr;show wpAny_passesOwn hp (thn h4 λ_ s5 ⟨x,H5,I5,r5,y5,st5,fr5⟩=>?_);have I5':=I5.pinned (stat fr5) (T.obj _ _ st5);show wpAny_passesOwn hp (thn (hg _ s5 σ3 H5 x u _ I5' r5 (step x H5 y5)) λ_ s6 ⟨σ6,H6,I6,q6⟩=>?_);show wpAny_passesOwn hp (thn (hb _ s6 σ6 H6 _ I6 q6) λf s7 q7=>?_);have again: ∀{σ7:St} {H7:Hp},Inv X (ϖ++vG fp s5.heap) σ7 H7 s7->N σ7 H7-> ∃m,m<n/\ ∃i σ' H',Inv X ϖ σ' H' s7/\tn i s7.heap/\(∀b∈fp,H' b=none)/\W i m σ' H':=λ{σ7 H7} I7 n7=>by
   obtain⟨m',hm,w7⟩:=hN σ7 H7 n7;show⟨m',hm,i+1,σ7,H7,I7.unpinned,T.keep _ _ _ st5 λb hb o e=>(I7.pin (b,o) (Μ _ (Μ _ (yE hb e)))).1,λb hb=>?_,w7⟩;obtain⟨o,e,d⟩:=T.obj _ _ st5 b hb;show(I7.pin (b,o) (Μ _ (Μ _ (yE hb e)))).2.1
  cases f with
  | next=>obtain⟨σ7,H7,I7,n7⟩:=q7;show again I7 n7
  | cont=>obtain⟨σ7,H7,I7,n7⟩:=q7;show again I7 n7
  | brk=>obtain⟨σ7,H7,I7,q7⟩:=q7;show⟨σ7,H7,I7.unpinned,q7⟩
  | ret v=>obtain⟨x7,σ7,H7,I7,r7,q7⟩:=q7;show⟨x7,σ7,H7,I7.unpinned,r7,q7⟩
end
abbrev R2:=V->V->Hp->VK->Prop
def OpR (X:Cx) (f:Value->Value->Sem Value) (r:R2):Prop:=
 ∀(ϖ:List (Addr×Obj)) (s:Shared) (σ:St) (H:Hp) (x y:V) (v u:Value) (Q:VK),Inv X ϖ σ H s->RelV x v->RelV y u->r x y H Q->
  wpAny (model X.prog X.w) X.A (f v u) (EP X ϖ σ Q) X.xe s
def UnR (X:Cx) (f:Value->Sem Value) (r:V->Hp->VK->Prop):Prop:=
 ∀(ϖ:List (Addr×Obj)) (s:Shared) (σ:St) (H:Hp) (x:V) (v:Value) (Q:VK),Inv X ϖ σ H s->RelV x v->r x H Q->
  wpAny (model X.prog X.w) X.A (f v) (EP X ϖ σ Q) X.xe s
def CallR (X:Cx) (f:Value) (r:List V->Hp->VK->Prop):Prop:=
 ∀(ϖ:List (Addr×Obj)) (s:Shared) (σ:St) (H:Hp) (xs:List V) (us:List Value) (Q:VK),Inv X ϖ σ H s->Vals xs us->r xs H Q->
  wpAny (model X.prog X.w) X.A (call f us) (EP X ϖ σ Q) X.xe s
def tOp (r:R2) (ta tb:TE):TE:=fun σ H Q=>ta σ H λx H1=>tb σ H1 λy H2=>r x y H2 Q
def tUn (r:V->Hp->VK->Prop) (ta:TE):TE:=fun σ H Q=>ta σ H λx H1=>r x H1 Q
def rI (C:Int->Int->Prop) (g:Int->Int->V):R2:=λx y H Q=> ∃i j,x= .int i/\y= .int j/\C i j/\Q (g i j) H
def rI0 (g:Int->Int->V):R2:=λx y H Q=> ∃i j,x= .int i/\y= .int j/\Q (g i j) H
def rU (g:Int->V):V->Hp->VK->Prop:=λx H Q=> ∃i,x= .int i/\Q (g i) H
section
variable {X:Cx}
def binT(ha:PE X a ta)(hb:PE X b tb){R:V->V->Hp->Prop}(I:Inv X ϖ σ H s)
  (h:ta σ H λx H1=>tb σ H1 λy H2=>R x y H2) {Q:VSP} {f:Value->Value->Sem Value}
  (hf: ∀v u s2 x y H2,Inv X ϖ σ H2 s2->RelV x v->RelV y u->R x y H2->wpAny (model X.prog X.w) X.A (f v u) Q X.xe s2):
  wpAny (model X.prog X.w) X.A (eval a X.env) (λv s₁=>wpAny (model X.prog X.w) X.A (eval b X.env) (λu s₂=>wpAny (model X.prog X.w) X.A (f v u) Q X.xe s₂) X.xe s₁) X.xe s:=by
 show thn (ha ϖ s σ H _ I h) λv s1 ⟨x,H1,I1,r1,q1⟩=>?_;show thn (hb ϖ s1 σ H1 _ I1 q1) λu s2 ⟨y,H2,I2,r2,q2⟩=>?_;show hf v u s2 x y H2 I2 r1 r2 q2
def pe_op(ho:OpR X (binaryOp op) r)(ha:PE X a ta)(hb:PE X b tb):PE X (.BinOp a op b pos) (tOp r ta tb):=by
 intro ϖ s σ H Q I h;show wpAny_BinOp (binT ha hb I h λv u s2 x y H2 I2 rx ry q=>ho ϖ s2 σ H2 x y v u Q I2 rx ry q)
def Vt{r:V->Hp->VK->Prop}(ho:UnR X (unaryOp op) r)(ha:PE X a ta):PE X (.UnaryOp op a pos) (tUn r ta):=by
 intro ϖ s σ H Q I h;show UnaryOp_ (thn (ha ϖ s σ H _ I h) λv s1 ⟨x,H1,I1,r1,q1⟩=>ho ϖ s1 σ H1 x v Q I1 r1 q1)
def opI{f:Value->Value->Sem Value}{C:Int->Int->Prop}{g:Int->Int->Int}
  (rule: ∀(i j:Int) (t u:Tok) (s:Shared) (Q:VSP) (E:VSP),C i j->Q (.int (g i j) s.toks) {s with toks:=s.toks+1}->wpAny (model X.prog X.w) X.A (f (.int i t) (.int j u)) Q E s):
  OpR X f (rI C λi j=> .int (g i j)):=by
 intro ϖ s σ H x y v u Q I rx ry h;obtain⟨i,j,rfl,rfl,hc,q⟩:=h;obtain⟨t,rfl⟩:=rx;obtain⟨t',rfl⟩:=ry;show rule i j t t' s _ _ hc ⟨.int (g i j),H,I.tok _,⟨_,rfl⟩,q⟩
def opI0{f:Value->Value->Sem Value}{g:Int->Int->Int}
  (rule: ∀(i j:Int) (t u:Tok) (s:Shared) (Q:VSP) (E:VSP),Q (.int (g i j) s.toks) {s with toks:=s.toks+1}->wpAny (model X.prog X.w) X.A (f (.int i t) (.int j u)) Q E s):
  OpR X f (rI0 λi j=> .int (g i j)):=by
 intro ϖ s σ H x y v u Q I rx ry h;obtain⟨i,j,rfl,rfl,q⟩:=h;obtain⟨t,rfl⟩:=rx;obtain⟨t',rfl⟩:=ry;show rule i j t t' s _ _ ⟨.int (g i j),H,I.tok _,⟨_,rfl⟩,q⟩
def opB0{f:Value->Value->Sem Value}{g:Int->Int->Bool}
  (rule: ∀(i j:Int) (t u:Tok) (s:Shared) (Q:VSP) (E:VSP),Q (.bool (g i j)) s->wpAny (model X.prog X.w) X.A (f (.int i t) (.int j u)) Q E s):
  OpR X f (rI0 λi j=> .bl (g i j)):=by
 intro ϖ s σ H x y v u Q I rx ry h;obtain⟨i,j,rfl,rfl,q⟩:=h;obtain⟨t,rfl⟩:=rx;obtain⟨t',rfl⟩:=ry;show rule i j t t' s _ _ ⟨.bl (g i j),H,I,rfl,q⟩
def CPow (i j:Int):Prop:=0<=j/\j<=1000000/\i.natAbs<2^64
def op_add:OpR X (binaryOp .Add) (rI0 λi j=> .int (i+j)):=opI0 λ_ _ _ _ _ _ _ q=>add_int q
def op_sub:OpR X (binaryOp .Sub) (rI0 λi j=> .int (i-j)):=opI0 λ_ _ _ _ _ _ _ q=>sub_int q
def op_mod:OpR X (binaryOp .Mod) (rI (λ_ j=>0<j) λi j=> .int (i%j)):=opI λi j _ _ _ _ _ hc q=>by
 have h1:(0:Int)<j:=hc;show mod_int' ∅ (by rw[Int.fmod_eq_emod_of_nonneg i ∅];show q)
def op_pow:OpR X (binaryOp .Pow) (rI CPow λi j=> .int (i^j.toNat)):=opI λ_ _ _ _ _ _ _ hc q=>pow_int_small hc.1 hc.2.1 hc.2.2 q
def unI{f:Value->Sem Value}{g:Int->Int}
  (rule: ∀(i:Int) (t:Tok) (s:Shared) (Q:VSP) (E:VSP),Q (.int (g i) s.toks) {s with toks:=s.toks+1}->wpAny (model X.prog X.w) X.A (f (.int i t)) Q E s):
  UnR X f (rU λi=> .int (g i)):=by
 intro ϖ s σ H x v Q I rx h;obtain⟨i,rfl,q⟩:=h;obtain⟨t,rfl⟩:=rx;show rule i t s _ _ ⟨.int (g i),H,I.tok _,⟨_,rfl⟩,q⟩
def X6:UnR X (unaryOp .USub) (rU λi=> .int (-i)):=unI λ_ _ _ _ _ q=>neg_int q
def scal:V->V->Bool
 | .non,.non=>true | .non,.int _=>true | .int _,.non=>true | .non,.bl _=>true | .bl _,.non=>true | .non,.str _=>true | .str _,.non=>true
 | .int _,.int _=>true | .bl _,.bl _=>true | .str _,.str _=>true | .byt _,.byt _=>true
 | .int _,.str _=>true | .str _,.int _=>true | .bl _,.str _=>true | .str _,.bl _=>true
 | _,_=>false
def rEq:R2:=λx y H Q=>scal x y=true/\Q (.bl (decide (x=y))) H
def rNe:R2:=λx y H Q=>scal x y=true/\Q (.bl (!decide (x=y))) H
def XW:decide (V.int i=V.int j)=(i==j):=by
 rw[Bool.eq_iff_iff];simp
def WW:decide (V.bl i=V.bl j)=(i==j):=by
 rw[Bool.eq_iff_iff];simp
def XV:decide (V.str i=V.str j)=(i==j):=by
 rw[Bool.eq_iff_iff];simp
def XY:decide (V.byt i=V.byt j)=(i.toList==j.toList):=by
 rw[Bool.eq_iff_iff];cases i
 cases j
 simp
def zu(I:Inv X ϖ σ H s)(q:Q (.bl k) H)(e:k=k'):EP X ϖ σ Q (.bool k') s:=by
 subst e;show⟨.bl k,H,I,rfl,q⟩
theorem op_eq:OpR X (compareOp .Eq) rEq:=by
 intro ϖ s σ H x y v u Q I rx ry h;obtain⟨hs,q⟩:=h;cases x with
 | non=>
  cases rx
  cases y with
  | non=>cases ry;show PySem.EqNone.eq_none_none (zu I q Sort)
  | bl j=>cases ry;show PySem.EqNone.eq_none_bool (zu I q Sort)
  | int j=>obtain⟨t',rfl⟩:=ry;show PySem.EqNone.eq_none_int (zu I q Sort)
  | str j=>obtain⟨t',rfl⟩:=ry;show PySem.EqNone.eq_none_str (zu I q Sort)
  | _=>show absurd (show false=true from hs) Δ
 | bl i=>
  cases rx
  cases y with
  | non=>cases ry;show PySem.EqNone.eq_bool_none (zu I q Sort)
  | bl j=>cases ry;show eq_bool (zu I q WW)
  | str j=>obtain⟨t',rfl⟩:=ry;show PySem.EqMixed.eq_bool_str (zu I q Sort)
  | _=>show absurd (show false=true from hs) Δ
 | int i=>
  obtain⟨t,rfl⟩:=rx;cases y with
  | non=>cases ry;show PySem.EqNone.eq_int_none (zu I q Sort)
  | int j=>obtain⟨t',rfl⟩:=ry;show eq_int (zu I q XW)
  | str j=>obtain⟨t',rfl⟩:=ry;show PySem.EqMixed.eq_int_str (zu I q Sort)
  | _=>show absurd (show false=true from hs) Δ
 | str i=>
  obtain⟨t,rfl⟩:=rx;cases y with
  | non=>cases ry;show PySem.EqNone.eq_str_none (zu I q Sort)
  | bl j=>cases ry;show PySem.EqMixed.eq_str_bool (zu I q Sort)
  | int j=>obtain⟨t',rfl⟩:=ry;show PySem.EqMixed.eq_str_int (zu I q Sort)
  | str j=>obtain⟨t',rfl⟩:=ry;show eq_str (zu I q XV)
  | _=>show absurd (show false=true from hs) Δ
 | byt i=>
  obtain⟨t,rfl⟩:=rx;cases y with
  | byt j=>obtain⟨t',rfl⟩:=ry;show W.eq_bytes (zu I q XY)
  | _=>show absurd (show false=true from hs) Δ
 | _=>cases y<;>show absurd (show false=true from hs) Δ
theorem op_ne:OpR X (compareOp .NotEq) rNe:=by
 intro ϖ s σ H x y v u Q I rx ry h;obtain⟨hs,q⟩:=h;cases x with
 | non=>
  cases rx
  cases y with
  | non=>cases ry;show PySem.EqNone.ne_none_none (zu I q Sort)
  | bl j=>cases ry;show PySem.EqNone.ne_none_bool (zu I q Sort)
  | int j=>obtain⟨t',rfl⟩:=ry;show PySem.EqNone.ne_none_int (zu I q Sort)
  | str j=>obtain⟨t',rfl⟩:=ry;show PySem.EqNone.ne_none_str (zu I q Sort)
  | _=>show absurd (show false=true from hs) Δ
 | bl i=>
  cases rx
  cases y with
  | non=>cases ry;show PySem.EqNone.ne_bool_none (zu I q Sort)
  | bl j=>cases ry;show ne_bool (zu I q (congrArg not WW))
  | str j=>obtain⟨t',rfl⟩:=ry;show PySem.EqMixed.ne_bool_str (zu I q Sort)
  | _=>show absurd (show false=true from hs) Δ
 | int i=>
  obtain⟨t,rfl⟩:=rx;cases y with
  | non=>cases ry;show PySem.EqNone.ne_int_none (zu I q Sort)
  | int j=>obtain⟨t',rfl⟩:=ry;show ne_int (zu I q (congrArg not XW))
  | str j=>obtain⟨t',rfl⟩:=ry;show PySem.EqMixed.ne_int_str (zu I q Sort)
  | _=>show absurd (show false=true from hs) Δ
 | str i=>
  obtain⟨t,rfl⟩:=rx;cases y with
  | non=>cases ry;show PySem.EqNone.ne_str_none (zu I q Sort)
  | bl j=>cases ry;show PySem.EqMixed.ne_str_bool (zu I q Sort)
  | int j=>obtain⟨t',rfl⟩:=ry;show PySem.EqMixed.ne_str_int (zu I q Sort)
  | str j=>obtain⟨t',rfl⟩:=ry;show ne_str (zu I q (congrArg not XV))
  | _=>show absurd (show false=true from hs) Δ
 | byt i=>
  obtain⟨t,rfl⟩:=rx;cases y with
  | byt j=>obtain⟨t',rfl⟩:=ry;show W.ne_bytes (zu I q (congrArg not XY))
  | _=>show absurd (show false=true from hs) Δ
 | _=>cases y<;>show absurd (show false=true from hs) Δ
def op_lt:OpR X (compareOp .Lt) (rI0 λi j=> .bl (decide (i<j))):=opB0 λ_ _ _ _ _ _ _ q=>lt_int q
def op_le:OpR X (compareOp .LtE) (rI0 λi j=> .bl (decide (i<=j))):=opB0 λ_ _ _ _ _ _ _ q=>le_int q
def op_gt:OpR X (compareOp .Gt) (rI0 λi j=> .bl (decide (j<i))):=opB0 λ_ _ _ _ _ _ _ q=>gt_int q
def op_ge:OpR X (compareOp .GtE) (rI0 λi j=> .bl (decide (j<=i))):=opB0 λ_ _ _ _ _ _ _ q=>ge_int q
theorem op_isN:OpR X (compareOp .Is) (λx y H Q=>y= .non/\Q (.bl (decide (x= .non))) H):=by
 intro ϖ s σ H x y v u Q I rx ry h;obtain⟨rfl,q⟩:=h;cases ry
 show is_none_gen (zu I q ?_);cases x<;>first
  | (cases rx;rfl)
  | (obtain⟨t,rfl⟩:=rx;rfl)
theorem op_notN:OpR X (compareOp .IsNot) (λx y H Q=>y= .non/\Q (.bl (!decide (x= .non))) H):=by
 intro ϖ s σ H x y v u Q I rx ry h;obtain⟨rfl,q⟩:=h;cases ry
 show isnot_none_gen (zu I q ?_);cases x<;>first
  | (cases rx;rfl)
  | (obtain⟨t,rfl⟩:=rx;rfl)
def OpR.or{f:Value->Value->Sem Value}(h:OpR X f r)(h':OpR X f r'):OpR X f (λx y H Q=>r x y H Q\/r' x y H Q):=by
 intro ϖ s σ H x y v u Q I rx ry q;rcases q with q | q
 .show h ϖ s σ H x y v u Q I rx ry q
 .show h' ϖ s σ H x y v u Q I rx ry q
def pe_cmpR(ho:OpR X (compareOp op) r)(ha:PE X a ta)(hb:PE X b tb)(hm:behindInMarks op b=false):PE X (.Compare a [op] [b] pos) (tOp r ta tb):=by
 intro ϖ s σ H Q I h;show wpAny_Compare1 (binT ha hb I h λv u s2 x y H2 I2 rx ry q=>ho ϖ s2 σ H2 x y v u Q I2 rx ry q) hm
def W5 (t:TE):TT:=fun σ H Q=>t σ H λx H'=> ∃k,x= .bl k/\Q k H'
def pt_cmpR(ho:OpR X (compareOp op) r)(ha:PE X a ta)(hb:PE X b tb)(hm:behindInMarks op b=false):PT X (.Compare a [op] [b] pos) (W5 (tOp r ta tb)):=by
 intro ϖ s σ H Q I h;show wpAny_isTrue_Compare1 (thn (ha ϖ s σ H _ I h) λv s1 ⟨x,H1,I1,r1,q1⟩=>thn (hb ϖ s1 σ H1 _ I1 q1) λu s2 ⟨y,H2,I2,r2,q2⟩=>
  thn (ho ϖ s2 σ H2 x y v u _ I2 r1 r2 q2) λc s3 ⟨z,H3,I3,r3,k,e,q3⟩=>?_) hm
 subst e;cases r3
 show wpAny_truthy_bool ⟨H3,I3,q3⟩
def YK (r r':R2) (ta tb tc:TE):TE:=fun σ H Q=>ta σ H λx H1=>tb σ H1 λy H2=>r x y H2 λz H3=> ∃k,z= .bl k/\
 (if k=true then tc σ H3 λw' H4=>r' y w' H4 Q else Q (.bl false) H3)
theorem pe_chain(ho:OpR X (compareOp op) r)(ho':OpR X (compareOp op') r')(ha:PE X a ta)(hb:PE X b tb)(hc:PE X c tc)
  (hm:lastMarks [op,op'] [b,c]=false:=by with_unfolding_all rfl):PE X (.Compare a [op,op'] [b,c] pos) (YK r r' ta tb tc):=by
 intro ϖ s σ H Q I h;show Compare_chain (thn (ha ϖ s σ H _ I h) λv s1 ⟨x,H1,I1,r1,q1⟩=>chain_link (thn (hb ϖ s1 σ H1 _ I1 q1) λu s2 ⟨y,H2,I2,r2,q2⟩=>
  thn (ho ϖ s2 σ H2 x y v u _ I2 r1 r2 q2) λd s3 ⟨z,H3,I3,r3,k,e,q3⟩=>?_)) hm
 subst e;cases r3
 show wpAny_truthy_bool ?_;cases k with
 | false=>show ite_ff ⟨.bl false,H3,I3,rfl,q3⟩
 | true=>show ite_tt (chain_last (thn (hc ϖ s3 σ H3 _ I3 q3) λw' s4 ⟨z',H4,I4,r4,q4⟩=>ho' ϖ s4 σ H4 y z' u w' Q I4 r2 r4 q4))
theorem pt_chain(ho:OpR X (compareOp op) r)(ho':OpR X (compareOp op') r')(ha:PE X a ta)(hb:PE X b tb)(hc:PE X c tc)
  (hm:lastMarks [op,op'] [b,c]=false:=by with_unfolding_all rfl):PT X (.Compare a [op,op'] [b,c] pos) (W5 (YK r r' ta tb tc)):=by
 intro ϖ s σ H Q I h;show isTrue_chain (thn (ha ϖ s σ H _ I h) λv s1 ⟨x,H1,I1,r1,q1⟩=>test_link (thn (hb ϖ s1 σ H1 _ I1 q1) λu s2 ⟨y,H2,I2,r2,q2⟩=>
  thn (ho ϖ s2 σ H2 x y v u _ I2 r1 r2 q2) λd s3 ⟨z,H3,I3,r3,k,e,q3⟩=>?_)) hm
 subst e;cases r3
 show wpAny_truthy_bool ?_;cases k with
 | false=>
  obtain⟨k',e',q'⟩:=q3;cases e'
  show ite_ff ⟨H3,I3,q'⟩
 | true=>
  show ite_tt (test_last (thn (hc ϖ s3 σ H3 _ I3 q3) λw' s4 ⟨z',H4,I4,r4,q4⟩=>thn (ho' ϖ s4 σ H4 y z' u w' _ I4 r2 r4 q4) λd' s5 ⟨z2,H5,I5,r5,k2,e2,q5⟩=>?_));subst e2;cases r5
  show wpAny_truthy_bool ⟨H5,I5,q5⟩
def vL:(sizeLine:Nat)<2^63:=by rw[sizeLine_eq];decide
theorem Za(r:Vals [x] us): ∃u,us=[u]/\RelV x u:=by
 cases r with
 | cons r1 r2=>cases r2;show⟨_,rfl,r1⟩
theorem W3(r:Vals [x,y] us): ∃u w',us=[u,w']/\RelV x u/\RelV y w':=by
 cases r with
 | cons r1 r2=>
  cases r2 with
  | cons r3 r4=>cases r4;show⟨_,_,rfl,r1,r3⟩
def call_max2(hc:X.calm=true):CallR X (.builtin "max") (λxs H Q=> ∃i j,xs=[.int i,.int j]/\Q (.int (if j>i then j else i)) H):=by
 intro ϖ s σ H xs us Q I r h;obtain⟨i,j,rfl,q⟩:=h;obtain⟨u,w',rfl,⟨t,rfl⟩,⟨t',rfl⟩⟩:=W3 r;show max_two_ints (I.ok.hd hc) λh' tk k=>⟨_,H,I.kept k,?_,q⟩;by_cases hj:j>i
 .rw[if_pos hj,if_pos hj];show⟨_,rfl⟩
 .rw[if_neg hj,if_neg hj];show⟨_,rfl⟩
def call_min2(hc:X.calm=true):CallR X (.builtin "min") (λxs H Q=> ∃i j,xs=[.int i,.int j]/\Q (.int (if j<i then j else i)) H):=by
 intro ϖ s σ H xs us Q I r h;obtain⟨i,j,rfl,q⟩:=h;obtain⟨u,w',rfl,⟨t,rfl⟩,⟨t',rfl⟩⟩:=W3 r;show min_two_ints (I.ok.hd hc) λh' tk k=>⟨_,H,I.kept k,?_,q⟩;by_cases hj:j<i
 .rw[if_pos hj,if_pos hj];show⟨_,rfl⟩
 .rw[if_neg hj,if_neg hj];show⟨_,rfl⟩
def call_int1:CallR X (.type "int") (λxs H Q=>(∃i,xs=[.int i]/\Q (.int i) H)\/ ∃k,xs=[.bl k]/\Q (.int (if k then 1 else 0)) H):=by
 intro ϖ s σ H xs us Q I r h;rcases h with ⟨i,rfl,q⟩ | ⟨k,rfl,q⟩
 .obtain⟨u,rfl,t,rfl⟩:=Za r;show call_int_int ⟨.int i,H,I,⟨_,rfl⟩,q⟩
 .obtain⟨u,rfl,r1⟩:=Za r;cases r1
  show call_int_bool ⟨.int (if k then 1 else 0),H,I.tok _,⟨_,rfl⟩,q⟩
end
structure ObjM (h:Heap) (x dx C:Addr) (mA:Str->Option Value):Prop where
 obj:h.get? x=some (W.instObj C dx)
 ns:h.Ns1 dx mA
 ne:dx≠x
def Zk{h:Heap}{mA:Str->Option Value}(n:h.Ns1 dx mA): ∃od,h.get? dx=some od/\ ∀name,W.lookIn name od=some (mA name):=by
 obtain⟨o,es,ep,ho,hd,hk,_,hm⟩:=n;show⟨o,ho,λname=>?_⟩;have e:=hm name;unfold nsFind findBy at e;rw[<-Array.find?_toList] at e;unfold W.lookIn;rw[hd];dsimp only;split
 .rename_i y q
  rw[q] at e;show congrArg some e
 .rename_i q
  rw[q] at e;have a:es.toList.any (·.refKey)=false:=by
   rw[List.any_eq_false];intro y hy;obtain⟨z,t,hkey⟩:=hk y (Array.mem_toList_iff.mp hy);simp[DictEntry.refKey,hkey]
  have a': ¬es.toList.any (·.refKey)=true:=by rw[a];show Δ
  rw[if_neg a'];show congrArg some e
def ObjM.look{mA:Str->Option Value}(I:ObjM h x dx C mA): ∃od,W.InstAt h x (W.instObj C dx) C (some od)/\ ∀name,W.lookIn name od=some (mA name):=
 let ⟨od,ho,hl⟩:=Zk I.ns
 ⟨od,⟨I.obj,rfl,rfl,ho⟩,hl⟩
def putF (f:Str) (v:V):List (Str×V)->List (Str×V)
 | []=>[(f,v)]
 | (g,x)::r=>if g=f then (g,v)::r else (g,x)::putF f v r
theorem wT(f g:Str)(v:V): ∀fs:List (Str×V),(putF f v fs).lookup g=if g=f then some v else fs.lookup g
 | []=>by
  change List.lookup g [(f,v)]=_;by_cases h:g=f
  .have hb:(g==f)=true:=beq_iff_eq.mpr h;simp only[List.lookup,hb,if_pos h]
  .have hb:(g==f)=false:=beq_eq_false_iff_ne.mpr h;simp only[List.lookup,hb,if_neg h]
 | (k,x)::r=>by
  have ih:=wT f g v r;rw[show putF f v ((k,x)::r)=(if k=f then (k,v)::r else (k,x)::putF f v r) from rfl];by_cases hk:k=f
  .rw[if_pos hk];by_cases h:g=k
   .have hb:(g==k)=true:=beq_iff_eq.mpr h;simp only[List.lookup,hb,if_pos (h.trans hk)]
   .have hb:(g==k)=false:=beq_eq_false_iff_ne.mpr h;simp only[List.lookup,hb,if_neg (λe:g=f=>h (e.trans hk.symm))]
  .rw[if_neg hk];by_cases h:g=k
   .have hb:(g==k)=true:=beq_iff_eq.mpr h;simp only[List.lookup,hb,if_neg (λe:g=f=>hk (h.symm.trans e))]
   .have hb:(g==k)=false:=beq_eq_false_iff_ne.mpr h;simp only[List.lookup,hb];show ih
theorem wE(f:Str)(v:V): ∀fs:List (Str×V),f∈(putF f v fs).map (·.1)/\ ∀g,g∈fs.map (·.1)->g∈(putF f v fs).map (·.1)
 | []=>⟨by simp[putF],λg h=>by simp at h⟩
 | (k,x)::r=>by
  obtain⟨i1,i2⟩:=wE f v r;rw[show putF f v ((k,x)::r)=(if k=f then (k,v)::r else (k,x)::putF f v r) from rfl];by_cases hk:k=f
  .rw[if_pos hk];subst hk;show⟨by simp,λg h=>by exists h⟩
  .rw[if_neg hk];show⟨?_,λg h=>?_⟩
   .rw[List.map_cons];show ζ _ i1
   .rw[List.map_cons] at h ⊢;rcases Ε.mp h with e | e
    .show Ε.mpr (.inl e)
    .show ζ _ (i2 g e)
theorem RelO.some_of(r:RelO (some v) o): ∃u,o=some u/\RelV v u:=by
 cases o with
 | none=>show(show False from r).elim
 | some u=>show⟨u,rfl,r⟩
theorem handed_of(r:RelV v u):W.handedIn u=true:=by
 cases v with
 | non=>cases (show u=Value.none from r);rfl
 | bl b=>cases (show u=Value.bool b from r);rfl
 | int i=>obtain⟨t,e⟩:=(show∃t,u=Value.int i t from r);cases e;rfl
 | str x=>obtain⟨t,e⟩:=(show∃t,u=Value.str x t from r);cases e;rfl
 | byt b=>obtain⟨t,e⟩:=(show∃t,u=Value.bytes b t from r);cases e;rfl
 | flt b=>obtain⟨t,e⟩:=(show∃t,u=Value.float b t from r);cases e;rfl
 | ref a=>cases (show u=Value.ref a from r);rfl
 | ty n=>cases (show u=Value.type n from r);rfl
section
variable {fs fs':List (Str×V)}
def ins_get(hok:HOk P w H h)(e:H a=some (.ins C dx fs)): ∃mA,ObjM h a dx C mA/\(∀f,RelO (fs.lookup f) (mA f))/\PySem.Within mA (fs.map (·.1))/\fs.length<=1000/\H dx=some (.own a):=by
 obtain⟨d,z,ne,ob,mA,n,r,q⟩:=(show ObjOk P w H h a (.ins C dx fs) from hok a _ e);show⟨mA,⟨ob,n,ne⟩,r,q,z,d⟩
end
structure Cls (K:W.Frag) (C:Addr):Prop where
 pg:W.plainGet K C Str.empty=true
 hd:W.hasDictIn K C=true
 po:W.plainOver K C=true
 sa:W.findIn K (.ref C) "__setattr__"=some (some (.builtin "object.__setattr__"))
def Cls.get{K:W.Frag}{C:Addr}(c:Cls K C)(f:Str):W.plainGet K C f=true:=c.pg
def ye (K:W.Frag) (C:Addr) (f:Str):Prop:=W.findIn K (.ref C) f=some none
section
variable {X:Cx}{fs:List (Str×V)}{f:Str}{v:V}
def attr_of{f:Str}{Q:VSP}(hb:attributeBase e f env (eval e env)=eval e env)
  (h:wpAny (model prog w) A (eval e env) (λo s₁=>wpAny (model prog w) A (getAttr o f true) Q E s₁) E s):wpAny (model prog w) A (eval (.Attribute e f pos) env) Q E s:=
 Attribute_any_ h (by rw[arm_eval_Attribute,hb])
end
section
variable {X:Cx}
inductive TyOf (K:W.Frag) (H:Hp):V->Value->Prop where
 | non:TyOf K H .non (.type "NoneType")
 | bl (x:Bool):TyOf K H (.bl x) (.type "bool")
 | int (i:Int):TyOf K H (.int i) (.type "int")
 | str (x:Str):TyOf K H (.str x) (.type "str")
 | flt (x:UInt64):TyOf K H (.flt x) (.type "float")
 | lst {a:Addr} {xs:List V} (e:H a=some (.lst xs)):TyOf K H (.ref a) (.type "list")
 | frz {a:Addr} {o:Obj} {xs:List V} (e:H a=some (.frz o (.lst xs))):TyOf K H (.ref a) (.type "list")
 | tup {a:Addr} {xs:List V} (e:H a=some (.tup xs)):TyOf K H (.ref a) (.type "tuple")
 | dK {a:Addr} {kvs:List (Key×V)} (e:H a=some (.dK kvs)):TyOf K H (.ref a) (.type "dict")
 | dT {a:Addr} {kvs:List (List Key×V)} (e:H a=some (.dT kvs)):TyOf K H (.ref a) (.type "dict")
 | ins {a C dx:Addr} {fs:List (Str×V)} (e:H a=some (.ins C dx fs)) (cl:Cls K C) (ha:W.findIn K (.ref C) "__class__"=some (some (.builtin "object.__class__")))
   (hn:W.specialIn K (.builtin "object.__class__") "__get__"=some (some (.builtin "getset_descriptor.__get__"))) (htk:W.takesIn K (.builtin "object.__class__")=some true)
   (hm:W.mroIn K C (.type "object")=some true):TyOf K H (.ref a) (.ref C)
theorem isinst_ok(I:Inv X ϖ σ H s)(rx:RelV x u)(ty:TyOf X.K H x t)(e:W.kitOne X.K t c=some b)(h: ∀tk,Q (.bool b) {s with toks:=tk}):
  wpAny (model X.prog X.w) A (call (.builtin "isinstance") [u,c]) Q E s:=by
 cases ty with
 | non=>cases (show u=Value.none from rx);show W.kia_one W.kitx_none I.kIn True.intro e (λz=>nomatch z) h
 | bl y=>cases (show u=Value.bool y from rx);show W.kia_one W.kitx_bool I.kIn True.intro e (λz=>nomatch z) h
 | int i=>obtain⟨t,q⟩:=(show∃t,u=Value.int i t from rx);cases q;show W.kia_one W.kitx_int I.kIn True.intro e (λz=>nomatch z) h
 | str y=>obtain⟨t,q⟩:=(show∃t,u=Value.str y t from rx);cases q;show W.kia_one W.kitx_str I.kIn True.intro e (λz=>nomatch z) h
 | flt y=>obtain⟨t,q⟩:=(show∃t,u=Value.float y t from rx);cases q;show W.kia_one W.kitx_float I.kIn True.intro e (λz=>nomatch z) h
 | @lst a xs ea=>
  cases (show u=Value.ref a from rx)
  obtain⟨_,_,n,_,h1⟩:=(show ObjOk X.prog X.w H s.heap a (.lst xs) from I.hok a _ ea);show W.kia_one W.kitx_list I.kIn ⟨_,h1,rfl⟩ e (λz=>nomatch z) h
 | @frz a ob xs ea=>
  cases (show u=Value.ref a from rx)
  obtain⟨_,_,_,n,_,h1⟩:=(show ObjOk X.prog X.w H s.heap a (.frz ob (.lst xs)) from I.hok a _ ea);show W.kia_one W.kitx_list I.kIn ⟨_,h1,rfl⟩ e (λz=>nomatch z) h
 | @tup a xs ea=>
  cases (show u=Value.ref a from rx)
  obtain⟨_,_,_,p⟩:=(show ObjOk X.prog X.w H s.heap a (.tup xs) from I.hok a _ ea);obtain⟨o,h1,h2,_⟩:=p;show W.kia_one W.kitx_tuple I.kIn ⟨o,h1,h2⟩ e (λz=>nomatch z) h
 | @dK a kvs ea=>
  cases (show u=Value.ref a from rx)
  obtain⟨_,_,vs,_,p⟩:=(show ObjOk X.prog X.w H s.heap a (.dK kvs) from I.hok a _ ea);obtain⟨o,es,ep,h1,h2,_⟩:=p;show W.kia_one W.kitx_dict I.kIn ⟨o,h1,h2.1⟩ e (λz=>nomatch z) h
 | @dT a kvs ea=>
  cases (show u=Value.ref a from rx)
  obtain⟨_,_,xs,_,o,es,ep,h1,h2,_⟩:=(show ObjOk X.prog X.w H s.heap a (.dT kvs) from I.hok a _ ea);show W.kia_one W.kitx_dict I.kIn ⟨o,h1,h2.1⟩ e (λz=>nomatch z) h
 | @ins a C dx fs ea cl ha hn htk hm=>
  cases (show u=Value.ref a from rx)
  obtain⟨mA,O,_⟩:=ins_get I.hok ea;obtain⟨od,J,_⟩:=O.look;show W.kia_one (W.kitx_own (cl.get _) cl.hd ha hn htk hm) I.kIn J e (λz=>nomatch z) h
end
structure Room (k:Nat) (A:Around):Prop where
 hd:A.handled=none
 dp:A.depth+3*k+5<recursionLimit
 un:A.units+16*k+200<cLine
 gd:A.guards=some []
def Room.mono(r:Room k A)(h:j<=k):Room j A:=⟨r.hd,by have:=r.dp;lia,by have:=r.un;lia,r.gd⟩
def Room.deeper(r:Room (k+1) A)(env:Env):Room k (A.deeper env):=
 ⟨r.hd,by have:=r.dp;change A.depth+1+3*k+5<_;lia,by have:=r.un;change A.units+3+16*k+200<_;lia,r.gd⟩
def make_depth{A:Around}:(A.under (.builtin "type.__call__" ⟨.ref C::us,kw⟩)).depth=A.depth+1:=by
 first | rfl | simp[Around.under,Code.weight,Code.isCreation,Code.isGuard,Code.isCaller,Code.frames,Code.isFrame,guardIds]
def make_units{A:Around}:(A.under (.builtin "type.__call__" ⟨.ref C::us,kw⟩)).units=A.units+1:=by
 first | rfl | simp[Around.under,Code.cUnits,Code.frames,Code.isFrame]
def Room.make(r:Room (k+1) A)(C:Addr)(us:List Value)(kw:List (Str×Value)):Room k (A.under (.builtin "type.__call__" ⟨.ref C::us,kw⟩)):=
 ⟨r.hd,by have:=r.dp;rw[make_depth];lia,by have:=r.un;rw[make_units];lia,by first | show r.gd | simpa[Around.under,Code.isGuard,Code.isFrame,guardIds] using r.gd⟩
def Room.depth(r:Room k A):A.depth<recursionLimit:=by have:=r.dp;lia
def Room.units(r:Room k A):A.units+64<cLine:=by have:=r.un;lia
def tNil:TA:=λ_ H Q=>Q [] H
def z0 (ta:TE) (tr:TA):TA:=fun σ H Q=>ta σ H λx H1=>tr σ H1 λxs H2=>Q (x::xs) H2
section
variable {X:Cx}
def YV:PA X [] tNil:=λ_ _ _ _ H Q I h=>Calls.spliced_nil ⟨[],H,I,.nil,h⟩
def pa_cons(ha:PE X e te)(hr:PA X es t)(hs:starEach (e::es) X.env=(false,eval e X.env)::starEach es X.env:=by rfl):PA X (e::es) (z0 te t):=by
 intro pos ϖ s σ H Q I h;rw[hs];change wpAny _ _ (spliced ((false,eval e X.env)::backTo pos (starEach es X.env))) _ _ s;show Calls.spliced_cons (thn (ha ϖ s σ H _ I h) λu s1 ⟨x,H1,I1,r1,q1⟩=>?_);show thn (hr pos ϖ s1 σ H1 _ I1 q1) λus s2 ⟨xs,H2,I2,r2,q2⟩=>⟨x::xs,H2,I2,.cons r1 r2,q2⟩
def tTup (t:TA):TE:=fun σ H Q=>t σ H λxs H1=>xs.length<=sizeLine/\ ∀p,H1 p=none->Q (.ref p) (upd H1 p (.tup xs))
def tLst (t:TA):TE:=fun σ H Q=>t σ H λxs H1=>xs.length<=sizeLine/\ ∀p,H1 p=none->Q (.ref p) (upd H1 p (.lst xs))
def YT{x1}(h:PA X es t):PE X (.Tuple es x1 pos) (tTup t):=by
 intro ϖ s σ H Q I hq;show wpAny_Tuple_spliced (thn (h pos ϖ s σ H _ I hq) λus s1 ⟨xs,H1,I1,r,z,q⟩=>⟨by rw[<-r.length];show z,?_⟩);have hf:H1 ⇑s1=none:=I1.hok.fresh (μ _);show⟨.ref ⇑s1,upd H1 ⇑s1 (.tup xs),I1.laid (t':=s1.toks) (λb u e=>δ _ e) (μ _) ?_,rfl,q _ hf⟩;show⟨z,us,r,⟨_,ο _ rfl,rfl,_,rfl⟩⟩
def pe_lst(h:PA X es t):PE X (.List es pos) (tLst t):=by
 intro ϖ s σ H Q I hq;show wpAny_List_spliced (thn (h pos ϖ s σ H _ I hq) λus s1 ⟨xs,H1,I1,r,z,q⟩=>⟨by rw[<-r.length];show z,?_⟩);have hf:H1 ⇑s1=none:=I1.hok.fresh (μ _);show⟨.ref ⇑s1,upd H1 ⇑s1 (.lst xs),I1.laid (t':=s1.toks) (λb u e=>δ _ e) (μ _) ?_,rfl,q _ hf⟩;show⟨z,us,0,r,ο _ rfl⟩
end
abbrev Sp:=List V->Hp->VK->XK->Prop
abbrev CXT:=List Env->Hp->Shared->XK->Value->Shared->Prop
structure Env0 (P:Program) (w:World) (K:W.Frag) (mg:Str->Option Value) (base:Heap) (A:Around) (outer:List Env) (s:Shared) (H:Hp):Prop where
 frames:A.frames=some outer
 mod:Mod K mg base
 bs: ∀b o,base.get? b=some o->s.heap.get? b=some o/\H b=none
 bsz:base.objs.size<=⇑s
 funs:s.heap.FunFrames base outer
 frf: ∀b∈frs outer,H b=none
 hok:HOk P w H s.heap
 bare:AllBare s.gens
def CE (outer:List Env) (P:Program) (w:World) (H:Hp) (s:Shared) (Q:VK) (u:Value) (s':Shared):Prop:=
 ∃v H',s'.os=s.os/\AllBare s'.gens/\Un (frs outer) [] H H' s.heap s'.heap/\HOk P w H' s'.heap/\RelV v u/\Q v H'
def CR (CX:CXT) (outer:List Env) (P:Program) (w:World) (H:Hp) (s:Shared) (Q:VK) (E:XK) (r:Result) (s':Shared):Prop:=
 match r with
 | .ok (.ret u)=>CE outer P w H s Q u s'
 | .ok _=>False
 | .error e=>CX outer H s E e s'
structure FnOk (P:Program) (w:World) (K:W.Frag) (mg:Str->Option Value) (base:Heap) (CX:CXT) (k:Nat) (f:Addr) (fd:FuncData) (ps:List Str) (sp:Sp):Prop where
 len: ∀vs H Q E,sp vs H Q E->vs.length=ps.length
 run: ∀(A:Around) (outer:List Env) (s:Shared) (H:Hp) (args:Args) (us:List Value) (vs:List V) (Q:VK) (E:XK),Room k A->Env0 P w K mg base A outer s H->BindsTo s fd args (ps.zip us)->Vals vs us->sp vs H Q E->
  codeAny (model P w) A (.call (.ref f) args) (CR CX outer P w H s Q E) s
def Env0.make{P:Program}{w:World}{K:W.Frag}{mg:Str->Option Value}{base:Heap}{A:Around}{outer:List Env}{s:Shared}{H:Hp}(e:Env0 P w K mg base A outer s H)(C:Addr)(us:List Value)(kw:List (Str×Value)):
  Env0 P w K mg base (A.under (.builtin "type.__call__" ⟨.ref C::us,kw⟩)) outer s H:=⟨by first | show e.frames | (simpa[Around.under,Code.envs,Code.isFrame,pushEnvs] using e.frames),e.mod,e.bs,e.bsz,e.funs,e.frf,e.hok,e.bare⟩
section
variable {X:Cx}
def Inv.env0(I:Inv X ϖ σ H s):Env0 X.prog X.w X.K X.mg X.base X.A X.stack s H:=
 ⟨I.ok.frames,I.ok.mod,I.bs,η I.ok.bsz I.sz,I.stack,I.stkFree,I.hok,I.bare⟩
def Inv.after(I:Inv X ϖ σ H s)(h:CE X.stack X.prog X.w H s Q u s'):EP X ϖ σ Q u s':=by
 obtain⟨v,H',os,bare,un,hok,r,q⟩:=h;obtain⟨hh,g,d,t,os'⟩:=s';obtain rfl:os'=s.os:=os;show⟨v,H',I.call (h':=hh) (g':=g) (d':=d) (t':=t) (ch:=[]) un hok bare (λb z=>absurd z Sort),r,q⟩
end
def Xc (sp:Sp) (dvs:List V) (E:XK) (t:TA):TE:=fun σ H Q=>t σ H λvs H1=>sp (vs++dvs) H1 Q E
def Binds (K:W.Frag) (fd:FuncData) (ps:List Str) (ds:List Value):Prop:=
 ∀(s:Shared) (us:List Value),K.In s.heap->(us++ds).length=ps.length->BindsTo s fd ⟨us,[]⟩ (ps.zip (us++ds))
def Binds.all{K:W.Frag}{fd:FuncData}{ps:List Str}(h: ∀us:List Value,us.length=ps.length->bindArgs fd ⟨us,[]⟩=pure (ps.zip us)):Binds K fd ps []:=λs us _ hl=>by
 rw[List.append_nil] at hl ⊢;show .of_eq (h us hl)
def Y0 (CX:CXT) (X:Cx) (E:XK):Prop:= ∀(ϖ:List (Addr×Obj)) (σ:St) (H:Hp) (s:Shared) (e:Value) (s':Shared),Inv X ϖ σ H s->CX X.stack H s E e s'->X.xe e s'
section
variable {X:Cx}{f:Addr}{dvs:List V}
theorem run_fn(F:FnOk X.prog X.w X.K X.mg X.base CX k f fd ps sp)(hr:Room k X.A)(hb:Binds X.K fd ps ds)(hd:Vals dvs ds)(hx:Y0 CX X E)
  (I:Inv X ϖ σ H s) (r:Vals vs us) (h:sp (vs++dvs) H Q E):wpAny (model X.prog X.w) X.A (call (.ref f) us) (EP X ϖ σ Q) X.xe s:=by
 have r2:Vals (vs++dvs) (us++ds):=r.append hd;have hl:(us++ds).length=ps.length:=by rw[<-r2.length];show F.len _ _ _ _ h
 show wpAny_call (codeAny_mono (F.run X.A X.stack s H ⟨us,[]⟩ (us++ds) (vs++dvs) Q E hr I.env0 (hb s us I.kIn hl) r2 h) λr s' hq=>?_);cases r with
 | error e=>show hx ϖ σ H s e s' I hq
 | ok fl=>
  cases fl with
  | ret u=>show I.after hq
  | next=>show False.elim hq
  | brk=>show False.elim hq
  | cont=>show False.elim hq
def pe_call(F:FnOk X.prog X.w X.K X.mg X.base CX k f fd ps sp)(hr:Room k X.A)(hg:Gl X x)(hm:X.mg x=some (.ref f))(hk:W.keepIn X.K (.ref f)=true)(hb:Binds X.K fd ps ds)(hd:Vals dvs ds)(hx:Y0 CX X E)
  (ha:PA X (e::es) t) (hdb:(x==("__debug__":Str))=false:=by decide) (he:starEach (e::es) X.env=(false,eval e X.env)::starEach es X.env:=by rfl) (hpl:(backTo pos (starEach es X.env)).any (·.1)=false:=by rfl):
  PE X (.Call (.Name x p) (e::es) [] pos) (Xc sp dvs E t):=by
 intro ϖ s σ H Q I h;show wpAny_Call_Name_kw (xo I hg hm ?_ hdb);show W.callWith_K (h₀:=X.base) I.ok.mod.kin hk (thn (ha pos ϖ s σ H _ I h) λus s1 ⟨vs,H1,I1,r,q⟩=>⟨I1.kIn,?_⟩) he hpl;show run_fn F hr hb hd hx I1 r q
end
structure FnScope (N P:List Str) (sc:Scope):Prop where
 kind:sc.kind= .function
 co:sc.isCoroutine=false
 gen:sc.isGenerator=false
 nd:N.Nodup
 pre:N.take P.length=P
 par: ∀x∈P,sc.names.lookup x=some .local\/sc.names.lookup x=some .cell
 nofree: ∀y∈sc.names,y.2≠.free
theorem Zs{kindOf:Str->Option NameKind}: ∀{binds:List (Str×Value)} {m:Str->Option Value},(∀v,(x,v)∉binds)->bindL kindOf binds m x=m x
 | [],_,_=>rfl
 | (n,v)::r,m,h=>by
  unfold bindL;rw[Zs λw hw=>h w (ζ _ hw)];split
  .have:x≠n:=by rintro rfl;show h v ξ
   simp[this]
  .rfl
theorem Zu{kindOf:Str->Option NameKind}: ∀{binds:List (Str×Value)} {m:Str->Option Value},(∀v,(x,v)∉binds)->bindC kindOf binds m x=m x
 | [],_,_=>rfl
 | (n,v)::r,m,h=>by
  unfold bindC;rw[Zu λw hw=>h w (ζ _ hw)];split
  .rfl
  .have:x≠n:=by rintro rfl;show h v ξ
   simp[this]
theorem Zt{kindOf:Str->Option NameKind}: ∀{P:List Str} {vs:List Value} {i:Nat} {m:Str->Option Value},P.Nodup->P[i]? =some x->vs[i]? =some v->kindOf x=some .local->
  bindL kindOf (P.zip vs) m x=some v
 | [],_,_,_,_,h,_,_=>by simp at h
 | _::_,[],_,_,_,_,h,_=>by simp at h
 | p::P,w::vs,0,m,nd,h1,h2,hk=>by
  simp at h1 h2;subst h1;subst h2;change bindL kindOf ((p,w)::P.zip vs) m p=_;unfold bindL;rw[Zs λv hv=>(List.nodup_cons.mp nd).1 (List.of_mem_zip hv).1,if_pos hk];simp
 | p::P,w::vs,i+1,m,nd,h1,h2,hk=>by
  change bindL kindOf ((p,w)::P.zip vs) m x=_;unfold bindL;show Zt (i:=i) (List.nodup_cons.mp nd).2 (by exists h1) (by exists h2) hk
theorem Zv{kindOf:Str->Option NameKind}: ∀{P:List Str} {vs:List Value} {i:Nat} {m:Str->Option Value},P.Nodup->P[i]? =some x->vs[i]? =some v->kindOf x≠some .local->
  bindC kindOf (P.zip vs) m x=some v
 | [],_,_,_,_,h,_,_=>by simp at h
 | _::_,[],_,_,_,_,h,_=>by simp at h
 | p::P,w::vs,0,m,nd,h1,h2,hk=>by
  simp at h1 h2;subst h1;subst h2;change bindC kindOf ((p,w)::P.zip vs) m p=_;unfold bindC;rw[Zu λv hv=>(List.nodup_cons.mp nd).1 (List.of_mem_zip hv).1,if_neg hk];simp
 | p::P,w::vs,i+1,m,nd,h1,h2,hk=>by
  change bindC kindOf ((p,w)::P.zip vs) m x=_;unfold bindC;show Zv (i:=i) (List.nodup_cons.mp nd).2 (by exists h1) (by exists h2) hk
def start (N:List Str) (vs:List V):St:=vs.map some++List.replicate (N.length-vs.length) none
def cxOf (CX:CXT) (P:Program) (w:World) (K:W.Frag) (mg:Str->Option Value) (base:Heap) (N:List Str) (qual:Str) (scope:Scope) (f:Addr) (cd:Value) (A:Around) (outer:List Env) (s:Shared) (H:Hp) (E:XK):Cx where
 prog:=P
 w:=w
 K:=K
 mg:=mg
 base:=base
 A:=A.deeper (envOfC qual scope ⇑s f cd)
 N:=N
 s₀:=s
 H₀:=H
 env:=envOfC qual scope ⇑s f cd
 outer:=outer
 stack:=envOfC qual scope ⇑s f cd::outer
 ex:=[]
 calm:=true
 fn:=λ_=>true
 pn:=[]
 xe:=λe s'=>wpAny (model P w) (A.deeper (envOfC qual scope ⇑s f cd)) (leaving (envOfC qual scope ⇑s f cd) e) (λ_ s''=>CX outer H s E e s'') (λe' s''=>CX outer H s E e' s'') s'
def wv{sc:Scope}(h:sc.names.lookup x=some .cell): ∃c,(cellsFrom n sc.names []).lookup x=some c:=by
 have q:=W.cellsFrom_some sc.names n [] (.inl h);show Option.isSome_iff_exists.mp q
theorem inv_start{CX:CXT}{P:Program}{w:World}{K:W.Frag}{mg:Str->Option Value}{base:Heap}{N ps:List Str}{qual:Str}{scope:Scope}{f:Addr}{cd:Value}{A:Around}{outer:List Env}{s s1:Shared}{H:Hp}{E:XK}{us:List Value}{vs:List V}
  (S:FnScope N ps scope) (hd:A.handled=none) (e0:Env0 P w K mg base A outer s H) (hl:vs.length=ps.length) (r:Vals vs us)
  (x:InCallC s ⇑s (bindL (envOfC qual scope ⇑s f cd).kindOf (ps.zip us) λ_=>none) (cellsFrom (⇑s+1) scope.names []) (bindC (envOfC qual scope ⇑s f cd).kindOf (ps.zip us) λ_=>none) s1):
  Inv (cxOf CX P w K mg base N qual scope f cd A outer s H E) [] (start N vs) H s1:=by
 have hpl:ps.length<=N.length:=by have:=congrArg List.length S.pre;rw[List.length_take] at this;lia
 obtain⟨h1,tk,rfl,hk⟩:=x.done;have noA: ∀b:Addr,b∉(cxOf CX P w K mg base N qual scope f cd A outer s H E).ex:=λb z=>absurd (show b∈([]:List Addr) from z) Sort;show⟨⟨e0.mod,S.kind,rfl,rfl,μ _,λy z c h1 h2=>?_,λy hy=>?_,λy c _ h=>?_,λ_=>hd,Around.frames_deeper e0.frames,.inr ⟨rfl,rfl⟩,λb z=>absurd z (noA b),e0.bs,e0.bsz,λb _ _=>noA b,λb z=>absurd z (noA b),e0.funs,e0.frf⟩,
  rfl,e0.bare,Un.kept hk,⟨_,x.toInCall.ns,λi y v h1 h2 h3=>?_⟩,λy c h=>⟨_,x.cell y c h⟩,e0.hok.fresh (μ _),λy c h=>?_,λp hp=>absurd (show p∈([]:List (Addr×Obj)) from hp) Sort,e0.hok.kept hk,?_⟩
 .show name_of_addr x.apart (PySem.mem_of_lookup h1) (PySem.mem_of_lookup h2)
 .have hy:scope.names.lookup y=some .cell\/scope.names.lookup y=some .free:=hy;rcases hy with hy | hy
  .show wv hy
  .show absurd rfl (S.nofree _ (PySem.mem_of_lookup hy))
 .show Υ (x.above y c (PySem.mem_of_lookup h))
 .have hi:i<vs.length:=by
   unfold start at h2;by_cases hi:i<vs.length
   .show hi
   .rw[List.getElem?_append_right (by exists hi)] at h2;rw[List.getElem?_replicate] at h2;split at h2<;>cases h2
  have ha:vs[i]? =some v:=by
   unfold start at h2;rw[List.getElem?_append_left (by exists hi),Ν] at h2;cases e:vs[i]? with
   | none=>rw[e] at h2;cases h2
   | some a=>rw[e] at h2;cases h2;rfl
  obtain⟨u,hu,rv⟩:=r.get ha;have hp:ps[i]? =some y:=by
   rw[<-S.pre,List.getElem?_take_of_lt ∅];show h1
  have ndP:ps.Nodup:=by rw[<-S.pre];show S.nd.sublist (List.take_sublist _ _)
  show⟨u,rv,?_⟩;rcases S.par y (Β hp) with k | k
  .show .inl ⟨k,Zt ndP hp hu k⟩
  .obtain⟨c,e⟩:=wv (n:=⇑s+1) k;show .inr ⟨.inl k,c,e,?_⟩;have q:=x.cell y c e;rw[Zv ndP hp hu (by change scope.names.lookup y≠_;rw[k];decide)] at q;show q
 .show e0.hok.fresh (Υ (x.above y c (PySem.mem_of_lookup h)))
 .unfold start;change _=N.length;rw[Ξ,ω,List.length_replicate];lia
theorem VH{CX:CXT}{P:Program}{w:World}{K:W.Frag}{mg:Str->Option Value}{base:Heap}{k:Nat}{f:Addr}{name qual:Str}{params:Arguments}{body:List Stmt}{scope:Scope}{dV kV doc pm cdv ct oc:Value}{an od:Option Addr}
  {osl:Array (Option Value)} {N ps:List Str} {sp:Sp} (lk:K.lookup f=some ⟨oc,od,.func (W.fnOf name qual params body scope dV kV doc pm an cdv ct),osl⟩) (hcd:W.codeIn K cdv qual=true) (S:FnScope N ps scope)
  (len: ∀vs H Q E,sp vs H Q E->vs.length=ps.length)
  (hbody: ∀(A:Around) (outer:List Env) (s:Shared) (H:Hp) (vs:List V) (Q:VK) (E:XK),Room k (A.deeper (envOfC qual scope ⇑s f cdv))->sp vs H Q E->
   ∃t,PSs (cxOf CX P w K mg base N qual scope f cdv A outer s H E) body t/\t {nx:=λ_ H'=>Q .non H',rt:=Q} (start N vs) H):
  FnOk P w K mg base CX (k+1) f (W.fnOf name qual params body scope dV kV doc pm an cdv ct) ps sp:=by
 show⟨len,λA outer s H args us vs Q E hr e0 hb r hsp=>?_⟩;have hl:=len _ _ _ _ hsp;have KX:K.In s.heap:=e0.mod.kin.keeps λb o e=>(e0.bs b o e).1;have lim:s.heap.NoLimit:=e0.mod.nolimit.keeps λb o e=>(e0.bs b o e).1;have hkind: ∀y∈ps.zip us,scope.names.lookup y.1=some .local\/(scope.names.lookup y.1=some .cell/\((cellsFrom (⇑s+1) scope.names []).lookup y.1).isSome=true):=fun⟨n,v⟩ hy=>by
  rcases S.par n (List.of_mem_zip hy).1 with q | q
  .show .inl q
  .show .inr ⟨q,W.cellsFrom_some _ _ _ (.inl q)⟩
 show codeAny_call_function hr.depth (KX _ _ lk) rfl S.co S.gen rfl (W.codeRec_of KX hcd) (hb _ _ _ _ ?_);show wpAny_newFunctionEnv_cells S.kind hkind λenv he s1 x=>?_;subst he;show⟨lim.keeps x.toInCall.keep,codeAny_func ?_⟩;obtain⟨t,ht,hq⟩:=hbody A outer s H vs Q E (hr.deeper _) hsp;have I:Inv (cxOf CX P w K mg base N qual scope f cdv A outer s H E) [] (start N vs) H s1:=inv_start S hr.hd e0 hl r x;show wpAny_mono (ht [] s1 (start N vs) H _ I hq) (λfl s' hs=>?_) λe s' hs=>hs;have fin: ∀{σ':St} {H':Hp} {v:V} {u:Value},Inv (cxOf CX P w K mg base N qual scope f cdv A outer s H E) [] σ' H' s'->RelV v u->Q v H'->CE outer P w H s Q u s':=
  λ{σ' H' v u} J rv q=>⟨v,H',J.os,J.bare,J.base,J.hok,rv,q⟩
 cases fl with
 | ret u=>
  obtain⟨v,σ',H',J,rv,q⟩:=hs;show fin J rv q
 | next=>
  obtain⟨σ',H',J,q⟩:=hs;show fin (v:=V.non) (u:=Value.none) J rfl q
 | brk=>
  obtain⟨_,_,_,q⟩:=hs;show False.elim q
 | cont=>
  obtain⟨_,_,_,q⟩:=hs;show False.elim q
section
variable {X:Cx}{id:String}{r:List V->Hp->VK->Prop}
def tCB (r:List V->Hp->VK->Prop) (t:TA):TE:=fun σ H Q=>t σ H λvs H1=>r vs H1 Q
def pe_callB(hc:CallR X (.builtin id) r)(hg:Gl X x)(hm:X.mg x=none)(hv:bootBuiltins x=some (.builtin id))(ha:PA X (e::es) t)(hn:x≠"__name__":=by decide)(hdb:(x==("__debug__":Str))=false:=by decide)
  (he:starEach (e::es) X.env=(false,eval e X.env)::starEach es X.env:=by rfl) (hpl:(backTo pos (starEach es X.env)).any (·.1)=false:=by rfl):PE X (.Call (.Name x p) (e::es) [] pos) (tCB r t):=by
 intro ϖ s σ H Q I h;show wpAny_Call_Name_kw (xh I hg hm hv ?_ hn hdb);show PyProof.Rows.callWith_builtin1 (thn (ha pos ϖ s σ H _ I h) λus s1 ⟨vs,H1,I1,r1,q1⟩=>hc ϖ s1 σ H1 vs us Q I1 r1 q1) he hpl
def pe_callTy(hc:CallR X (.type T) r)(hg:Gl X x)(hm:X.mg x=none)(hv:bootBuiltins x=some (.type T))(ha:PA X (e::es) t)(hn:x≠"__name__":=by decide)(hdb:(x==("__debug__":Str))=false:=by decide)
  (he:starEach (e::es) X.env=(false,eval e X.env)::starEach es X.env:=by rfl) (hpl:(backTo pos (starEach es X.env)).any (·.1)=false:=by rfl):PE X (.Call (.Name x p) (e::es) [] pos) (tCB r t):=by
 intro ϖ s σ H Q I h;show wpAny_Call_Name_kw (xh I hg hm hv ?_ hn hdb);show PyProof.Rows.callWith_type1 (thn (ha pos ϖ s σ H _ I h) λus s1 ⟨vs,H1,I1,r1,q1⟩=>hc ϖ s1 σ H1 vs us Q I1 r1 q1) he hpl
end
end L2
namespace HT
open PySem PyProof.Rows
section
open PySem.SeqAt
open PySem.AutoSeq1 (wpAny_loadPart')
open PySem.MeetsSeq PySem.MeetsSeq2 PySem.MeetsSeq3
end
def cat_tup{vs ws:List Value}{Q:VSP}(ht:IsTup s.heap t vs.toArray)(hb:IsTup s.heap b ws.toArray)(hv:vs≠[])
  (h1:ws=[]->Q (.ref t) s) (h2:ws≠[]->Q (.ref ⇑s) {s with heap:=s.heap.push {cls:= .type "tuple",data:= .seq (vs++ws).toArray}})
  (hsz:vs.length+ws.length<=sizeLine):wpAny (model prog w) A (binaryOp .Add (.ref t) (.ref b)) Q E s:=by
 obtain⟨⟨cls,dd,data,sl⟩,ho,hc,n,hd⟩:=id ht;obtain⟨⟨cls2,dd2,data2,sl2⟩,ho2,hc2,n2,hd2⟩:=id hb;simp only at hc hd hc2 hd2;subst hc hd hc2 hd2;have e:vs.toArray++ws.toArray=(vs++ws).toArray:=by simp
 by_cases hw:ws=[]
 .show concat_meets ⟨_,ho,rfl⟩ ⟨_,ho2,rfl⟩ noFill_tuple_add seq_tuple_add PySem.F.slot_tuple_add PySem.F.entry_tuple_add (PySem.F.args_tuple_add_2 _ _)
   (tuple_addW1 t b vs.toArray ws.toArray n n2 dd dd2 sl sl2 (by exists hv) (by simp[hw])) ⟨ho,ho2,h1 hw⟩
 .show concat_meets ⟨_,ho,rfl⟩ ⟨_,ho2,rfl⟩ noFill_tuple_add seq_tuple_add PySem.F.slot_tuple_add PySem.F.entry_tuple_add (PySem.F.args_tuple_add_2 _ _)
   (tuple_addW2 t b vs.toArray ws.toArray n n2 dd dd2 sl sl2 (by exists hv) (by exists hw) (by rw[ψ,ψ];show hsz)) ⟨ho,ho2,?_⟩
  rw[e];show h2 hw
def sIx (n d:Nat):Option Int->Nat
 | none=>d
 | some v=>if v<0 then (v+(n:Int)).toNat else min v.toNat n
theorem sIx_le(n d:Nat)(hd:d<=n)(o:Option Int):sIx n d o<=n:=by
 cases o with
 | none=>show hd
 | some v=>
  change(if v<0 then (v+(n:Int)).toNat else min v.toNat n)<=n;by_cases hv:v<0
  .rw[if_pos hv];lia
  .rw[if_neg hv];show Nat.min_le_right _ _
def XZ(v:Int)(n d:Nat):(if v<0 then max (v+(n:Int)) 0 else min v (n:Int))=((sIx n d (some v):Nat):Int):=by
 change(if v<0 then max (v+(n:Int)) 0 else min v (n:Int))=(((if v<0 then (v+(n:Int)).toNat else min v.toNat n):Nat):Int);by_cases hv:v<0
 .simp only[if_pos hv];lia
 .simp only[if_neg hv];lia
theorem adjust_gen(lo hi:Option Int)(n:Nat):Builtin.Slice.sliceAdjust lo hi 1 (n:Int)=(((sIx n 0 lo:Nat):Int),((sIx n n hi:Nat):Int)):=by
 have h1: ¬((1:Int)<0):=by lia
 unfold Builtin.Slice.sliceAdjust;simp only[h1,if_false];show Prod.ext ?_ ?_
 .cases lo with
  | none=>rfl
  | some v=>show XZ v n 0
 .cases hi with
  | none=>rfl
  | some v=>show XZ v n n
def places_gen(i j:Nat):Builtin.Slice.slicePlaces (i:Int) (j:Int) 1=j-i:=by
 unfold Builtin.Slice.slicePlaces;have h1:(1:Int)>0:=by lia
 simp only[h1,if_true,Int.ediv_one];split<;>lia
theorem vC{Q:Option Int->Shared->Prop}(p:IsPart v o)(h:Q o s):wpAny (model prog w) A (Builtin.Slice.slicePartIndex v) Q E s:=by
 cases p with
 | none=>show slicePart_none h
 | int i t=>show slicePart_int h
def yA{sl:Addr}{vl vu:Value}{lo hi:Option Int}{n:Nat}{Q:Int×Int×Nat->Shared->Prop}(hs:s.heap.IsSliceOf sl vl vu .none)(pl:IsPart vl lo)(pu:IsPart vu hi)
  (h:Q (((sIx n 0 lo:Nat):Int),1,sIx n n hi-sIx n 0 lo) s):wpAny (model prog w) A (Builtin.Slice.sliceApplied (.ref sl) (pure (n:Int))) Q E s:=by
 obtain⟨os,hos,hcs,hds⟩:=id hs;unfold Builtin.Slice.sliceApplied Builtin.Slice.sliceFields;show γ (γ (Κ hos hds (x:=vl) rfl (γ (Κ hos hds (x:=vu) rfl (γ (Κ hos hds (x:= .none) rfl (ε ?_)))))));show γ (slicePart_none ?_);change wpAny _ _ (if ((1:Int)==0)=true then _ else _) _ _ s;rw[if_neg ⋯];show γ (vC pl (γ (vC pu (γ (ε ?_)))));change wpAny _ _ (match Builtin.Slice.sliceAdjust lo hi 1 (n:Int) with | (lo,hi)=>pure (lo,(1:Int),Builtin.Slice.slicePlaces lo hi 1)) _ _ s;rw[adjust_gen lo hi n];change wpAny _ _ (pure (((sIx n 0 lo:Nat):Int),(1:Int),Builtin.Slice.slicePlaces ((sIx n 0 lo:Nat):Int) ((sIx n n hi:Nat):Int) 1)) _ _ s;rw[places_gen];show ε h
def pick_gen(xs:Array Value)(i k:Nat):((List.range k).filterMap fun(m:Nat)=>xs[((i:Int)+(m:Int)*1).toNat]?).toArray=((xs.toList.drop i).take k).toArray:=by
 have e:(fun(m:Nat)=>xs[((i:Int)+(m:Int)*1).toNat]?)=λm=>xs[i+m]? :=by
  funext m
  have:((i:Int)+(m:Int)*1).toNat=i+m:=by lia
  rw[this]
 rw[e];have:=pick_run xs i k;rw[List.filterMap_map] at this;have e2:((λx=>xs[x]?) ∘ λx=>i+x)=λm=>xs[i+m]? :=rfl;rw[e2] at this;rw[this]
theorem getItem_tuple_cut{t sl:Addr}{items:Array Value}{vl vu:Value}{lo hi:Option Int}{Q:VSP}(ht:IsTup s.heap t items)(hs:s.heap.IsSliceOf sl vl vu .none)(pl:IsPart vl lo)(pu:IsPart vu hi)
  (hw: ¬(sIx items.size 0 lo=0/\sIx items.size items.size hi=items.size))
  (h:Q (.ref ⇑s) {s with heap:=s.heap.push {cls:= .type "tuple",data:= .seq ((items.toList.drop (sIx items.size 0 lo)).take (sIx items.size items.size hi - sIx items.size 0 lo)).toArray}})
  (hsz:items.size<=sizeLine):wpAny (model prog w) A (getItem (.ref t) (.ref sl)) Q E s:=by
 have htake:sizeOk (.seq ((items.toList.drop (sIx items.size 0 lo)).take (sIx items.size items.size hi-sIx items.size 0 lo)).toArray):=by
  change((items.toList.drop (sIx items.size 0 lo)).take (sIx items.size items.size hi-sIx items.size 0 lo)).toArray.size<=sizeLine;rw[ψ,List.length_take,List.length_drop,Array.length_toList];lia
 have hj:sIx items.size items.size hi<=items.size:=sIx_le _ _ (μ _) hi;obtain⟨os,hos,hcs,hds⟩:=id hs;have hTs:s.TypeIs (.ref sl) "slice":=⟨os,hos,hcs⟩;unfold getItem
 try with_reducible show wpAny_holding ?_
 first | show γ (ε ?_) | skip
 show γ (wpAny_sequenceKey ht.typeIs ⋯ ?_);show γ (wpAny_callSpecial?_slot (name:=Str.ofString "__getitem__") ht.typeIs PyProof.Rows.slot_tuple_getitem
  (wpAny_call_entry PyProof.Rows.slot_tuple_getitem ht.typeIs entry_tuple_getitem ?_ (args_tuple_getitem _ _)))
 change wpAny _ _ (Builtin.Tuple.tupleItemsOf (.ref t)>>=_) _ _ s;show γ (tupleItemsOf_ ht ?_);show γ (wpAny_typeOf hTs ?_);rw[if_pos ⋯];show γ (yA hs pl pu ?_);have hno: ¬((((sIx items.size 0 lo:Nat):Int)==0&&(1:Int)==1&&(sIx items.size items.size hi-sIx items.size 0 lo)==items.size)=true):=by
  intro q;rw[Bool.and_eq_true,Bool.and_eq_true] at q;have q1:((sIx items.size 0 lo:Nat):Int)=0:=eq_of_beq q.1.1;have q2:sIx items.size items.size hi-sIx items.size 0 lo=items.size:=eq_of_beq q.2;show hw ⟨by lia,by lia⟩
 change wpAny _ _ (if (((sIx items.size 0 lo:Nat):Int)==0&&(1:Int)==1&&(sIx items.size items.size hi-sIx items.size 0 lo)==items.size)=true then _ else _) _ _ s;rw[if_neg hno,pick_gen]
 first
  | show γ (m:=Builtin.Tuple.tupleExact _) (wpAny_newObj_type (ε ⟨_,rfl,ε h⟩) htake)
  | show γ (m:=Builtin.Tuple.tupleExact _) (wpAny_newObj_type (γ (ε (ε ⟨_,rfl,ε h⟩))) htake)
  | show γ (γ (m:=Builtin.Tuple.tupleExact _) (wpAny_newObj_type (ε (ε ⟨_,rfl,ε h⟩)) htake))
  | show γ (γ (m:=Builtin.Tuple.tupleExact _) (wpAny_newObj_type (ε ⟨_,rfl,ε h⟩) htake))
end HT
namespace L2
open PySem PySem.Spec PyProof.Rows
abbrev TO:=St->Hp->(Option Int->Hp->Prop)->Prop
def PO (X:Cx) (e:Option Expr) (t:TO):Prop:=
 ∀(ϖ:List (Addr×Obj)) (s:Shared) (σ:St) (H:Hp) (Q:Option Int->Hp->Prop),Inv X ϖ σ H s->t σ H Q->
  wpAny (model X.prog X.w) X.A (evalPart e X.env) (λu s'=> ∃o H',Inv X ϖ σ H' s'/\IsPart u o/\Q o H') X.xe s
def Xa:TO:=λ_ H Q=>Q none H
def Wb (t:TE):TO:=fun σ H Q=>t σ H λx H1=> ∃i,x= .int i/\Q (some i) H1
section
variable {X:Cx}{lo:Option Expr}
def po_none:PO X none Xa:=by
 intro ϖ s σ H Q I h;rw[evalPart_none];show ε ⟨none,H,I,.none,h⟩
def Xq(h:PE X e te):PO X (some e) (Wb te):=by
 intro ϖ s σ H Q I hw;rw[evalPart_some];show thn (h ϖ s σ H _ I hw) λu s1 ⟨x,H1,I1,r1,q1⟩=>?_;obtain⟨i,rfl,q⟩:=q1;obtain⟨t,rfl⟩:=r1;show⟨some i,H1,I1,.int i t,q⟩
def SlR (X:Cx) (r:V->Option Int->Option Int->Hp->VK->Prop):Prop:=
 ∀(ϖ:List (Addr×Obj)) (s:Shared) (σ:St) (H:Hp) (x:V) (v vl vu:Value) (lo hi:Option Int) (sl:Addr) (Q:VK),Inv X ϖ σ H s->RelV x v->s.heap.IsSliceOf sl vl vu .none->IsPart vl lo->IsPart vu hi->r x lo hi H Q->
  ∃T id,typeLookup (.type T) "__getitem__"=pure (some (.builtin id))/\s.TypeIs v T/\wpAny (model X.prog X.w) X.A (getItem v (.ref sl)) (EP X ϖ σ Q) X.xe s
def SlR.or{r r':V->Option Int->Option Int->Hp->VK->Prop}(h:SlR X r)(h':SlR X r'):SlR X (λx lo hi H Q=>r x lo hi H Q\/r' x lo hi H Q):=by
 intro ϖ s σ H x v vl vu lo hi sl Q I rx hs pl pu q;rcases q with q | q
 .show h ϖ s σ H x v vl vu lo hi sl Q I rx hs pl pu q
 .show h' ϖ s σ H x v vl vu lo hi sl Q I rx hs pl pu q
def tSl (r:V->Option Int->Option Int->Hp->VK->Prop) (te:TE) (tl th:TO):TE:=fun σ H Q=>te σ H λx H1=>tl σ H1 λl H2=>th σ H2 λu H3=>r x l u H3 Q
def pe_slice{r:V->Option Int->Option Int->Hp->VK->Prop}(hr:SlR X r)(he:PE X e te)(hl:PO X lo tl)(hu:PO X hi th):PE X (.Subscript e (.Slice lo hi none p2) pos) (tSl r te tl th):=by
 intro ϖ s σ H Q I h;show Subscript_ (thn (he ϖ s σ H _ I h) λv s1 ⟨x,H1,I1,r1,q1⟩=>?_);show wpAny_Slice (thn (hl ϖ s1 σ H1 _ I1 q1) λvl s2 ⟨l,H2,I2,pl,q2⟩=>thn (hu ϖ s2 σ H2 _ I2 q2) λvu s3 ⟨u,H3,I3,pu,q3⟩=>?_);rw[evalPart_none];show ε ?_;have I4:Inv X ϖ σ H3 {s3 with heap:=s3.heap.push {cls:= .type "slice",data:= .fields #[vl,vu,.none]}}:=I3.kept (t':=s3.toks) λb ob q=>δ _ q;obtain⟨T,id,hT,ht,hg⟩:=hr ϖ {s3 with heap:=s3.heap.push {cls:= .type "slice",data:= .fields #[vl,vu,.none]}} σ H3 x v vl vu l u ⇑s3 Q I4 r1 (Heap.IsSliceOf.new ..) pl pu q3;change wpAny (model X.prog X.w) X.A (subscriptTail e (.Slice lo hi none p2) v (.ref ⇑s3)) (EP X ϖ σ Q) X.xe {s3 with heap:=s3.heap.push {cls:= .type "slice",data:= .fields #[vl,vu,.none]}};show tail_any (ops:=[.ref ⇑s3,v]) ht hT hg (by with_unfolding_all rfl)
def cutV (xs:List V) (lo hi:Option Int):List V:=(xs.drop (HT.sIx xs.length 0 lo)).take (HT.sIx xs.length xs.length hi-HT.sIx xs.length 0 lo)
def wV(xs:List V)(lo hi:Option Int):(cutV xs lo hi).length<=xs.length:=by
 unfold cutV;rw[List.length_take,List.length_drop];lia
def rSlT (K:W.Frag):V->Option Int->Option Int->Hp->VK->Prop:=λx lo hi H Q=> ∃a xs,x= .ref a/\SqT K H a xs/\
 ¬(HT.sIx xs.length 0 lo=0/\HT.sIx xs.length xs.length hi=xs.length)/\ ∀p,H p=none->Q (.ref p) (upd H p (.tup (cutV xs lo hi)))
def sl_tup:SlR X (rSlT X.K):=by
 intro ϖ s σ H x v vl vu lo hi sl Q I rx hs pl pu h;obtain⟨a,xs,rfl,hx,hw,q⟩:=h;cases rx
 obtain⟨its,r,ht,hz⟩:=I.tuple hx;have hlen:its.toArray.size=xs.length:=by rw[ψ];show r.length.symm
 show⟨"tuple",_,PyProof.Rows.slot_tuple_getitem.lookup,ht.typeIs,?_⟩;show HT.getItem_tuple_cut ht hs pl pu (by rw[hlen];show hw) ?_ (by rw[hlen];show hz);rw[hlen];show⟨.ref ⇑s,_,I.laid (t':=s.toks) (o:= .tup (cutV xs lo hi)) (λb ob q=>δ _ q) (μ _) ?_,rfl,q _ (I.hok.fresh (μ _))⟩;show⟨η (wV xs lo hi) hz,_,(r.drop (HT.sIx xs.length 0 lo)).take (HT.sIx xs.length xs.length hi - HT.sIx xs.length 0 lo),IsTup.new _ _⟩
def rCatT (K:W.Frag):R2:=λx y H Q=> ∃a b xs ys,x= .ref a/\y= .ref b/\SqT K H a xs/\SqT K H b ys/\xs≠[]/\xs.length+ys.length<=sizeLine/\
 (ys=[]->Q (.ref a) H)/\(ys≠[]-> ∀p,H p=none->Q (.ref p) (upd H p (.tup (xs++ys))))
theorem Vals.nil_iff(r:Vals xs us):us=[]↔xs=[]:=by
 cases r with
 | nil=>simp
 | cons _ _=>simp
def op_catT:OpR X (binaryOp .Add) (rCatT X.K):=by
 intro ϖ s σ H x y v u Q I rx ry h;obtain⟨a,b,xs,ys,rfl,rfl,ha,hb,hx,hz,q1,q2⟩:=h;cases rx
 cases ry
 obtain⟨its,r1,p1,_⟩:=I.tuple ha;obtain⟨its2,r2,p2,_⟩:=I.tuple hb;show HT.cat_tup p1 p2 (λz=>hx (r1.nil_iff.mp z)) (λz=>⟨.ref a,H,I,rfl,q1 (r2.nil_iff.mp z)⟩) (λz=>?_) (by rw[<-r1.length,<-r2.length];show hz);show⟨.ref ⇑s,_,I.laid (t':=s.toks) (o:= .tup (xs++ys)) (λb ob q=>δ _ q) (μ _) ?_,rfl,q2 (λw=>z (r2.nil_iff.mpr w)) _ (I.hok.fresh (μ _))⟩;show⟨by rw[Ξ];show hz,_,r1.append r2,IsTup.new _ _⟩
end
def ixN (n:Nat) (i:Int):Option Nat:=if 0<=i then (if i<n then some i.toNat else none) else if -(n:Int)<=i then some (i+n).toNat else none
def atI {α:Type} (xs:List α) (i:Int):Option α:=(ixN xs.length i).bind λj=>xs[j]?
def ZK(h:ixN n i=some j):seqIndex? i n=some j/\j<n/\ -(n:Int)<=i/\i<n:=by
 unfold ixN at h;by_cases h0:0<=i
 .rw[if_pos h0] at h;by_cases h1:i<n
  .rw[if_pos h1] at h;have e:i.toNat=j:=Α h;show⟨by rw[seqIndex_of h0 h1,e],by lia,by lia,h1⟩
  .rw[if_neg h1] at h;cases h
 .rw[if_neg h0] at h;by_cases h1: -(n:Int)<=i
  .rw[if_pos h1] at h;have e:(i+n).toNat=j:=Α h;show⟨by rw[seqIndex_neg ∅ h1,e],by lia,h1,by lia⟩
  .rw[if_neg h1] at h;cases h
theorem ZZ{xs:List α}{v:α}(h:atI xs i=some v): ∃j,seqIndex? i xs.length=some j/\xs[j]? =some v/\j<xs.length/\ -(xs.length:Int)<=i/\i<xs.length:=by
 unfold atI at h;cases e:ixN xs.length i with
 | none=>rw[e] at h;cases h
 | some j=>
  rw[e] at h;obtain⟨h1,h2,h3,h4⟩:=ZK e;show⟨j,h1,h,h2,h3,h4⟩
def X2 (b:Expr):Prop:= ∀o i,subscripted b false o i=operate [o,i] (getItem o i)
def IxR (X:Cx) (r:R2):Prop:=
 ∀(value slice:Expr) (ϖ:List (Addr×Obj)) (s:Shared) (σ:St) (H:Hp) (x y:V) (v u:Value) (Q:VK),Inv X ϖ σ H s->RelV x v->RelV y u->r x y H Q->
  subscripted slice false v u=operate [v,u] (getItem v u)->wpAny (model X.prog X.w) X.A (subscriptTail value slice v u) (EP X ϖ σ Q) X.xe s
def MtR (X:Cx) (id:String) (r:V->List V->Hp->VK->Prop):Prop:=
 ∀(ϖ:List (Addr×Obj)) (s:Shared) (σ:St) (H:Hp) (x:V) (xs:List V) (v:Value) (us:List Value) (Q:VK),Inv X ϖ σ H s->RelV x v->Vals xs us->r x xs H Q->
  wpAny (model X.prog X.w) X.A (call (.builtin id) (v::us)) (EP X ϖ σ Q) X.xe s
section
variable {X:Cx}
def IxR.or(h:IxR X r)(h':IxR X r'):IxR X (λx y H Q=>r x y H Q\/r' x y H Q):=by
 intro value slice ϖ s σ H x y v u Q I rx ry q hs;rcases q with q | q
 .show h value slice ϖ s σ H x y v u Q I rx ry q hs
 .show h' value slice ϖ s σ H x y v u Q I rx ry q hs
def pe_ix(hr:IxR X r)(ha:PE X a ta)(hb:PE X b tb)(hs:X2 b):PE X (.Subscript a b pos) (tOp r ta tb):=by
 intro ϖ s σ H Q I h;show Subscript_ (binT ha hb I h λv u s2 x y H2 I2 rx ry q=>hr a b ϖ s2 σ H2 x y v u Q I2 rx ry q (hs _ _))
def rIxL (K:W.Frag):R2:=λx y H Q=> ∃p xs i v,x= .ref p/\y= .int i/\SqL K H p xs/\atI xs i=some v/\Q v H
def rIxT (K:W.Frag):R2:=λx y H Q=> ∃p xs i v,x= .ref p/\y= .int i/\SqT K H p xs/\atI xs i=some v/\Q v H
def rIxS:R2:=λx y H Q=> ∃z i c,x= .str z/\y= .int i/\z.length<=sizeLine/\atI z.cps.toList i=some c/\Q (.str ⟨#[c]⟩) H
def ix_list:IxR X (rIxL X.K):=by
 intro value slice ϖ s σ H x y v u Q I rx ry h hs;obtain⟨p,xs,i,z,rfl,rfl,hq,he,q⟩:=h;cases rx
 obtain⟨t,rfl⟩:=ry;obtain⟨its,r,pl,hz⟩:=I.list hq;obtain⟨j,h1,h2,h3,h4,h5⟩:=ZZ he;obtain⟨w,ew,rw'⟩:=r.get h2;have hl:=r.length;have hn:=vL;have fin:EP X ϖ σ Q w s:=⟨z,H,I,rw',q⟩;by_cases h0:0<=i
 .have hj:i.toNat=j:=by
   rw[seqIndex_of h0 h5] at h1;show Α h1
  show item_listR pl.isList h0 ∅ (by rw[hj];exists ew) fin hs
 .have hj:(i+(its.toArray.size:Int)).toNat=j:=by
   rw[seqIndex_neg ∅ h4] at h1;rw[ψ,<-hl];show Α h1
  show subscriptTail_builtinR (x:=w) pl.isList.typeIs slot_list_getitem.lookup
   (wpAny_getItem_list_neg (Q:=λr s'=>r=w/\EP X ϖ σ Q r s') pl.isList ∅ (by rw[ψ]<;>lia) ∅ (by rw[hj];exists ew) ⟨rfl,fin⟩) hs
def ix_tup:IxR X (rIxT X.K):=by
 intro value slice ϖ s σ H x y v u Q I rx ry h hs;obtain⟨p,xs,i,z,rfl,rfl,hq,he,q⟩:=h;cases rx
 obtain⟨t,rfl⟩:=ry;obtain⟨its,r,pl,hz⟩:=I.tuple hq;obtain⟨j,h1,h2,h3,h4,h5⟩:=ZZ he;obtain⟨w,ew,rw'⟩:=r.get h2;have hl:=r.length;have hn:=vL;have fin:EP X ϖ σ Q w s:=⟨z,H,I,rw',q⟩;show subscriptTail_builtinR (x:=w) pl.typeIs slot_tuple_getitem.lookup
  (getItem_tuple (j:=j) (Q:=λr s'=>r=w/\EP X ϖ σ Q r s') pl ∅ ∅ (by rw[ψ,<-hl];show h1) (by exists ew) ⟨rfl,fin⟩) hs
def ix_str:IxR X rIxS:=by
 intro value slice ϖ s σ H x y v u Q I rx ry h hs;obtain⟨z,i,c,rfl,rfl,hz,he,q⟩:=h;obtain⟨t,rfl⟩:=rx;obtain⟨t',rfl⟩:=ry;obtain⟨j,h1,h2,h3,h4,h5⟩:=ZZ he;have hl:z.cps.toList.length=z.length:=by simp[Str.length]
 rw[hl] at h1 h4 h5;have hn:=vL;show tail_any (typeIs_str s z t) slot_str_getitem.lookup (getItem_str (c:=c) (by
  have e1:decide (i< -(2^63:Int))=false:=Ζ ∅;have e2:decide (i>=2^63)=false:=Ζ ∅;rw[e1,e2,Bool.or_false]) (by rw[h1];exists h2) ⟨.str ⟨#[c]⟩,H,I.tok _,⟨_,rfl⟩,q⟩) hs
def rIx (K:W.Frag):R2:=λx y H Q=>rIxL K x y H Q\/rIxT K x y H Q\/rIxS x y H Q
def ix_seq:IxR X (rIx X.K):=ix_list.or (ix_tup.or ix_str)
def mapSeq_set(its:List Value)(n j:Nat)(u:Value):Obj.mapSeq (·.setIfInBounds j u) {cls:= .type "list",data:= .seq its.toArray n}={cls:= .type "list",data:= .seq (its.set j u).toArray n}:=by
 simp[Obj.mapSeq]
def Inv.lst(I:Inv X ϖ σ H s)(h:H p=some (.lst xs)):
  ∃(its:List Value) (n:Nat),Vals xs its/\s.heap.get? p=some {cls:= .type "list",data:= .seq its.toArray n}/\xs.length<=sizeLine:=by
 obtain⟨z,its,n,r,e⟩:=I.hok p _ h;show⟨its,n,r,e,z⟩
def Inv.lstUpd{its its':List Value}{f:Obj->Obj}(I:Inv X ϖ σ H s)(h:H p=some (.lst xs))
  (ho:s.heap.get? p=some {cls:= .type "list",data:= .seq its.toArray n}) (hf:f {cls:= .type "list",data:= .seq its.toArray n}={cls:= .type "list",data:= .seq its'.toArray n'}) (r:Vals ys its') (hz:ys.length<=sizeLine) (t:Nat):
  Inv X ϖ σ (upd H p (.lst ys)) {s with heap:=s.heap.update p f,toks:=t}:=by
 have e:(s.heap.update p f).get? p=some {cls:= .type "list",data:= .seq its'.toArray n'}:=by
  rw[Heap.get?_update_self f ho (by rw[hf]<;>rfl),hf]
 show I.write (x:=p) (e:=p) (by rw[h];trivial) (.inl rfl) (λb u hb q=>(Heap.get?_update_other _ _ (Ne.symm hb)).trans q) ⟨_,e⟩ ?_;show⟨hz,its',n',r,e⟩
def rSetL:V->V->V->Hp->(Hp->Prop)->Prop:=λo i v H Q=> ∃p xs k j,o= .ref p/\i= .int k/\H p=some (.lst xs)/\ixN xs.length k=some j/\Q (upd H p (.lst (xs.set j v)))
def set_list:PSet X rSetL:=by
 intro ϖ s σ H o i v ov iv u Q I ro ri rv h;obtain⟨p,xs,k,j,rfl,rfl,hp,hj,q⟩:=h;cases ro
 obtain⟨t,rfl⟩:=ri;obtain⟨its,n,r,ho,hz⟩:=I.lst hp;obtain⟨h1,h2,h3,h4⟩:=ZK hj;have hl:=r.length;have hn:=vL;have I':Inv X ϖ σ (upd H p (.lst (xs.set j v))) {s with heap:=s.heap.update p (Obj.mapSeq (·.setIfInBounds j u))}:=
  I.lstUpd hp ho (mapSeq_set its n j u) (r.set rv j) (by rw[List.length_set];show hz) s.toks
 by_cases h0:0<=k
 .have hk:k.toNat=j:=by
   rw[seqIndex_of h0 h4] at h1;show Α h1
  show W.ki_setAt ho h0 ∅ (by rw[ψ,<-hl];show h4) (by rw[hk];show⟨_,I',q⟩)
 .have hk:(k+(its.toArray.size:Int)).toNat=j:=by
   rw[seqIndex_neg ∅ h3] at h1;rw[ψ,<-hl];show Α h1
  show W.ki_setBack ho ∅ (by rw[ψ,<-hl];show h3) ∅ (by rw[hk];show⟨_,I',q⟩)
theorem slice_bounds(lo hi:Option Int)(n:Nat):(sliceBounds lo hi none n).1=((HT.sIx n 0 lo:Nat):Int)/\(sliceBounds lo hi none n).2.1=((HT.sIx n n hi:Nat):Int)/\(sliceBounds lo hi none n).2.2=1:=by
 show⟨?_,?_,rfl⟩
 .cases lo with
  | none=>simp[sliceBounds,HT.sIx]
  | some i=>
   simp only[sliceBounds,HT.sIx,Option.getD_none,show(1:Int)>0 by decide,if_true];by_cases h:i<0
   .simp only[h,if_true]<;>lia
   .simp only[h,if_false]<;>lia
 .cases hi with
  | none=>simp[sliceBounds,HT.sIx]
  | some i=>
   simp only[sliceBounds,HT.sIx,Option.getD_none,show(1:Int)>0 by decide,if_true];by_cases h:i<0
   .simp only[h,if_true]<;>lia
   .simp only[h,if_false]<;>lia
def slicePick_cut(its:List Value)(lo hi:Option Int):slicePick its.toArray lo hi none=((its.drop (HT.sIx its.length 0 lo)).take (HT.sIx its.length its.length hi-HT.sIx its.length 0 lo)).toArray:=by
 obtain⟨h1,h2,h3⟩:=slice_bounds lo hi its.toArray.size;unfold slicePick;rw[h1,h2,h3];simp only[sliceRange_one,pick_run,List.size_toArray]<;>rfl
def rSlL (K:W.Frag):V->Option Int->Option Int->Hp->VK->Prop:=λx lo hi H Q=> ∃a xs,x= .ref a/\SqL K H a xs/\ ∀p,H p=none->Q (.ref p) (upd H p (.lst (cutV xs lo hi)))
def sl_list:SlR X (rSlL X.K):=by
 intro ϖ s σ H x v vl vu lo hi sl Q I rx hs pl pu h;obtain⟨a,xs,rfl,hx,q⟩:=h;cases rx
 obtain⟨its,r,ht,hz⟩:=I.list hx;have hlen:=r.length;show⟨"list",_,slot_list_getitem.lookup,ht.isList.typeIs,?_⟩;show wpAny_getItem_list_slice ht.isList hs pl pu .none Sort ?_ (by rw[ψ]<;>lia);rw[slicePick_cut,<-hlen];show⟨.ref ⇑s,_,I.laid (t':=s.toks) (o:= .lst (cutV xs lo hi)) (λb ob q=>δ _ q) (μ _) ?_,rfl,q _ (I.hok.fresh (μ _))⟩;show⟨η (wV xs lo hi) hz,_,0,(r.drop (HT.sIx xs.length 0 lo)).take (HT.sIx xs.length xs.length hi - HT.sIx xs.length 0 lo),ο _ rfl⟩
def call_len_seq:CallR X (.builtin "len") (λxs H Q=> ∃p ys,xs=[.ref p]/\(SqL X.K H p ys\/SqT X.K H p ys)/\Q (.int ys.length) H):=by
 intro ϖ s σ H xs us Q I r h;obtain⟨p,ys,rfl,hq,q⟩:=h;obtain⟨u,rfl,rx⟩:=Za r;cases rx
 have hn:=vL;rcases hq with hq | hq
 .obtain⟨its,r',pl,hz⟩:=I.list hq;have hlen:=r'.length;show Calls.call_len_list pl.isList (by simp only[List.size_toArray]<;>lia) ⟨.int ys.length,H,I.tok _,⟨s.toks+1,by rw[ψ,hlen]⟩,q⟩
 .obtain⟨its,r',pl,hz⟩:=I.tuple hq;have hlen:=r'.length;show len_tuple pl (by simp only[List.size_toArray]<;>lia) ⟨.int ys.length,H,I.tok _,⟨s.toks+1,by rw[ψ,hlen]⟩,q⟩
def CallR.or{f:Value}{r r':List V->Hp->VK->Prop}(h:CallR X f r)(h':CallR X f r'):CallR X f (λxs H Q=>r xs H Q\/r' xs H Q):=by
 intro ϖ s σ H xs us Q I rs q;rcases q with q | q
 .show h ϖ s σ H xs us Q I rs q
 .show h' ϖ s σ H xs us Q I rs q
def call_list_of:CallR X (.type "list") (λxs H Q=> ∃p ys,xs=[.ref p]/\(SqL X.K H p ys\/SqT X.K H p ys)/\ ∀l,H l=none->Q (.ref l) (upd H l (.lst ys))):=by
 intro ϖ s σ H xs us Q I r h;obtain⟨p,ys,rfl,hq,q⟩:=h;obtain⟨u,rfl,rx⟩:=Za r;cases rx
 have fin: ∀(its:List Value),Vals ys its->ys.length<=sizeLine-> ∀(h':Heap) (c':Nat),(∀b o',s.heap.get? b=some o'->h'.get? b=some o')->
   h'.get? ⇑s=some {cls:= .type "list",dict:=none,data:= .seq its.toArray c',slots:=#[]}->EP X ϖ σ Q (.ref ⇑s) {s with heap:=h'}:=λits r' hz h' c' kp e=>
  ⟨.ref ⇑s,_,I.laid (t':=s.toks) kp (μ _) (show ObjOk X.prog X.w _ h' _ (.lst ys) from⟨hz,its,c',r',e⟩),rfl,q _ (I.hok.fresh (μ _))⟩
 rcases hq with hq | hq
 .obtain⟨its,r',pl,hz⟩:=I.list hq;have hlen:=r'.length;obtain⟨o,ho,hc,n,hd⟩:=pl.isList;show call_list_seq p (.inl rfl) ho hc hd (λh' c' kp e=>fin its r' hz h' c' kp e) (by simp only[List.size_toArray]<;>lia)
 .obtain⟨its,r',pl,hz⟩:=I.tuple hq;have hlen:=r'.length;obtain⟨o,ho,hc,n,hd⟩:=pl;show call_list_seq p (.inr rfl) ho hc hd (λh' c' kp e=>fin its r' hz h' c' kp e) (by simp only[List.size_toArray]<;>lia)
def call_tuple_of:CallR X (.type "tuple") (λxs H Q=> ∃p ys,xs=[.ref p]/\((SqL X.K H p ys/\ ∀l,H l=none->Q (.ref l) (upd H l (.tup ys)))\/(SqT X.K H p ys/\Q (.ref p) H))):=by
 intro ϖ s σ H xs us Q I r h;obtain⟨p,ys,rfl,h⟩:=h;obtain⟨u,rfl,rx⟩:=Za r;cases rx
 rcases h with ⟨hq,q⟩ | ⟨hq,q⟩
 .obtain⟨its,r',pl,hz⟩:=I.list hq;have hlen:=r'.length;show call_tuple_list pl.isList (λh' kp=>?_) (by simp only[List.size_toArray]<;>lia);have I1:Inv X ϖ σ H {s with heap:=h'}:=I.kept (t':=s.toks) kp;have I2:Inv X ϖ σ (upd H h'.objs.size (.tup ys)) {s with heap:=h'.push {cls:= .type "tuple",data:= .seq its.toArray}}:=
   I1.laid (t':=s.toks) (λb o e=>δ _ e) (μ _) (show ObjOk X.prog X.w _ _ _ (.tup ys) from⟨hz,its,r',IsTup.new _ _⟩)
  show⟨.ref h'.objs.size,_,I2,rfl,q _ (I1.hok.fresh (μ _))⟩
 .obtain⟨its,r',pl,hz⟩:=I.tuple hq;show call_tuple_same pl ⟨.ref p,H,I,rfl,q⟩
def tyV (K:W.Frag) (T:String) (x:V) (H:Hp):Prop:=match x with
 | .str _=>T="str"
 | .int _=>T="int"
 | .ref p=>(T="list"/\ ∃xs,SqL K H p xs)\/(T="tuple"/\ ∃o,K.lookup p=some o/\o.cls= .type "tuple"/\o.dict=none)\/
   (T="dict"/\((∃kvs,H p=some (.dK kvs))\/ ∃kvs,H p=some (.dT kvs)))\/(T="set"/\ ∃S n,H p=some (.set S n))
 | _=>False
theorem X7(I:Inv X ϖ σ H s)(r:RelV x v)(ty:tyV X.K T x H):
  s.TypeIs v T/\ ∀a,v= .ref a-> ∃ob,s.heap.get? a=some ob/\ob.dict=none:=by
 cases x with
 | str z=>
  obtain⟨t,rfl⟩:=r;cases (show T="str" from ty)
  show⟨typeIs_str s z t,λ_ e=>nomatch e⟩
 | int i=>
  obtain⟨t,rfl⟩:=r;cases (show T="int" from ty)
  show⟨typeIs_int s i t,λ_ e=>nomatch e⟩
 | ref p=>
  cases r
  rcases ty with ⟨rfl,xs,hq⟩ | ⟨rfl,o,hk,hc,hd⟩ | ⟨rfl,hk⟩ | ⟨rfl,S,n,hk⟩
  .obtain⟨its,_,pl,_⟩:=I.list hq;show⟨pl.isList.typeIs,λa e=>?_⟩;cases e
   obtain⟨o,n,e,c,hd,_⟩:=pl;show⟨o,e,hd⟩
  .show⟨⟨o,I.kIn p o hk,hc⟩,λa e=>?_⟩;cases e
   show⟨o,I.kIn _ o hk,hd⟩
  .have z: ∃o,s.heap.get? p=some o/\o.ExactDict:=by
    rcases hk with ⟨kvs,hk⟩ | ⟨kvs,hk⟩
    .obtain⟨_,_,_,_,o,_,_,e,ex,_⟩:=I.hok p _ hk;show⟨o,e,ex⟩
    .obtain⟨_,_,_,_,o,_,_,e,ex,_⟩:=I.hok p _ hk;show⟨o,e,ex⟩
   obtain⟨o,e,ex⟩:=z;show⟨⟨o,e,ex.1⟩,λa e2=>?_⟩;cases e2
   show⟨o,e,ex.2.1⟩
  .obtain⟨o,_,_,_,e,ex,_⟩:=I.hok p _ hk;show⟨⟨o,e,ex.1⟩,λa e2=>?_⟩;cases e2
   show⟨o,e,ex.2.1⟩
 | _=>show False.elim ty
def tBM0 (K:W.Frag) (T:String) (r:V->List V->Hp->VK->Prop) (to:TE):TE:=fun σ H Q=>to σ H λx H1=>tyV K T x H1/\r x [] H1 Q
def tBM (K:W.Frag) (T:String) (r:V->List V->Hp->VK->Prop) (to:TE) (t:TA):TE:=fun σ H Q=>to σ H λx H1=>tyV K T x H1/\t σ H1 λxs H2=>r x xs H2 Q
variable {id:String}{r:V->List V->Hp->VK->Prop}
def pe_bm0(pa:PlainAttrs T)(slot:Slot T name id)(hty:typeOf (.builtin id)=pure (.type "method_descriptor"))(hm:MtR X id r)(ho:PE X o to)
  (hbase:attributeBase o name X.env (eval o X.env)=eval o X.env:=by rfl) (hline:(apos.endLine==cpos.line)=true:=by rfl):PE X (.Call (.Attribute o name apos) [] [] cpos) (tBM0 X.K T r to):=by
 intro ϖ s σ H Q I h;show wpAny_Call_method0_late hbase hline (thn (ho ϖ s σ H _ I h) λv s1 ⟨x,H1,I1,r1,ty,q1⟩=>?_);obtain⟨h1,h2⟩:=X7 I1 r1 ty;show⟨T,id,pa,slot,hty,h1,h2,Calls.callWith_builtin rfl (PySem.evalArgs_none (hm ϖ s1 σ H1 x [] v [] Q I1 r1 .nil q1))⟩
/- xs.append(e),list.index on a module's tuple .. are MtR facts of 06m -/
end
def MtM (X:Cx) (id:String) (r:V->List V->Hp->VK->Prop):Prop:=
 ∀(ϖ:List (Addr×Obj)) (s:Shared) (σ:St) (H:Hp) (x:V) (xs:List V) (v:Value) (us:List Value) (Q:VK),Inv X ϖ σ H s->RelV x v->Vals xs us->r x xs H Q->
  wpAny (model X.prog X.w) X.A (call (.builtin id) (v::us)) (EP X ϖ σ Q) X.xe s
theorem Vals.one: ∀{x:V} {us:List Value},Vals [x] us-> ∃u,us=[u]/\RelV x u
 | _,_,.cons r .nil=>⟨_,rfl,r⟩
def Vals.two{x y:V}{us:List Value}(h:Vals [x,y] us): ∃u v,us=[u,v]/\RelV x u/\RelV y v:=by
 cases h with
 | cons r t=>obtain⟨v,rfl,q⟩:=Vals.one t;show⟨_,_,rfl,r,q⟩
theorem Vals.zero: ∀{us:List Value},Vals [] us->us=[]
 | _,.nil=>rfl
theorem Vals.dropLast(h:Vals xs us):Vals xs.dropLast us.dropLast:=by
 induction h with
 | nil=>show .nil
 | cons r t ih=>
  cases t with
  | nil=>show .nil
  | cons q t'=>show .cons r ih
theorem Vals.eraseIdx: ∀{xs:List V} {us:List Value} (i:Nat),Vals xs us->Vals (xs.eraseIdx i) (us.eraseIdx i)
 | _,_,_,.nil=> .nil
 | _,_,0,.cons _ t=>t
 | _,_,i+1,.cons r t=> .cons r (Vals.eraseIdx i t)
theorem Vals.reverse(h:Vals xs us):Vals xs.reverse us.reverse:=by
 induction h with
 | nil=>show .nil
 | cons r t ih=>rw[List.reverse_cons,List.reverse_cons];show Vals.append ih (.cons r .nil)
theorem Vals.rep(h:Vals xs us): ∀k:Nat,Vals (List.replicate k xs).flatten (List.replicate k us).flatten
 | 0=> .nil
 | k+1=>by
  rw[List.replicate_succ,List.replicate_succ,List.flatten_cons,List.flatten_cons];show Vals.append h (Vals.rep h k)
theorem erase_last(l:List α):l.eraseIdx (l.length-1)=l.dropLast:=by
 induction l with
 | nil=>rfl
 | cons a r ih=>
  cases r with
  | nil=>rfl
  | cons b r=>
   have e:(a::b::r).length-1=((b::r).length-1)+1:=by
    have h1:(a::b::r).length=r.length+2:=rfl;have h2:(b::r).length=r.length+1:=rfl;lia
   rw[e,List.eraseIdx_cons_succ,ih]
   all_goals rfl
theorem Zl: ∀(l:List α) (i:Nat),(l.eraseIdx i).length<=l.length
 | [],_=>μ _
 | _::_,0=>Nat.le_succ _
 | _::r,i+1=>Nat.succ_le_succ (Zl r i)
theorem Zp(its:List Value): ∀(k:Nat) (acc:List Value),
  List.foldl (λx1 x2=>x1++x2) acc.toArray (List.replicate k its.toArray)=(acc++(List.replicate k its).flatten).toArray
 | 0,acc=>by simp
 | k+1,acc=>by
  have e:acc.toArray++its.toArray=(acc++its).toArray:=by simp
  have e2:(acc++its)++(List.replicate k its).flatten=acc++(List.replicate (k+1) its).flatten:=by
   rw[List.replicate_succ,List.flatten_cons,List.append_assoc]
  rw[<-e2,<-Zp its k (acc++its),<-e,List.replicate_succ,List.foldl_cons]
section
variable {X:Cx}{xs ys zs:List V}
def Inv.lset{its its':List Value}{f:Array Value->Array Value}(I:Inv X ϖ σ H s)(hH:H l=some (.lst xs))
  (e:s.heap.get? l=some {cls:= .type "list",data:= .seq its.toArray n}) (hf:f its.toArray=its'.toArray) (hv:Vals ys its') (hz:ys.length<=sizeLine):
  Inv X ϖ σ (upd H l (.lst ys)) {s with heap:=s.heap.update l (Obj.mapSeq f),toks:=t'}:=by
 have q:=PySem.IsL.update e f;rw[hf] at q;show I.write (x:=l) (e:=l) (by rw[hH];show trivial) (.inl rfl) (λb' u hb hu=>(Heap.get?_update_other s.heap (Obj.mapSeq f) (Ne.symm hb)).trans hu) ⟨_,q⟩ ?_;show⟨hz,its',_,hv,q⟩
def Inv.lnew(I:Inv X ϖ σ H s)(hv:Vals ys its)(hz:ys.length<=sizeLine):
  Inv X ϖ σ (upd H ⇑s (.lst ys)) {s with heap:=s.heap.push {cls:= .type "list",data:= .seq its.toArray},toks:=t'}:=
 I.laid (λ_ _ q=>δ _ q) (μ _) ⟨hz,its,0,hv,ο _ rfl⟩
def Inv.fresh(I:Inv X ϖ σ H s):H ⇑s=none:=I.hok.fresh (μ _)
def Inv.lstM(I:Inv X ϖ σ H s)(hH:H l=some (.lst xs)):xs.length<=sizeLine/\ ∃(its:List Value) (n:Nat),Vals xs its/\xs.length=its.length/\s.heap.get? l=some {cls:= .type "list",data:= .seq its.toArray n}:=by
 obtain⟨z,its,n,r,e⟩:=I.hok l _ hH;show⟨z,its,n,r,r.length,e⟩
def Yu(h:n<=sizeLine):Builtin.List.listTooLong n=false:=by
 unfold Builtin.List.listTooLong;show Ζ ∅
end
section
variable {X:Cx}
def Xp:V->List V->Hp->VK->Prop:=λx vs H Q=> ∃l xs y,x= .ref l/\vs=[y]/\H l=some (.lst xs)/\xs.length<sizeLine/\Q .non (upd H l (.lst (xs++[y])))
def mt_append:MtM X "list.append" Xp:=by
 intro ϖ s σ H x vs v us Q I rx rv h;obtain⟨l,xs,y,rfl,rfl,hH,hz,q⟩:=h;cases rx
 obtain⟨u,rfl,ru⟩:=rv.one;obtain⟨z,its,n,r,hl,e⟩:=I.lstM hH;show call_meets F.slot_list_append ⟨_,e,rfl⟩ F.entry_list_append (F.args_list_append_2 _ _) (PySem.list_append l its.toArray n u (by rw[ψ];lia)) ⟨e,?_⟩;show⟨.non,_,I.lset (its':=its++[u]) hH e Sort (r.append (.cons ru .nil)) ?_,rfl,q⟩;rw[Ξ,List.length_singleton];lia
def Xo:V->List V->Hp->VK->Prop:=λx vs H Q=> ∃l b xs zs,x= .ref l/\vs=[.ref b]/\H l=some (.lst xs)/\H b=some (.lst zs)/\xs.length+zs.length<=sizeLine/\Q .non (upd H l (.lst (xs++zs)))
def mt_extend:MtM X "list.extend" Xo:=by
 intro ϖ s σ H x vs v us Q I rx rv h;obtain⟨l,b,xs,zs,rfl,rfl,hH,hB,hz,q⟩:=h;cases rx
 obtain⟨u,rfl,ru⟩:=rv.one;cases ru
 obtain⟨z,its,n,r,hl,e⟩:=I.lstM hH;obtain⟨z2,its2,n2,r2,hl2,e2⟩:=I.lstM hB;have hsz:its.toArray.size+its2.toArray.size<=sizeLine:=by rw[ψ,ψ];lia
 have hlong: ¬(!its.toArray.isEmpty&&Builtin.List.listTooLong (its.toArray.size+its2.toArray.size))=true:=by
  rw[Yu hsz,Bool.and_false];show Δ
 show call_meets F.slot_list_extend ⟨_,e,rfl⟩ F.entry_list_extend (F.args_list_extend_2 _ _)
  (AutoSeq1.list_extend_list_list_0 l its.toArray n b its2.toArray n2 hlong (by rw[ψ];lia) ∅) ⟨e,e2,?_⟩
 show⟨.non,_,I.lset (its':=its++its2) hH e Sort (r.append r2) ?_,rfl,q⟩;rw[Ξ];lia
def rPop:V->List V->Hp->VK->Prop:=λx vs H Q=> ∃l xs y,x= .ref l/\vs=[]/\H l=some (.lst xs)/\xs[xs.length-1]? =some y/\Q y (upd H l (.lst xs.dropLast))
def mt_pop:MtM X "list.pop" rPop:=by
 intro ϖ s σ H x vs v us Q I rx rv h;obtain⟨l,xs,y,rfl,rfl,hH,hy,q⟩:=h;cases rx
 have hus:=rv.zero;subst hus;obtain⟨z,its,n,r,hl,e⟩:=I.lstM hH;obtain⟨u,hu,ru⟩:=r.get hy;have hy':its.toArray[its.toArray.size-1]? =some u:=by
  change its.toArray[its.length-1]? =some u;rw[<-Array.getElem?_toList,<-hl];show hu
 show call_meets F.slot_list_pop ⟨_,e,rfl⟩ F.entry_list_pop (F.args_list_pop_1 _) (MeetsSeq.list_pop_last l its.toArray n u hy' (by rw[ψ];lia)) ⟨e,?_⟩;show⟨y,_,I.lset (its':=its.dropLast) hH e ?_ r.dropLast ?_,ru,q⟩
 .change its.toArray.eraseIdxIfInBounds (its.toArray.size-1)=its.dropLast.toArray;rw[ψ,List.eraseIdxIfInBounds_toArray,erase_last]
 .rw[List.length_dropLast];lia
def Wr:V->List V->Hp->VK->Prop:=λx vs H Q=> ∃l xs i k y,x= .ref l/\vs=[.int i]/\H l=some (.lst xs)/\ -(2^63)<=i/\i<2^63/\seqIndex? i xs.length=some k/\xs[k]? =some y/\Q y (upd H l (.lst (xs.eraseIdx k)))
def mt_popAt:MtM X "list.pop" Wr:=by
 intro ϖ s σ H x vs v us Q I rx rv h;obtain⟨l,xs,i,k,y,rfl,rfl,hH,h1,h2,hk,hy,q⟩:=h;cases rx
 obtain⟨u,rfl,ru⟩:=rv.one;obtain⟨t,rfl⟩:=ru;obtain⟨z,its,n,r,hl,e⟩:=I.lstM hH;obtain⟨w,hw,rw'⟩:=r.get hy;show call_meets F.slot_list_pop ⟨_,e,rfl⟩ F.entry_list_pop (F.args_list_pop_2 _ _)
  (MeetsSeq.list_pop_at l its.toArray n i t k w (fitsIndex_both h1 h2) (by rw[ψ,<-hl];show hk) (by rw[<-Array.getElem?_toList];show hw) (by rw[ψ];lia)) ⟨e,?_⟩
 show⟨y,_,I.lset (its':=its.eraseIdx k) hH e ?_ (r.eraseIdx k) ?_,rw',q⟩
 .change its.toArray.eraseIdxIfInBounds k=(its.eraseIdx k).toArray;rw[List.eraseIdxIfInBounds_toArray]
 .have:=Zl xs k;lia
def rCat:R2:=λx y H Q=> ∃l b xs zs,x= .ref l/\y= .ref b/\H l=some (.lst xs)/\H b=some (.lst zs)/\xs.length+zs.length<=sizeLine/\ ∀p,H p=none->Q (.ref p) (upd H p (.lst (xs++zs)))
def op_cat:OpR X (binaryOp .Add) rCat:=by
 intro ϖ s σ H x y v u Q I rx ry h;obtain⟨l,b,xs,zs,rfl,rfl,hH,hB,hz,q⟩:=h;cases rx
 cases ry
 obtain⟨z,its,n,r,hl,e⟩:=I.lstM hH;obtain⟨z2,its2,n2,r2,hl2,e2⟩:=I.lstM hB;show PySem.P.add_list e e2 ?_ (by rw[ψ,ψ];lia);have ea:its.toArray++its2.toArray=(its++its2).toArray:=by simp
 rw[ea];show⟨.ref _,_,I.lnew (t':=s.toks) (r.append r2) (by rw[Ξ];lia),rfl,q _ I.fresh⟩
def rRep:R2:=λx y H Q=> ∃l k xs,x= .ref l/\y= .int k/\H l=some (.lst xs)/\ -(2^63)<=k/\k<2^63/\xs.length*k.toNat<=sizeLine/\
 ∀p,H p=none->Q (.ref p) (upd H p (.lst (List.replicate k.toNat xs).flatten))
theorem len_rep(xs:List α)(k:Nat):(List.replicate k xs).flatten.length=k*xs.length:=by
 induction k with
 | zero=>simp
 | succ k ih=>rw[List.replicate_succ,List.flatten_cons,Ξ,ih,Nat.succ_mul,Nat.add_comm]
theorem op_rep:OpR X (binaryOp .Mult) rRep:=by
 intro ϖ s σ H x y v u Q I rx ry h;obtain⟨l,k,xs,rfl,rfl,hH,h1,h2,hz,q⟩:=h;cases rx
 obtain⟨t,rfl⟩:=ry;obtain⟨z,its,n,r,hl,e⟩:=I.lstM hH;have hlen:its.toArray.size*k.toNat<=sizeLine:=by rw[ψ,<-hl];show hz
 have hcap: ¬its.toArray.size*k.toNat>(2^63-1) / 8:=by
  have:(sizeLine:Nat)<=(2^63-1) / 8:=by decide
  lia
 have hfit: ¬(!Builtin.List.listFitsIndex k)=true:=by
  rw[fitsIndex_both h1 h2];show Δ
 have hlong: ¬Builtin.List.listTooLong (its.toArray.size*k.toNat)=true:=by
  rw[Yu hlen];show Δ
 have hnew:List.foldl (λx1 x2=>x1++x2) #[] (List.replicate (if its.toArray.isEmpty=true then 0 else k.toNat) its.toArray)=(List.replicate k.toNat its).flatten.toArray:=by
  have f0: ∀m:Nat,List.foldl (λx1 x2=>x1++x2) #[] (List.replicate m its.toArray)=(List.replicate m its).flatten.toArray:=λm=>by
   have:=Zp its m [];rw[List.nil_append] at this;show this
  rw[f0];cases its with
  | nil=>simp
  | cons a r'=>rw[if_neg Sort]
 show wpAny_binaryOp_repeat_ref (T:="list") (U:="int") ⋯ ⟨_,e,rfl⟩ (λs'=>typeIs_int s' k t) noFill_list_mul F.fills_int_mul F.slot_int_rmul repeat_list F.slot_int_index.lookup
  (call_meets F.slot_int_rmul (typeIs_int s k t) F.entry_int_rmul (F.args_int_rmul_2 _ _) (int___rmul___int_list k t l its.toArray n)
   ⟨e,rfl,⟨_,e,rfl⟩,call_meets F.slot_list_mul ⟨_,e,rfl⟩ F.entry_list_mul (F.args_list_mul_2 _ _) (AutoListH.list___mul___list_int_3 l its.toArray n k t hfit hcap hlong) ⟨e,?_⟩⟩)
 rw[hnew];show⟨.ref _,_,I.lnew (t':=s.toks) (r.rep k.toNat) (by rw[len_rep,Nat.mul_comm];show hz),rfl,q _ I.fresh⟩
end
end L2
namespace Att
open PySem PySem.W PySem.Calls PyProof.Rows
theorem ints_of_wellAll: ∀(ns:List Int) (vs:List Value),WellAll P h vs (ns.map WData.int)->IntsAre vs ns:=by
 intro ns
 induction ns with
 | nil=>
  intro vs w;rw[List.map_nil] at w;cases w
  show .nil
 | cons n ns ih=>
  intro vs w;rw[List.map_cons] at w;cases w with
  | cons a b=>
   cases a
   show .cons _ _ (ih _ b)
theorem script_of{l:OpenLaw}(hn:l.most=some n)
  (hpre:l.row.toRowW.claim.pre args=true) (hwl:WellAll P h vals args):
  ∃a vs ns,vals=[Value.ref a]/\args=[WData.list (ns.map WData.int)]/\h.get? a=some {cls:= .type "list",data:= .seq vs.toArray}/\IntsAre vs ns/\ns.length<=n:=by
 have hsh:WShape.hasAll [] args [.list .int]=true:=(pre_splitW hpre).1;have hc:l.pre.holds [] {args:=args}=true:=(pre_splitW hpre).2;obtain⟨d,r,rfl,h1,h2⟩:=hasAllW_cons hsh;obtain rfl:=hasAllW_nil h2;obtain⟨xs,rfl,h3⟩:=hasW_list h1;obtain⟨ns,rfl⟩:=items_int h3;have hlen:ns.length<=n:=by
  unfold OpenLaw.pre at hc;have h4:(WTm.not (.lt (.lit (.int (n:Int))) (.len (.arg 0)))).holds [] {args:=[.list (ns.map .int)]}=true:=by
   have h4:=(holds_andW hc).1;rw[hn] at h4;show h4
  have h5:=condW_of h4 (w_not (w_lt w_lit (w_len_list (w_arg rfl))));rw[ω] at h5;show Nat.le_of_not_lt λq=>?_;have q':(n:Int)<((ns.length:Nat):Int):=by lia
  first
   | (rw[decide_eq_true q'] at h5;show absurd h5 ⋯)
   | (simp at h5;lia)
 cases hwl with
 | cons w1 w2=>
  cases w2
  cases w1 with
  | list ho hall=>show⟨_,_,ns,rfl,rfl,ho,ints_of_wellAll ns _ hall,hlen⟩
def post_true(l:OpenLaw)(args:List WData):l.row.toRowW.claim.post args (.bool true) args=true:=
 postW_of (r:=l.row.toRowW) (X:=(true==true))
  (show WShape.has [] (.bool true) .bool=true by first | rfl | decide | simp[WShape.has,WShape.arms,WShape.armsAll])
  (show(WTm.eq .res (.lit (.bool true))).value [] {args:=args,res:=some (.bool true),after:=args}=some (.bool (true==true)) from w_eq_bool (w_res rfl) w_lit) rfl
def attach_call{l:OpenLaw}{XP:(Str->Option Value)->Heap->Prop}{YP:World->Heap->Prop}{d:DefRec}
  (hn:l.most=some n) (hdf:d.params.defaults=[])
  (call: ∀(w:World) (s₀ s₁:Shared) (mg mb:Str->Option Value) (fa:Addr) (o:Obj) (pm cd doc:Value) (a:Addr) (vs:List Value) (ns:List Int),
   Ground q loose [] XP w s₀ mg mb s₁.heap->YP w s₁.heap->
   s₁.heap.get? fa=some o->o.data= .func (docDef d.name d.params d.body d.scope pm cd doc)->s₁.heap.CodeRec cd d.name->mg d.name=some (.ref fa)->
   s₁.heap.get? a=some {cls:= .type "list",data:= .seq vs.toArray}->IntsAre vs ns->ns.length<=n->s₁.gens=#[]->
   codeAny (model l.prog w) callerA (.call (.ref fa) ⟨[.ref a],[]⟩) (λr s'=>r= .ok (.ret (.bool true))/\OldK s₁.heap s'.heap/\s'.os=s₁.os/\AllBare s'.gens) s₁):
  WalkO q loose XP YP l.row.toRowW d [] (λf vs=>PySem.call f vs):=by
 intro w s₀ s₁ mg mb G Y fa o pm cd doc dV kV ho hd hcd hD hmg hg args vals as hpre hlay hrd hwl hlo;obtain rfl:dV= .none:=Dflts.none hD hdf;obtain rfl:kV= .none:=Dflts.noKw hD;obtain⟨a,vs,ns,rfl,rfl,hobj,hints,hlen⟩:=script_of hn hpre hwl;show enter_call (codeAny_mono (call w s₀ s₁ mg mb fa o pm cd doc a vs ns G Y ho (fd_plain hd) hcd hmg hobj hints hlen hg) λr s' hq=>?_);obtain⟨rfl,h2,h3,h4⟩:=hq;show⟨.inl ⟨.bool true,.bool true,[],rfl,λ_=>rfl,.bool true,post_true l _,λ_=>⟨List.Pairwise.nil,λ_ hm=>(nomatch hm)⟩⟩,h2,h3,h4⟩
end Att
namespace L2
open PySem PySem.Spec PyProof.Rows
theorem v9: ∀{vs:List Value} {ns:List Int},IntsAre vs ns->Vals (ns.map V.int) vs
 | _,_,.nil=> .nil
 | _,_,.cons n t h=> .cons ⟨t,rfl⟩ (v9 h)
def Only (H:Hp):Prop:= ∀b,H b=none\/ ∃o xs,H b=some (.frz o (.lst xs))
theorem law_call{K:W.Frag}{mg mb:Str->Option Value}{s₁:Shared}{vs:List Value}
  (KX:K.In s₁.heap) (hns:s₁.heap.Ns mainGlobals mg) (hb:s₁.heap.Ns builtinsNs mb) (hbb: ∀x:Str,x≠"__name__"->mb x=bootBuiltins x) (hlim:s₁.heap.NoLimit) (hg:s₁.gens=#[])
  (ha:s₁.heap.get? a=some {cls:= .type "list",data:= .seq vs.toArray}) (hi:IntsAre vs ns) (hl:ns.length<=sizeLine) (hr:Room k callerA)
  (F: ∀base:Heap,K.In base->base.Ns mainGlobals mg->FnOk P w K mg base CX k fa fd [x] sp) (hbind: ∀(s:Shared) (u:Value),BindsTo s fd ⟨[u],[]⟩ [(x,u)])
  (hsp: ∀H:Hp,Only H->SqL K H a (ns.map V.int)->sp [.ref a] H (λv _=>v= .bl true) λ_ _ _=>False)
  (hCX: ∀H e s',CX [] H s₁ (λ_ _ _=>False) e s'->False):
  codeAny (model P w) callerA (.call (.ref fa) ⟨[.ref a],[]⟩) (λr s'=>r= .ok (.ret (.bool true))/\OldK s₁.heap s'.heap/\s'.os=s₁.os/\AllBare s'.gens) s₁:=by
 have rv:=v9 hi;have lenV:=hi.length

 have core: ∀H:Hp,Only H->SqL K H a (ns.map V.int)->HOk P w H s₁.heap->(∀b,H b≠none->b=a)->(H a≠none->K.lookup a=none)->
   codeAny (model P w) callerA (.call (.ref fa) ⟨[.ref a],[]⟩) (λr s'=>r= .ok (.ret (.bool true))/\OldK s₁.heap s'.heap/\s'.os=s₁.os/\AllBare s'.gens) s₁:=by
  intro H hO hS hok hA hK;have base_of: ∀{b:Addr} {o:Obj},s₁.heap.get? b=some o->H b=none->(hidT s₁.heap H).get? b=some o:=λe n=>hidT_get e n;have noA: ∀{b:Addr} {o:Obj} {es:Array DictEntry} {ep:Nat},s₁.heap.get? b=some o->o.data= .dict es ep->H b=none:=λ{b o es ep} e d=>by
   cases q:H b with
   | none=>rfl
   | some u=>
    have e':b=a:=hA b (by rw[q];simp);subst e';rw[ha] at e;cases e;have d':Data.seq vs.toArray _=Data.dict es ep:=d;cases d'
  have nsK: ∀{b:Addr} {m:Str->Option Value},s₁.heap.Ns b m->(hidT s₁.heap H).Ns b m:=λ{b m} ⟨o,es,ep,e,d,r⟩=>⟨o,es,ep,base_of e (noA e d),d,r⟩;have hKb:K.In (hidT s₁.heap H):=λb o e=>base_of (KX b o e) (by
   cases q:H b with
   | none=>rfl
   | some u=>
    have e':b=a:=hA b (by rw[q];simp);subst e';rw[hK (by rw[q];simp)] at e;cases e)
  have hM:Mod K mg (hidT s₁.heap H):=⟨hKb,nsK hns,⟨mb,nsK hb,hbb⟩,let ⟨mc,h1,h2⟩:=hlim;⟨mc,nsK h1,h2⟩⟩;have e0:Env0 P w K mg (hidT s₁.heap H) callerA [] s₁ H:=⟨rfl,hM,λb o e=>of_hidT e,Nat.le_of_eq (hidT_size _ _),trivial,λb hb=>absurd (show b∈([]:List Addr) from hb) Sort,hok,.of_eq hg⟩;show codeAny_mono ((F _ hKb (nsK hns)).run callerA [] s₁ H ⟨[.ref a],[]⟩ [.ref a] [.ref a] _ _ hr e0 (hbind s₁ (.ref a)) (.cons rfl .nil) (hsp H hO hS)) λr s' h=>?_;cases r with
  | error e=>show(hCX H e s' h).elim
  | ok fl=>
   cases fl with
   | next=>show False.elim h
   | brk=>show False.elim h
   | cont=>show False.elim h
   | ret u=>
    obtain⟨v,H',os,bare,un,hok',r',q⟩:=h;have q':v= .bl true:=q;subst q';obtain rfl:u=Value.bool true:=r';show⟨rfl,OldK.of_keep λb o e=>?_,os,bare⟩;cases q:H b with
    | none=>show un.keep b o e q (by intro z;show absurd (show b∈([]:List Addr) from z) Sort) Sort
    | some u=>
     rcases hO b with z | ⟨ob,xs,z⟩
     .rw[q] at z;cases z
     .have z2:=un.frzs b ob _ z;obtain⟨e1,_⟩:=hok b _ z;obtain⟨e2,_⟩:=hok' b _ z2;rw[e] at e1;cases e1;show e2
 cases hk:K.lookup a with
 | some o=>

  have e:=KX a o hk;rw[ha] at e;cases e
  show core (λ_=>none) (λ_=> .inl rfl) (.inr ⟨_,vs.toArray,_,hk,rfl,rfl,rfl,by rw[ψ,lenV];show hl,by exists rv⟩) (λb u z=>by have z':(none:Option HO)=some u:=z;cases z') (λb z=>absurd rfl z) λz=>absurd rfl z
 | none=>
  show core (λb=>if b=a then some (.frz {cls:= .type "list",data:= .seq vs.toArray} (.lst (ns.map V.int))) else none) (λb=>?_) (.inl (.inr ⟨{cls:= .type "list",data:= .seq vs.toArray},if_pos rfl⟩)) (λb u z=>?_) (λb z=>?_) λ_=>hk
  .by_cases hb:b=a
   .show .inr ⟨_,_,if_pos hb⟩
   .show .inl (if_neg hb)
  .by_cases hb:b=a
   .have z':=(if_pos hb).symm.trans z;cases z'
    subst hb;show⟨ha,by rw[ω];show hl,vs,_,rv,ha⟩
   .have z':=(if_neg hb).symm.trans z;cases z'
  .by_cases hb:b=a
   .show hb
   .show absurd (if_neg hb) z
abbrev KOf {K:W.Frag} {h:Heap} (_:K.In h):W.Frag:=K
def walk_of{l:W.OpenLaw}{XP:(Str->Option Value)->Heap->Prop}{YP:World->Heap->Prop}{d:DefRec}{K:Params->W.Frag}{CX:World->CXT}{sp:World->Sp}
  (hn:l.most=some n) (hn2:n<=sizeLine) (hdf:d.params.defaults=[]) (hr:Room k callerA)
  (hY: ∀(w:World) (h:Heap),YP w h->(K w.params).In h)
  (F: ∀(w:World) (mg:Str->Option Value) (fa:Addr) (h:Heap),(K w.params).In h->h.Ns mainGlobals mg->mg d.name=some (.ref fa)->
   ∃fd:FuncData,(∀(s:Shared) (u:Value),BindsTo s fd ⟨[u],[]⟩ [(x,u)])/\
    ∀base:Heap,(K w.params).In base->base.Ns mainGlobals mg->FnOk l.prog w (K w.params) mg base (CX w) k fa fd [x] (sp w))
  (hsp: ∀(w:World) (H:Hp) (a:Addr) (ns:List Int),ns.length<=n->Only H->SqL (K w.params) H a (ns.map V.int)->sp w [.ref a] H (λv _=>v= .bl true) λ_ _ _=>False)
  (hCX: ∀(w:World) (H:Hp) (s:Shared) (e:Value) (s':Shared),CX w [] H s (λ_ _ _=>False) e s'->False):
  W.WalkO q loose XP YP l.row.toRowW d [] (λf vs=>PySem.call f vs):=by
 show Att.attach_call hn hdf λw s₀ s₁ mg mb fa o pm cd doc a vs ns G Y ho hd hcd hmg hobj hints hlen hg=>?_;have KX:=hY w _ Y;obtain⟨fd,hb,hF⟩:=F w mg fa _ KX G.T.g hmg;show law_call KX G.T.g G.T.b G.T.builtins G.T.nolimit hg hobj hints (η hlen hn2) hr hF hb (λH hO hS=>hsp w H a ns hlen hO hS) λH e s'=>hCX w H s₁ e s'
end L2
/- THE LAST THEOREM (shape;LID,My.*are yours):
   My.Adr:a structure of the addresses that your layer names (classes,functions);My.Txt K t:a structure (Prop) of the equations over K;
   My.txt_mk:{K} {implicit addresses ..} (e1:nsIn K mainGlobals "law"=some (some (.ref f))) (e2:K.lookup f=some ⟨oc,od,.func (fnOf "law" "law" params body scope dV kV doc pm an cdv ct),sl⟩) (e3:codeIn K cdv "law"=true) .. : ∃t,My.Txt K t
set_option maxRecDepth 100000 in
set_option maxHeartbeats 0 in
theorem PySem.Challenge.cw_LID_holds : PySem.Challenge.rw_LID.Holds := by
 w_on;o_law;k_head;(case hw=>w_witness2)
 k_fill
 show L2.walk_of (l:=PySem.Challenge.rw_LID) (n:=63) (k:=40) (x:="script") (CX:=λw=> ..) (sp:=λ_=>My.sp_law) rfl ⋯ rfl ⟨rfl,by decide,by decide⟩ (λw h Y=>PySem.W.kIn_of Y) ?F ?S ?C
 case F=>
  intro w mg fa h KX G hmg;have T: ∃t,My.Txt (L2.KOf KX) t:=by
   dsimp only[L2.KOf]
   (case e1=>PySem.W.k_is)
   (case e2=>PySem.W.k_is)
   ..
  obtain⟨t,T⟩:=T;have e0:=hmg.symm.trans (PySem.W.mg_of KX G T.law);cases e0
  show⟨_,λs u=> .of_eq rfl,λbase kb nb=>My.law_fn T kb nb⟩
 case S=>show λw H a ns hl hO hS=> ..
 case C=>show ..
(the tactic k_is has no namespace:write k_is) -/
namespace L2
open PySem PySem.Spec PyProof.Rows
def zO (s:Stmt):Arguments:=match s with
 | .FunctionDef _ a _ _ _ _ _ _ _ _=>a
 | _=>{posonlyargs:=[],args:=[],vararg:=none,kwonlyargs:=[],kw_defaults:=[],kwarg:=none,defaults:=[]}
def zE (s:Stmt):List Stmt:=match s with
 | .FunctionDef _ _ b _ _ _ _ _ _ _=>b
 | _=>[]
def zl (s:Stmt):Scope:=match s with
 | .FunctionDef _ _ _ _ _ _ sc _ _ _=>sc
 | _=>{kind:= .function,names:=[],isGenerator:=false,isCoroutine:=false}
abbrev CX0:CXT:=λ_ _ _ _ _ _=>False
abbrev E0:XK:=λ_ _ _=>False
def pass0:Y0 CX0 X E0:=λ_ _ _ _ _ _ _ h=>h.elim
structure Fun (K:W.Frag) (x qual:Str) (st:Stmt) (f:Addr) (fd:FuncData):Prop where
 ex: ∃(oc:Value) (od:Option Addr) (kV doc pm:Value) (an:Option Addr) (cdv ct:Value) (osl:Array (Option Value)),
  fd=W.fnOf x qual (zO st) (zE st) (zl st) .none kV doc pm an cdv ct/\K.lookup f=some ⟨oc,od,.func fd,osl⟩/\W.codeIn K cdv qual=true
 kp:W.keepIn K (.ref f)=true
section
variable {K:W.Frag}
def Fun.ok{x qual:Str}{st:Stmt}{f:Addr}{fd:FuncData}{N ps:List Str}{k:Nat}{sp:Sp}(F:Fun K x qual st f fd)(S:FnScope N ps (zl st))(len: ∀vs H Q E,sp vs H Q E->vs.length=ps.length)
  (hbody: ∀(cdv:Value) (A:Around) (outer:List Env) (s:Shared) (H:Hp) (vs:List V) (Q:VK) (E:XK),Room k (A.deeper (envOfC qual (zl st) ⇑s f cdv))->sp vs H Q E->
   ∃t,PSs (cxOf CX0 P w K mg base N qual (zl st) f cdv A outer s H E).nox (zE st) t/\t {nx:=λ_ H'=>Q .non H',rt:=Q} (start N vs) H):FnOk P w K mg base CX0 (k+1) f fd ps sp:=by
 obtain⟨oc,od,kV,doc,pm,an,cdv,ct,osl,rfl,lk,hcd⟩:=F.ex;show VH lk hcd S len λA outer s H vs Q E hr hsp=>?_;obtain⟨t,h,q⟩:=hbody cdv A outer s H vs Q E hr hsp;show⟨t,h.nox,q⟩
def Fun.binds{x qual:Str}{st:Stmt}{f:Addr}{fd:FuncData}{ps:List Str}(F:Fun K x qual st f fd)
  (h: ∀(kV doc pm:Value) (an:Option Addr) (cdv ct:Value) (us:List Value),us.length=ps.length->bindArgs (W.fnOf x qual (zO st) (zE st) (zl st) .none kV doc pm an cdv ct) ⟨us,[]⟩=pure (ps.zip us)):Binds K fd ps []:=by
 obtain⟨oc,od,kV,doc,pm,an,cdv,ct,osl,rfl,lk,hcd⟩:=F.ex;show .all (h kV doc pm an cdv ct)
def ZR{x qual:Str}{st:Stmt}{f:Addr}{oc:Value}{od an:Option Addr}{osl:Array (Option Value)}{kV doc pm cdv ct:Value}(l:K.lookup f=some ⟨oc,od,.func (W.fnOf x qual (zO st) (zE st) (zl st) .none kV doc pm an cdv ct),osl⟩)
  (c:W.codeIn K cdv qual=true) (k:W.keepIn K (.ref f)=true):Fun K x qual st f (W.fnOf x qual (zO st) (zE st) (zl st) .none kV doc pm an cdv ct):=⟨⟨oc,od,kV,doc,pm,an,cdv,ct,osl,rfl,l,c⟩,k⟩
end
def Ze(h:n<=1000):n<sizeLine:=Nat.lt_of_le_of_lt h ⋯
def Same (H H':Hp):Prop:= ∀b o,H b=some o->H' b=some o
def Same.refl(H:Hp):Same H H:=λ_ _ h=>h
end L2
namespace L2
open PySem
def yt (s:Stmt) (i:Nat):Stmt:=match s with
 | .ClassDef _ _ _ body _ _ _ _ _ _ _=>body.getD i (.Pass ⟨0,0,0,0⟩)
 | _=> .Pass ⟨0,0,0,0⟩
end L2
namespace K30
open PySem L2
def top (i:Nat):Stmt:=PySem.Challenge.pw_dropsums_k30_shapes_of_papers.main.body.getD i (.Pass ⟨0,0,0,0⟩)
def dEo (P:Params) (x:Str) (t:Nat) (v:Value):DictEntry:=⟨PyData.keyHash P x,.str x t,v⟩
def cO (n:Str) (t:Nat) (q:Str) (t1 t2:Nat) (l a f:Int) (r s x y z:Value) (k:Int) (t3:Nat):Obj:=
 ⟨.type "code",none,.fields #[.str n t,.str q t1,.str "/claim/cut.py" t2,.int l 0,.int a 0,.int 0 0,.int 0 0,.int f 0,r,.bool true,.int 181 0,s,.none,x,y,z,.int k 0,.int l 0,.str "/claim/cut.py" t3],#[]⟩
def fO (n q:Str) (s:Stmt) (m:Str) (t c:Nat):Obj:=⟨.type "function",none,.func (W.fnOf n q (zO s) (zE s) (zl s) .none .none .none (.str m t) none (.ref c) .none),#[]⟩
def m0:Str×Nat:=("dropsums.wholes",415)
def m1:Str×Nat:=("dropsums.pots",451)
def m2:Str×Nat:=("dropsums.forms",475)
def m3:Str×Nat:=("dropsums.asks",547)
def m4:Str×Nat:=("dropsums.weights",595)
def m5:Str×Nat:=("dropsums.facts",610)
def m6:Str×Nat:=("dropsums.falling",648)
def m7:Str×Nat:=("dropsums.papers",668)
def m8:Str×Nat:=("dropsums.staying",782)
def m9:Str×Nat:=("dropsums.checker",810)
def m10:Str×Nat:=("law_dropsums_k30_shapes_of_papers",851)
def k7 (A:Nat) (n:Str) (T:Nat) (l a f k:Int):Obj:=cO n T n (T+1) (T+2) l a f (.ref (A-5)) (.ref (A-4)) (.ref (A-3)) (.ref (A-2)) (.ref (A-1)) k (k.toNat+1)
def k5 (A:Nat) (n:Str) (T:Nat) (l a f k:Int):Obj:=cO n T n (T+1) (T+2) l a f (.ref (A-3)) (.ref (A-2)) .none .none (.ref (A-1)) k (k.toNat+1)
def f1 (n:Str) (i:Nat) (m:Str×Nat) (A:Nat):Obj:=fO n n (top i) m.1 m.2 A
def kC (n:Str) (A s b t u:Nat):Obj:=⟨.type "type",none,.cls ⟨n,[.ref 24],[.ref A,.ref 24,.type "ValueError",.type "Exception",.type "BaseException",.type "object"],s,n,true,[],[],false,none,false⟩,#[some (.ref b),none,some (.str n t),some (.str n u),some (.builtin "ValueError.__new__"),some (.bool true)]⟩
def KK:Params->W.Frag:=λP=>
 (nat_lit 1,⟨(.type "dict"),none,(.dict #[dEo P "builtins" 162 (.ref 4),dEo P "__main__" 163 (.ref 5)] 2),#[]⟩)::
 (nat_lit 3,⟨(.type "dict"),none,(.dict #[dEo P "__name__" 165 (.str "law_dropsums_k30_shapes_of_papers" 851),dEo P "__doc__" 166 .none,dEo P "__package__" 167 .none,dEo P "__loader__" 168 (.builtin "__main__.__loader__#opaque"),dEo P "__spec__" 169 .none,dEo P "__annotations__" 170 (.ref 6),dEo P "__builtins__" 171 (.ref 4),dEo P "__file__" 173 (.str "/claim/cut.py" 172),dEo P "__cached__" 174 .none,dEo P "DropError" 206 (.ref 24),dEo P "NoPot" 233 (.ref 44),dEo P "NoStep" 258 (.ref 63),dEo P "NoAsk" 283 (.ref 82),dEo P "NoPaper" 310 (.ref 101),dEo P "NoLines" 335 (.ref 120),dEo P "NoFault" 362 (.ref 139),dEo P "NoJoin" 389 (.ref 158),dEo P "NoRow" 414 (.ref 177),dEo P "is_whole" 423 (.ref 186),dEo P "is_whole_within" 432 (.ref 193),dEo P "are_wholes" 438 (.ref 198),dEo P "are_counts" 444 (.ref 203),dEo P "times_added" 450 (.ref 208),dEo P "SORTS" 454 (.int 0 453),dEo P "RULES" 456 (.int 1 455),dEo P "INPUTS" 458 (.int 2 457),dEo P "BEGIN" 460 (.int 3 459),dEo P "ANSWER" 462 (.int 4 461),dEo P "TAKES" 464 (.int 0 463),dEo P "GIVES" 466 (.int 1 465),dEo P "is_sort" 474 (.ref 215),dEo P "BY_INPUTS" 478 (.int 0 477),dEo P "BY_SORTS" 480 (.int 1 479),dEo P "PLUS" 482 (.int 2 481),dEo P "form_of_number" 490 (.ref 222),dEo P "form_of_amount" 498 (.ref 229),dEo P "form_of_drops" 506 (.ref 236),dEo P "noughts" 512 (.ref 241),dEo P "one_at" 518 (.ref 246),dEo P "added" 524 (.ref 251),dEo P "so_often" 530 (.ref 256),dEo P "less" 538 (.ref 263),dEo P "and_more" 546 (.ref 270),dEo P "BY" 550 (.int 0 549),dEo P "LINE_PLUS" 552 (.int 1 551),dEo P "pieces_of" 563 (.ref 277),dEo P "pieces_of_two" 578 (.ref 284),dEo P "both_ways" 586 (.ref 291),dEo P "form_of_line" 594 (.ref 298),dEo P "is_weights" 602 (.ref 303),dEo P "is_weight" 609 (.ref 310),dEo P "contrary" 618 (.ref 317),dEo P "form_weighed" 629 (.ref 324),dEo P "shuts" 635 (.ref 329),dEo P "facts_of" 641 (.ref 334),dEo P "form_of_kept" 647 (.ref 339),dEo P "height_of" 657 (.ref 346),dEo P "first_not_lowered" 667 (.ref 353),dEo P "KEPTS" 671 (.int 0 670),dEo P "HEIGHTS" 673 (.int 1 672),dEo P "TREE" 675 (.int 2 674),dEo P "MOST_KEPTS" 677 (.int 8 676),dEo P "MOST_TREES" 679 (.int 1000 678),dEo P "MOST_WITHIN" 681 (.int 40 680),dEo P "is_paper" 691 (.ref 360),dEo P "are_kepts" 697 (.ref 365),dEo P "is_whole_tree" 703 (.ref 370),dEo P "is_tree" 712 (.ref 377),dEo P "is_lacks" 721 (.ref 384),dEo P "is_right" 727 (.ref 389),dEo P "trees_within" 734 (.ref 396),dEo P "sorts_taken" 740 (.ref 401),dEo P "forms_within" 748 (.ref 408),dEo P "lacking_forms" 754 (.ref 413),dEo P "cut_forms" 763 (.ref 420),dEo P "at_most" 772 (.ref 427),dEo P "at_least" 781 (.ref 434),dEo P "count_of" 791 (.ref 441),dEo P "stays" 799 (.ref 448),dEo P "first_change" 809 (.ref 455),dEo P "lets_paper" 824 (.ref 462),dEo P "first_open_leaf" 838 (.ref 469),dEo P "under" 844 (.ref 474),dEo P "is_closed" 850 (.ref 479),dEo P "_law_tape" 859 (.ref 486),dEo P "_law_draw" 870 (.ref 493),dEo P "_law_line" 876 (.ref 498),dEo P "_law_ask" 886 (.ref 505),dEo P "_law_names" 892 (.ref 510),dEo P "_law_rule" 903 (.ref 517),dEo P "_law_pot" 909 (.ref 522),dEo P "_law_odd" 917 (.ref 529),dEo P "_law_bent" 928 (.ref 536),dEo P "_law_weights" 937 (.ref 543),dEo P "_law_taken" 943 (.ref 548),dEo P "_law_tree" 949 (.ref 553),dEo P "_law_sizes" 956 (.ref 560),dEo P "_law_whole" 964 (.ref 567),dEo P "_law_row" 970 (.ref 572),dEo P "_law_is_weights" 976 (.ref 577),dEo P "_law_inner" 982 (.ref 582),dEo P "_law_is_tree" 988 (.ref 587),dEo P "_law_is_paper" 994 (.ref 592),dEo P "_law_told" 1006 (.ref 599),dEo P "_law_right" 1017 (.ref 606),dEo P "_law_kepts" 1023 (.ref 611),dEo P "_law_great" 1029 (.ref 616),dEo P "law" 1035 (.ref 621)] 108),#[]⟩)::
 (nat_lit 23,⟨(.type "dict"),none,(.dict #[dEo P "__module__" 196 (.str "dropsums.errors" 187),dEo P "__firstlineno__" 200 (.int 2 199),dEo P "__static_attributes__" 201 (.ref 22),dEo P "__weakref__" 203 (.ref 25),dEo P "__doc__" 204 .none] 3),#[]⟩)::
 (nat_lit 24,⟨(.type "type"),none,(.cls ⟨"DropError",[(.type "ValueError")],[(.ref 24),(.type "ValueError"),(.type "Exception"),(.type "BaseException"),(.type "object")],23,"DropError",true,[],[(.ref 44),(.ref 63),(.ref 82),(.ref 101),(.ref 120),(.ref 139),(.ref 158),(.ref 177)],false,none,false⟩),#[(some (.ref 15)),none,(some (.str "DropError" 189)),(some (.str "DropError" 197)),(some (.builtin "ValueError.__new__")),(some (.bool true))]⟩)::
 (nat_lit 40,cO "__init__" 219 "NoPot.__init__" 220 221 6 3 3 (.ref 35) (.ref 36) (.ref 37) (.ref 38) (.ref 39) 225 226)::
 (nat_lit 41,fO "__init__" "NoPot.__init__" (yt (top 2) 0) "dropsums.errors" 187 40)::
 (nat_lit 43,⟨(.type "dict"),none,(.dict #[dEo P "__module__" 214 (.str "dropsums.errors" 187),dEo P "__firstlineno__" 218 (.int 4 217),dEo P "__init__" 227 (.ref 41),dEo P "__static_attributes__" 230 (.ref 42),dEo P "__doc__" 231 .none] 2),#[]⟩)::
 (nat_lit 44,kC "NoPot" 44 43 28 207 215)::
 (nat_lit 59,cO "__init__" 246 "NoStep.__init__" 247 248 11 2 3 (.ref 54) (.ref 55) (.ref 56) (.ref 57) (.ref 58) 251 252)::
 (nat_lit 60,fO "__init__" "NoStep.__init__" (yt (top 3) 0) "dropsums.errors" 187 59)::
 (nat_lit 62,⟨(.type "dict"),none,(.dict #[dEo P "__module__" 241 (.str "dropsums.errors" 187),dEo P "__firstlineno__" 245 (.int 9 244),dEo P "__init__" 253 (.ref 60),dEo P "__static_attributes__" 255 (.ref 61),dEo P "__doc__" 256 .none] 2),#[]⟩)::
 (nat_lit 63,kC "NoStep" 63 62 47 234 242)::
 (nat_lit 78,cO "__init__" 271 "NoAsk.__init__" 272 273 15 2 3 (.ref 73) (.ref 74) (.ref 75) (.ref 76) (.ref 77) 276 277)::
 (nat_lit 79,fO "__init__" "NoAsk.__init__" (yt (top 4) 0) "dropsums.errors" 187 78)::
 (nat_lit 81,⟨(.type "dict"),none,(.dict #[dEo P "__module__" 266 (.str "dropsums.errors" 187),dEo P "__firstlineno__" 270 (.int 13 269),dEo P "__init__" 278 (.ref 79),dEo P "__static_attributes__" 280 (.ref 80),dEo P "__doc__" 281 .none] 2),#[]⟩)::
 (nat_lit 82,kC "NoAsk" 82 81 66 259 267)::
 (nat_lit 97,cO "__init__" 296 "NoPaper.__init__" 297 298 19 3 3 (.ref 92) (.ref 93) (.ref 94) (.ref 95) (.ref 96) 302 303)::
 (nat_lit 98,fO "__init__" "NoPaper.__init__" (yt (top 5) 0) "dropsums.errors" 187 97)::
 (nat_lit 100,⟨(.type "dict"),none,(.dict #[dEo P "__module__" 291 (.str "dropsums.errors" 187),dEo P "__firstlineno__" 295 (.int 17 294),dEo P "__init__" 304 (.ref 98),dEo P "__static_attributes__" 307 (.ref 99),dEo P "__doc__" 308 .none] 2),#[]⟩)::
 (nat_lit 101,kC "NoPaper" 101 100 85 284 292)::
 (nat_lit 116,cO "__init__" 323 "NoLines.__init__" 324 325 24 2 3 (.ref 111) (.ref 112) (.ref 113) (.ref 114) (.ref 115) 328 329)::
 (nat_lit 117,fO "__init__" "NoLines.__init__" (yt (top 6) 0) "dropsums.errors" 187 116)::
 (nat_lit 119,⟨(.type "dict"),none,(.dict #[dEo P "__module__" 318 (.str "dropsums.errors" 187),dEo P "__firstlineno__" 322 (.int 22 321),dEo P "__init__" 330 (.ref 117),dEo P "__static_attributes__" 332 (.ref 118),dEo P "__doc__" 333 .none] 2),#[]⟩)::
 (nat_lit 120,kC "NoLines" 120 119 104 311 319)::
 (nat_lit 135,cO "__init__" 348 "NoFault.__init__" 349 350 28 3 3 (.ref 130) (.ref 131) (.ref 132) (.ref 133) (.ref 134) 354 355)::
 (nat_lit 136,fO "__init__" "NoFault.__init__" (yt (top 7) 0) "dropsums.errors" 187 135)::
 (nat_lit 138,⟨(.type "dict"),none,(.dict #[dEo P "__module__" 343 (.str "dropsums.errors" 187),dEo P "__firstlineno__" 347 (.int 26 346),dEo P "__init__" 356 (.ref 136),dEo P "__static_attributes__" 359 (.ref 137),dEo P "__doc__" 360 .none] 2),#[]⟩)::
 (nat_lit 139,kC "NoFault" 139 138 123 336 344)::
 (nat_lit 154,cO "__init__" 375 "NoJoin.__init__" 376 377 33 3 3 (.ref 149) (.ref 150) (.ref 151) (.ref 152) (.ref 153) 381 382)::
 (nat_lit 155,fO "__init__" "NoJoin.__init__" (yt (top 8) 0) "dropsums.errors" 187 154)::
 (nat_lit 157,⟨(.type "dict"),none,(.dict #[dEo P "__module__" 370 (.str "dropsums.errors" 187),dEo P "__firstlineno__" 374 (.int 31 373),dEo P "__init__" 383 (.ref 155),dEo P "__static_attributes__" 386 (.ref 156),dEo P "__doc__" 387 .none] 2),#[]⟩)::
 (nat_lit 158,kC "NoJoin" 158 157 142 363 371)::
 (nat_lit 173,cO "__init__" 402 "NoRow.__init__" 403 404 38 2 3 (.ref 168) (.ref 169) (.ref 170) (.ref 171) (.ref 172) 407 408)::
 (nat_lit 174,fO "__init__" "NoRow.__init__" (yt (top 9) 0) "dropsums.errors" 187 173)::
 (nat_lit 176,⟨(.type "dict"),none,(.dict #[dEo P "__module__" 397 (.str "dropsums.errors" 187),dEo P "__firstlineno__" 401 (.int 36 400),dEo P "__init__" 409 (.ref 174),dEo P "__static_attributes__" 411 (.ref 175),dEo P "__doc__" 412 .none] 2),#[]⟩)::
 (nat_lit 177,kC "NoRow" 177 176 161 390 398)::
 (nat_lit 185,k7 185 "is_whole" 417 41 1 3 421)::
 (nat_lit 186,f1 "is_whole" 11 m0 185)::
 (nat_lit 192,k7 192 "is_whole_within" 424 43 3 3 430)::
 (nat_lit 193,f1 "is_whole_within" 12 m0 192)::
 (nat_lit 197,k5 197 "are_wholes" 433 45 2 3 436)::
 (nat_lit 198,f1 "are_wholes" 13 m0 197)::
 (nat_lit 202,k5 202 "are_counts" 439 49 2 3 442)::
 (nat_lit 203,f1 "are_counts" 14 m0 202)::
 (nat_lit 207,k5 207 "times_added" 445 51 2 3 448)::
 (nat_lit 208,f1 "times_added" 15 m0 207)::
 (nat_lit 214,k7 214 "is_sort" 467 61 2 3 472)::
 (nat_lit 215,f1 "is_sort" 24 m1 214)::
 (nat_lit 221,k7 221 "form_of_number" 483 67 2 3 488)::
 (nat_lit 222,f1 "form_of_number" 29 m2 221)::
 (nat_lit 228,k7 228 "form_of_amount" 491 69 2 3 496)::
 (nat_lit 229,f1 "form_of_amount" 30 m2 228)::
 (nat_lit 235,k7 235 "form_of_drops" 499 71 2 3 504)::
 (nat_lit 236,f1 "form_of_drops" 31 m2 235)::
 (nat_lit 240,k5 240 "noughts" 507 73 1 3 510)::
 (nat_lit 241,f1 "noughts" 32 m2 240)::
 (nat_lit 245,k5 245 "one_at" 513 75 2 3 516)::
 (nat_lit 246,f1 "one_at" 33 m2 245)::
 (nat_lit 250,k5 250 "added" 519 77 2 3 522)::
 (nat_lit 251,f1 "added" 34 m2 250)::
 (nat_lit 255,k5 255 "so_often" 525 79 2 3 528)::
 (nat_lit 256,f1 "so_often" 35 m2 255)::
 (nat_lit 262,k7 262 "less" 531 81 2 3 536)::
 (nat_lit 263,f1 "less" 36 m2 262)::
 (nat_lit 269,k7 269 "and_more" 539 83 2 3 544)::
 (nat_lit 270,f1 "and_more" 37 m2 269)::
 (nat_lit 276,k7 276 "pieces_of" 553 88 2 3 561)::
 (nat_lit 277,f1 "pieces_of" 41 m3 276)::
 (nat_lit 283,k7 283 "pieces_of_two" 564 97 5 3 576)::
 (nat_lit 284,f1 "pieces_of_two" 42 m3 283)::
 (nat_lit 290,k7 290 "both_ways" 579 109 2 3 584)::
 (nat_lit 291,f1 "both_ways" 43 m3 290)::
 (nat_lit 297,k7 297 "form_of_line" 587 111 2 3 592)::
 (nat_lit 298,f1 "form_of_line" 44 m3 297)::
 (nat_lit 302,k5 302 "is_weights" 597 114 1 3 600)::
 (nat_lit 303,f1 "is_weights" 46 m4 302)::
 (nat_lit 309,k7 309 "is_weight" 603 119 1 3 607)::
 (nat_lit 310,f1 "is_weight" 47 m4 309)::
 (nat_lit 316,k7 316 "contrary" 612 124 1 3 616)::
 (nat_lit 317,f1 "contrary" 49 m5 316)::
 (nat_lit 323,k7 323 "form_weighed" 619 126 2 3 627)::
 (nat_lit 324,f1 "form_weighed" 50 m5 323)::
 (nat_lit 328,k5 328 "shuts" 630 131 2 3 633)::
 (nat_lit 329,f1 "shuts" 51 m5 328)::
 (nat_lit 333,k5 333 "facts_of" 636 138 2 3 639)::
 (nat_lit 334,f1 "facts_of" 52 m5 333)::
 (nat_lit 338,k5 338 "form_of_kept" 642 145 2 3 645)::
 (nat_lit 339,f1 "form_of_kept" 53 m5 338)::
 (nat_lit 345,k7 345 "height_of" 650 149 2 3 655)::
 (nat_lit 346,f1 "height_of" 55 m6 345)::
 (nat_lit 352,k7 352 "first_not_lowered" 658 151 2 3 665)::
 (nat_lit 353,f1 "first_not_lowered" 56 m6 352)::
 (nat_lit 359,k7 359 "is_paper" 682 163 3 3 689)::
 (nat_lit 360,f1 "is_paper" 64 m7 359)::
 (nat_lit 364,k5 364 "are_kepts" 692 168 2 3 695)::
 (nat_lit 365,f1 "are_kepts" 65 m7 364)::
 (nat_lit 369,k5 369 "is_whole_tree" 698 172 3 3 701)::
 (nat_lit 370,f1 "is_whole_tree" 66 m7 369)::
 (nat_lit 376,k7 376 "is_tree" 704 182 3 3 710)::
 (nat_lit 377,f1 "is_tree" 67 m7 376)::
 (nat_lit 383,k7 383 "is_lacks" 713 192 3 3 719)::
 (nat_lit 384,f1 "is_lacks" 68 m7 383)::
 (nat_lit 388,k5 388 "is_right" 722 196 3 3 725)::
 (nat_lit 389,f1 "is_right" 69 m7 388)::
 (nat_lit 395,k7 395 "trees_within" 728 200 1 3 732)::
 (nat_lit 396,f1 "trees_within" 70 m7 395)::
 (nat_lit 400,k5 400 "sorts_taken" 735 206 2 3 738)::
 (nat_lit 401,f1 "sorts_taken" 71 m7 400)::
 (nat_lit 407,k7 407 "forms_within" 741 208 2 3 746)::
 (nat_lit 408,f1 "forms_within" 72 m7 407)::
 (nat_lit 412,k5 412 "lacking_forms" 749 214 2 3 752)::
 (nat_lit 413,f1 "lacking_forms" 73 m7 412)::
 (nat_lit 419,k7 419 "cut_forms" 755 217 3 3 761)::
 (nat_lit 420,f1 "cut_forms" 74 m7 419)::
 (nat_lit 426,k7 426 "at_most" 764 219 3 3 770)::
 (nat_lit 427,f1 "at_most" 75 m7 426)::
 (nat_lit 433,k7 433 "at_least" 773 221 3 3 779)::
 (nat_lit 434,f1 "at_least" 76 m7 433)::
 (nat_lit 440,k7 440 "count_of" 784 224 2 3 789)::
 (nat_lit 441,f1 "count_of" 78 m8 440)::
 (nat_lit 447,k7 447 "stays" 792 226 2 3 797)::
 (nat_lit 448,f1 "stays" 79 m8 447)::
 (nat_lit 454,k7 454 "first_change" 800 228 2 3 807)::
 (nat_lit 455,f1 "first_change" 80 m8 454)::
 (nat_lit 461,k7 461 "lets_paper" 812 234 3 3 822)::
 (nat_lit 462,f1 "lets_paper" 82 m9 461)::
 (nat_lit 468,k7 468 "first_open_leaf" 825 247 4 3 836)::
 (nat_lit 469,f1 "first_open_leaf" 83 m9 468)::
 (nat_lit 473,k5 473 "under" 839 259 3 3 842)::
 (nat_lit 474,f1 "under" 84 m9 473)::
 (nat_lit 478,k5 478 "is_closed" 845 261 3 3 848)::
 (nat_lit 479,f1 "is_closed" 85 m9 478)::
 (nat_lit 485,k7 485 "_law_tape" 853 267 1 3 857)::
 (nat_lit 486,f1 "_law_tape" 87 m10 485)::
 (nat_lit 492,k7 492 "_law_draw" 860 269 2 3 868)::
 (nat_lit 493,f1 "_law_draw" 88 m10 492)::
 (nat_lit 497,k5 497 "_law_line" 871 283 2 3 874)::
 (nat_lit 498,f1 "_law_line" 89 m10 497)::
 (nat_lit 504,k7 504 "_law_ask" 877 286 2 3 884)::
 (nat_lit 505,f1 "_law_ask" 90 m10 504)::
 (nat_lit 509,k5 509 "_law_names" 887 294 2 3 890)::
 (nat_lit 510,f1 "_law_names" 91 m10 509)::
 (nat_lit 516,k7 516 "_law_rule" 893 299 2 3 901)::
 (nat_lit 517,f1 "_law_rule" 92 m10 516)::
 (nat_lit 521,k5 521 "_law_pot" 904 309 3 3 907)::
 (nat_lit 522,f1 "_law_pot" 93 m10 521)::
 (nat_lit 528,k7 528 "_law_odd" 910 319 1 3 915)::
 (nat_lit 529,f1 "_law_odd" 94 m10 528)::
 (nat_lit 535,k7 535 "_law_bent" 918 322 2 3 926)::
 (nat_lit 536,f1 "_law_bent" 95 m10 535)::
 (nat_lit 542,k7 542 "_law_weights" 929 334 1 3 935)::
 (nat_lit 543,f1 "_law_weights" 96 m10 542)::
 (nat_lit 547,k5 547 "_law_taken" 938 339 1 3 941)::
 (nat_lit 548,f1 "_law_taken" 97 m10 547)::
 (nat_lit 552,k5 552 "_law_tree" 944 341 4 3 947)::
 (nat_lit 553,f1 "_law_tree" 98 m10 552)::
 (nat_lit 559,k7 559 "_law_sizes" 950 355 1 3 954)::
 (nat_lit 560,f1 "_law_sizes" 99 m10 559)::
 (nat_lit 566,k7 566 "_law_whole" 957 357 2 3 962)::
 (nat_lit 567,f1 "_law_whole" 100 m10 566)::
 (nat_lit 571,k5 571 "_law_row" 965 359 3 3 968)::
 (nat_lit 572,f1 "_law_row" 101 m10 571)::
 (nat_lit 576,k5 576 "_law_is_weights" 971 363 1 3 974)::
 (nat_lit 577,f1 "_law_is_weights" 102 m10 576)::
 (nat_lit 581,k5 581 "_law_inner" 977 367 3 3 980)::
 (nat_lit 582,f1 "_law_inner" 103 m10 581)::
 (nat_lit 586,k5 586 "_law_is_tree" 983 382 3 3 986)::
 (nat_lit 587,f1 "_law_is_tree" 104 m10 586)::
 (nat_lit 591,k5 591 "_law_is_paper" 989 393 3 3 992)::
 (nat_lit 592,f1 "_law_is_paper" 105 m10 591)::
 (nat_lit 598,k7 598 "_law_told" 995 400 3 3 1004)::
 (nat_lit 599,f1 "_law_told" 106 m10 598)::
 (nat_lit 605,k7 605 "_law_right" 1007 414 3 3 1015)::
 (nat_lit 606,f1 "_law_right" 107 m10 605)::
 (nat_lit 610,k5 610 "_law_kepts" 1018 420 3 3 1021)::
 (nat_lit 611,f1 "_law_kepts" 108 m10 610)::
 (nat_lit 615,k5 615 "_law_great" 1024 422 1 3 1027)::
 (nat_lit 616,f1 "_law_great" 109 m10 615)::
 (nat_lit 620,k5 620 "law" 1030 433 1 3 1033)::
 (nat_lit 621,f1 "law" 110 m10 620)::
 []
def KA:List Addr:=1::3::23::24::40::41::43::44::59::60::62::63::78::79::81::82::97::98::100::101::116::117::119::120::135::136::138::139::154::155::157::158::173::174::176::177::185::186::192::193::197::198::202::203::207::208::214::215::221::222::228::229::235::236::240::241::245::246::250::251::255::256::262::263::269::270::276::277::283::284::290::291::297::298::302::303::309::310::316::317::323::324::328::329::333::334::338::339::345::346::352::353::359::360::364::365::369::370::376::377::383::384::388::389::395::396::400::401::407::408::412::413::419::420::426::427::433::434::440::441::447::448::454::455::461::462::468::469::473::474::478::479::485::486::492::493::497::498::504::505::509::510::516::517::521::522::528::529::535::536::542::543::547::548::552::553::559::560::566::567::571::572::576::577::581::582::586::587::591::592::598::599::605::606::610::611::615::616::620::621::[]
def ke: ∀P,KA=(KK P).map (·.1):=λ_=>by kernel_rfl
def VW:Program:={PySem.Challenge.pw_dropsums_k30_shapes_of_papers with main:={PySem.Challenge.pw_dropsums_k30_shapes_of_papers.main with body:=([1,2,3,4,5,6,7,8,9,11,12,13,14,15,17,18,19,20,21,22,23,24,26,27,28,29,30,31,32,33,34,35,36,37,39,40,41,42,43,44,46,47,49,50,51,52,53,55,56,58,59,60,61,62,63,64,65,66,67,68,69,70,71,72,73,74,75,76,78,79,80,82,83,84,85,87,88,89,90,91,92,93,94,95,96,97,98,99,100,101,102,103,104,105,106,107,108,109,110]:List Nat).map top}}
abbrev RR:=PySem.Challenge.rw_dropsums_k30_shapes_of_papers.row
def xE (a:Nat):Nat×Obj:=(a,⟨.type "tuple",none,.seq #[] 0,#[]⟩)
def xF (a:Nat):Nat×Obj:=(a,⟨.none,none,.fields #[],#[]⟩)
def xV (a:Nat) (l:List (Str×Nat)):Nat×Obj:=(a,⟨.type "tuple",none,.seq (l.map λx=> .str x.1 x.2).toArray 0,#[]⟩)
def xT (a:Nat) (n q:Str) (s:Stmt):Nat×Obj:=(a,⟨.none,none,.func {W.fnOf n q (zO s) (zE s) (zl s) .none .none .none .none none .none .none with globals:=0},#[]⟩)
def c1 (x:Nat×Obj) (r:List (Nat×Obj)):=x::r
def x7 (A:Nat) (n:Str) (i:Nat) (l:List (Str×Nat)) (r:List (Nat×Obj)):=xE A::xF (A+1)::xV (A+2) l::xE (A+3)::xT (A+4) n n (top i)::r
def x5 (A:Nat) (n:Str) (i:Nat) (r:List (Nat×Obj)):=xE A::xF (A+1)::xT (A+2) n n (top i)::r
def nmd:Nat->List Str->List (Str×Nat)
 | _,[]=>[]
 | t,x::l=>(x,t)::nmd (t+1) l
def xC (P:Params) (A T i:Nat) (n q:Str) (l l2:Int) (fs gs:List Str) (r:List (Nat×Obj)):List (Nat×Obj):=
 (A,⟨.type "tuple",none,.seq #[.ref 24] 0,#[]⟩)::(A+1,⟨.type "builtin_function_or_method",none,.fields #[.builtin "type.__prepare__",.type "type"],#[]⟩)::
 (A+2,⟨.type "dict",none,.dict #[dEo P "__module__" (T+7) (.str "dropsums.errors" 187),dEo P "__qualname__" (T+9) (.str n (T+8)),dEo P "__firstlineno__" (T+11) (.int l (T+10)),dEo P "__init__" (T+18+fs.length) (.ref (A+13)),dEo P "__static_attributes__" (T+19+2*fs.length) (.ref (A+14))] 5,#[]⟩)::
 xE (A+3)::(A+4,⟨.none,none,.fields #[.int l2 0,.int 4 0,.ref (A+12)],#[]⟩)::
 (A+5,⟨.type "code",none,.fields #[.str n (T+2),.str n (T+3),.str "/claim/cut.py" (T+4),.int l 0,.int 0 0,.int 0 0,.int 0 0,.int 0 0,.ref (A+3),.bool false,.int 181 0,.ref (A+4),.none,.none,.none,.none,.int (T+5:Nat) 0,.int l 0,.str "/claim/cut.py" (T+6)],#[]⟩)::
 (A+6,⟨.type "frame",none,.plain,#[some (.ref (A+5)),some (.ref 3),some (.ref (A+2)),none,some (.str "dropsums.errors" 187),none,some (.ref 0)]⟩)::
 xE (A+7)::xF (A+8)::xV (A+9) (nmd (T+15) ("self"::fs))::xE (A+10)::xT (A+11) "__init__" q (yt (top i) 0)::xV (A+14) (nmd (T+19+fs.length) gs)::
 (A+17,⟨.type "super",none,.fields #[.ref (A+16),.ref (A+16),.ref (A+16)],#[]⟩)::(A+18,⟨.type "builtin_function_or_method",none,.fields #[.builtin "object.__init_subclass__",.ref (A+16)],#[]⟩)::r
def XX:Params->List (Nat×Obj):=λP=>
 c1 (13,⟨(.type "code"),none,(.fields #[(.str "<module>" 182),(.str "<module>" 183),(.str "/claim/cut.py" 184),(.int 1 0),(.int 0 0),(.int 0 0),(.int 0 0),(.int 0 0),(.ref 11),(.bool false),(.int 181 0),(.ref 12),.none,.none,.none,.none,(.int 185 0),(.int 1 0),(.str "/claim/cut.py" 186)]),#[]⟩)<| c1 (14,⟨(.type "frame"),none,.plain,#[(some (.ref 13)),(some (.ref 3)),(some (.ref 3)),none,(some (.str "__main__" 164)),none,(some (.ref 0))]⟩)<| c1 (15,⟨(.type "tuple"),none,(.seq #[(.type "ValueError")] 0),#[]⟩)<| c1 (16,⟨(.type "builtin_function_or_method"),none,(.fields #[(.builtin "type.__prepare__"),(.type "type")]),#[]⟩)<| c1 (17,⟨(.type "dict"),none,(.dict #[dEo P "__module__" 196 (.str "dropsums.errors" 187),dEo P "__qualname__" 198 (.str "DropError" 197),dEo P "__firstlineno__" 200 (.int 2 199),dEo P "__static_attributes__" 201 (.ref 22)] 4),#[]⟩)<| c1 (xE 18)<| c1 (xF 19)<| c1 (20,⟨(.type "code"),none,(.fields #[(.str "DropError" 191),(.str "DropError" 192),(.str "/claim/cut.py" 193),(.int 2 0),(.int 0 0),(.int 0 0),(.int 0 0),(.int 0 0),(.ref 18),(.bool false),(.int 181 0),(.ref 19),.none,.none,.none,.none,(.int 194 0),(.int 2 0),(.str "/claim/cut.py" 195)]),#[]⟩)<| c1 (21,⟨(.type "frame"),none,.plain,#[(some (.ref 20)),(some (.ref 3)),(some (.ref 17)),none,(some (.str "dropsums.errors" 187)),none,(some (.ref 0))]⟩)<| c1 (xE 22)<| c1 (25,⟨(.type "getset_descriptor"),none,(.fields #[(.str "__weakref__" 202),(.ref 24),(.builtin "ExceptionGroup.__weakref__"),.none]),#[]⟩)<| c1 (26,⟨(.type "super"),none,(.fields #[(.ref 24),(.ref 24),(.ref 24)]),#[]⟩)<| c1 (27,⟨(.type "builtin_function_or_method"),none,(.fields #[(.builtin "object.__init_subclass__"),(.ref 24)]),#[]⟩)<| xC P 28 207 2 "NoPot" "NoPot.__init__" 4 6 ["line","word"] ["line","word"]<| xC P 47 234 3 "NoStep" "NoStep.__init__" 9 11 ["place"] ["place"]<| xC P 66 259 4 "NoAsk" "NoAsk.__init__" 13 15 ["word"] ["word"]<| xC P 85 284 5 "NoPaper" "NoPaper.__init__" 17 19 ["word","at"] ["at","word"]<| xC P 104 311 6 "NoLines" "NoLines.__init__" 22 24 ["line"] ["line"]<| xC P 123 336 7 "NoFault" "NoFault.__init__" 26 28 ["word","at"] ["at","word"]<| xC P 142 363 8 "NoJoin" "NoJoin.__init__" 31 33 ["word","at"] ["at","word"]<| xC P 161 390 9 "NoRow" "NoRow.__init__" 36 38 ["text"] ["text"]<| x7 180 "is_whole" 11 [("thing",420)]<| x7 187 "is_whole_within" 12 [("thing",427),("low",428),("high",429)]<| x5 194 "are_wholes" 13<| x5 199 "are_counts" 14<| x5 204 "times_added" 15<| x7 209 "is_sort" 24 [("many",470),("thing",471)]<| x7 216 "form_of_number" 29 [("pot",486),("number",487)]<| x7 223 "form_of_amount" 30 [("pot",494),("place",495)]<| x7 230 "form_of_drops" 31 [("pot",502),("sort",503)]<| x5 237 "noughts" 32<| x5 242 "one_at" 33<| x5 247 "added" 34<| x5 252 "so_often" 35<| x7 257 "less" 36 [("one",534),("other",535)]<| x7 264 "and_more" 37 [("form",542),("number",543)]<| x7 271 "pieces_of" 41 [("pot",556),("ask",557),("drops",558),("one",559),("parts",560)]<| x7 278 "pieces_of_two" 42 [("pot",567),("word",568),("drops",569),("one",570),("other",571),("yes",572),("no",573),("above",574),("below",575)]<| x7 285 "both_ways" 43 [("one",582),("other",583)]<| x7 292 "form_of_line" 44 [("pot",590),("line",591)]<| x5 299 "is_weights" 46<| x7 304 "is_weight" 47 [("thing",606)]<| x7 311 "contrary" 49 [("form",615)]<| x7 318 "form_weighed" 50 [("forms",622),("weights",623),("total",624),("number",625),("times",626)]<| x5 325 "shuts" 51<| x5 330 "facts_of" 52<| x5 335 "form_of_kept" 53<| x7 340 "height_of" 55 [("heights",653),("stand",654)]<| x7 347 "first_not_lowered" 56 [("pot",661),("heights",662),("number",663),("rule",664)]<| x7 354 "is_paper" 64 [("pot",685),("ask",686),("thing",687),("many",688)]<| x5 361 "are_kepts" 65<| x5 366 "is_whole_tree" 66<| x7 371 "is_tree" 67 [("pot",707),("pieces",708),("thing",709)]<| x7 378 "is_lacks" 68 [("pot",716),("rule",717),("trees",718)]<| x5 385 "is_right" 69<| x7 390 "trees_within" 70 [("tree",731)]<| x5 397 "sorts_taken" 71<| x7 402 "forms_within" 72 [("pot",744),("tree",745)]<| x5 409 "lacking_forms" 73<| x7 414 "cut_forms" 74 [("pot",758),("sort",759),("number",760)]<| x7 421 "at_most" 75 [("pot",767),("sort",768),("number",769)]<| x7 428 "at_least" 76 [("pot",776),("sort",777),("number",778)]<| x7 435 "count_of" 78 [("kept",787),("stand",788)]<| x7 442 "stays" 79 [("pot",795),("kept",796)]<| x7 449 "first_change" 80 [("pot",803),("kept",804),("number",805),("rule",806)]<| x7 456 "lets_paper" 82 [("pot",815),("ask",816),("thing",817),("number",818),("kept",819),("rule",820),("leaf",821)]<| x7 463 "first_open_leaf" 83 [("pot",828),("pieces",829),("facts",830),("tree",831),("left",832),("count",833),("pair",834),("within",835)]<| x5 470 "under" 84<| x5 475 "is_closed" 85<| x7 480 "_law_tape" 87 [("_law_script",856)]<| x7 487 "_law_draw" 88 [("_law_tape_here",863),("_law_many",864),("_law_cell",865),("_law_mixed",866),("_law_found",867)]<| x5 494 "_law_line" 89<| x7 499 "_law_ask" 90 [("_law_tape_here",880),("_law_many",881),("_law_word",882),("_law_line_here",883)]<| x5 506 "_law_names" 91<| x7 511 "_law_rule" 92 [("_law_tape_here",896),("_law_many",897),("_law_takes",898),("_law_k",899),("_law_gives",900)]<| x5 518 "_law_pot" 93<| x7 523 "_law_odd" 94 [("_law_tape_here",913),("_law_some",914)]<| x7 530 "_law_bent" 95 [("_law_tape_here",921),("_law_thing",922),("_law_at",923),("_law_way",924),("_law_more",925)]<| x7 537 "_law_weights" 96 [("_law_tape_here",932),("_law_weights_here",933),("_law_number",934)]<| x5 544 "_law_taken" 97<| x5 549 "_law_tree" 98<| x7 554 "_law_sizes" 99 [("_law_ask_here",953)]<| x7 561 "_law_whole" 100 [("_law_thing",960),("_law_least",961)]<| x5 568 "_law_row" 101<| x5 573 "_law_is_weights" 102<| x5 578 "_law_inner" 103<| x5 583 "_law_is_tree" 104<| x5 588 "_law_is_paper" 105<| x7 593 "_law_told" 106 [("_law_pot_here",998),("_law_ask_here",999),("_law_thing",1000),("_law_caught",1001),("_law_told_here",1002),("e",1003)]<| x7 600 "_law_right" 107 [("_law_pot_here",1010),("_law_ask_here",1011),("_law_thing",1012),("_law_kept",1013),("_law_told_here",1014)]<| x5 607 "_law_kepts" 108<| x5 612 "_law_great" 109<| x5 617 "law" 110<| []
def cs12:List (Int×Int×Nat):=(2,0,20)::(4,0,33)::(9,0,52)::(13,0,71)::(17,0,90)::(22,0,109)::(26,0,128)::(31,0,147)::(36,0,166)::(41,0,185)::(43,0,192)::(45,0,197)::(49,0,202)::(51,0,207)::(61,0,214)::(67,0,221)::(69,0,228)::(71,0,235)::(73,0,240)::(75,0,245)::(77,0,250)::(79,0,255)::(81,0,262)::(83,0,269)::(88,0,276)::(97,0,283)::(109,0,290)::(111,0,297)::(114,0,302)::(119,0,309)::(124,0,316)::(126,0,323)::(131,0,328)::(138,0,333)::(145,0,338)::(149,0,345)::(151,0,352)::(163,0,359)::(168,0,364)::(172,0,369)::(182,0,376)::(192,0,383)::(196,0,388)::(200,0,395)::(206,0,400)::(208,0,407)::(214,0,412)::(217,0,419)::(219,0,426)::(221,0,433)::(224,0,440)::(226,0,447)::(228,0,454)::(234,0,461)::(247,0,468)::(259,0,473)::(261,0,478)::(267,0,485)::(269,0,492)::(283,0,497)::(286,0,504)::(294,0,509)::(299,0,516)::(309,0,521)::(319,0,528)::(322,0,535)::(334,0,542)::(339,0,547)::(341,0,552)::(355,0,559)::(357,0,566)::(359,0,571)::(363,0,576)::(367,0,581)::(382,0,586)::(393,0,591)::(400,0,598)::(414,0,605)::(420,0,610)::(422,0,615)::(433,0,620)::[]
def ob12 (n:Nat):Obj:=⟨.none,none,.fields ((cs12.take n).flatMap λc=>[.int c.1 0,.int c.2.1 0,.ref c.2.2]).toArray,#[]⟩
def mrg:Nat->List (Nat×Obj)->List (Nat×Obj)->List Obj
 | 0,_,_=>[]
 | _+1,[],[]=>[]
 | n+1,a::l,[]=>a.2::mrg n l []
 | n+1,[],b::m=>b.2::mrg n [] m
 | n+1,a::l,b::m=>match Nat.blt a.1 b.1 with
  | true=>a.2::mrg n l (b::m)
  | false=>b.2::mrg n (a::l) m
def es3 (P:Params):List DictEntry:=match (KK P).lookup 3 with
 | some ⟨_,_,.dict es _,_⟩=>es.toList
 | _=>[]
def ob3 (P:Params) (v:Value) (n u:Nat):Obj:=⟨.type "dict",none,.dict ((dEo P "__name__" 165 v::(es3 P).tail).take n).toArray u,#[]⟩
noncomputable def hp (P:Params) (o3 o12:Obj) (n:Nat):Heap:=⟨⟨W.boot_o_0 P::W.boot_o_1 P::W.boot_o_2 P::o3::W.boot_o_4 P::W.boot_o_5 P::W.boot_o_6 P::W.boot_o_7 P::W.boot_o_8 P::W.boot_o_9 P::W.boot_o_10 P::(mrg n ((KK P).drop 2) ((11,(xE 11).2)::(12,o12)::XX P))⟩,(W.boot_heap P).life⟩
noncomputable def hst (h:Heap) (a:Nat) (o:Obj):Heap:=⟨⟨h.objs.toList.set a o⟩,h.life⟩
noncomputable def H1:Params->Heap:=λP=>hst (hp P (ob3 P (.str "dropsums.errors" 187) 12 12) (ob12 3) 55) 24 ⟨(.type "type"),none,(.cls ⟨"DropError",[(.type "ValueError")],[(.ref 24),(.type "ValueError"),(.type "Exception"),(.type "BaseException"),(.type "object")],23,"DropError",true,[],[(.ref 44),(.ref 63)],false,none,false⟩),#[(some (.ref 15)),none,(some (.str "DropError" 189)),(some (.str "DropError" 197)),(some (.builtin "ValueError.__new__")),(some (.bool true))]⟩
noncomputable def H2:Params->Heap:=λP=>hst (hp P (ob3 P (.str "dropsums.errors" 187) 15 15) (ob12 6) 112) 24 ⟨(.type "type"),none,(.cls ⟨"DropError",[(.type "ValueError")],[(.ref 24),(.type "ValueError"),(.type "Exception"),(.type "BaseException"),(.type "object")],23,"DropError",true,[],[(.ref 44),(.ref 63),(.ref 82),(.ref 101),(.ref 120)],false,none,false⟩),#[(some (.ref 15)),none,(some (.str "DropError" 189)),(some (.str "DropError" 197)),(some (.builtin "ValueError.__new__")),(some (.bool true))]⟩
noncomputable def H3:Params->Heap:=λP=>hp P (ob3 P (.str "dropsums.wholes" 415) 19 19) (ob12 10) 176
noncomputable def H4:Params->Heap:=λP=>hp P (ob3 P (.str "dropsums.facts" 610) 53 53) (ob12 32) 314
noncomputable def H5:Params->Heap:=λP=>hp P (ob3 P (.str "dropsums.checker" 810) 83 83) (ob12 56) 464
noncomputable def H6:Params->Heap:=λP=>hp P (ob3 P (.str "law_dropsums_k30_shapes_of_papers" 851) 108 108) (ob12 81) 611
noncomputable def HB:Params->Heap:=λP=>hp P (W.boot_o_3 P) (ob12 0) 4
abbrev tb:=PySem.treeTable
def an:Option Value:=(some (.ref 6))
def bd:List Stmt:=W.behindTheImports RR.prog
def ev:Env:={scope:=RR.prog.main.scope,locals:=mainNs,globals:=mainNs,cells:=[],code:=(.ref 13),frame:=some 14}
abbrev cd:PySem.Code:= .body bd ev
abbrev q0:Pos:=⟨0,0,0,0⟩
noncomputable abbrev sh (h:Heap) (k:Nat) (os:OsState):Shared:=⟨h,Array.mk [],W.boot_drawn,k,os⟩
def pre0: ∀(w:World) (os:OsState),W.topGo tb RR.prog w 11 an 12 (sh (W.boot_heap w.params) W.boot_toks os) (W.topStub RR.prog)=some (sh (HB w.params) 187 os,⟨denote tb cd,cd,⟨0,0,0,0⟩,[W.topFrame q0]⟩):=λw os=>by kernel_rfl
def blk0: ∀(w:World) (os:OsState),W.segRun tb RR.prog w 11 an 1 1 (sh (HB w.params) 187 os) (W.blockOf bd ev cd ⟨0,0,0,0⟩ [W.topFrame q0])=some (.next,sh (HB w.params) 187 os,cd,⟨0,0,0,0⟩):=λw os=>by kernel_rfl
def l1:List Stmt:=(bd.drop 0).take 4
def seg1: ∀(w:World) (os:OsState),W.segRun tb RR.prog w 11 an 1 688 (sh (HB w.params) 187 os) (W.piecesOf l1 ev cd ⟨0,0,0,0⟩ [W.topFrame q0])=some (.next,sh (H1 w.params) 259 os,cd,⟨9,0,12,26⟩):=λw os=>by kernel_rfl
def l2:List Stmt:=(bd.drop 4).take 3
def seg2: ∀(w:World) (os:OsState),W.segRun tb RR.prog w 11 an 1 738 (sh (H1 w.params) 259 os) (W.piecesOf l2 ev cd ⟨9,0,12,26⟩ [W.topFrame q0])=some (.next,sh (H2 w.params) 336 os,cd,⟨22,0,25,24⟩):=λw os=>by kernel_rfl
def l3:List Stmt:=(bd.drop 7).take 5
def seg3: ∀(w:World) (os:OsState),W.segRun tb RR.prog w 11 an 1 778 (sh (H2 w.params) 336 os) (W.piecesOf l3 ev cd ⟨22,0,25,24⟩ [W.topFrame q0])=some (.next,sh (H3 w.params) 424 os,cd,⟨41,0,42,67⟩):=λw os=>by kernel_rfl
def l4:List Stmt:=(bd.drop 12).take 39
def seg4: ∀(w:World) (os:OsState),W.segRun tb RR.prog w 11 an 1 794 (sh (H3 w.params) 424 os) (W.piecesOf l4 ev cd ⟨41,0,42,67⟩ [W.topFrame q0])=some (.next,sh (H4 w.params) 630 os,cd,⟨126,0,130,16⟩):=λw os=>by kernel_rfl
def l5:List Stmt:=(bd.drop 51).take 34
def seg5: ∀(w:World) (os:OsState),W.segRun tb RR.prog w 11 an 1 796 (sh (H4 w.params) 630 os) (W.piecesOf l5 ev cd ⟨126,0,130,16⟩ [W.topFrame q0])=some (.next,sh (H5 w.params) 845 os,cd,⟨259,0,260,104⟩):=λw os=>by kernel_rfl
def l6:List Stmt:=(bd.drop 85).take 26
def seg6: ∀(w:World) (os:OsState),W.segRun tb RR.prog w 11 an 1 721 (sh (H5 w.params) 845 os) (W.piecesOf l6 ev cd ⟨259,0,260,104⟩ [W.topFrame q0])=some (.next,sh (H6 w.params) 1036 os,cd,⟨433,0,451,15⟩):=λw os=>by kernel_rfl
def fin0: ∀(w:World) (os:OsState),W.topRun tb RR.prog w 11 an 2 (sh (H6 w.params) 1036 os) ⟨W.doneF .next,cd,⟨433,0,451,15⟩,[W.topFrame q0]⟩=some (sh (H6 w.params) 1036 os):=λw os=>by kernel_rfl
def bd_eq:bd=(l1++(l2++(l3++(l4++(l5++(l6++[])))))):=by kernel_rfl
def run0(w:World)(os:OsState):W.topRun tb RR.prog w 11 an (12+(1+(688+(738+(778+(794+(796+(721+2)))))))) (sh (W.boot_heap w.params) W.boot_toks os) (W.topStub RR.prog)=some (sh (H6 w.params) 1036 os):=by
 show W.go_top (pre0 w os) (W.piece_block (blk0 w os) ?_);have e:W.restOf bd ev cd ⟨0,0,0,0⟩ [W.topFrame q0]=W.restOf ((l1++(l2++(l3++(l4++(l5++(l6++[]))))))) ev cd ⟨0,0,0,0⟩ [W.topFrame q0]:=by rw[<-bd_eq]
 rw[e];show W.piece_app (seg1 w os) (W.piece_app (seg2 w os) (W.piece_app (seg3 w os) (W.piece_app (seg4 w os) (W.piece_app (seg5 w os) (W.piece_app (seg6 w os) (W.piece_nil (fin0 w os)))))))
def open0: ∀w:World,(W.fencedOpening tb RR.prog w 9144).map (λs=>(s.heap,s.gens,s.drawn,s.toks))=some (W.boot_heap w.params,Array.mk [],W.boot_drawn,W.boot_toks):=W.boot_open (by kernel_rfl) (by kernel_rfl) (λs=>by kernel_rfl)
def size0: ∀w:World,((W.boot_heap w.params).isNs mainGlobals&&(Array.mk []:Array GenState).size==0,(W.boot_heap w.params).objs.size,(W.boot_heap w.params).nsMap mainGlobals "__annotations__")=(true,11,an):=λw=>by kernel_rfl
abbrev mo:List Str:=PySem.importedModules RR.prog.main.body
def look0: ∀(w:World) (os:OsState),(W.staticsOk mo (W.boot_heap w.params) (H6 w.params)&&W.namesBound RR.prog (H6 w.params)&&W.gensDone (sh (H6 w.params) 1036 os)&&W.laidKept (W.boot_heap w.params) (H6 w.params))=true:=λw os=>by kernel_rfl
def look1: ∀(w:World) (os:OsState),(λs:Shared=>PyProof.Rows.seen ((PyProof.Rows.recsOf VW).map (·.name)) (PyProof.Rows.ownsOf VW) [] {s with gens:=#[]}) (sh (H6 w.params) 1036 os)=PyProof.Rows.expectedOf VW:=λw os=>by kernel_rfl
def look2: ∀(w:World) (os:OsState),(λs:Shared=>s.heap.bltView) (sh (H6 w.params) 1036 os)=PySem.bltViewBooted:=λw os=>by kernel_rfl
def look3: ∀(w:World) (os:OsState),(λs:Shared=>(s.heap.keysOk (W.looseW VW []) ((PyProof.Rows.recsOf VW).map (·.name)) ((PyProof.Rows.litsOf VW).map (·.1)) ((PyProof.Rows.clssOf VW (W.looseW VW [])).map (·.name))&&s.heap.accountedOkI mo&&s.heap.isNs mainGlobals&&s.heap.isNs builtinsNs&&PyProof.Rows.tablesOk VW s.heap&&(λs=>W.xlAt VW [] s&&W.recOk (W.RowW.records RR.toRowW) s) s&&(if true then s.gens.size==0 else !PySem.leftWithCleanup s.gens))) (sh (H6 w.params) 1036 os)=true:=λw os=>by kernel_rfl
def look4: ∀(w:World) (os:OsState),(λs:Shared=>PyProof.Rows.tabsOk VW s) (sh (H6 w.params) 1036 os)=true:=λw os=>by kernel_rfl
def look5: ∀(w:World) (os:OsState),(λs:Shared=>PySem.pinSeenD VW (PyProof.Rows.drecsOf VW) s) (sh (H6 w.params) 1036 os)=PySem.pinGoodD (PyProof.Rows.drecsOf VW):=λw os=>by kernel_rfl
def look6: ∀(w:World) (os:OsState),(λs:Shared=>PyProof.Rows.plainSeenE VW (W.looseW VW []) s) (sh (H6 w.params) 1036 os)=PyProof.Rows.plainGoodE VW (W.looseW VW []):=λw os=>by kernel_rfl
def look7: ∀(w:World) (os:OsState),(λs:Shared=>PyProof.Rows.plainSeenD VW [] s) (sh (H6 w.params) 1036 os)=PyProof.Rows.plainGoodD VW []:=λw os=>by kernel_rfl
def look8: ∀(w:World) (os:OsState),(λs:Shared=>W.wideSeen VW s) (sh (H6 w.params) 1036 os)=W.wideGood VW:=λw os=>by kernel_rfl
def look9: ∀(w:World) (os:OsState),(λs:Shared=>W.clsSeenW VW [] s) (sh (H6 w.params) 1036 os)=W.clsGoodW VW []:=λw os=>by kernel_rfl
def isFr:Obj->Bool
 | ⟨_,_,.freed,_⟩=>true
 | _=>false
def sel:Nat->List Obj->List Nat->List Obj
 | _,[],_=>[]
 | _,_::_,[]=>[]
 | i,o::l,a::as=>match Nat.beq i a with
  | true=>o::sel (i+1) l as
  | false=>sel (i+1) l (a::as)
theorem sel_ok(h:Heap): ∀(l:List Obj) (i:Nat) (as:List Nat),(∀j,h.objs[i+j]? =l[j]?)->(sel i l as).length=as.length->(sel i l as).all (λo=> !isFr o)=true->as.map h.get? =(sel i l as).map some:=λl=>by
 induction l with
 | nil=>intro i as _ e _;cases as with | nil=>rfl | cons a as=>cases e
 | cons o l ih=>
  intro i as g e f;cases as with
  | nil=>rfl
  | cons a as=>
   have g': ∀j,h.objs[i+1+j]? =l[j]? :=λj=>by have:=g (j+1);rwa [show i+(j+1)=i+1+j by lia] at this
   unfold sel at e f ⊢;cases z:Nat.beq i a with
   | false=>rw[z] at e f;show ih _ _ g' e f
   | true=>
    rw[z] at e f;cases Nat.eq_of_beq_eq_true z
    have f':=Bool.and_eq_true_iff.mp f;have q:h.get? i=some o:=by
     have q:=g 0;unfold Heap.get?;rw[show h.objs[i]? =some o from q];obtain⟨c,d,p,r⟩:=o;cases p<;>first | rfl | cases f'.1
    change h.get? i::as.map h.get? =some o::(sel (i+1) l as).map some;rw[q,ih _ _ g' (Nat.succ.inj e) f'.2]
def lookH(w:World)(os:OsState):(W.Hook.obs (W.kHook KK KA ke)) (sh (H6 w.params) 1036 os)=(W.Hook.val (W.kHook KK KA ke)) w:=by
 have e:sel 0 (H6 w.params).objs.toList KA=(KK w.params).map (·.2):=by kernel_rfl
 have h:=sel_ok (H6 w.params) (H6 w.params).objs.toList 0 KA (λj=>by rw[Nat.zero_add,Array.getElem?_toList]) (by rw[e,ke w.params,ω,ω]) (by rw[e];kernel_rfl);rw[e,Ω] at h;show h
def pr2{a a':α}{b b':β}(h:a=a')(g:b=b'):(a,b)=(a',b'):=by rw[h,g]
def left0:W.LeftO RR.prog VW [] (λs=>W.xlAt VW [] s&&W.recOk (W.RowW.records RR.toRowW) s) (W.Hook.obs (W.kHook KK KA ke)) (W.Hook.val (W.kHook KK KA ke)) 9144:=
 W.LeftO.of_pieces (H₁:=H6) open0 size0 run0 (by kernel_rfl) λw=>funext λos=>by
  show pr2 (look0 w os) (pr2 ?_ (lookH w os));unfold W.openSeen W.openGood;show pr2 (look1 w os) (pr2 (look2 w os) (pr2 (look3 w os) (pr2 (look4 w os) (pr2 (look5 w os) (pr2 (look6 w os) (pr2 (look7 w os) (pr2 (look8 w os) (look9 w os))))))))
set_option maxHeartbeats 0 in
def said0:PySem.Challenge.rw_dropsums_k30_shapes_of_papers.wellSaid=true:=by
 unfold W.OpenLaw.wellSaid W.OpenRow.wellSaid W.OpenRow.partSaid W.looksOpen
 repeat' with_reducible apply W.look_both
 all_goals as_aux_lemma=>decide+kernel
end K30
namespace L2
open PySem PySem.Spec PyProof.Rows
theorem comp_loop(J:Nat->Shared->Prop)
  (turn: ∀n s,J n s->wpAny (model P w) A (pyNext it) (λr c₁=>match r with
   | none=>R (.ok .next) c₁
   | some v=>wpAny (model P w) A (letOwnedTupleGo tgt it v) (λ_ d₁=>wpAny (model P w) A (assign tgt env v) (λ_ c₂=>
     wpAny (model P w) A (forIn ifs true λc r=>if r=true then do let ok<-isTrue c env (eval c env);pure (ForInStep.yield ok) else pure (ForInStep.yield r)) (λok c₃=>
      if ok=true then wpAny (model P w) A (eval elt env) (λx c₄=>
       wpAny (model P w) A (call (.builtin "list.append") [acc,x]) (λ_ c₅=> ∃m,m<n/\J m c₅) (notedBy (model P w) A env λe s'=>R (.error e) s') c₄) (notedBy (model P w) A env λe s'=>R (.error e) s') c₃
      else∃m,m<n/\J m c₃) (notedBy (model P w) A env λe s'=>R (.error e) s') c₂) (notedBy (model P w) A env λe s'=>R (.error e) s') d₁) (notedBy (model P w) A env λe s'=>R (.error e) s') c₁) (notedBy (model P w) A env λe s'=>R (.error e) s') s)
  (n:Nat) (hn:J n s):
  codeAny (model P w) A (.compLoop (.ListComp elt [⟨tgt,iter,ifs,0⟩] scope pos) 0 it acc env) R s:=by
 show codeAny_loop rfl J (λn s hJ=>?_) n hn;change wpAny _ A ((compTurn (.ListComp elt [⟨tgt,iter,ifs,0⟩] scope pos) 0 it acc env).onRaise (λx=>do noteFrame x env;theTreesLotGoes x)) _ _ s;show wpAny_noted ?_;rw[compTurn_list];show γ (wpAny_standAt (γ (wpAny_mono (turn n s hJ) (λr c₁ e₁=>?_) λ_ _ z=>z)));cases r with
 | none=>show ε e₁
 | some v=>
  show γ (wpAny_mono e₁ (λ_ d₁ f₁=>?_) λ_ _ z=>z);show γ (wpAny_mono f₁ (λ_ c₂ e₂=>γ (wpAny_mono e₂ (λok c₃ e₃=>?_) λ_ _ z=>z)) λ_ _ z=>z);cases ok with
  | false=>show ε ⟨rfl,e₃⟩
  | true=>
   show γ (γ (wpAny_mono e₃ (λx c₄ e₄=>γ (wpAny_mono e₄ (λ_ c₅ e₅=>ε (ε ⟨rfl,e₅⟩)) λ_ _ z=>z)) λ_ _ z=>z))
def cloF (env:Env):List (Str×NameKind)->List (Str×Addr)->List (Str×Addr)
 | [],acc=>acc
 | (n,k)::r,acc=>if k= .free then cloF env r ((n,(env.cells.lookup n).getD 0)::acc) else cloF env r acc
theorem vT{env:Env}: ∀(names:List (Str×NameKind)) (acc:List (Str×Addr)),(∀x∈names,x.2= .free-> ∃c,env.cells.lookup x.1=some c)->
  (forIn names acc (fun(x:Str×NameKind) (cs:List (Str×Addr))=>(if (x.2==NameKind.free)=true then do let a<-cellOf env x.1;pure (ForInStep.yield ((x.1,a)::cs)) else pure (ForInStep.yield cs):Sem (ForInStep (List (Str×Addr))))):Sem (List (Str×Addr)))=pure (cloF env names acc)
 | [],acc,_=>by simp[cloF]
 | (n,k)::r,acc,h=>by
  have ih:=λacc=>vT (env:=env) r acc λx hx=>h x (ζ _ hx);rw[List.forIn_cons];by_cases hk:k= .free
  .subst hk;obtain⟨c,hc⟩:=h (n,.free) ξ rfl;have hc':env.cells.lookup n=some c:=hc;have e:cellOf env n=pure c:=by unfold cellOf;rw[hc']
   simp only[cloF,if_true,hc',Option.getD_some,beq_self_eq_true,e,pure_bind];show ih _
  .have hb:(k==NameKind.free)=false:=by exists hk
   simp only[cloF,hk,if_false,hb,Bool.false_eq_true,pure_bind];show ih _
def closure_eq{env:Env}{scope:Scope}(h: ∀x∈scope.names,x.2= .free-> ∃c,env.cells.lookup x.1=some c):closureFor scope env=pure (cloF env scope.names []):=by
 rw[<-vT scope.names [] h];unfold closureFor;simp only[bind_pure]
theorem yp: ∀(names:List (Str×NameKind)) (acc:List (Str×Addr)),(cloF env names acc).lookup y=if (y,NameKind.free)∈names then some ((env.cells.lookup y).getD 0) else acc.lookup y
 | [],acc=>by simp[cloF]
 | (n,k)::r,acc=>by
  unfold cloF;by_cases hk:k= .free
  .subst hk;rw[if_pos rfl,yp r];by_cases hy:y=n
   .subst hy;simp[List.lookup_cons]
   .have hb:(y==n)=false:=by exists hy
    simp[List.lookup_cons,hb,hy]
  .rw[if_neg hk,yp r];have: ¬((y,NameKind.free)=(n,k)):=by
    intro e;show hk (Prod.mk.inj e).2.symm
   simp[this]
theorem wa{env:Env}{y:Str}(hk:env.scope.kind= .function)(hc:env.kindOf y=some .cell): ∀{names:List (Str×NameKind)},names.lookup y=some .free->
  (names.map fun(n,k)=>if (k==NameKind.free&&env.scope.kind== .function&&env.kindOf n==some .cell) then (n,NameKind.cell) else (n,k)).lookup y=some .cell
 | [],h=>by simp at h
 | (n,k)::r,h=>by
  have ih:=@wa env y hk hc r;change List.lookup y ((if (k==NameKind.free&&env.scope.kind== .function&&env.kindOf n==some .cell)=true then (n,NameKind.cell) else (n,k))::_)=_;cases hx:y==n with
  | true=>
   rw[Ο,hx] at h;cases h
   have e:y=n:=by exists hx
   subst e;rw[if_pos (by simp[hk,hc])];simp[List.lookup_cons]
  | false=>
   rw[Ο,hx] at h;by_cases hc':(k==NameKind.free&&env.scope.kind== .function&&env.kindOf n==some .cell)=true
   .rw[if_pos hc'];simp only[List.lookup_cons,hx];show ih h
   .rw[if_neg hc'];simp only[List.lookup_cons,hx];show ih h
def sub (ix:List Nat) (σ:St):St:=ix.map λi=>(σ[i]?).join
def PTs (X:Cx) (ifs:List Expr) (tc:TT):Prop:=
 ∀(ϖ:List (Addr×Obj)) (s:Shared) (σ:St) (H:Hp) (Q:Bool->Hp->Prop),Inv X ϖ σ H s->tc σ H Q->
  wpAny (model X.prog X.w) X.A (forIn ifs true λc r=>if r=true then do let ok<-isTrue c X.env (eval c X.env);pure (ForInStep.yield ok) else pure (ForInStep.yield r)) (TP X ϖ σ Q) X.xe s
def tAll:TT:=λ_ H Q=>Q true H
def pts_nil:PTs X [] tAll:=λ_ _ _ H _ I h=>wpAny_tests_nil ⟨H,I,h⟩
def pts_one(hc:PT X c tc):PTs X [c] tc:=λϖ s σ H Q I h=>wpAny_tests_one (hc ϖ s σ H Q I h)
def CGo (J:It) (D:Addr) (g:TG) (tc:TT) (te:TE) (Q:VK) (σ:St) (H:Hp):Prop:=
 ∃W:Nat->Nat->St->List V->Hp->Prop,(∃m,W 0 m σ [] (upd H D (.lst [])))/\ ∀i m τ ys H,W i m τ ys H->H D=some (.lst ys)/\
  ((J.stop i H/\Q (.ref D) H)\/(J.go i H/\ ∀v H',J.yld i H v H'->g v τ H' fun τ2 H2=>tc τ2 H2 λb H3=>
   if b=true then te τ2 H3 λy H4=>H4 D=some (.lst ys)/\ys.length<sizeLine/\ ∃m',m'<m/\W (i+1) m' τ2 (ys++[y]) (upd H4 D (.lst (ys++[y])))
   else∃m',m'<m/\W (i+1) m' τ2 ys H3))
def Xb (wi:TI) (n:Nat) (ix:List Nat) (g:TG) (tc:TT) (te:TE):TE:=fun σ H Q=>wi σ H λJ H1=> ∀D,H1 D=none->CGo J D g tc te Q (List.replicate n none++sub ix σ) H1
def append_ok{Q:VSP}{E:VSP}(I:Inv X ϖ σ H s)(hD:H D=some (.lst ys))(hz:ys.length<sizeLine)(r:RelV y u)
  (h: ∀s',Inv X ϖ σ (upd H D (.lst (ys++[y]))) s'->Q .none s'):wpAny (model X.prog X.w) X.A (call (.builtin "list.append") [.ref D,u]) Q E s:=by
 obtain⟨z,its,n,rr,hl,e⟩:=I.lstM hD;show call_meets F.slot_list_append ⟨_,e,rfl⟩ F.entry_list_append (F.args_list_append_2 _ _) (PySem.list_append D its.toArray n u (by rw[ψ];lia)) ⟨e,?_⟩;show h _ (I.lset (its':=its++[u]) hD e Sort (rr.append (.cons r .nil)) ?_);rw[Ξ,List.length_singleton];lia
section
variable {X:Cx}
def dSet (H:Hp) (o i v:V):Option Hp:=match o,i with
 | .ref p,.int k=>match H p with
  | some (.lst xs)=>(ixN xs.length k).map λj=>upd H p (.lst (xs.set j v))
  | _=>none
 | _,_=>none
def Vo:V->V->V->Hp->(Hp->Prop)->Prop:=λo i v H Q=> ∃H',dSet H o i v=some H'/\Q H'
theorem set_d:PSet X Vo:=by
 intro ϖ s σ H o i v ov iv u Q I ro ri rv h;show set_list ϖ s σ H o i v ov iv u Q I ro ri rv ?_;obtain⟨H',e,q⟩:=h;unfold dSet at e;split at e
 case h_2=>cases e
 case h_1 p k=>
  split at e
  case h_2=>cases e
  case h_1 xs hp=>
   cases ej:ixN xs.length k with
   | none=>rw[ej] at e;cases e
   | some j=>
    rw[ej] at e;cases e
    show⟨p,xs,k,j,rfl,rfl,hp,ej,q⟩
end
section
variable {x y v:V}{QL:List V->Hp->Prop}
def w_seq(h:t {D with nx:=u D} σ H):tSeq t u D σ H:=h
def Y6(e:σ[i]? =some (some v))(h:Q v H):tVar i σ H Q:=⟨v,e,h⟩
def w_not(h:c σ H λb H1=>QB (!b) H1):tNot c σ H QB:=h
end
def Has (P:Program) (w:World) (K:W.Frag) (mg:Str->Option Value) (base:Heap) (k:Nat) (x:Str) (ps:List Str) (sp:Sp):Prop:=
 ∃f fd,FnOk P w K mg base CX0 k f fd ps sp/\mg x=some (.ref f)/\W.keepIn K (.ref f)=true/\Binds K fd ps []
def pe_fn{X:Cx}(h:Has X.prog X.w X.K X.mg X.base k x ps sp)(hr:Room j X.A)(hkj:k<=j)(ha:PA X (e::es) t)(hg:Gl X x:=by rfl)
  (hdb:(x==("__debug__":Str))=false:=by decide) (he:starEach (e::es) X.env=(false,eval e X.env)::starEach es X.env:=by rfl) (hpl:(backTo pos (starEach es X.env)).any (·.1)=false:=by rfl):
  PE X (.Call (.Name x p) (e::es) [] pos) (Xc sp [] E0 t):=by
 obtain⟨f,fd,F,hm,hk,hb⟩:=h;show pe_call F (hr.mono hkj) hg hm hk hb .nil pass0 ha hdb he hpl
def zL (sc o:Scope):Scope:=
 {sc with names:=sc.names.map fun(n,k)=>if (k== .free&&o.kind== .function&&o.names.lookup n==some .cell) then (n,.cell) else (n,k)}
instance {sc:Scope} {x:Str}:Decidable (Vis sc x):=by unfold Vis;infer_instance
instance {sc:Scope} {x:Str}:Decidable (Loc sc x):=by unfold Loc;infer_instance
structure Nm (N:List Str) (sc:Scope):Prop where
 nd:N.Nodup
 loc: ∀x∈N,Loc sc x
section
variable {X:Cx}
def Loc.vis(h:Loc sc x):Vis sc x:=h.elim .inl λz=> .inr (.inl z)
def pvd(M:Nm X.N X.env.scope)(i:Nat)(hN:X.N[i]? =some x:=by rfl)(hd:(x==("__debug__":Str))=false:=by decide)(hcd:(x==("__classdict__":Str))=false:=by decide):PE X (.Name x pos) (tVar i):=
 YS hN (M.loc x (Β hN)).vis hd hcd
end
def zm:Expr->Bool
 | .Starred .. =>true
 | _=>false
def ya(h:zm e=false):starEach (e::es) env=(false,eval e env)::starEach es env:=by
 cases e<;>first | rfl | cases h
theorem z9: ∀{es:List Expr},es.all (λe=> !zm e)=true->(backTo pos (starEach es env)).any (·.1)=false
 | [],_=>rfl
 | e::es,h=>by
  rw[List.all_cons,Bool.and_eq_true] at h;rw[ya (by exists h.1)];cases es with
  | nil=>rfl
  | cons a r=>
   have ih:=z9 (env:=env) (pos:=pos) (es:=a::r) h.2;rw[ya (by exists (by exists h.2:zm a=false/\_).1)] at ih ⊢;show ih
section
variable {X:Cx}{id:String}{r:List V->Hp->VK->Prop}
def pa_c(ha:PE X e te)(hr:PA X es t)(h:zm e=false:=by rfl):PA X (e::es) (z0 te t):=pa_cons ha hr (ya h)
def pi_r1(hm:X.mg "range"=none)(ha:PA X [a] ta)(hg:Gl X "range":=by rfl)(h:zm a=false:=by rfl):PI X tg (.Call (.Name "range" p) [a] [] pos) (WP ta):=pi_range1 hg hm ha (ya h)
def pe_cB(hc:CallR X (.builtin id) r)(hm:X.mg x=none)(hv:bootBuiltins x=some (.builtin id))(ha:PA X (e::es) t)(hg:Gl X x:=by rfl)(h:zm e=false:=by rfl)(h2:es.all (λe=> !zm e)=true:=by rfl)(hn:x≠"__name__":=by decide)(hdb:(x==("__debug__":Str))=false:=by decide):
  PE X (.Call (.Name x p) (e::es) [] pos) (tCB r t):=pe_callB hc hg hm hv ha hn hdb (ya h) (z9 h2)
def pe_cT(hc:CallR X (.type T) r)(hm:X.mg x=none)(hv:bootBuiltins x=some (.type T))(ha:PA X (e::es) t)(hg:Gl X x:=by rfl)(h:zm e=false:=by rfl)(h2:es.all (λe=> !zm e)=true:=by rfl)(hn:x≠"__name__":=by decide)(hdb:(x==("__debug__":Str))=false:=by decide):
  PE X (.Call (.Name x p) (e::es) [] pos) (tCB r t):=pe_callTy hc hg hm hv ha hn hdb (ya h) (z9 h2)
def pe_f(h:Has X.prog X.w X.K X.mg X.base k x ps sp)(hr:Room j X.A)(hkj:k<=j)(ha:PA X (e::es) t)(hg:Gl X x:=by rfl)(h1:zm e=false:=by rfl)(h2:es.all (λe=> !zm e)=true:=by rfl)
  (hdb:(x==("__debug__":Str))=false:=by decide):PE X (.Call (.Name x p) (e::es) [] pos) (Xc sp [] E0 t):=pe_fn h hr hkj ha hg hdb (ya h1) (z9 h2)
end
end L2
namespace L2
def pa_1(ha:PE X e te)(h:zm e=false:=by rfl):PA X [e] (z0 te tNil):=pa_c ha YV h
def pa_2(ha:PE X e te)(hb:PE X e' te')(h:zm e=false:=by rfl)(h':zm e'=false:=by rfl):PA X [e,e'] (z0 te (z0 te' tNil)):=pa_c ha (pa_1 hb h') h
end L2
namespace L2
open PySem PySem.Spec PyProof.Rows
mutual
inductive RdV (H:Hp):V->PyData->Prop
 | non:RdV H .non .none
 | bl (b:Bool):RdV H (.bl b) (.bool b)
 | int (i:Int):RdV H (.int i) (.int i)
 | str (x:Str):RdV H (.str x) (.str x)
 | lst {p:Addr} {xs:List V} {ds:List PyData}:H p=some (.lst xs)->RdVs H xs ds->RdV H (.ref p) (.list ds)
 | tup {p:Addr} {xs:List V} {ds:List PyData}:H p=some (.tup xs)->RdVs H xs ds->RdV H (.ref p) (.tuple ds)
 | ftup {p:Addr} {o:Obj} {xs:List V} {ds:List PyData}:H p=some (.frz o (.tup xs))->RdVs H xs ds->RdV H (.ref p) (.tuple ds)
inductive RdVs (H:Hp):List V->List PyData->Prop
 | nil:RdVs H [] []
 | cons {v:V} {d:PyData} {vs:List V} {ds:List PyData}:RdV H v d->RdVs H vs ds->RdVs H (v::vs) (d::ds)
end
section
variable {X:Cx}
mutual
theorem RdV.reads(I:Inv X ϖ σ H s):RdV H v d-> ∀{u:Value},RelV v u-> ∃as,Reads s.heap u d as
 | .non,u,r=>by
  cases r
  show⟨[],.none⟩
 | .bl b,u,r=>by
  cases r
  show⟨[],.bool b⟩
 | .int i,u,r=>by
  obtain⟨t,rfl⟩:=r;show⟨[],.int i t⟩
 | .str x,u,r=>by
  obtain⟨t,rfl⟩:=r;show⟨[],.str x t⟩
 | .lst (p:=p) hp h,u,r=>by
  cases r
  obtain⟨its,n,rv,e,z⟩:=I.lst hp;obtain⟨as,q⟩:=RdVs.reads I h rv;show⟨p::as,.list e rfl rfl (by exists q)⟩
 | .tup (p:=p) hp h,u,r=>by
  cases r
  obtain⟨z,its,rv,o,e,c,n,d⟩:=I.hok p _ hp;obtain⟨as,q⟩:=RdVs.reads I h rv;show⟨as,.tuple e c d (by exists q)⟩
 | .ftup (p:=p) hp h,u,r=>by
  cases r
  obtain⟨_,z,its,rv,o,e,c,n,d⟩:=I.hok p _ hp;obtain⟨as,q⟩:=RdVs.reads I h rv;show⟨as,.tuple e c d (by exists q)⟩
theorem RdVs.reads(I:Inv X ϖ σ H s):RdVs H vs ds-> ∀{us:List Value},Vals vs us-> ∃as,ReadsAll s.heap us ds as
 | .nil,us,r=>by
  cases r
  show⟨[],.nil⟩
 | .cons h hs,us,r=>by
  cases r with
  | cons r1 r2=>
   obtain⟨as,q⟩:=RdV.reads I h r1;obtain⟨bs,q2⟩:=RdVs.reads I hs r2;show⟨as++bs,.cons q q2⟩
end
end
section
variable {X:Cx}
def rEqD:R2:=λx y H Q=> ∃dx dy,RdV H x dx/\RdV H y dy/\dx.canLay0=true/\dy.canLay0=true/\dx.depth<=60/\Q (.bl (PyData.eqv dx dy)) H
def op_eqD(hr:Room k X.A):OpR X (compareOp .Eq) rEqD:=by
 intro ϖ s σ H x y v u Q I rx ry h;obtain⟨dx,dy,hx,hy,cx,cy,hd,q⟩:=h;obtain⟨as,ra⟩:=hx.reads I rx;obtain⟨bs,rb⟩:=hy.reads I ry;have:=hr.units;show SeqAt.compareEq_reads ra rb cx cy ∅ ⟨.bl _,H,I,rfl,q⟩
end
section
variable {X:Cx}
theorem w4: ∀{xs:List V} {us:List Value},xs.length=us.length->(∀(j:Nat) (x:V) (u:Value),xs[j]? =some x->us[j]? =some u->RelV x u)->Vals xs us
 | [],[],_,_=> .nil
 | [],v::vs,h,_=>absurd h Sort
 | v::vs,[],h,_=>absurd h Sort
 | x::xs,u::us,h,k=> .cons (k 0 x u rfl rfl) (w4 (by exists h) λj y v e1 e2=>k (j+1) y v (by exists e1) (by exists e2))
def YO:List V->Hp->VK->Prop:=λxs H Q=> ∃j:Int,xs=[.int j]/\ ∀r,H r=none->Q (.ref r) (upd H r (.rng 0 j))
def wY:CallR X (.type "range") YO:=by
 intro ϖ s σ H xs us Q I r h;obtain⟨j,rfl,q⟩:=h;obtain⟨u,rfl,ru⟩:=r.one;obtain⟨t,rfl⟩:=ru;show call_range_1 ⟨.ref _,_,I.laid (λb o e=>δ _ e) (μ _) ?_,rfl,q _ I.fresh⟩;show⟨_,_,_,ο _ rfl⟩
def Wu:List V->Hp->VK->Prop:=λxs H Q=> ∃(p:Addr) (n:Nat),xs=[.ref p]/\H p=some (.rng 0 (n:Int))/\n<=1000/\ ∀l,H l=none->Q (.ref l) (upd H l (.lst ((List.range n).map fun(i:Nat)=>V.int (i:Int))))
def call_listRng(hc:X.calm=true):CallR X (.type "list") Wu:=by
 intro ϖ s σ H xs us Q I r h;obtain⟨p,n,rfl,hp,hn,q⟩:=h;obtain⟨u,rfl,ru⟩:=r.one;cases ru
 obtain⟨t,u,v,e⟩:=I.hok p _ hp;show call_list_range (n:=n) (I.ok.hd hc) e (small_one ∅ ∅ ∅ ∅) (by rw[rangeSize_one];split<;>lia) ∅ λh' tk acc' c' hk hS hacc=>?_;show⟨.ref _,_,I.laid (t':=tk) hk (μ _) ?_,rfl,q _ I.fresh⟩;obtain⟨hsz,hit⟩:=hacc;show⟨by rw[ω,List.length_range];show Υ (Ze hn),acc'.toList,c',w4 (by simp[hsz]) λj x u ex eu=>?_,hS⟩;have hj:j<n:=by
  have:=(Η.mp ex).1;exists this
 rw[Ν,List.getElem?_range hj] at ex;have ex':V.int (j:Int)=x:=Α ex;subst ex';obtain⟨t,ht⟩:=hit j u (by exists eu);show⟨t,by rw[ht];congr 1;lia⟩
theorem ZN: ∀{ns:List Int} {us:List Value},Vals (ns.map V.int) us-> ∃xs:List (Int×Tok),us=xs.map (λq=>Value.int q.1 q.2)/\xs.map (·.1)=ns
 | [],us,r=>by
  cases r
  show⟨[],rfl,rfl⟩
 | n::ns,us,r=>by
  cases r with
  | cons r1 r2=>
   obtain⟨t,rfl⟩:=r1;obtain⟨xs,rfl,e⟩:=ZN r2;show⟨(n,t)::xs,rfl,by simp[e]⟩
def rSum:List V->Hp->VK->Prop:=λxs H Q=> ∃(p:Addr) (ns:List Int),xs=[.ref p]/\H p=some (.lst (ns.map V.int))/\Q (.int ns.sum) H
def call_sum(hc:X.calm=true):CallR X (.builtin "sum") rSum:=by
 intro ϖ s σ H xs us Q I r h;obtain⟨p,ns,rfl,hp,q⟩:=h;obtain⟨u,rfl,ru⟩:=r.one;cases ru
 obtain⟨its,n,rv,e,z⟩:=I.lst hp;obtain⟨ys,rfl,hy⟩:=ZN rv;have hl:s.heap.IsList p (intItems ys.toArray):=⟨_,e,rfl,n,by simp[intItems]⟩;show sum_intListG (I.ok.hd hc) hl λh' tk t' hk=>⟨.int ns.sum,H,I.kept hk,⟨t',?_⟩,q⟩;congr 1;have hlen:ys.length=ns.length:=by rw[<-hy,ω]
 rw[preSum_eq];simp[hy,hlen]
end
def vJ{Q:VSP}(J:s.heap.IsTupleIter j t i)(T:s.heap.IsTuple t its)(e:its[i]? =some v)
  (k: ∀h',h'.IsTupleIter j t (i+1)->Heap.SameBut j s.heap h'->Q v {s with heap:=h'}):wpAny (model prog w) A (Builtin.SmallTypes.nextOf (.ref j)) Q E s:=by
 obtain⟨o,ho,hc,hd⟩:=id J;obtain⟨ot,hot,_,n,hdt⟩:=T;unfold Builtin.SmallTypes.nextOf;show γ (wpAny_callSpecial?_slot (name:=Str.ofString "__next__") J.typeIs F.slot_tuple_iterator_next (wpAny_call_entry F.slot_tuple_iterator_next J.typeIs F.entry_tuple_iterator_next ?_ (F.args_tuple_iterator_next_1 _)));change wpAny _ _ (field (.ref j) 0>>=_) _ _ s;show γ (Κ ho hd (x:= .ref t) rfl ?_);change wpAny _ _ (if (Value.ref t==Value.none)=true then _ else _) _ _ s;rw[if_neg (show¬((Value.ref t==Value.none)=true) from Δ)];change wpAny _ _ (field (.ref j) 1>>=_) _ _ s;show γ (Κ ho hd (x:= .int i 0) rfl ?_);change wpAny _ _ (seqItems? (.ref t)>>=_) _ _ s;show γ (wpAny_seqItems hot hdt ?_);simp only[Int.toNat_natCast,e];show γ (wpAny_setField ho hd Sort (ε ⟨v,rfl,ε (k _ ?_ (Heap.SameBut.update ..))⟩));show⟨_,Heap.get?_update_self _ ho (Obj.isFreed_of_fields (Obj.data_mapFields hd _)),(Obj.cls_mapFields ..).trans hc,by rw[Obj.data_mapFields hd];simp[rawInt]⟩
def Zh{Q:VSP}(hh:A.handled=none)(J:s.heap.IsTupleIter j t i)(T:s.heap.IsTuple t its)(e:its[i]? =none)
  (k: ∀h' x,Heap.ExtBut j s.heap h'->(∃o,h'.get? x=some o/\o.cls= .type "StopIteration")->E (.ref x) {s with heap:=h'}):wpAny (model prog w) A (Builtin.SmallTypes.nextOf (.ref j)) Q E s:=by
 obtain⟨o,ho,hc,hd⟩:=id J;obtain⟨ot,hot,_,n,hdt⟩:=T;unfold Builtin.SmallTypes.nextOf;show γ (wpAny_callSpecial?_slot (name:=Str.ofString "__next__") J.typeIs F.slot_tuple_iterator_next (wpAny_call_entry F.slot_tuple_iterator_next J.typeIs F.entry_tuple_iterator_next ?_ (F.args_tuple_iterator_next_1 _)));change wpAny _ _ (field (.ref j) 0>>=_) _ _ s;show γ (Κ ho hd (x:= .ref t) rfl ?_);change wpAny _ _ (if (Value.ref t==Value.none)=true then _ else _) _ _ s;rw[if_neg (show¬((Value.ref t==Value.none)=true) from Δ)];change wpAny _ _ (field (.ref j) 1>>=_) _ _ s;show γ (Κ ho hd (x:= .int i 0) rfl ?_);change wpAny _ _ (seqItems? (.ref t)>>=_) _ _ s;show γ (wpAny_seqItems hot hdt ?_);simp only[Int.toNat_natCast,e];show γ (wpAny_rule (γ (wpAny_setField ho hd Sort ?_)));change wpAny _ _ (newExc (.type "StopIteration") []>>=_) _ _ _;show γ ?_;simp only[newExc,newTuple];show γ (wpAny_newObj_type ?_ (by size_fits));show γ (m:=firstArgMember _ _) (wpAny_of_eq (a:=Value.none) (by first | rfl | (simp only[firstArgMember];rfl)) ?_);show wpAny_newObj_type ?_ (by size_fits);simp only[raiseNew];show γ (wpAny_handled ?_)
 (first | rw[show A.in1.handled=none from hh] | rw[hh]);show γ (ε (wpAny_throw ?_));show k _ _ (((Heap.SameBut.update ..).extBut.push _).push _) ⟨_,ο _ rfl,rfl⟩
def draws_tup(hh:A.handled=none)(j t:Addr)(ne:t≠j)(its:Array Value):Draws prog w A j [j,t] its.size (λi v=>its[i]? =some v) (λi h=>h.IsTupleIter j t i/\h.IsTuple t its) where
 live:=λ_ _ q=>let ⟨o,e,_⟩:=q.1;⟨o,e⟩
 frame:=λ_ _ _ q hk=>⟨q.1.at λo e=>hk j Sort o e,let ⟨o,e,r⟩:=q.2;⟨o,hk t Sort o e,r⟩⟩
 item:=λi s Q E hi q k=>vJ q.1 q.2 (v:=its[i]) (by simp[hi]) λh' J' sb=>k _ h' s.toks (by simp[hi]) ⟨J',let ⟨o,e,r⟩:=q.2;⟨o,sb.extBut t o ne e,r⟩⟩ sb
 done:=λs Q E q k=>Zh hh q.1 q.2 Sort k
abbrev enuH (h:Heap) (t:Addr):Heap:=h.push {cls:= .type "tuple_iterator",data:= .fields #[.ref t,.int 0 0]}
abbrev enuH2 (h:Heap) (t:Addr):Heap:=(enuH h t).push {cls:= .type "enumerate",data:= .fields #[.none,.bool false,.ref h.objs.size,rawInt 0,.none,.none]}
def enu_new(t:Addr)(its:Array Value):Meets (Builtin.«enumerate.__new__» ⟨[.type "enumerate",.ref t],[]⟩) (λ_ R s=>s.heap.IsTuple t its/\R (.ok (.ret (.ref (enuH s.heap t).objs.size))) {s with heap:=enuH2 s.heap t}):=
 .of_wp λprog w A R s h=>by
  obtain⟨hp,g,d,tk,os⟩:=s;obtain⟨hT,h⟩:=h;have hsub:=sub_enumerate;obtain⟨o,ho,hc,n,hd⟩:=id hT;have hT':Heap.IsTuple (Shared.heap ⟨hp,g,d,tk,os⟩) t its:=hT;obtain⟨c,dct,dt,sl⟩:=o;replace hc:c= .type "tuple":=hc;replace hd:dt= .seq its n:=hd;subst hc hd
  wp_walk using AutoSeq1.wpAny_loadPart' ho
  show wpAny_stack_any λst=>ε ?_;split
  .rename_i cl _ _ _ _ _;cases (cl==Value.type "enumerate")
   .wp_walk using AutoSeq1.wpAny_loadPart' ho,wpAny_pyIter_tuple hT';show⟨_,rfl,h⟩
   .wp_walk using AutoSeq1.wpAny_loadPart' ho,wpAny_pyIter_tuple hT';show⟨_,rfl,h⟩
  .wp_walk using AutoSeq1.wpAny_loadPart' ho,wpAny_pyIter_tuple hT';show⟨_,rfl,h⟩
def call_enu{Q:VSP}(hT:s.heap.IsTuple t its)
  (k: ∀h',IsEnum h' (⇑s+1) ⇑s 0 .none->h'.IsTupleIter ⇑s t 0->(∀b o,s.heap.get? b=some o->h'.get? b=some o)->Q (.ref (⇑s+1)) {s with heap:=h'}):
  wpAny (model prog w) A (call (.type "enumerate") [.ref t]) Q E s:=by
 show callType_new F.called_enumerate ⋯ (F.typeCall_enumerate_1 _) (F.newCall_enumerate_1 _) (λobj=>F.args_object_init_2 obj _) F.entry_enumerate_new (enu_new t its) ⟨hT,?_⟩;have z1:(enuH s.heap t).objs.size=⇑s+1:=Φ ..;have he:=ο (enuH s.heap t) (o:={cls:= .type "enumerate",data:= .fields #[.none,.bool false,.ref ⇑s,rawInt 0,.none,.none]}) rfl;change _/\_;rw[z1] at he ⊢;show⟨⟨_,he,rfl⟩,k _ he ⟨_,δ _ (ο _ rfl),rfl,rfl⟩ λb o x=>δ _ (δ _ x)⟩
section
variable {X:Cx}
def Inv.turnNew{h':Heap}{tk:Nat}{ch:List Addr}{T:Addr}{xs:List V}{vals:List Value}(I:Inv X ϖ σ H s)(hf: ∀b∈ch,FpOk X ϖ H b)(k: ∀b o,b∉ch->s.heap.get? b=some o->h'.get? b=some o)(ht: ∀b∈ch,∃o,h'.get? b=some o)
  (hT:⇑s<=T) (r:Vals xs vals) (hz:xs.length<=sizeLine) (hv:h'.IsTuple T vals.toArray):Inv X ϖ σ (upd H T (.tup xs)) {s with heap:=h',toks:=tk}:=by
 have hn:H T=none:=I.hok.fresh hT;have nT: ∀b o,s.heap.get? b=some o->b≠T:=λb o e z=>absurd (θ (ι e) (z▸hT)) (Λ _);have nc: ∀b u,H b=some u->b∉ch:=λb u e z=>by rw[(hf b z).1] at e;cases e
 show I.step (g':=s.gens) (d':=s.drawn) (ch:=ch) (λb hb=>⟨(hf b hb).2.2.2.1,(hf b hb).2.1,(hf b hb).2.2.2.2.1,(hf b hb).2.2.2.2.2⟩) (λb o _ _ hc e _=>k b o hc e) (λb o _ _ hc e _=>⟨o.slots,k b o hc e⟩)
  (λb o _ e n=>by rw[zi (nT b o e)];show n) (λb o hc e=>⟨o,k b o hc e⟩) (λb ys e=>by rw[zi (zg e hn)];show e) (λb o u e=>by rw[zi (zg e hn)];show e)
  (λb ps e=>⟨#[],by rw[zi (zg e hn),e];simp⟩) (λm hm=>?_) (λb u e=>?_) I.bare
 .obtain⟨o,es,ep,ho,q⟩:=hm;show⟨o,es,ep,k _ o (λz=>(hf _ z).2.1 rfl) ho,q⟩
 .by_cases hb:b=T
  .subst hb;rw[zj] at e;cases e
   show⟨hz,vals,r,hv⟩
  .rw[zi hb] at e;show(I.hok b u e).stay (λc v hc q=>k c v ?_ q) (λc q=>by rw[zi (zg q hn)];show q) λc ys q=>by rw[zi (zg q hn)];show q
   rcases hc with z | z
   .rw[z];show nc b u e
   .show nc c _ z
def Inv.turnOnly{h':Heap}{tk:Nat}{ch:List Addr}(I:Inv X ϖ σ H s)(hf: ∀b∈ch,FpOk X ϖ H b)(k: ∀b o,b∉ch->s.heap.get? b=some o->h'.get? b=some o):Inv X ϖ σ H {s with heap:=h',toks:=tk}:=by
 have nc: ∀b u,H b=some u->b∉ch:=λb u e z=>by rw[(hf b z).1] at e;cases e
 show I.step (g':=s.gens) (d':=s.drawn) (ch:=ch) (λb hb=>⟨(hf b hb).2.2.2.1,(hf b hb).2.1,(hf b hb).2.2.2.2.1,(hf b hb).2.2.2.2.2⟩) (λb o _ _ hc e _=>k b o hc e) (λb o _ _ hc e _=>⟨o.slots,k b o hc e⟩)
  (λb o _ e n=>n) (λb o hc e=>⟨o,k b o hc e⟩) (λb ys e=>e) (λb o u e=>e) (λb ps e=>⟨#[],by rw[e];simp⟩) (λm hm=>?_) (λb u e=>?_) I.bare
 .obtain⟨o,es,ep,ho,q⟩:=hm;show⟨o,es,ep,k _ o (λz=>(hf _ z).2.1 rfl) ho,q⟩
 .show(I.hok b u e).stay (λc v hc q=>k c v ?_ q) (λc q=>q) λc ys q=>q;rcases hc with z | z
  .rw[z];show nc b u e
  .show nc c _ z
end
section
variable {X:Cx}
def rIsI (K:W.Frag):List V->Hp->VK->Prop:=λxs H Q=> ∃v n t b,xs=[v,.ty n]/\TyOf K H v t/\W.kitOne K t (.type n)=some b/\Q (.bl b) H
theorem call_isI:CallR X (.builtin "isinstance") (rIsI X.K):=by
 intro ϖ s σ H xs us Q I r h;obtain⟨v,n,t,b,rfl,ty,e,q⟩:=h;cases r with
 | cons r1 r2=>
  obtain⟨u,rfl,ru⟩:=Vals.one r2;cases ru
  show isinst_ok I r1 ty e λtk=>⟨.bl b,H,I.kept (t':=tk) λ_ _ e=>e,rfl,q⟩
end
end L2
namespace G2
open PySem L2
def md{i j:Int}(h:0<j):0<=i%j/\i%j<j:=⟨Int.emod_nonneg _ (Int.ne_of_gt h),Int.emod_lt_of_pos _ h⟩
structure TK (H H':Hp):Prop where
 t: ∀q xs,H q=some (.tup xs)->H' q=some (.tup xs)
 f: ∀q o u,H q=some (.frz o u)->H' q=some (.frz o u)
def _root_.L2.Same.new{H H':Hp}{l:Addr}{o:HO}(k:Same H H')(h:H' l=none):Same H (upd H' l o):=λb u e=>by
 rw[zi (zg (k b u e) h)];show k b u e
def _root_.L2.Same.put{H H':Hp}{l:Addr}{o:HO}(k:Same H H')(h:H l=none):Same H (upd H' l o):=λb u e=>by
 rw[zi (zg e h)];show k b u e
structure Shw (d:PyData) (n h:Nat):Prop where
 s:d.showable=true
 nd:d.hasDict=false
 p:d.depth<=h
 l:d.shown.length<=n
end G2
namespace L2
open PySem PySem.Spec PyProof.Rows
def op_mulB:OpR X (binaryOp .Mult) (rI IntMulOk λi j=> .int (i*j)):=opI λ_ _ _ _ _ _ _ hc q=>mul_int q hc
end L2
namespace G2
open PySem L2
def Bg (i:Int):Prop:=i.natAbs<10^90
def Bg.bits(h:Bg i):Builtin.Int.intBits i<=300:=by
 unfold Bg at h;unfold Builtin.Int.intBits;by_cases h0:i=0
 .subst h0;decide
 .have e:(i==0)=false:=by exists h0
  rw[e];have:=(Nat.log2_lt (n:=i.natAbs) (k:=299) ∅).mpr (θ h (nofun));change i.natAbs.log2+1<=300;lia
def mulB(h:Bg i)(h':Bg j):IntMulOk i j:=PySem.IntMulOk.of_le h.bits h'.bits ⋯
def Bg.log(h:Bg i):i.natAbs.log2<1920:=by
 unfold Bg at h;by_cases h0:i.natAbs=0
 .rw[h0];decide
 .show(Nat.log2_lt h0).mpr (θ h (nofun))
def Bg.len(h:Bg n):(PyData.shown (.int n)).length<=91:=by
 have:=int_text_length_le10 (a:=n) (k:=90) ⋯ h;change(Str.ofString (toString n)).length<=91;rw[ofString_length];show this
section
variable {X:Cx}
def rNeD:R2:=λx y H Q=> ∃dx dy,RdV H x dx/\RdV H y dy/\dx.canLay0=true/\dy.canLay0=true/\dx.depth<=60/\Q (.bl (!PyData.eqv dx dy)) H
def op_neD(hr:Room k X.A):OpR X (compareOp .NotEq) rNeD:=by
 intro ϖ s σ H x y v u Q I rx ry h;obtain⟨dx,dy,hx,hy,cx,cy,hd,q⟩:=h;obtain⟨as,ra⟩:=hx.reads I rx;obtain⟨bs,rb⟩:=hy.reads I ry;have:=hr.units;show SeqAt.compareNe_reads ra rb cx cy ∅ ⟨.bl _,H,I,rfl,q⟩
end
end G2
namespace L2
open PySem PySem.Spec PyProof.Rows
section
variable {X:Cx}
theorem vY: ∀{bs:List Bool} {us:List Value},Vals (bs.map V.bl) us->us=bs.map Value.bool
 | [],us,r=>by
  cases r
  rfl
 | b::bs,us,r=>by
  cases r with
  | cons r1 r2=>
   cases r1
   rw[vY r2];rfl
def rAll:List V->Hp->VK->Prop:=λxs H Q=> ∃(p:Addr) (bs:List Bool),xs=[.ref p]/\H p=some (.lst (bs.map V.bl))/\Q (.bl (bs.all id)) H
def all_range(bs:List Bool):(List.range bs.length).all (λi=>bs.getD i false)=bs.all id:=by
 rw[Bool.eq_iff_iff,List.all_eq_true,List.all_eq_true];constructor
 .intro h b hb;obtain⟨i,hi,rfl⟩:=List.getElem_of_mem hb;have:=h i (Τ.mpr hi);simpa[List.getD_eq_getElem?_getD,hi] using this
 .intro h i hi;have hi':=Τ.mp hi;have:=h bs[i] (Ρ hi');simpa[List.getD_eq_getElem?_getD,hi'] using this
theorem call_all(hc:X.calm=true):CallR X (.builtin "all") rAll:=by
 intro ϖ s σ H xs us Q I r h;obtain⟨p,bs,rfl,hp,q⟩:=h;obtain⟨u,rfl,ru⟩:=r.one;cases ru
 obtain⟨its,n,rv,e,z⟩:=I.lst hp;have hits:=vY rv;subst hits;have hl:s.heap.IsList p (bs.map Value.bool).toArray:=⟨_,e,rfl,n,rfl⟩;show call_all_walk (wpAny_pyIter_list hl ?_);show⟨_,_,_,_,_,_,λi=>bs.getD i false,rfl,Walks.list (A:=X.A.in1) (I.ok.hd hc) _ p (Ι (ι e)) (bs.map Value.bool).toArray,⟨⟨_,ο _ rfl,rfl,rfl⟩,hl.push _⟩,?_,λh' tk hk=>?_⟩
 .intro i v s' Q' E' hv hQ';have hv':(bs.map Value.bool)[i]? =some v:=by exists hv
  rw[Ν] at hv';cases eb:bs[i]? with
  | none=>rw[eb] at hv';cases hv'
  | some b=>
   rw[eb] at hv';cases hv'
   have:bs.getD i false=b:=by rw[υ,eb];rfl
   show wpAny_truthy_bool ?_;dsimp only at hQ';rw[this] at hQ';show hQ'
 .have e1:(List.range (bs.map Value.bool).toArray.size).all (λi=>bs.getD i false)=bs.all id:=by exists all_range bs
  rw[e1];show⟨.bl _,H,I.kept (t':=tk) (old_kept (l:=p) hk),rfl,q⟩
def op_notT:OpR X (compareOp .IsNot) (λx y H Q=> ∃c,x= .bl c/\y= .bl true/\Q (.bl (!c)) H):=by
 intro ϖ s σ H x y v u Q I rx ry h;obtain⟨c,rfl,rfl,q⟩:=h;cases rx
 cases ry
 show wpAny_isNot_plain (by cases c<;>rfl) (zu I q ?_);cases c<;>rfl
def rAny:List V->Hp->VK->Prop:=λxs H Q=> ∃(p:Addr) (bs:List Bool),xs=[.ref p]/\H p=some (.lst (bs.map V.bl))/\Q (.bl (bs.any id)) H
def any_range(bs:List Bool):(List.range bs.length).any (λi=>bs.getD i false)=bs.any id:=by
 rw[Bool.eq_iff_iff,List.any_eq_true,List.any_eq_true];constructor
 .rintro⟨i,hi,h⟩;have hi':=Τ.mp hi;show⟨bs[i],Ρ hi',?_⟩;simpa[List.getD_eq_getElem?_getD,hi'] using h
 .rintro⟨b,hb,h⟩;obtain⟨i,hi,rfl⟩:=List.getElem_of_mem hb;show⟨i,Τ.mpr hi,by simpa[List.getD_eq_getElem?_getD,hi] using h⟩
theorem call_any(hc:X.calm=true):CallR X (.builtin "any") rAny:=by
 intro ϖ s σ H xs us Q I r h;obtain⟨p,bs,rfl,hp,q⟩:=h;obtain⟨u,rfl,ru⟩:=r.one;cases ru
 obtain⟨its,n,rv,e,z⟩:=I.lst hp;have hits:=vY rv;subst hits;have hl:s.heap.IsList p (bs.map Value.bool).toArray:=⟨_,e,rfl,n,rfl⟩;show call_any_walk (wpAny_pyIter_list hl ?_);show⟨_,_,_,_,_,_,λi=>bs.getD i false,rfl,Walks.list (A:=X.A.in1) (I.ok.hd hc) _ p (Ι (ι e)) (bs.map Value.bool).toArray,⟨⟨_,ο _ rfl,rfl,rfl⟩,hl.push _⟩,?_,λh' tk hk=>?_⟩
 .intro i v s' Q' E' hv hQ';have hv':(bs.map Value.bool)[i]? =some v:=by exists hv
  rw[Ν] at hv';cases eb:bs[i]? with
  | none=>rw[eb] at hv';cases hv'
  | some b=>
   rw[eb] at hv';cases hv'
   have:bs.getD i false=b:=by rw[υ,eb];rfl
   show wpAny_truthy_bool ?_;dsimp only at hQ';rw[this] at hQ';show hQ'
 .have e1:(List.range (bs.map Value.bool).toArray.size).any (λi=>bs.getD i false)=bs.any id:=by exists any_range bs
  rw[e1];show⟨.bl _,H,I.kept (t':=tk) (old_kept (l:=p) hk),rfl,q⟩
end
def SqB (K:W.Frag) (t:Bool) (H:Hp) (a:Addr) (xs:List V):Prop:=match t with
 | true=>SqT K H a xs
 | false=>SqL K H a xs
def IsB (t:Bool) (h:Heap) (a:Addr) (xs:Array Value):Prop:=match t with
 | true=>h.IsTuple a xs
 | false=>h.IsList a xs
def ItB (t:Bool) (h:Heap) (i a:Addr) (k:Nat):Prop:=match t with
 | true=>h.IsTupleIter i a k
 | false=>h.IsListIter i a k
def IsB.up(T:IsB t h a its)(x: ∀o,h.get? a=some o->h'.get? a=some o):IsB t h' a its:=by
 cases t
 .show Heap.IsList.at T x
 .show let ⟨o,e,r⟩:=T;⟨o,x o e,r⟩
def ItB.at(J:ItB t h j a i)(x: ∀o,h.get? j=some o->h'.get? j=some o):ItB t h' j a i:=by
 cases t
 .show Heap.IsListIter.at J x
 .show Heap.IsTupleIter.at J x
def xB(T:IsB t h a its)(x:Heap.ExtBut b h h')(n:a≠b):IsB t h' a its:=T.up λo e=>x a o n e
def jB(J:ItB t h j a i)(x:Heap.ExtBut b h h')(n:j≠b):ItB t h' j a i:=J.at λo e=>x j o n e
def ItB.obj(J:ItB t h j a i): ∃o f,h.get? j=some o/\o.data= .fields f:=by
 cases t<;>show let ⟨o,e,_,d⟩:=J;⟨o,_,e,d⟩
def IsB.lt(T:IsB t h a its):a<h.objs.size:=by
 cases t<;>show let ⟨_,e,_⟩:=T;ι e
def xy{b:Bool}{j t:Addr}{i:Nat}{its:Array Value}{v:Value}{Q:VSP}(J:ItB b s.heap j t i)(T:IsB b s.heap t its)(e:its[i]? =some v)
  (k: ∀h',ItB b h' j t (i+1)->Heap.SameBut j s.heap h'->Q v {s with heap:=h'}):wpAny (model prog w) A (Builtin.SmallTypes.nextOf (.ref j)) Q E s:=by
 cases b
 .show wpAny_nextOf_list_item J T e k
 .show vJ J T e k
def Zi{Q:VSP}(hh:A.handled=none)(J:ItB b s.heap j t i)(T:IsB b s.heap t its)(e:its[i]? =none)
  (k: ∀h' x,Heap.ExtBut j s.heap h'->(∃o,h'.get? x=some o/\o.cls= .type "StopIteration")->E (.ref x) {s with heap:=h'}):wpAny (model prog w) A (Builtin.SmallTypes.nextOf (.ref j)) Q E s:=by
 cases b
 .show wpAny_nextOf_list_end hh J T e k
 .show Zh hh J T e k
def zipQ_item{t u:Bool}{z TI TO i1 i2 l1 l2:Addr}{k1 k2:Nat}{xs ys:Array Value}{x y a b:Value}{Q:VSP}(D:ZipApart z TI TO i1 i2 l1 l2)(hz:IsZip s.heap z TI TO .none)(hTI:IsPair s.heap TI (.ref i1) (.ref i2))(hTO:IsPair s.heap TO a b)
  (h1:ItB t s.heap i1 l1 k1) (h2:ItB u s.heap i2 l2 k2) (hl1:IsB t s.heap l1 xs) (hl2:IsB u s.heap l2 ys) (hx:xs[k1]? =some x) (hy:ys[k2]? =some y)
  (hQ: ∀h',IsZip h' z TI TO (rawInt ⇑s)->IsPair h' TO x y->ItB t h' i1 l1 (k1+1)->ItB u h' i2 l2 (k2+1)->IsPair h' ⇑s x y->
   (∀d o,d≠z->d≠TO->d≠i1->d≠i2->s.heap.get? d=some o->h'.get? d=some o)->Q (.ref ⇑s) {s with heap:=h'}):
  wpAny (model prog w) A (Builtin.«zip.__next__» ⟨[.ref z],[]⟩) (λf s'=> ∃v,f= .done (.ret v)/\Q v s') E s:=by
 change wpAny _ _ (field (.ref z) 2>>=_) _ _ _;show γ (Κ hz rfl (x:= .bool false) rfl ?_);change wpAny _ _ (field (.ref z) 3>>=_) _ _ _;show γ (Κ hz rfl (x:= .ref TI) rfl ?_);show γ (wpAny_seqItems hTI rfl ?_);change wpAny _ _ (Builtin.SmallTypes.ownedTupleIsFree (.ref z)>>=_) _ _ _;show γ ?_;unfold Builtin.SmallTypes.ownedTupleIsFree;show γ (Κ hz rfl (x:= .none) rfl (ε ?_));simp only[if_true];show γ (wpAny_rule ?_);show γ (Κ hz rfl (x:= .ref TO) rfl ?_);show γ (wpAny_setField_rec hz Sort λg1 zz1 s1=>?_);replace zz1:IsZip g1 z TI TO .ellipsis:=zz1;show γ ?_;simp only[List.zipIdx_cons,List.zipIdx_nil,List.forIn_cons,List.forIn_nil];show γ (γ (wpAny_onRaise ?_));change wpAny _ _ (Builtin.SmallTypes.nextOf (.ref i1)>>=_) _ _ _;show γ (xy (jB h1 s1.extBut D.i1z) (xB hl1 s1.extBut D.l1z) hx λg2 j2 s2=>ε ?_);have o2:IsPair g2 TO a b:=s2.extBut _ _ D.TOi1 (s1.extBut _ _ D.TOz hTO);show γ (wpAny_seqItems o2 rfl ?_);show γ (wpAny_updateSeq_pair o2 λg3 o3 s3=>?_);replace o3:IsPair g3 TO x b:=o3;show γ (wpAny_letGo (ε ?_));show γ (γ (wpAny_onRaise ?_));change wpAny _ _ (Builtin.SmallTypes.nextOf (.ref i2)>>=_) _ _ _;show γ (xy (jB (jB (jB h2 s1.extBut D.i2z) s2.extBut D.i12.symm) s3.extBut D.TOi2.symm) (xB (xB (xB hl2 s1.extBut D.l2z) s2.extBut D.l2i1) s3.extBut D.l2TO) hy λg4 j4 s4=>ε ?_);have o4:IsPair g4 TO x b:=s4.extBut _ _ D.TOi2 o3;show γ (wpAny_seqItems o4 rfl ?_);show γ (wpAny_updateSeq_pair o4 λg5 o5 s5=>?_);replace o5:IsPair g5 TO x y:=o5;show γ (wpAny_letGo (ε (ε ?_)));show γ (wpAny_seqItems o5 rfl ?_);show γ (wpAny_newTuple ?_);have sz:g5.objs.size=⇑s:=by rw[s5.1,s4.1,s3.1,s2.1,s1.1]
 have z5:IsZip g5 z TI TO .ellipsis:=s5.extBut _ _ D.TOz.symm (s4.extBut _ _ D.i2z.symm (s3.extBut _ _ D.TOz.symm (s2.extBut _ _ D.i1z.symm zz1)));have k5: ∀c o,c≠z->c≠TO->c≠i1->c≠i2->s.heap.get? c=some o->g5.get? c=some o:=λc o c1 c2 c3 c4 q=>s5.extBut _ _ c2 (s4.extBut _ _ c4 (s3.extBut _ _ c2 (s2.extBut _ _ c3 (s1.extBut _ _ c1 q))));have a5:ItB t g5 i1 l1 (k1+1):=jB (jB (jB j2 s3.extBut D.TOi1.symm) s4.extBut D.i12) s5.extBut D.TOi1.symm;have b5:ItB u g5 i2 l2 (k2+1):=jB j4 s5.extBut D.TOi2.symm;have zlt:z<g5.objs.size:=ι z5;change wpAny _ _ (Builtin.SmallTypes.ownedTupleHandOut (.ref z) (.ref g5.objs.size)>>=_) _ _ _;show γ ?_;unfold Builtin.SmallTypes.ownedTupleHandOut;have z6:IsZip (g5.push {cls:= .type "tuple",data:= .seq #[x,y]}) z TI TO .ellipsis:=δ _ z5;show γ (wpAny_setField_rec z6 Sort λg7 z7 s7=>?_);replace z7:IsZip g7 z TI TO (rawInt g5.objs.size):=z7;show wpAny_setField_rec z7 Sort λg8 z8 s8=>?_;replace z8:IsZip g8 z TI TO (rawInt g5.objs.size):=z8;have up: ∀c o,c≠z->g5.get? c=some o->g8.get? c=some o:=λc o c1 q=>s8.extBut _ _ c1 (s7.extBut _ _ c1 (δ _ q));have t8:IsPair g8 g5.objs.size x y:=s8.extBut _ _ (Χ zlt) (s7.extBut _ _ (Χ zlt) (ο _ rfl));rw[sz] at z8 t8;show ε ⟨_,rfl,?_⟩;change Q (.ref g5.objs.size) _;rw[sz];show hQ g8 z8 (up _ _ D.TOz o5) (a5.at λo q=>up _ o D.i1z q) (b5.at λo q=>up _ o D.i2z q) t8 λc o c1 c2 c3 c4 q=>up c o c1 (k5 c o c1 c2 c3 c4 q)
theorem zipQ_end{t u:Bool}{z TI TO i1 i2 l1 l2:Addr}{k1 k2:Nat}{xs ys:Array Value}{a b:Value}{Q:Fin->Shared->Prop}(hh:A.handled=none)(D:ZipApart z TI TO i1 i2 l1 l2)(hz:IsZip s.heap z TI TO .none)(hTI:IsPair s.heap TI (.ref i1) (.ref i2))(hTO:IsPair s.heap TO a b)
  (h1:ItB t s.heap i1 l1 k1) (h2:ItB u s.heap i2 l2 k2) (hl1:IsB t s.heap l1 xs) (hl2:IsB u s.heap l2 ys) (hend:xs[k1]? =none\/ys[k2]? =none)
  (hE: ∀h' e,(∀d o,d≠z->d≠TO->d≠i1->d≠i2->s.heap.get? d=some o->h'.get? d=some o)->(∃o,h'.get? e=some o/\o.cls= .type "StopIteration")->E (.ref e) {s with heap:=h'}):wpAny (model prog w) A (Builtin.«zip.__next__» ⟨[.ref z],[]⟩) Q E s:=by
 change wpAny _ _ (field (.ref z) 2>>=_) _ _ _;show γ (Κ hz rfl (x:= .bool false) rfl ?_);change wpAny _ _ (field (.ref z) 3>>=_) _ _ _;show γ (Κ hz rfl (x:= .ref TI) rfl ?_);show γ (wpAny_seqItems hTI rfl ?_);change wpAny _ _ (Builtin.SmallTypes.ownedTupleIsFree (.ref z)>>=_) _ _ _;show γ ?_;unfold Builtin.SmallTypes.ownedTupleIsFree;show γ (Κ hz rfl (x:= .none) rfl (ε ?_));simp only[if_true];show γ (wpAny_rule ?_);show γ (Κ hz rfl (x:= .ref TO) rfl ?_);show γ (wpAny_setField_rec hz Sort λg1 zz1 s1=>?_);replace zz1:IsZip g1 z TI TO .ellipsis:=zz1;show γ ?_;simp only[List.zipIdx_cons,List.zipIdx_nil,List.forIn_cons,List.forIn_nil];show γ (γ (wpAny_onRaise ?_));change wpAny _ _ (Builtin.SmallTypes.nextOf (.ref i1)>>=_) _ _ _;cases hx:xs[k1]? with
 | none=>
  show γ (Zi hh (jB h1 s1.extBut D.i1z) (xB hl1 s1.extBut D.l1z) hx λg2 e s2 he=>?_);obtain⟨oe,hoe,hce⟩:=he;have z2:IsZip g2 z TI TO .ellipsis:=s2 _ _ D.i1z.symm zz1;have ez:e≠z:=λq=>by subst q;rw[z2] at hoe;cases hoe;simp at hce
  show wpAny_setField_rec z2 Sort λg3 _ s3=>hE g3 e (λc o c1 _ c3 _ q=>s3.extBut _ _ c1 (s2 _ _ c3 (s1.extBut _ _ c1 q))) ⟨oe,s3.extBut _ _ ez hoe,hce⟩
 | some x=>
  have hy:ys[k2]? =none:=by rcases hend with q | q;rw[hx] at q;cases q;show q
  show γ (xy (jB h1 s1.extBut D.i1z) (xB hl1 s1.extBut D.l1z) hx λg2 j2 s2=>ε ?_);have o2:IsPair g2 TO a b:=s2.extBut _ _ D.TOi1 (s1.extBut _ _ D.TOz hTO);show γ (wpAny_seqItems o2 rfl ?_);show γ (wpAny_updateSeq_pair o2 λg3 o3 s3=>?_);show γ (wpAny_letGo (ε ?_));show γ (γ (wpAny_onRaise ?_));change wpAny _ _ (Builtin.SmallTypes.nextOf (.ref i2)>>=_) _ _ _;show γ (Zi hh (jB (jB (jB h2 s1.extBut D.i2z) s2.extBut D.i12.symm) s3.extBut D.TOi2.symm) (xB (xB (xB hl2 s1.extBut D.l2z) s2.extBut D.l2i1) s3.extBut D.l2TO) hy λg4 e s4 he=>?_);obtain⟨oe,hoe,hce⟩:=he;have z4:IsZip g4 z TI TO .ellipsis:=s4 _ _ D.i2z.symm (s3.extBut _ _ D.TOz.symm (s2.extBut _ _ D.i1z.symm zz1));have ez:e≠z:=λq=>by subst q;rw[z4] at hoe;cases hoe;simp at hce
  show wpAny_setField_rec z4 Sort λg5 _ s5=>hE g5 e (λc o c1 c2 c3 c4 q=>s5.extBut _ _ c1 (s4 _ _ c4 (s3.extBut _ _ c2 (s2.extBut _ _ c3 (s1.extBut _ _ c1 q))))) ⟨oe,s5.extBut _ _ ez hoe,hce⟩
def Inv.sqb(I:Inv X ϖ σ H s)(h:SqB X.K t H a xs): ∃its:List Value,Vals xs its/\IsB t s.heap a its.toArray/\xs.length<=sizeLine:=by
 cases t
 .obtain⟨i,r,p,z⟩:=I.list h;show⟨i,r,p.isList,z⟩
 .show I.tuple h
def Inv.sqb_inj(I:Inv X ϖ σ H s)(h:SqB X.K t H a xs)(h':SqB X.K t H a ys):xs=ys:=by
 cases t
 .show I.list_inj h h'
 .show I.tuple_inj h h'
abbrev itO (t:Bool) (a:Addr):Obj:={cls:= .type (if t then "tuple_iterator" else "list_iterator"),data:= .fields #[.ref a,.int 0 0]}
abbrev zqH1 (t:Bool) (h:Heap) (a:Addr):Heap:=h.push (itO t a)
def Vx{E:VSP}{s:Shared}{Q:VSP}(ha:IsB t s.heap a xs)(hQ:Q (.ref ⇑s) {s with heap:=s.heap.push (itO t a)}):wpAny (model prog w) A (pyIter (.ref a)) Q E s:=by
 cases t
 .show wpAny_pyIter_list ha hQ
 .show wpAny_pyIter_tuple ha hQ
abbrev zqH2 (t u:Bool) (h:Heap) (a b:Addr):Heap:=(zqH1 t h a).push (itO u b)
abbrev zqH3 (t u:Bool) (h:Heap) (a b:Addr):Heap:=(zqH2 t u h a b).push {cls:= .type "tuple",data:= .seq #[.ref h.objs.size,.ref (zqH1 t h a).objs.size]}
abbrev zqH4 (t u:Bool) (h:Heap) (a b:Addr):Heap:=(zqH3 t u h a b).push {cls:= .type "tuple",data:= .seq #[.none,.none]}
abbrev zqH5 (t u:Bool) (h:Heap) (a b:Addr):Heap:=(zqH4 t u h a b).push {cls:= .type "zip",data:= .fields #[.none,.bool false,.bool false,.ref (zqH2 t u h a b).objs.size,.ref (zqH3 t u h a b).objs.size]}
def ItB.new{h:Heap}(e:h.get? i=some (itO t a)):ItB t h i a 0:=by
 cases t<;>show⟨_,e,rfl,rfl⟩
def zq_new(t u:Bool)(a b:Addr)(xs ys:Array Value):Meets (Builtin.«zip.__new__» ⟨[.type "zip",.ref a,.ref b],[]⟩) (λ_ R s=>IsB t s.heap a xs/\IsB u s.heap b ys/\R (.ok (.ret (.ref (zqH4 t u s.heap a b).objs.size))) {s with heap:=zqH5 t u s.heap a b}):=
 .of_wp λprog w A R s h=>by
  obtain⟨hp,g,d,tk,os⟩:=s;obtain⟨hA,hB,h⟩:=h;have hsub:=sub_zip;have tB:IsB u (Shared.heap ⟨hp.push (itO t a),g,d,tk,os⟩) b ys:=hB.up λo e=>δ _ e
  wp_walk using Vx hA,Vx tB
  show⟨_,rfl,h⟩
def call_zq{Q:VSP}(hA:IsB t s.heap a xs)(hB:IsB u s.heap b ys)
  (k: ∀h',IsZip h' (⇑s+4) (⇑s+2) (⇑s+3) .none->IsPair h' (⇑s+2) (.ref ⇑s) (.ref (⇑s+1))->IsPair h' (⇑s+3) .none .none->
   ItB t h' ⇑s a 0->ItB u h' (⇑s+1) b 0->(∀c o,s.heap.get? c=some o->h'.get? c=some o)->Q (.ref (⇑s+4)) {s with heap:=h'}):
  wpAny (model prog w) A (call (.type "zip") [.ref a,.ref b]) Q E s:=by
 show callType_new F.called_zip ⋯ (F.typeCall_zip_2 _ _) (F.newCall_zip_2 _ _) (λobj=>F.args_object_init_3 obj _ _) F.entry_zip_new (zq_new t u a b xs ys) ⟨hA,hB,?_⟩;have z1:(zqH1 t s.heap a).objs.size=⇑s+1:=Φ ..;have z2:(zqH2 t u s.heap a b).objs.size=⇑s+2:=by rw[Φ,z1]
 have z3:(zqH3 t u s.heap a b).objs.size=⇑s+3:=by rw[Φ,z2]
 have z4:(zqH4 t u s.heap a b).objs.size=⇑s+4:=by rw[Φ,z3]
 have g5:(zqH5 t u s.heap a b).get? (zqH4 t u s.heap a b).objs.size=some _:=ο _ rfl;have g4:(zqH5 t u s.heap a b).get? (zqH3 t u s.heap a b).objs.size=some _:=δ _ (ο _ rfl);have g3:(zqH5 t u s.heap a b).get? (zqH2 t u s.heap a b).objs.size=some _:=δ _ (δ _ (ο _ rfl));have g2:(zqH5 t u s.heap a b).get? (zqH1 t s.heap a).objs.size=some _:=δ _ (δ _ (δ _ (ο _ rfl)));have g1:(zqH5 t u s.heap a b).get? ⇑s=some _:=δ _ (δ _ (δ _ (δ _ (ο _ rfl))));change _/\_;rw[z2,z3,z4] at g5;rw[z1,z2] at g3;rw[z3] at g4;rw[z1] at g2;have kk: ∀c o,s.heap.get? c=some o->(zqH5 t u s.heap a b).get? c=some o:=λc o q=>δ _ (δ _ (δ _ (δ _ (δ _ q))));rw[z4];show⟨⟨_,g5,rfl⟩,k _ g5 g3 g4 (ItB.new g1) (ItB.new g2) kk⟩
def Itq (K:W.Frag) (t u:Bool) (a b:Addr):It:=
 ⟨λi H=> ∃xs ys x y,SqB K t H a xs/\SqB K u H b ys/\xs[i]? =some x/\ys[i]? =some y,λi H v H'=> ∃p x y,v= .ref p/\H p=none/\H'=upd H p (.tup [x,y])/\(∀xs,SqB K t H a xs->xs[i]? =some x)/\ ∀ys,SqB K u H b ys->ys[i]? =some y,
  λi H=> ∃xs ys,SqB K t H a xs/\SqB K u H b ys/\(xs.length<=i\/ys.length<=i)⟩
def turn_zq{t u:Bool}{P:Program}{w:World}{K:W.Frag}{es:List Expr}{kt:Nat}{pt:Pos}(a b z TI TO i1 i2:Addr)(D:ZipApart z TI TO i1 i2 a b):
  Turn P w K (.Tuple es kt pt) (Itq K t u a b) [z,TI,TO,i1,i2] z (λi h=>IsZip h z TI TO .none/\IsPair h TI (.ref i1) (.ref i2)/\(∃u v,IsPair h TO u v)/\ItB t h i1 a i/\ItB u h i2 b i) where
 mem:=by simp
 obj:=λi h st q hq=>by
  obtain⟨hz,hI,⟨u,v,hO⟩,h1,h2⟩:=st;obtain⟨o1,f1,e1,d1⟩:=h1.obj;obtain⟨o2,f2,e2,d2⟩:=h2.obj;simp only[List.mem_cons,List.not_mem_nil,or_false] at hq;rcases hq with rfl | rfl | rfl | rfl | rfl
  .show⟨_,hz,λv y=>by have y':Data.fields _=Data.cell v:=y;cases y'⟩
  .show⟨_,hI,λv y=>by have y':Data.seq _ _=Data.cell v:=y;cases y'⟩
  .show⟨_,hO,λv y=>by have y':Data.seq _ _=Data.cell v:=y;cases y'⟩
  .show⟨o1,e1,λv y=>by rw[d1] at y;cases y⟩
  .show⟨o2,e2,λv y=>by rw[d2] at y;cases y⟩
 keep:=λi h h' st k=>⟨k z Sort _ st.1,k TI Sort _ st.2.1,let ⟨u,v,q⟩:=st.2.2.1;⟨u,v,k TO Sort _ q⟩,st.2.2.2.1.at λo x=>k i1 Sort o x,st.2.2.2.2.at λo x=>k i2 Sort o x⟩
 item:=by
  intro X hP hw hK hc i ϖ s σ H E I hf st hg;subst hP hw hK;obtain⟨xs,ys,x,y,hqa,hqb,hx,hy⟩:=hg;obtain⟨ia,rva,pa,za⟩:=I.sqb hqa;obtain⟨ib,rvb,pb,zb⟩:=I.sqb hqb;obtain⟨u,hu,ru⟩:=rva.get hx;obtain⟨v,hv,rv⟩:=rvb.get hy;obtain⟨hz,hI,⟨ou,ov,hO⟩,h1,h2⟩:=st;have hT:s.TypeIs (.ref z) "zip":=⟨_,hz,rfl⟩;unfold pyNext;show γ (wpAny_attempt (wpAny_callSpecial?_slot (name:=Str.ofString "__next__") hT F.slot_zip_next (wpAny_call_entry F.slot_zip_next hT F.entry_zip_next
   (zipQ_item D hz hI hO h1 h2 pa pb (x:=u) (y:=v) (by exists hu) (by exists hv) λh' z' o' a' b' t' k'=>ε ?_) (F.args_zip_next_1 _))))
  show⟨_,rfl,wpAny_letOwnedTupleGo_zip z' λh'' z'' sb=>?_⟩;have nz:⇑s≠z:=Χ (ι hz);have nTO:⇑s≠TO:=Χ (ι hO);have nTI:⇑s≠TI:=Χ (ι hI);have n1:⇑s≠i1:=by obtain⟨o,_,e,_⟩:=h1.obj;show Χ (ι e)
  have n2:⇑s≠i2:=by obtain⟨o,_,e,_⟩:=h2.obj;show Χ (ι e)
  have up: ∀q o,q≠z->h'.get? q=some o->h''.get? q=some o:=λq o hq e=>(sb.2 q hq).trans e;have hI'':IsPair h'' TI (.ref i1) (.ref i2):=up _ _ D.TIz (k' TI _ D.TIz D.TITO D.TIi1 D.TIi2 hI);have I2:Inv X ϖ σ (upd H ⇑s (.tup [x,y])) {s with heap:=h'',toks:=s.toks}:=I.turnNew (ch:=[z,TI,TO,i1,i2]) hf (λq o hq e=>by
   simp only[List.mem_cons,List.not_mem_nil,or_false,not_or] at hq;show up q o hq.1 (k' q o hq.1 hq.2.2.1 hq.2.2.2.1 hq.2.2.2.2 e)) (λq hq=>by
   simp only[List.mem_cons,List.not_mem_nil,or_false] at hq;rcases hq with rfl | rfl | rfl | rfl | rfl
   .show⟨_,z''⟩
   .show⟨_,hI''⟩
   .show⟨_,up _ _ D.TOz o'⟩
   .obtain⟨o,_,e,_⟩:=a'.obj;show⟨o,up _ o D.i1z e⟩
   .obtain⟨o,_,e,_⟩:=b'.obj;show⟨o,up _ o D.i2z e⟩) (μ _) (vals:=[u,v]) (.cons ru (.cons rv .nil)) (sz2) ⟨_,up _ _ nz t',rfl,_,rfl⟩
  show⟨.ref ⇑s,_,I2,rfl,⟨_,x,y,rfl,I.fresh,rfl,λzs hzs=>by rw[I.sqb_inj hzs hqa];show hx,λzs hzs=>by rw[I.sqb_inj hzs hqb];show hy⟩,
   ⟨z'',hI'',⟨_,_,up _ _ D.TOz o'⟩,a'.at λo e=>up _ o D.i1z e,b'.at λo e=>up _ o D.i2z e⟩,λq hq=>?_⟩
  have hq0:=(hf q hq).1;simp only[List.mem_cons,List.not_mem_nil,or_false] at hq;rw[zi]
  .show hq0
  .rcases hq with rfl | rfl | rfl | rfl | rfl
   .show Ne.symm nz
   .show Ne.symm nTI
   .show Ne.symm nTO
   .show Ne.symm n1
   .show Ne.symm n2
 done:=by
  intro X hP hw hK hc i ϖ s σ H E I hf st hg;subst hP hw hK;obtain⟨xs,ys,hqa,hqb,hx⟩:=hg;obtain⟨ia,rva,pa,za⟩:=I.sqb hqa;obtain⟨ib,rvb,pb,zb⟩:=I.sqb hqb;obtain⟨hz,hI,⟨ou,ov,hO⟩,h1,h2⟩:=st;have la:=rva.length;have lb:=rvb.length;have hT:s.TypeIs (.ref z) "zip":=⟨_,hz,rfl⟩;unfold pyNext;show γ (wpAny_attempt (wpAny_callSpecial?_slot (name:=Str.ofString "__next__") hT F.slot_zip_next (wpAny_call_entry F.slot_zip_next hT F.entry_zip_next
   (zipQ_end (I.ok.hd hc) D hz hI hO h1 h2 pa pb (hx.elim (λq=> .inl (by simp;lia)) λq=> .inr (by simp;lia)) λh' e k' he=>?_) (F.args_zip_next_1 _))))
  obtain⟨o,ho,hcl⟩:=he;show γ (wpAny_isInstance (T:="StopIteration") (b:=true) ⟨o,ho,hcl⟩ isSubtype_stop ?_);show ε ⟨rfl,I.turnOnly (tk:=s.toks) hf λq o hq e=>?_⟩;simp only[List.mem_cons,List.not_mem_nil,or_false,not_or] at hq;show k' q o hq.1 hq.2.2.1 hq.2.2.2.1 hq.2.2.2.2 e
 self:=λ_ _ s _ _ st h=>wpAny_pyIter_zip st.1 h
def XR{A:Around}(hh:A.handled=none)(j t:Addr)(ne:t≠j)(its:Array Value):Draws prog w A j [j,t] its.size (λi v=>its[i]? =some v) (λi h=>ItB b h j t i/\IsB b h t its):=by
 cases b
 .show Draws.list hh j t ne its
 .show draws_tup hh j t ne its
def call_eq{E:VSP}{s:Shared}{Q:VSP}(hT:IsB b s.heap t its)
  (k: ∀h',IsEnum h' (⇑s+1) ⇑s 0 .none->ItB b h' ⇑s t 0->(∀b o,s.heap.get? b=some o->h'.get? b=some o)->Q (.ref (⇑s+1)) {s with heap:=h'}):
  wpAny (model prog w) A (call (.type "enumerate") [.ref t]) Q E s:=by
 cases b
 .show call_enumerate_list hT λh' he hi _ hk=>k h' he hi hk
 .show call_enu hT k
def Iteq (K:W.Frag) (b:Bool) (a:Addr):It:=
 ⟨λi H=> ∃xs x,SqB K b H a xs/\xs[i]? =some x,λi H v H'=> ∃p x,v= .ref p/\H p=none/\H'=upd H p (.tup [.int (i:Int),x])/\ ∀xs,SqB K b H a xs->xs[i]? =some x,λi H=> ∃xs,SqB K b H a xs/\xs.length=i⟩
def turn_eq{b:Bool}{P:Program}{w:World}{K:W.Frag}{es:List Expr}{kt:Nat}{pt:Pos}(a e it:Addr)(hei:e≠it)(hai:a≠it)(hae:a≠e):
  Turn P w K (.Tuple es kt pt) (Iteq K b a) [e,it] e (λi h=>(∃old,IsEnum h e it i old)/\ItB b h it a i) where
 mem:=by simp
 obj:=λi h st p hb=>by
  obtain⟨⟨old,he⟩,hi⟩:=st;obtain⟨o,f,eo,d⟩:=hi.obj;rcases Ε.mp hb with rfl | hq
  .show⟨_,he,λv z=>by have z':Data.fields _=Data.cell v:=z;cases z'⟩
  .rw[ν.mp hq];show⟨o,eo,λv z=>by rw[d] at z;cases z⟩
 keep:=λi h h' st k=>⟨let ⟨old,he⟩:=st.1;⟨old,k e Sort _ he⟩,st.2.at λo x=>k it Sort o x⟩
 item:=by
  intro X hP hw hK hc i ϖ s σ H E I hf st hg;subst hP hw hK;obtain⟨xs,x,hq,hx⟩:=hg;obtain⟨its,rv,p,hz⟩:=I.sqb hq;obtain⟨u,hu,ru⟩:=rv.get hx;have W:=WalksT.enumerateD (XR (b:=b) (prog:=X.prog) (w:=X.w) (A:=X.A.in1) (I.ok.hd hc) it a hai its.toArray) e hei (by simp[hei,Ne.symm hae]) Sort;have hi:i<its.toArray.size:=by
   have:=(Η.mp hu).1;exists this
  show W.item i s _ E hi ⟨st.1,st.2,p⟩ λT vals h' tk hP hsz hT hM hk=>⟨.ref T,rfl,?_⟩;obtain⟨t,x',hx',rfl⟩:=hP;have ex:x'=u:=by
   have:its[i]? =some x':=by exists hx'
   rw[this] at hu;show Α hu
  subst ex;show W.go es kt pt i T {s with heap:=h',toks:=tk} _ E hM λh'' hst hk2=>?_;obtain⟨⟨old2,he2⟩,hit2,_⟩:=hst;have hTw:=W.apart i T h' hM;obtain⟨oT,eT,cT⟩:=hT;have I2:Inv X ϖ σ (upd H T (.tup [.int (i:Int),x])) {s with heap:=h'',toks:=tk}:=I.turnNew (ch:=[e,it]) hf (λc o hb q=>hk2 c o hb (hk c o hb q)) (λc hb=>by
   rcases Ε.mp hb with rfl | hq
   .show⟨_,he2⟩
   .rw[ν.mp hq];obtain⟨o,_,eo,_⟩:=hit2.obj;show⟨o,eo⟩) hsz (vals:=[.int i t,x']) (.cons ⟨t,rfl⟩ (.cons ru .nil)) (sz2) ⟨oT,hk2 T oT hTw eT,cT⟩
  show⟨.ref T,_,I2,rfl,⟨T,x,rfl,I.hok.fresh hsz,rfl,λys hy=>by rw[I.sqb_inj hy hq];show hx⟩,⟨⟨old2,he2⟩,hit2⟩,λc hb=>?_⟩;rw[zi (λz=>hTw (by rw[<-z];show hb))];show(hf c hb).1
 done:=by
  intro X hP hw hK hc i ϖ s σ H E I hf st hg;subst hP hw hK;obtain⟨xs,hq,hx⟩:=hg;obtain⟨its,rv,p,hz⟩:=I.sqb hq;have hl:=rv.length;have W:=WalksT.enumerateD (XR (b:=b) (prog:=X.prog) (w:=X.w) (A:=X.A.in1) (I.ok.hd hc) it a hai its.toArray) e hei (by simp[hei,Ne.symm hae]) Sort;have ei:i=its.toArray.size:=by rw[ψ];lia
  subst ei;show W.done s _ E ⟨st.1,st.2,p⟩ λh' tk hk=>⟨rfl,I.turnOnly hf hk⟩
 self:=λ_ _ s _ _ st h=>by
  obtain⟨⟨old,he⟩,_⟩:=st;show wpAny_pyIter_enum he h
structure NScope (o sc:Scope) (TN F:List Str):Prop where
 okind:o.kind= .function:=by decide +kernel
 kind:sc.kind= .function:=by decide +kernel
 names: ∀y∈sc.names,y.2= .local->sc.names.lookup y.1=some .local:=by decide +kernel
 clN: ∀y∈sc.names,y.2= .cell->sc.names.lookup y.1=some .cell:=by decide +kernel
 fr: ∀y∈sc.names,y.2= .free->o.names.lookup y.1=some .cell/\sc.names.lookup y.1=some .free:=by decide +kernel
 ff: ∀y∈F,(y,NameKind.free)∈sc.names:=by decide +kernel
theorem yd: ∀(names:List (Str×NameKind)) (n:Nat) (acc:List (Str×Addr)),cellsFrom n names acc=cellsFrom n names []++acc
 | [],n,acc=>by simp[cellsFrom]
 | (x,k)::r,n,acc=>by
  unfold cellsFrom;split
  .rw[yd r (n+1) ((x,n)::acc),yd r (n+1) [(x,n)]];simp
  .show yd r n acc
theorem yk: ∀(names:List (Str×NameKind)) (n:Nat) (acc:List (Str×Addr)) (x:Str) (c:Addr),(x,c)∈cellsFrom n names acc->(x,NameKind.cell)∈names\/(x,c)∈acc
 | [],n,acc,x,c,h=> .inr h
 | (y,k)::r,n,acc,x,c,h=>by
  unfold cellsFrom at h;split at h
  .rename_i hk
   have hk':k= .cell:=by exists hk
   subst hk';rcases yk r (n+1) ((y,n)::acc) x c h with z | z
   .show .inl (ζ _ z)
   .rcases Ε.mp z with e | z
    .cases e
     show .inl ξ
    .show .inr z
  .rcases yk r n acc x c h with z | z
   .show .inl (ζ _ z)
   .show .inr z
def ownC (n:Nat) (sc:Scope):List (Str×Addr):=cellsFrom (n+1) sc.names []
def allC (env:Env) (n:Nat) (sc:Scope):List (Str×Addr):=ownC n sc++cloF env sc.names []
theorem YB{c:α}: ∀{l r:List (Str×α)},(l++r).lookup x=some c->l.lookup x=some c\/(l.lookup x=none/\r.lookup x=some c)
 | [],r,h=> .inr ⟨rfl,h⟩
 | (y,d)::l,r,h=>by
  rw[List.cons_append,Ο] at h;rw[Ο];cases e:x==y with
  | true=>rw[e] at h;show .inl h
  | false=>rw[e] at h;show YB h
theorem YW{c:α}: ∀{l r:List (Str×α)},l.lookup x=some c->(l++r).lookup x=some c
 | [],r,h=>by cases h
 | (y,d)::l,r,h=>by
  rw[Ο] at h;rw[List.cons_append,Ο];cases e:x==y with
  | true=>rw[e] at h;show h
  | false=>rw[e] at h;show YW h
theorem WK: ∀{l r:List (Str×α)},l.lookup x=none->(l++r).lookup x=r.lookup x
 | [],r,h=>rfl
 | (y,d)::l,r,h=>by
  rw[Ο] at h;rw[List.cons_append,Ο];cases e:x==y with
  | true=>rw[e] at h;cases h
  | false=>rw[e] at h;show WK h
def NScope.own(S:NScope o sc TN F)(h:(ownC n sc).lookup x=some c):sc.names.lookup x=some .cell:=by
 rcases yk sc.names (n+1) [] x c (PySem.mem_of_lookup h) with z | z
 .show S.clN _ z rfl
 .cases z
theorem NScope.notown(S:NScope o sc TN F)(h:(x,NameKind.free)∈sc.names):(ownC n sc).lookup x=none:=by
 cases e:(ownC n sc).lookup x with
 | none=>rfl
 | some c=>
  have h1:=S.own e;rw[(S.fr _ h rfl).2] at h1;cases h1
theorem xu{env:Env}{y:Str}: ∀{names:List (Str×NameKind)},
    ((names.map fun(n,k)=>if (k==NameKind.free&&env.scope.kind== .function&&env.kindOf n==some .cell) then (n,NameKind.cell) else (n,k)).lookup y=some .cell\/
     (names.map fun(n,k)=>if (k==NameKind.free&&env.scope.kind== .function&&env.kindOf n==some .cell) then (n,NameKind.cell) else (n,k)).lookup y=some .free)->(y,NameKind.free)∈names\/(y,NameKind.cell)∈names
  | [],h=>by simp at h
  | (n,k)::r,h=>by
    have ih:=@xu env y r;have h':List.lookup y ((if (k==NameKind.free&&env.scope.kind== .function&&env.kindOf n==some .cell)=true then (n,NameKind.cell) else (n,k))::(r.map fun(n,k)=>if (k==NameKind.free&&env.scope.kind== .function&&env.kindOf n==some .cell) then (n,NameKind.cell) else (n,k)))=some .cell\/
      List.lookup y ((if (k==NameKind.free&&env.scope.kind== .function&&env.kindOf n==some .cell)=true then (n,NameKind.cell) else (n,k))::(r.map fun(n,k)=>if (k==NameKind.free&&env.scope.kind== .function&&env.kindOf n==some .cell) then (n,NameKind.cell) else (n,k)))=some .free:=h
    clear h;have more:((y,NameKind.free)∈r\/(y,NameKind.cell)∈r)->(y,NameKind.free)∈(n,k)::r\/(y,NameKind.cell)∈(n,k)::r:=λz=>z.elim (λz=> .inl (ζ _ z)) λz=> .inr (ζ _ z);cases hx:y==n with
    | true=>
      have e:y=n:=by exists hx
      subst e;by_cases hc':(k==NameKind.free&&env.scope.kind== .function&&env.kindOf y==some .cell)=true
      · have hk:k= .free:=by
          have:=(Bool.and_eq_true _ _▸(Bool.and_eq_true _ _▸hc').1).1;exists this
        subst hk;show .inl ξ
      · rw[if_neg hc'] at h'
        simp only[List.lookup_cons,beq_self_eq_true] at h';rcases h' with h' | h'
        · cases h'
          show .inr ξ
        · cases h'
          show .inl ξ
    | false=>
      by_cases hc':(k==NameKind.free&&env.scope.kind== .function&&env.kindOf n==some .cell)=true
      · rw[if_pos hc'] at h';simp only[List.lookup_cons,hx] at h';show more (ih h')
      · rw[if_neg hc'] at h';simp only[List.lookup_cons,hx] at h';show more (ih h')
def newEnv_cells{E:VSP}{s:Shared}{globals:Addr}{qual:Str}{env:Env}{Q:Env->Shared->Prop}
  (hQ: ∀h',h'.Ns ⇑s (λ_=>none)->(∀b o,s.heap.get? b=some o->h'.get? b=some o)->(∀x c,(ownC ⇑s scope).lookup x=some c->h'.IsCell c none/\⇑s<c)->((ownC ⇑s scope).Pairwise λx y=>x.2≠y.2)->
   Q {scope:=scope,locals:=⇑s,globals:=globals,cells:=ownC ⇑s scope++cl,qual:=qual,func:=none,code:=env.code,frame:=env.frame,builtins:=env.builtins} {s with heap:=h'}):
  wpAny M A (newFunctionEnv scope globals cl [] qual none .none (some env)) Q E s:=by
 simp only[newFunctionEnv,Option.isSome_some,if_true];show γ (wpAny_alloc ?_);show γ (wpAny_layCells _ (λname kind cells=>by cases hkc:kind==NameKind.cell<;>simp[hkc]) _ _ _ _ ?_);have ok:=cellsFrom_ok scope.names (s.heap.push {cls:= .type "dict",data:= .dict #[]}) (⇑s+1) [] ⟨λ_ _ hm=>(nomatch hm),List.Pairwise.nil⟩ (by rw[Φ];show μ _);rw[Φ] at ok;rw[show({s with heap:=s.heap.push {cls:= .type "dict",data:= .dict #[]}}:Shared).heap.objs.size=⇑s+1 from Φ ..];rw[yd];show γ ?_;rw[List.forIn_nil];show ε (ε ?_);show hQ _ ((Heap.Ns.new s.heap (.type "dict")).keeps (pushCells_keeps _ _)) (λb o e=>pushCells_keeps _ _ b o (δ _ e)) (λx c hc=>⟨(ok.empty x c (PySem.mem_of_lookup hc)).1,(ok.empty x c (PySem.mem_of_lookup hc)).2⟩) ok.apart
def cxN (X:Cx) (N:List Str) (sc:Scope) (cl:List (Str×Addr)) (C:Addr) (fp:List Addr) (s₃:Shared) (H₃:Hp) (xe:VSP):Cx:=
 {X with N:=N,s₀:=s₃,H₀:=H₃,env:=compEnvC sc cl C X.env,outer:=X.stack,ex:=fp,fn:=λy=>sc.names.lookup y==some .cell,pn:=[],xe:=xe}
theorem inv_compN{X:Cx}{ix:List Nat}{h4:Heap}{m:Str->Option Value}{xe:VSP}
  (S:NScope X.env.scope sc TN F) (hix:ix.map (λi=>X.N[i]?)=F.map some) (I:Inv X ϖ σ H s) (hf: ∀b∈fp,FpOk X ϖ H b) (ho: ∀b∈fp,∃o,s.heap.get? b=some o)
  (hk: ∀b o,s.heap.get? b=some o->h4.get? b=some o) (hn:h4.Ns ⇑s m) (hcl: ∀x c,(ownC ⇑s sc).lookup x=some c->h4.IsCell c none/\⇑s<c) (hap:(ownC ⇑s sc).Pairwise λx y=>x.2≠y.2):
  Inv (cxN X (TN++F) sc (allC X.env ⇑s sc) ⇑s fp s H xe) [] (List.replicate TN.length none++sub ix σ) H {s with heap:=h4,toks:=tk}:=by
 have cl0: ∀x c,(cloF X.env sc.names []).lookup x=some c->X.env.cells.lookup x=some c:=λx c e=>by
  rw[yp] at e;by_cases hx:(x,NameKind.free)∈sc.names
  .rw[if_pos hx] at e;obtain⟨c',hc'⟩:=I.ok.has x (.inl (S.fr _ hx rfl).1);rw[hc'] at e ⊢;show e
  .rw[if_neg hx] at e;cases e
 have cl: ∀x c,(allC X.env ⇑s sc).lookup x=some c->(ownC ⇑s sc).lookup x=some c\/X.env.cells.lookup x=some c:=λx c e=>by
  rcases YB e with z | ⟨_,z⟩
  .show .inl z
  .show .inr (cl0 x c z)
 have old: ∀x c,X.env.cells.lookup x=some c->c<⇑s:=λx c e=>by
  obtain⟨v,o,ho',_⟩:=I.cell x c e;show ι ho'
 have cl': ∀x,(x,NameKind.free)∈sc.names->(allC X.env ⇑s sc).lookup x=X.env.cells.lookup x:=λx hx=>by
  unfold allC;rw[WK (S.notown hx),yp,if_pos hx];obtain⟨c',hc'⟩:=I.ok.has x (.inl (S.fr _ hx rfl).1);rw[hc'];rfl
 have hlen:ix.length=F.length:=by
  have:=congrArg List.length hix;exists this
 show⟨⟨I.ok.mod,S.kind,I.ok.glob,I.ok.blt,μ _,λx y c h1 h2=>?_,λx hx=>?_,λx c z h=>?_,I.ok.hd,I.ok.frames,.inl rfl,λb hb=>⟨?_,λx c e=>?_⟩,
  I.bs,η I.ok.bsz I.sz,λb o e hb=>?_,λb hb hfs=>?_,I.stack,I.stkFree⟩,rfl,I.bare,Un.kept hk,⟨m,hn,λi x v h1 h2 h3=>?_⟩,λx c e=>?_,I.hok.fresh (μ _),λx c e=>?_,λp hp=>absurd (show p∈([]:List (Addr×Obj)) from hp) Sort,I.hok.kept hk,?_⟩
 .rcases cl x c h1 with a | a<;>rcases cl y c h2 with b | b
  .show name_of_addr hap (PySem.mem_of_lookup a) (PySem.mem_of_lookup b)
  .show absurd (old y c b) (Nat.not_lt.mpr (Υ (hcl x c a).2))
  .show absurd (old x c a) (Nat.not_lt.mpr (Υ (hcl y c b).2))
  .show I.ok.inj x y c a b
 .rcases xu (env:=X.env) hx with hx' | hx'
  .obtain⟨c,hc⟩:=I.ok.has x (.inl (S.fr _ hx' rfl).1);show⟨c,(cl' x hx').trans hc⟩
  .obtain⟨c,hc⟩:=wv (n:=⇑s+1) (S.clN _ hx' rfl);show⟨c,YW hc⟩
 .have z':sc.names.lookup x=some .cell:=by simpa[cxN] using z
  obtain⟨c',hc⟩:=wv (n:=⇑s+1) z';have hc':(allC X.env ⇑s sc).lookup x=some c':=YW hc;have h':(allC X.env ⇑s sc).lookup x=some c:=h;have ec:c'=c:=Α (hc'.symm.trans h');rw[<-ec];show Υ (hcl x c' hc).2
 .obtain⟨o,e⟩:=ho b hb;show Ι (ι e)
 .rcases cl x c e with z | z
  .obtain⟨o,eb⟩:=ho b hb;show λw=>absurd (ι eb) (by rw[<-w];show Nat.not_lt.mpr (Υ (hcl x c z).2))
  .show(hf b hb).2.2.2.2.1 x c z
 .rcases(hf b hb).2.2.2.1 with z | z
  .show I.ok.noex b o e z
  .show absurd (θ (ι e) (η I.ok.bsz z)) (Λ _)
 .rcases Ε.mp (I.stkSub b hfs) with z | z
  .show(hf b hb).2.1 z
  .show(hf b hb).2.2.1 z
 .have hi:TN.length<=i:=by
   apply Nat.le_of_not_lt
   intro hlt;rw[List.getElem?_append_left (by exists hlt),List.getElem?_replicate] at h2;split at h2<;>cases h2
  rw[List.getElem?_append_right (by exists hi),List.length_replicate] at h2;have h1':F[i-TN.length]? =some x:=by
   have:(TN++F)[i]? =some x:=h1;rw[List.getElem?_append_right hi] at this;show this
  have e3:=congrArg (λl=>l[i-TN.length]?) hix;simp only[List.getElem?_map,h1',Option.map_some] at e3;unfold sub at h2;rw[Ν] at h2;cases ej:ix[i-TN.length]? with
  | none=>rw[ej] at h2;cases h2
  | some k=>
   rw[ej] at h2 e3;have h2':(σ[k]?).join=some v:=Α h2;have e3':X.N[k]? =some x:=Α e3;have hσ:σ[k]? =some (some v):=by
    cases e:σ[k]? with
    | none=>rw[e] at h2';cases h2'
    | some q=>
     rw[e] at h2';have:q=some v:=h2';rw[this]
   have hfr:=S.ff x (Β h1');have hcell:=(S.fr _ hfr rfl).1;obtain⟨m0,hn0,hl0⟩:=I.loc;obtain⟨u,r,l⟩:=hl0 k x v e3' hσ (.inr (.inl hcell));show⟨u,r,?_⟩;rcases l with ⟨l1,_⟩ | ⟨_,c,hc,o,ho',hd⟩
   .have l1':X.env.scope.names.lookup x=some .local:=l1;rw[hcell] at l1';cases l1'
   .show .inr ⟨.inl (wa (env:=X.env) S.okind hcell (S.fr _ hfr rfl).2),c,(cl' x hfr).trans hc,o,hk c o ho',hd⟩
 .rcases cl x c e with z | z
  .show⟨_,(hcl x c z).1⟩
  .obtain⟨v,o,ho',hd⟩:=I.cell x c z;show⟨v,o,hk c o ho',hd⟩
 .rcases cl x c e with z | z
  .show I.hok.fresh (Υ (hcl x c z).2)
  .show I.freeC x c z
 .change _=(TN++F).length;rw[Ξ,Ξ,List.length_replicate];unfold sub;rw[ω,hlen]
theorem wW{X:Cx}{ix:List Nat}{tn:Nat->Heap->Prop}
  {RR:Value->Addr->Result->Shared->Prop} {E:VSP}
  (S:NScope X.env.scope sc TN F) (hix:ix.map (λi=>X.N[i]?)=F.map some) (hc:X.calm=true) (I:Inv X ϖ σ H s) (T:Turn X.prog X.w X.K tg J fp it tn) (st:tn 0 s.heap) (hf: ∀b∈fp,FpOk X ϖ H b)
  (hg: ∀cl C fp s3 H3 xe,PG (cxN X (TN++F) sc cl C fp s3 H3 xe) tg g) (ht: ∀cl C fp s3 H3 xe,PTs (cxN X (TN++F) sc cl C fp s3 H3 xe) ifs tc) (he: ∀cl C fp s3 H3 xe,PE (cxN X (TN++F) sc cl C fp s3 H3 xe) elt te)
  (hW: ∀D,H D=none->CGo J D g tc te Q (List.replicate TN.length none++sub ix σ) H)
  (fin: ∀D C H' s',Inv X ϖ σ H' s'->(∃m,s'.heap.Ns C m)->H' C=none->C≠X.env.locals->X.s₀.heap.objs.size<=C->(∀x c,X.env.cells.lookup x=some c->c≠C)->(∀p∈X.pn++ϖ,p.1≠C)->Q (.ref D) H'->RR (.ref D) C (.ok .next) s'):
  wpAny (model X.prog X.w) X.A (newList []) (λacc s₃=>wpAny (model X.prog X.w) X.A (newFunctionEnv sc X.env.globals (cloF X.env sc.names []) [] X.env.qual none .none (some X.env)) (λcenv s₄=>
   codeAny (model X.prog X.w) X.A (.compStart (.ListComp elt [⟨tg,iter,ifs,0⟩] sc pos) 0 (.ref it) acc {cenv with scope:=relabel sc X.env}) (RR acc cenv.locals) s₄) E s₃) E s:=by
 have hfo: ∀b∈fp,∃o,s.heap.get? b=some o:=λb hb=>let ⟨o,e,_⟩:=T.obj 0 _ st b hb;⟨o,e⟩
 show wpAny_newObj_type ?_;obtain⟨W,⟨m0,w0⟩,go⟩:=hW ⇑s I.fresh;have I3:Inv X ϖ σ (upd H ⇑s (.lst [])) {s with heap:=s.heap.push {cls:= .type "list",data:= .seq ([]:List Value).toArray}}:=I.lnew (its:=[]) (ys:=[]) (t':=s.toks) .nil (Θ _);generalize hs3:({s with heap:=s.heap.push {cls:= .type "list",data:= .seq ([]:List Value).toArray}}:Shared)=s3 at I3;have hk3: ∀b o,s.heap.get? b=some o->s3.heap.get? b=some o:=λb o e=>by
  rw[<-hs3];show δ _ e
 have hf3: ∀b∈fp,FpOk X ϖ (upd H ⇑s (.lst [])) b:=λb hb=>by
  obtain⟨o,e⟩:=hfo b hb;show⟨by rw[zi (Ι (ι e))];show(hf b hb).1,(hf b hb).2⟩
 have st3:tn 0 s3.heap:=T.keep 0 _ _ st λb hb o e=>hk3 b o e;change wpAny _ _ _ _ _ s3;show newEnv_cells (λh4 hn4 hk4 hcl4 hap4=>?_);generalize hR:RR (.ref ⇑s) ⇑s3=R;have loop: ∀s4:Shared,s4={s3 with heap:=h4}->
   codeAny (model X.prog X.w) X.A (.compLoop (.ListComp elt [⟨tg,iter,ifs,0⟩] sc pos) 0 (.ref it) (.ref ⇑s) (compEnvC sc (allC X.env ⇑s3 sc) ⇑s3 X.env)) R s4:=by
  rintro s4 rfl
  let X':Cx:=cxN X (TN++F) sc (allC X.env ⇑s3 sc) ⇑s3 fp s3 (upd H ⇑s (.lst [])) (notedBy (model X.prog X.w) X.A (compEnvC sc (allC X.env ⇑s3 sc) ⇑s3 X.env) λe s'=>R (.error e) s')
  have I4:Inv X' [] (List.replicate TN.length none++sub ix σ) (upd H ⇑s (.lst [])) {s3 with heap:=h4}:=
   inv_compN S hix I3 hf3 (λb hb=>let ⟨o,e⟩:=hfo b hb;⟨o,hk3 b o e⟩) hk4 hn4 hcl4 hap4
  have fpx: ∀{H':Hp},(∀b∈fp,H' b=none)-> ∀b∈fp,FpOk X' [] H' b:=λ{H'} hn b hb=>by
   show⟨hn b hb,(I4.ok.exf b hb).1,λz=>I4.ok.exfs b hb z,.inl hb,λx c e=>(I4.ok.exf b hb).2 x c e,λp hp=>absurd (show p∈([]:List (Addr×Obj)) from hp) Sort⟩
  show comp_loop (λn s'=> ∃i τ ys H',Inv X' [] τ H' s'/\tn i s'.heap/\(∀b∈fp,H' b=none)/\W i n τ ys H') ?_ m0 ⟨0,_,[],_,I4,T.keep 0 _ _ st3 λb hb o e=>hk4 b o e,λb hb=>(hf3 b hb).1,w0⟩;rintro n s5 ⟨i,τ,ys,H5,I5,st5,fr5,w5⟩;obtain⟨hD,hgo⟩:=go i n τ ys H5 w5;rcases hgo with ⟨stop,q⟩ | ⟨hgo,step⟩
  .show thn (T.done X' rfl rfl rfl hc i [] s5 τ H5 X'.xe I5 (fpx fr5) st5 stop) λr s6 ⟨hr,I6⟩=>?_;subst hr;change R (.ok .next) s6;rw[<-hR];have J6:Inv X ϖ σ H5 s6:=I3.call' (ch:=fp) I6.os I6.base I6.hok I6.bare λb hb=>⟨(hf3 b hb).2.2.2.1,(hf3 b hb).2.1,(hf3 b hb).2.2.2.2.1,(hf3 b hb).2.2.2.2.2⟩;show fin ⇑s ⇑s3 H5 s6 J6 (let ⟨m,hn,_⟩:=I6.loc;⟨m,hn⟩) I6.free (Χ I3.lt) I3.sz (λx c e z=>?_) (λp hp z=>?_) q
   .obtain⟨v,o,ho,_⟩:=I3.cell x c e;show absurd (ι ho) (by rw[z];show Λ _)
   .show absurd (ι (I3.pin p hp).1) (by rw[z];show Λ _)
  .show thn (T.item X' rfl rfl rfl hc i [] s5 τ H5 X'.xe I5 (fpx fr5) st5 hgo) λr s6 ⟨u,hr,h6⟩=>?_;subst hr;show thn h6 λ_ s7 ⟨v,H7,I7,r7,y7,st7,fr7⟩=>?_;have I7':=I7.pinned (fpx fr7) (T.obj _ _ st7);show thn (hg _ _ _ _ _ _ _ s7 τ H7 v u _ I7' r7 (step v H7 y7)) λ_ s8 ⟨τ8,H8,I8,q8⟩=>?_;show thn (ht _ _ _ _ _ _ _ s8 τ8 H8 _ I8 q8) λok s9 ⟨H9,I9,q9⟩=>?_;have again: ∀{ys':List V} {H':Hp} {s':Shared},Inv X' ([]++vG fp s7.heap) τ8 H' s'->(∃m',m'<n/\W (i+1) m' τ8 ys' H')-> ∃m,m<n/\ ∃i τ ys H'',Inv X' [] τ H'' s'/\tn i s'.heap/\(∀b∈fp,H'' b=none)/\W i m τ ys H'':=λ{ys' H' s'} I' ⟨m',hm,w'⟩=>by
    show⟨m',hm,i+1,τ8,ys',H',I'.unpinned,T.keep _ _ _ st7 λb hb o e=>(I'.pin (b,o) (Μ _ (Μ _ (yE hb e)))).1,λb hb=>?_,w'⟩;obtain⟨o,e,d⟩:=T.obj _ _ st7 b hb;show(I'.pin (b,o) (Μ _ (Μ _ (yE hb e)))).2.1
   cases ok with
   | false=>
    show again I9 q9
   | true=>
    show thn (he _ _ _ _ _ _ _ s9 τ8 H9 _ I9 q9) λx s10 ⟨y,H10,I10,r10,hD10,hz10,q10⟩=>?_;show append_ok (X:=X') I10 hD10 hz10 r10 λs11 I11=>again I11 q10
 subst hR;show codeAny_compStart_list (loop _ rfl) (T.self X.A 0 _ _ _ (T.keep 0 _ _ st3 λb hb o e=>hk4 b o e) (loop _ rfl))
section
variable {X:Cx}
def wX(S:NScope X.env.scope sc TN F)(I:Inv X ϖ σ H s):closureFor sc X.env=pure (cloF X.env sc.names []):=
 closure_eq λx hx hk=>I.ok.has x.1 (.inl (S.fr x hx hk).1)
def Yp(S:NScope X.env.scope sc TN F)(hix:ix.map (λi=>X.N[i]?)=F.map some)(hc:X.calm=true)(hi:PI X tg iter wi)
  (hg: ∀cl C fp s3 H3 xe,PG (cxN X (TN++F) sc cl C fp s3 H3 xe) tg g) (ht: ∀cl C fp s3 H3 xe,PTs (cxN X (TN++F) sc cl C fp s3 H3 xe) ifs tc) (he: ∀cl C fp s3 H3 xe,PE (cxN X (TN++F) sc cl C fp s3 H3 xe) elt te)
  (hs: ∀x,foldedSetIterable iter X.env x=pure x:=by intro _;rfl):PE X (.ListComp elt [⟨tg,iter,ifs,0⟩] sc pos) (Xb wi TN.length ix g tc te):=by
 intro ϖ s σ H Q I h;rw[eval_ListComp];show wpAny_comprehension_free (use:=none) rfl hs (wX S I) S.kind S.names (thn (hi ϖ s σ H _ I h) λv s1 h1=>thn h1 λitv s2 h2=>?_);obtain⟨it,fp,tn,J,H2,e,I2,T,st2,f2,q2⟩:=h2;subst e;show wW (RR:=λacc C=>compPost (model X.prog X.w) X.A X.xe none (EP X ϖ σ Q) acc C) S hix hc I2 T st2 f2 hg ht he q2 λD C H' s' I' hn hC1 hC2 hC3 hC4 hC5 q=>?_;obtain⟨m,hn⟩:=hn;show⟨m,hn,λh' hs'=>⟨.ref D,H',I'.turned (t':=s'.toks) (λb o hb e=>(hs'.2 b hb).trans e) hC1 hC2 (.inr hC3) hC4 hC5,rfl,q⟩⟩
def ps_setCN{spos:Pos}(hN:X.N.Nodup)(hiy:X.N[i]? =some y)(hy:X.env.scope.names.lookup y=some .local)(S:NScope X.env.scope sc TN F)(hix:ix.map (λi=>X.N[i]?)=F.map some)(hc:X.calm=true)(hi:PI X tg iter wi)
  (hg: ∀cl C fp s3 H3 xe,PG (cxN X (TN++F) sc cl C fp s3 H3 xe) tg g) (ht: ∀cl C fp s3 H3 xe,PTs (cxN X (TN++F) sc cl C fp s3 H3 xe) ifs tc) (he: ∀cl C fp s3 H3 xe,PE (cxN X (TN++F) sc cl C fp s3 H3 xe) elt te)
  (hsw:swapsWith (.ListComp elt [⟨tg,iter,ifs,0⟩] sc pos) (some (.Name y py)) spos.line X.env=pure true:=by rfl)
  (hs: ∀x,foldedSetIterable iter X.env x=pure x:=by intro _;rfl):PS X (.Assign [.Name y py] (.ListComp elt [⟨tg,iter,ifs,0⟩] sc pos) spos) (tAsg (Xb wi TN.length ix g tc te) (yj i)):=by
 intro ϖ s σ H D I h;rw[exec_Assign_Name_used _ _ _ _ hsw];show γ (wpAny_standAt (γ ?_));change wpAny _ X.A (do let _<-comprehension (.ListComp elt [⟨tg,iter,ifs,0⟩] sc pos) sc X.env _ (newList []) false (eval iter X.env) (some (assign (.Name y py) X.env))) _ _ s;show γ (wpAny_mono (wpAny_comprehension_free (use:=some (assign (.Name y py) X.env)) (Q:=λ_ s'=>SP X ϖ D .next s') rfl hs (wX S I) S.kind S.names
  (thn (hi ϖ s σ H _ I h) λv s1 h1=>thn h1 λitv s2 h2=>?_)) (λ_ s' hq=>ε (ε hq)) λ_ _ e=>e)
 obtain⟨it,fp,tn,J,H2,e,I2,T,st2,f2,q2⟩:=h2;subst e;show wW (RR:=λacc C=>compPost (model X.prog X.w) X.A X.xe (some (assign (.Name y py) X.env)) (λ_ s'=>SP X ϖ D .next s') acc C) S hix hc I2 T st2 f2 hg ht he q2 λDl C H' s' I' hn hC1 hC2 hC3 hC4 hC5 q=>?_;obtain⟨m,hn⟩:=hn;change wpAny _ X.A (assign (.Name y py) X.env (.ref Dl)) _ _ _;show wpAny_assign_Name (Zb I' hN hiy (.inl hy) (show RelV (.ref Dl) (.ref Dl) from rfl) (λs'' I'' ⟨a,hsb,ha⟩=>?_) (.inr hy));have haC:C≠a:=by
  rcases ha with z | z
  .rw[z];show hC2
  .show λz'=>hC4 y a z z'.symm
 show⟨m,hn.sameBut hsb haC,λh' hs'=>?_⟩;show⟨_,H',I''.turned (t':=s''.toks) (λb o hb e=>(hs'.2 b hb).trans e) hC1 hC2 (.inr hC3) hC4 hC5,q⟩
end
structure NBScope (o sc:Scope) (TN F G:List Str):Prop extends NScope o sc TN F where
 nd:(TN++F).Nodup:=by decide +kernel
 vis: ∀x∈TN++F,Vis (zL sc o) x:=by decide +kernel
 loc: ∀x∈TN,(zL sc o).names.lookup x=some .local\/((zL sc o).names.lookup x=some .cell/\sc.names.lookup x=some .cell):=by decide +kernel
 gl: ∀x∈G,(zL sc o).names.lookup x=some .globalImplicit:=by decide +kernel
section
variable {X:Cx}{xe:VSP}
def pgbN(S:NBScope X.env.scope sc TN F G)(i:Nat)(hN:(TN++F)[i]? =some x:=by rfl)(hT:TN[i]? =some x:=by rfl):PG (cxN X (TN++F) sc cl C fp s3 H3 xe) (.Name x pos) (yj i):=by
 rcases S.loc x (Β hT) with z | ⟨z,z'⟩
 .show ZF S.nd hN (.inl z) (.inr z)
 .show ZF S.nd hN (.inr z) (.inl (by change(sc.names.lookup x==some .cell)=true;rw[z'];rfl))
def pgb_tupN{n:Nat}(hc:X.calm=true)(h:PGs (cxN X N sc cl C fp s3 H3 xe) es t)
  (hn:(assignEach es (cxN X N sc cl C fp s3 H3 xe).env).length=n:=by rfl) (hst:(assignEach es (cxN X N sc cl C fp s3 H3 xe).env).findIdx? (·.1)=none:=by rfl):PG (cxN X N sc cl C fp s3 H3 xe) (.Tuple es k pos) (gTup X.K n t):=WA (X:=cxN X N sc cl C fp s3 H3 xe) hc h hn hst
end
end L2
namespace HT
open PySem PyProof.Rows
theorem getItem_tuple_all{t sl:Addr}{items:Array Value}{vl vu:Value}{lo hi:Option Int}{Q:VSP}(ht:IsTup s.heap t items)(hs:s.heap.IsSliceOf sl vl vu .none)(pl:IsPart vl lo)(pu:IsPart vu hi)
  (hw:sIx items.size 0 lo=0/\sIx items.size items.size hi=items.size) (h:Q (.ref t) s):wpAny (model prog w) A (getItem (.ref t) (.ref sl)) Q E s:=by
 obtain⟨os,hos,hcs,hds⟩:=id hs;have hTs:s.TypeIs (.ref sl) "slice":=⟨os,hos,hcs⟩;unfold getItem
 try with_reducible show wpAny_holding ?_
 first | show γ (ε ?_) | skip
 show γ (wpAny_sequenceKey ht.typeIs ⋯ ?_);show γ (wpAny_callSpecial?_slot (name:=Str.ofString "__getitem__") ht.typeIs PyProof.Rows.slot_tuple_getitem
  (wpAny_call_entry PyProof.Rows.slot_tuple_getitem ht.typeIs entry_tuple_getitem ?_ (args_tuple_getitem _ _)))
 change wpAny _ _ (Builtin.Tuple.tupleItemsOf (.ref t)>>=_) _ _ s;show γ (tupleItemsOf_ ht ?_);show γ (wpAny_typeOf hTs ?_);rw[if_pos ⋯];show γ (yA hs pl pu ?_);have hyes:(((sIx items.size 0 lo:Nat):Int)==0&&(1:Int)==1&&(sIx items.size items.size hi-sIx items.size 0 lo)==items.size)=true:=by
  rw[hw.1,hw.2];simp
 change wpAny _ _ (if (((sIx items.size 0 lo:Nat):Int)==0&&(1:Int)==1&&(sIx items.size items.size hi-sIx items.size 0 lo)==items.size)=true then _ else _) _ _ s;rw[if_pos hyes];show γ (m:=Builtin.Tuple.tupleIsExact _) ?_;unfold Builtin.Tuple.tupleIsExact;show γ (wpAny_typeOf ht.typeIs (ε ?_));rw[if_pos ⋯];show γ (wpAny_rule ?_)
 first
  | show ε ⟨_,rfl,ε h⟩
  | show γ (ε (ε ⟨_,rfl,ε h⟩))
  | show γ (ε ⟨_,rfl,ε h⟩)
end HT
namespace L2
open PySem PySem.Spec PyProof.Rows
section
variable {X:Cx}
def rSlG:V->Option Int->Option Int->Hp->VK->Prop:=λx lo hi H Q=> ∃a xs,x= .ref a/\H a=some (.tup xs)/\ ∀q H',Same H H'->H' q=some (.tup (cutV xs lo hi))->Q (.ref q) H'
def sl_tupG:SlR X rSlG:=by
 intro ϖ s σ H x v vl vu lo hi sl Q I rx hs pl pu h;obtain⟨a,xs,rfl,hH,q⟩:=h;by_cases hw:HT.sIx xs.length 0 lo=0/\HT.sIx xs.length xs.length hi=xs.length
 .cases rx
  obtain⟨its,r,ht,hz⟩:=I.tuple (SqT.of hH);have hlen:its.toArray.size=xs.length:=by rw[ψ];show r.length.symm
  show⟨"tuple",_,PyProof.Rows.slot_tuple_getitem.lookup,ht.typeIs,?_⟩;show HT.getItem_tuple_all ht hs pl pu (by rw[hlen];show hw) ?_;show⟨.ref a,H,I,rfl,q a H (Same.refl H) ?_⟩;have e:cutV xs lo hi=xs:=by
   unfold cutV;rw[hw.1,hw.2,List.drop_zero,Nat.sub_zero,List.take_length]
  rw[e];show hH
 .show sl_tup ϖ s σ H _ v vl vu lo hi sl Q I rx hs pl pu ⟨a,xs,rfl,SqT.of hH,hw,λp hp=>q p _ (Same.new (Same.refl H) hp) zj⟩
def rCatG:R2:=λx y H Q=> ∃a b xs ys,x= .ref a/\y= .ref b/\H a=some (.tup xs)/\H b=some (.tup ys)/\xs.length+ys.length<=1000/\ ∀q H',Same H H'->H' q=some (.tup (xs++ys))->Q (.ref q) H'
def op_catG:OpR X (binaryOp .Add) rCatG:=by
 intro ϖ s σ H x y v u Q I rx ry h;obtain⟨a,b,xs,ys,rfl,rfl,ha,hb,hz,q⟩:=h;have hz':xs.length+ys.length<=sizeLine:=η hz ⋯;by_cases hx:xs=[]
 .cases rx
  cases ry
  obtain⟨its,r1,p1,_⟩:=I.tuple (SqT.of ha);obtain⟨its2,r2,p2,_⟩:=I.tuple (SqT.of hb);obtain⟨⟨cls,dd,data,sl⟩,ho,hc,n,hd⟩:=id p1;obtain⟨⟨cls2,dd2,data2,sl2⟩,ho2,hc2,n2,hd2⟩:=id p2;simp only at hc hd hc2 hd2;subst hc hd hc2 hd2;have hv:its=[]:=r1.nil_iff.mpr hx;show concat_meets ⟨_,ho,rfl⟩ ⟨_,ho2,rfl⟩ noFill_tuple_add seq_tuple_add PySem.F.slot_tuple_add PySem.F.entry_tuple_add (PySem.F.args_tuple_add_2 _ _)
   (tuple_addW0 a b its.toArray its2.toArray n n2 dd dd2 sl sl2 (by simp[hv])) ⟨ho,ho2,?_⟩
  show⟨.ref b,H,I,rfl,q b H (Same.refl H) ?_⟩;rw[hx,List.nil_append];show hb
 .show op_catT ϖ s σ H _ _ v u Q I rx ry ⟨a,b,xs,ys,rfl,rfl,SqT.of ha,SqT.of hb,hx,hz',λe=>?_,λ_ p hp=>q p _ (Same.new (Same.refl H) hp) zj⟩;show q a H (Same.refl H) ?_;rw[e,List.append_nil];show ha
end
section
variable [DecidableEq κ]
def valV (kvs:List (κ×V)) (k:κ):Option V:=(kvs.find? λkv=>decide (kv.1=k)).map (·.2)
def putK (kvs:List (κ×V)) (k:κ) (v:V):List (κ×V):=
 if (kvs.any λkv=>decide (kv.1=k))=true then kvs.map (λkv=>if kv.1=k then (kv.1,v) else kv) else kvs++[(k,v)]
def xU{p:κ×V}{r:List (κ×V)}{k:κ}(e:p.1=k):valV (p::r) k=some p.2:=by simp[valV,List.find?_cons,e]
def xW{p:κ×V}{r:List (κ×V)}{k:κ}(e: ¬p.1=k):valV (p::r) k=valV r k:=by simp[valV,List.find?_cons,e]
theorem Z4(k:κ): ∀kvs:List (κ×V),(kvs.any λkv=>decide (kv.1=k))=(valV kvs k).isSome
 | []=>rfl
 | p::r=>by
  rw[List.any_cons];by_cases e:p.1=k
  .simp only[xU e,decide_eq_true e,Bool.true_or,Option.isSome_some]
  .rw[xW e,Ζ e,Bool.false_or];show Z4 k r
def xg(kvs:List (κ×V))(k:κ)(v:V):(putK kvs k v).length<=kvs.length+1:=by
 unfold putK;split
 .rw[ω];lia
 .rw[Ξ,List.length_cons,List.length_nil];lia
theorem RelO.isSome_eq(r:RelO o u):o.isSome=u.isSome:=by
 cases o with
 | none=>cases u with
  | none=>rfl
  | some _=>show(show False from r).elim
 | some _=>cases u with
  | none=>show(show False from r).elim
  | some _=>rfl
theorem RelO.getD(r:RelO o u)(rd:RelV d d'):RelV (o.getD d) (u.getD d'):=by
 cases o with
 | none=>cases u with
  | none=>show rd
  | some _=>show(show False from r).elim
 | some _=>cases u with
  | none=>show(show False from r).elim
  | some _=>show r
theorem KV.val{kvs:List (κ×V)}{vs:List (κ×Value)}(r:KV kvs vs)(k:κ):RelO (valV kvs k) (valueAt vs k):=by
 unfold KV at r
 induction r with
 | nil=>show True.intro
 | @cons p q ps qs h t ih=>
  obtain⟨h1,h2⟩:=h;by_cases e:p.1=k
  .have e':q.1=k:=h1.symm.trans e;have b:valueAt (q::qs) k=some q.2:=by simp[valueAt,List.find?_cons,e']
   rw[xU e,b];show h2
  .have e': ¬q.1=k:=λz=>e (h1.trans z);have b:valueAt (q::qs) k=valueAt qs k:=by simp[valueAt,List.find?_cons,e']
   rw[xW e,b];show ih
theorem KV.any{kvs:List (κ×V)}{vs:List (κ×Value)}(r:KV kvs vs)(k:κ):(kvs.any λkv=>decide (kv.1=k))=vs.any λkv=>decide (kv.1=k):=by
 unfold KV at r
 induction r with
 | nil=>rfl
 | cons h t ih=>rw[List.any_cons,List.any_cons,ih,h.1]
theorem KV.repl{kvs:List (κ×V)}{vs:List (κ×Value)}(r:KV kvs vs)(k:κ)(ry:RelV y u):
  KV (kvs.map λkv=>if kv.1=k then (kv.1,y) else kv) (vs.map λkv=>if kv.1=k then (kv.1,u) else kv):=by
 unfold KV at r ⊢
 induction r with
 | nil=>show .nil
 | @cons p q ps qs h t ih=>
  rw[List.map_cons,List.map_cons];show .cons ?_ ih;obtain⟨h1,h2⟩:=h;by_cases e:p.1=k
  .rw[if_pos e,if_pos (h1.symm.trans e)];show⟨h1,ry⟩
  .rw[if_neg e,if_neg (λz=>e (h1.trans z))];show⟨h1,h2⟩
def KV.put{kvs:List (κ×V)}{vs:List (κ×Value)}(r:KV kvs vs)(k:κ)(ry:RelV y u):KV (putK kvs k y) (stored vs k u):=by
 unfold putK stored;rw[r.any k];by_cases e:(vs.any λkv=>decide (kv.1=k))=true
 .rw[if_pos e,if_pos e];show r.repl k ry
 .rw[if_neg e,if_neg e];show Paired.snoc r ⟨rfl,ry⟩
def KV.length{kvs:List (κ×V)}{vs:List (κ×Value)}(r:KV kvs vs):kvs.length=vs.length:=Paired.length r
end
theorem vN(r:RelV (kV k) u):(zG P w).is k u=true:=by
 cases k with
 | inl i=>obtain⟨t,e⟩:=(show∃t,u=Value.int i t from r);subst e;show mixKind_int P w i t
 | inr x=>obtain⟨t,e⟩:=(show∃t,u=Value.str x t from r);subst e;show mixKind_str P w x t
theorem Zn: ∀{ks:List Key} {us:List Value},Vals (ks.map kV) us->ItemsAre (zG P w) ks us
 | [],_,r=>by rw[List.map_nil] at r;cases r;show .nil
 | k::ks,_,r=>by
  rw[List.map_cons] at r;cases r with
  | cons h t=>show .cons (vN h) (Zn t)
abbrev KT (H:Hp):List (List Key×V)->List (List Key×Addr×Value)->Prop:=Paired λp q=>p.1=q.1/\H q.2.1=some (.tup (p.1.map kV))/\RelV p.2 q.2.2
theorem KT.val(r:KT H kvs xs)(k:List Key):RelO (valV kvs k) ((atKey xs k).map (·.2)):=by
 induction r with
 | nil=>show True.intro
 | @cons p q ps qs h t ih=>
  obtain⟨h1,_,h2⟩:=h;by_cases e:p.1=k
  .have e':q.1=k:=h1.symm.trans e;have b:atKey (q::qs) k=some q.2:=by simp[atKey,List.find?_cons,e']
   rw[xU e,b];show h2
  .have e': ¬q.1=k:=λz=>e (h1.trans z);have b:atKey (q::qs) k=atKey qs k:=by simp[atKey,List.find?_cons,e']
   rw[xW e,b];show ih
theorem KT.repl(r:KT H kvs xs)(k:List Key)(ry:RelV y u):
  KT H (kvs.map λkv=>if kv.1=k then (kv.1,y) else kv) (xs.map (putAt k u)):=by
 induction r with
 | nil=>show .nil
 | @cons p q ps qs h t ih=>
  rw[List.map_cons,List.map_cons];show .cons ?_ ih;obtain⟨h1,h2,h3⟩:=h;unfold putAt;by_cases e:p.1=k
  .rw[if_pos e,if_pos (h1.symm.trans e)];show⟨h1,h2,ry⟩
  .rw[if_neg e,if_neg (λz=>e (h1.trans z))];show⟨h1,h2,h3⟩
def KT.put(r:KT H kvs xs)(k:List Key)(hb:H b=some (.tup (k.map kV)))(ry:RelV y u):
  KT H (putK kvs k y) (storedH xs k b u):=by
 have e:(kvs.any λkv=>decide (kv.1=k))=(atKey xs k).isSome:=by
  rw[Z4,(r.val k).isSome_eq,Option.isSome_map]
 unfold putK storedH;rw[e];by_cases q:(atKey xs k).isSome=true
 .rw[if_pos q,if_pos q];show r.repl k ry
 .rw[if_neg q,if_neg q];show Paired.snoc r ⟨rfl,hb,ry⟩
def KT.keeps(r:KT H kvs xs)(ht: ∀b ys,H b=some (.tup ys)->H' b=some (.tup ys)):KT H' kvs xs:=
 Paired.mapP r λ_ _ z=>⟨z.1,ht _ _ z.2.1,z.2.2⟩
def Xn(ok:HOk P w H h)(e:Rd H a u):ObjOk P w H h a u:=e.ok ok
def Zr(ok:HOk P w H h)(e:Rd H a (.dK kvs)):kvs.length<=sizeLine/\(a==sysModules)=false/\ ∃vs,KV kvs vs/\h.DictOf (zG P w) a vs:=
 show ObjOk P w H h a (.dK kvs) from Xn ok e
def XT(ok:HOk P w H h)(e:H a=some (.dK kvs)):kvs.length<=sizeLine/\(a==sysModules)=false/\ ∃vs,KV kvs vs/\h.DictOf (zG P w) a vs:=Zr ok (.inl e)
def wF{ks:List Key}(ok:HOk P w H h)(e:H a=some (.tup (ks.map kV))):(tupleKind (zG P w)).is h ks a:=by
 obtain⟨_,its,r,o,h1,h2,n,h3⟩:=(show ObjOk P w H h a (.tup (ks.map kV)) from ok a _ e);show⟨o,its.toArray,n,h1,h2,h3,by exists Zn r⟩
theorem Zq(ok:HOk P w H h)(e:Rd H a (.dT kvs)):kvs.length<=sizeLine/\(a==sysModules)=false/\
  ∃xs,KT H kvs xs/\h.DictOfH (tupleKind (zG P w)) a xs:=by
 obtain⟨z,y,xs,r,o,es,ep,h1,h2,h3,h4,h5⟩:=(show ObjOk P w H h a (.dT kvs) from Xn ok e);show⟨z,y,xs,r,o,es,ep,h1,h2,h3,h4,λx hx=>?_,h5⟩;have all: ∀{l:List (List Key×V)} {m:List (List Key×Addr×Value)},KT H l m-> ∀x∈m,(tupleKind (zG P w)).is h x.1 x.2.1:=by
  intro l m q
  induction q with
  | nil=>intro x hx;show nomatch hx
  | @cons p q ps qs hq t ih=>
   intro x hx;rcases Ε.mp hx with e | hx
   .subst e;show wF ok (by rw[<-hq.1];show hq.2.1)
   .show ih x hx
 show all r x hx
def dt_of(ok:HOk P w H h)(e:H a=some (.dT kvs)):kvs.length<=sizeLine/\(a==sysModules)=false/\
  ∃xs,KT H kvs xs/\h.DictOfH (tupleKind (zG P w)) a xs:=Zq ok (.inl e)
def DGet (H:Hp) (a:Addr) (y:V) (r:Option V):Prop:=
 (∃kvs k,Rd H a (.dK kvs)/\y=kV k/\r=valV kvs k)\/ ∃kvs k b,Rd H a (.dT kvs)/\y= .ref b/\H b=some (.tup (k.map kV))/\r=valV kvs k
def DPut (H:Hp) (a:Addr) (y v:V) (H':Hp):Prop:=
 (∃kvs k,H a=some (.dK kvs)/\y=kV k/\kvs.length<sizeLine/\H'=upd H a (.dK (putK kvs k v)))\/
 ∃kvs k b,H a=some (.dT kvs)/\y= .ref b/\H b=some (.tup (k.map kV))/\kvs.length<sizeLine/\H'=upd H a (.dT (putK kvs k v))
def DGet.k{H:Hp}{a:Addr}{kvs:List (Key×V)}{k:Key}(e:H a=some (.dK kvs)):DGet H a (kV k) (valV kvs k):= .inl ⟨kvs,k,.inl e,rfl,rfl⟩
def DPut.k{H:Hp}{a:Addr}{kvs:List (Key×V)}{k:Key}{v:V}(e:H a=some (.dK kvs))(hl:kvs.length<sizeLine):DPut H a (kV k) v (upd H a (.dK (putK kvs k v))):= .inl ⟨kvs,k,e,rfl,hl,rfl⟩
section
variable {X:Cx}{y v:V}{o:Option V}
def Inv.big(I:Inv X ϖ σ H s):sysModules<⇑s:=by
 have h:mainGlobals<⇑s:=(I.mod.glob.keeps I.bk).lt;show Nat.lt_trans ⋯ h
def d_getItem{Q:VSP}(hu:A.units+1<cLine)(I:Inv X ϖ σ H s)(g:DGet H a y (some v))(ry:RelV y u)(h: ∀w' s',Inv X ϖ σ H s'->RelV v w'->Q w' s'):
  wpAny (model X.prog X.w) A (getItem (.ref a) u) Q E s:=by
 rcases g with ⟨kvs,k,e,ey,l⟩ | ⟨kvs,k,b,e,ey,eb,l⟩
 .subst ey;obtain⟨z,hd,vs,rel,dd⟩:=Zr I.hok e;obtain⟨w',hw,rw'⟩:=RelO.some_of (v:=v) (o:=valueAt vs k) (by rw[l];show rel.val k);show wpAny_getItem_of (vN ry) dd.mapOf hw (h w' _ (I.tok _) rw')
 .subst ey;cases (show u=Value.ref b from ry)
  obtain⟨z,hd,xs,rel,dd⟩:=Zq I.hok e;obtain⟨w',hw,rw'⟩:=RelO.some_of (v:=v) (o:=(atKey xs k).map (·.2)) (by rw[l];show rel.val k);obtain⟨p,hp,hp2⟩:=Option.map_eq_some_iff.mp hw;show wpAny_getItem_heap (tupleKind_room_in1 hu) (wF I.hok eb) dd hp ?_;rw[hp2];show h w' _ (I.tok _) rw'
def d_in{Q:VSP}(hu:A.units+1<cLine)(I:Inv X ϖ σ H s)(g:DGet H a y o)(ry:RelV y u)(h: ∀s',Inv X ϖ σ H s'->Q (.bool o.isSome) s'):
  wpAny (model X.prog X.w) A (compareOp .In u (.ref a)) Q E s:=by
 rcases g with ⟨kvs,k,e,ey,l⟩ | ⟨kvs,k,b,e,ey,eb,l⟩
 .subst ey;obtain⟨z,hd,vs,rel,dd⟩:=Zr I.hok e;show wpAny_in_of (vN ry) hd dd.mapOf ?_;rw[<-(rel.val k).isSome_eq,<-l];show h _ (I.tok _)
 .subst ey;cases (show u=Value.ref b from ry)
  obtain⟨z,hd,xs,rel,dd⟩:=Zq I.hok e;show wpAny_in_heap (tupleKind_room_in1 hu) (wF I.hok eb) hd dd ?_;have q:=(rel.val k).isSome_eq;rw[Option.isSome_map] at q;rw[<-q,<-l];show h _ (I.tok _)
def d_notIn{Q:VSP}(hu:A.units+1<cLine)(I:Inv X ϖ σ H s)(g:DGet H a y o)(ry:RelV y u)(h: ∀s',Inv X ϖ σ H s'->Q (.bool (!o.isSome)) s'):
  wpAny (model X.prog X.w) A (compareOp .NotIn u (.ref a)) Q E s:=by
 rcases g with ⟨kvs,k,e,ey,l⟩ | ⟨kvs,k,b,e,ey,eb,l⟩
 .subst ey;obtain⟨z,hd,vs,rel,dd⟩:=Zr I.hok e;show wpAny_notIn_of (vN ry) hd dd.mapOf ?_;rw[<-(rel.val k).isSome_eq,<-l];show h _ (I.tok _)
 .subst ey;cases (show u=Value.ref b from ry)
  obtain⟨z,hd,xs,rel,dd⟩:=Zq I.hok e;show wpAny_notIn_heap (tupleKind_room_in1 hu) (wF I.hok eb) hd dd ?_;have q:=(rel.val k).isSome_eq;rw[Option.isSome_map] at q;rw[<-q,<-l];show h _ (I.tok _)
def ZV(I:Inv X ϖ σ H s)(mu:Mut (H a))(hs:Heap.SameBut a s.heap h')(he: ∃q,h'.get? a=some q)(new:ObjOk X.prog X.w (upd H a ob) h' a ob):
  Inv X ϖ σ (upd H a ob) {s with heap:=h',toks:=t'}:=
 I.write (x:=a) (e:=a) mu (.inl rfl) (λb q hb z=>(hs.2 b hb).trans z) he new
def WU{h':Heap}{kvs:List (Key×V)}(z:kvs.length<=sizeLine)(hd:(a==sysModules)=false)(rel:KV kvs vs)(dd:h'.DictOf (zG P w) a vs):
  ObjOk P w H' h' a (.dK kvs):=⟨z,hd,vs,rel,dd⟩
def d_setItem{H':Hp}{Q:Unit->Shared->Prop}(hu:A.units+1<cLine)(I:Inv X ϖ σ H s)(g:DPut H a y v H')(ry:RelV y u)(rv:RelV v r)(h: ∀s',Inv X ϖ σ H' s'->Q () s'):
  wpAny (model X.prog X.w) A (setItem (.ref a) u r) Q E s:=by
 rcases g with ⟨kvs,k,e,ey,l,eH⟩ | ⟨kvs,k,b,e,ey,eb,l,eH⟩
 .subst ey eH;obtain⟨z,hd,vs,rel,dd⟩:=XT I.hok e;have hz:vs.length<=sizeLine:=by rw[<-rel.length];show z
  have hl:(putK kvs k v).length<=sizeLine:=by have:=xg kvs k v;lia
  show wpAny_setItem_pairs (hsz:=hz) (vN ry) dd λh' dd' hs=>h _ ?_;have he: ∃q,h'.get? a=some q:=let ⟨q,_,_,hq,_⟩:=dd';⟨q,hq⟩
  show ZV I (by rw[e];show True.intro) hs he (WU hl hd (rel.put k rv) dd')
 .subst ey eH;cases (show u=Value.ref b from ry)
  obtain⟨z,hd,xs,rel,dd⟩:=dt_of I.hok e;have hz:xs.length<=sizeLine:=by rw[<-Paired.length rel];show z
  have hl:(putK kvs k v).length<=sizeLine:=by have:=xg kvs k v;lia
  show wpAny_setItem_heap (hsz:=hz) (tupleKind_room_in1 hu) (wF I.hok eb) dd λh' dd' hs=>h _ ?_;obtain⟨q,es,ep,hq,h2,h3,h4,_,h5⟩:=dd';show ZV I (by rw[e];show True.intro) hs ⟨q,hq⟩ ⟨hl,hd,_,(rel.put k eb rv).keeps λc ys ec=>?_,q,es,ep,hq,h2,h3,h4,h5⟩;rw[zi (Vw ec e (λz=>nomatch z))];show ec
end
def dict_typeIs(I:Inv X ϖ σ H s)(g:DGet H a y o):s.TypeIs (.ref a) "dict":=by
 rcases g with ⟨kvs,k,e,_,_⟩ | ⟨kvs,k,b,e,_,_,_⟩
 .obtain⟨_,_,vs,_,dd⟩:=Zr I.hok e;show dd.typeIs
 .obtain⟨_,_,xs,_,dd⟩:=Zq I.hok e;show dd.typeIs
def YF(h:Heap)(hb:sysModules<h.objs.size):ObjOk P w H (h.push {cls:= .type "dict",data:= .dict #[]}) h.objs.size (.dK []):=
 ⟨Θ _,beq_eq_false_iff_ne.mpr (Ne.symm (Ι hb)),[],.nil,Heap.DictOf.new h⟩
def Wd:TE:=λ_ H Q=> ∀p,H p=none->Q (.ref p) (upd H p (.dK []))
section
variable {X:Cx}
def pe_dnewK:PE X (.Dict [] [] pos) Wd:=λϖ s σ H Q I h=>
 wpAny_Dict_empty ⟨.ref ⇑s,_,I.laid (a:=⇑s) (o:= .dK []) (t':=s.toks) (λ_ _ q=>δ _ q) (μ _) (YF s.heap I.big),rfl,h _ (I.hok.fresh (μ _))⟩
end
def Zy:List (TE×TE)->St->Hp->(List (V×V)->Hp->Prop)->Prop
 | [],_,H,Q=>Q [] H
 | (tk,tv)::r,σ,H,Q=>tk σ H λx H1=>tv σ H1 λy H2=>Zy r σ H2 λps H3=>Q ((x,y)::ps) H3
abbrev VV:List (V×V)->List (Value×Value)->Prop:=Paired λp q=>RelV p.1 q.1/\RelV p.2 q.2
def PPs (X:Cx) (pos:Pos) (keys:List (Option Expr)) (values:List Expr) (trs:List (TE×TE)):Prop:=
 ∀(ϖ:List (Addr×Obj)) (s:Shared) (σ:St) (H:Hp) (Q:List (V×V)->Hp->Prop),Inv X ϖ σ H s->Zy trs σ H Q->
  wpAny (model X.prog X.w) X.A (evalPairs (pairTrees keys values X.env pos)) (λvs s'=> ∃ps H',Inv X ϖ σ H' s'/\VV ps vs/\Q ps H') X.xe s
def pps_nil:PPs X pos [] [] []:=λϖ s σ H Q I h=>pairTrees_nil_walk ⟨[],H,I,.nil,h⟩
def Yn(hk:PE X k tk)(hv:PE X v tv)(hr:PPs X pos ks vs trs):
  PPs X pos (some k::ks) (v::vs) ((tk,tv)::trs):=λϖ s σ H Q I h=>
 pairTrees_cons_walk (thn (hk ϖ s σ H _ I h) λu s1 ⟨x,H1,I1,rx,q1⟩=>thn (hv ϖ s1 σ H1 _ I1 q1) λw2 s2 ⟨y,H2,I2,ry,q2⟩=>
  thn (hr ϖ s2 σ H2 _ I2 q2) λws s3 ⟨ps,H3,I3,rel,q3⟩=>⟨(x,y)::ps,H3,I3,.cons ⟨rx,ry⟩ rel,q3⟩)
def y9 (kvs more:List (Key×V)):List (Key×V):=more.foldl (λacc kv=>putK acc kv.1 kv.2) kvs
theorem KV.merge: ∀{more:List (Key×V)} {rs:List (Key×Value)} {kvs:List (Key×V)} {vs:List (Key×Value)},KV more rs->KV kvs vs->KV (y9 kvs more) (merged vs rs):=by
 intro more rs kvs vs r;unfold KV at r
 induction r generalizing kvs vs with
 | nil=>intro q;show q
 | @cons p q ps qs h t ih=>
  intro r0;have e:KV (putK kvs p.1 p.2) (stored vs q.1 q.2):=by
   have:=r0.put p.1 h.2;rw[<-h.1];show this
  show ih e
theorem xv: ∀(more kvs:List (Key×V)),(y9 kvs more).length<=kvs.length+more.length
 | [],kvs=>by change kvs.length<=kvs.length+0;lia
 | p::r,kvs=>by
  have h1:=xv r (putK kvs p.1 p.2);have h2:=xg kvs p.1 p.2;change(y9 (putK kvs p.1 p.2) r).length<=_;rw[List.length_cons];lia
theorem vX: ∀{kvs:List (Key×V)} {ws:List (Value×Value)},VV (kvs.map λkv=>(kV kv.1,kv.2)) ws-> ∃rs,Carries (zG P w) ws rs/\KV kvs rs
 | [],_,r=>by rw[List.map_nil] at r;cases r;show⟨[],True.intro,.nil⟩
 | p::kvs,_,r=>by
  rw[List.map_cons] at r;cases r with
  | @cons a b as bs h t=>
   obtain⟨rs,c,q⟩:=vX (P:=P) (w:=w) t;obtain⟨b1,b2⟩:=b;show⟨(p.1,b2)::rs,⟨vN h.1,rfl,c⟩,.cons ⟨rfl,h.2⟩ q⟩
def W9 (trs:List (TE×TE)):TE:=fun σ H Q=> ∀p,H p=none->Zy trs σ (upd H p (.dK [])) λps H2=>H2 p=some (.dK [])/\ ∃kvs:List (Key×V),ps=kvs.map (λkv=>(kV kv.1,kv.2))/\kvs.length<=15/\Q (.ref p) (upd H2 p (.dK (y9 [] kvs)))
def pe_disp(h:PPs X pos keys values trs)(hall:keys.all (·.isSome)=true)(hl:keys.length=values.length)(h0:keys≠[])
  (h15:keys.length<=15):PE X (.Dict keys values pos) (W9 trs):=by
 intro ϖ s σ H Q I q;have hn:=I.hok.fresh (μ ⇑s);have I1:=I.laid (a:=⇑s) (o:= .dK []) (h':=s.heap.push {cls:= .type "dict",data:= .dict #[]}) (t':=s.toks) (λ_ _ q=>δ _ q) (μ _) (YF s.heap I.big);show wpAny_Dict_walk (knd:=zG X.prog X.w) hall hl h0 h15 (thn (h ϖ _ σ _ _ I1 (q _ hn)) λws s2 ⟨ps,H2,I2,rel,e,kvs,ep,lk,q2⟩=>?_);subst ep;obtain⟨rs,c,rk⟩:=vX (P:=X.prog) (w:=X.w) rel;obtain⟨z,hd,vs0,r0,dd⟩:=XT I2.hok e;cases r0
 show⟨rs,c,dd,λh' dd' hs=>⟨.ref ⇑s,_,?_,rfl,q2⟩⟩;have hz:(y9 [] kvs).length<=sizeLine:=by
  have h1:=xv kvs [];rw[List.length_nil] at h1;rw[sizeLine_eq];lia
 have he: ∃q,h'.get? ⇑s=some q:=let ⟨q,_,_,hq,_⟩:=dd';⟨q,hq⟩
 show ZV I2 (by rw[e];show True.intro) hs he (WU hz hd (rk.merge .nil) dd')
section
variable {X:Cx}{y d:V}{o:Option V}
def d_get2{Q:VSP}(hu:A.units+1<cLine)(I:Inv X ϖ σ H s)(g:DGet H a y o)(ry:RelV y u)(rd:RelV d r)(h: ∀w' s',Inv X ϖ σ H s'->RelV (o.getD d) w'->Q w' s'):
  wpAny (model X.prog X.w) A (call (.builtin "dict.get") [.ref a,u,r]) Q E s:=by
 rcases g with ⟨kvs,k,e,ey,l⟩ | ⟨kvs,k,b,e,ey,eb,l⟩
 .subst ey;obtain⟨z,hd,vs,rel,dd⟩:=Zr I.hok e;show call_meetsIn PySem.F.slot_dict_get dd.typeIs PySem.F.entry_dict_get (PySem.F.args_dict_get_3 _ _ _) (meets_dict_get_default (zG X.prog X.w) a (vN ry) hd r) ⟨_,dd.mapOf,h _ _ (I.tok _) ?_⟩;rw[l];show(rel.val k).getD rd
 .subst ey;cases (show u=Value.ref b from ry)
  obtain⟨z,hd,xs,rel,dd⟩:=Zq I.hok e;show call_meetsIn PySem.F.slot_dict_get dd.typeIs PySem.F.entry_dict_get (PySem.F.args_dict_get_3 _ _ _) (meetsH_dict_get_default (tupleKind (zG X.prog X.w)) a b hd r) ⟨tupleKind_room_in1 hu,k,xs,wF I.hok eb,dd,h _ _ (I.tok _) ?_⟩;rw[l];show(rel.val k).getD rd
end
structure Fly (lo:Nat) (h:Heap) (H:Hp) (a:Addr) (T:Option Addr) (C:Value) (d:Option Addr) (fl:Value):Prop where
 at_: ∃(vs:Array Value) (sl:Array (Option Value)),h.get? a=some ⟨C,d,.fields vs,sl⟩/\
  (match T with
   | none=>vs[1]? =some .none
   | some t=>vs[1]? =some (.ref t)/\t≠a/\ ∃oT ts,h.get? t=some oT/\oT.data= .fields ts/\ts[3]? =some fl)
 lo: ∀b∈a::T.toList,lo<=b/\H b=none
def Fly.mono{lo lo':Nat}{h:Heap}{H:Hp}{a:Addr}{T:Option Addr}{C:Value}{d:Option Addr}{fl:Value}(f:Fly lo h H a T C d fl)(hl:lo'<=lo):Fly lo' h H a T C d fl:=
 ⟨f.at_,λb hb=>⟨η hl (f.lo b hb).1,(f.lo b hb).2⟩⟩
theorem Fly.rcd{lo:Nat}{h:Heap}{H:Hp}{a:Addr}{T:Option Addr}{C:Value}{d:Option Addr}{fl:Value}(f:Fly lo h H a T C d fl): ∀b∈a::T.toList,∃o vs,h.get? b=some o/\o.data= .fields vs:=by
 obtain⟨vs,sl,ha,hT⟩:=f.at_;intro b hb;rcases Ε.mp hb with e | hb
 .rw[e];show⟨_,vs,ha,rfl⟩
 .cases T with
  | none=>cases hb
  | some t=>
   obtain⟨_,_,oT,ts,h1,h2,_⟩:=hT;rcases ν.mp hb with rfl;show⟨oT,ts,h1,h2⟩
def ZO{P:Program}{w:World}{fs ch:List Addr}{H:Hp}{h h':Heap}(ok:HOk P w H h)(k: ∀b o,h.get? b=some o->b∉fs->b∉ch->h'.get? b=some o)(hf: ∀b∈fs,H b=none)(hc: ∀b∈ch,H b=none):HOk P w H h':=λa o e=>by
 have st: ∀b u,H b=some u-> ∀ob,h.get? b=some ob->h'.get? b=some ob:=λb u hb ob q=>k b ob q (λz=>by rw[hf b z] at hb;cases hb) λz=>by rw[hc b z] at hb;cases hb
 show(ok a o e).stay (λb u hb q=>?_) (λ_ q=>q) λ_ _ q=>q;rcases hb with rfl | hb
 .show st _ _ e _ q
 .show st _ _ hb _ q
def X5{h h':Heap}(k: ∀b o,h.get? b=some o->b∉fs->b∉ch->h'.get? b=some o)(sl: ∀b o,h.get? b=some o->b∉ch-> ∃z,h'.get? b=some {o with slots:=z}):Un fs ch H H h h' where
 keep:=λb o q _ hb hx=>k b o q hb hx
 slot:=λb o q _ _ hx=>sl b o q hx
 free:=λb o _ n _=>n
 there:=λb o q hx=>let ⟨_,e⟩:=sl b o q hx;⟨_,e⟩
 tups:=λ_ _ q=>q
 frzs:=λ_ _ _ q=>q
 tbls:=λb ps e=>⟨#[],by rw[e];simp⟩
section
variable {L:Addr}{lo:Nat}
def ZT(hfr:A.frames=some (env::outer))(hl:s.heap.FunFrames base (env::outer))(hf:env.frame=some L)
  (he:s.heap.get? a=some oe) (hd:oe.data= .fields vs) (hsz:1<vs.size)
  (h: ∀h' T',⇑s<=T'->T'≠a->h'.get? a=some {oe with data:= .fields (vs.setIfInBounds 1 (.ref T'))}->(∃oT ts,h'.get? T'=some oT/\oT.data= .fields ts/\ts[3]? =some (rawInt L))->
   (∀b o,s.heap.get? b=some o->b∉frs (env::outer)->b≠a->h'.get? b=some o)->(∀b o,s.heap.get? b=some o->b≠a-> ∃z,h'.get? b=some {o with slots:=z})->Q () {s with heap:=h'}):
  wpAny M A (do let x<-frameOf env;let pl<-entryPlaceOf L hadNext;let b<-EntryCells.newEntry head x .none (rawInt L) .none pl;setField (.ref a) 1 b) Q E s:=by
 have hene:a∉(env::outer).filterMap (·.frame):=λhm=>by
  obtain⟨_,o,ho,hnf⟩:=hl.mem hm;rw[he] at ho;injection ho with ho;subst ho;show hnf vs hd
 show γ (wpAny_frameOf_fun hfr hl hf λh₁ hs₁=>?_);show γ (wpAny_entryPlaceOf λpl hpl=>?_);unfold EntryCells.newEntry newFields;show γ (wpAny_newObj_type ?_ (hpl.sizeOk5 _ _ _ _ _));have he₁:h₁.get? a=some oe:=(hs₁.2.1 a hene).trans he;have he₂:=δ (h:=h₁) {cls:= .type "traceback",dict:=none,data:= .fields ([head,.ref L,.none,rawInt L,.none]++(if pl.isEmpty then List.replicate 6 Value.none else pl)).toArray} he₁;show wpAny_setField he₂ hd hsz ?_;have hTe:h₁.objs.size≠a:=Χ (ι he₁);have hd₃:=Obj.data_mapFields hd (·.setIfInBounds 1 (Value.ref h₁.objs.size));have he₃:=Heap.get?_update_self (Obj.mapFields (·.setIfInBounds 1 (Value.ref h₁.objs.size))) he₂ (Obj.isFreed_of_fields hd₃);have hT₃:=(Heap.get?_update_other (h₁.push {cls:= .type "traceback",dict:=none,data:= .fields ([head,.ref L,.none,rawInt L,.none]++(if pl.isEmpty then List.replicate 6 Value.none else pl)).toArray})
  (Obj.mapFields (·.setIfInBounds 1 (Value.ref h₁.objs.size))) (Ne.symm hTe)).trans (ο h₁ rfl)
 have keep: ∀b o,b≠a->h₁.get? b=some o->
   ((h₁.push {cls:= .type "traceback",dict:=none,data:= .fields ([head,.ref L,.none,rawInt L,.none]++(if pl.isEmpty then List.replicate 6 Value.none else pl)).toArray}).update a (Obj.mapFields (·.setIfInBounds 1 (Value.ref h₁.objs.size)))).get? b=some o:=
  λb o hbe hb=>by
   rw[Heap.get?_update_other _ _ (Ne.symm hbe)];show δ _ hb
 have hmf:Obj.mapFields (·.setIfInBounds 1 (Value.ref h₁.objs.size)) oe={oe with data:= .fields (vs.setIfInBounds 1 (.ref h₁.objs.size))}:=by
  obtain⟨oc,od,odt,osl⟩:=oe;have:odt= .fields vs:=hd;subst this;rfl
 show h _ h₁.objs.size (Nat.le_of_eq hs₁.1.symm) hTe (by rw[<-hmf];show he₃) ⟨_,_,hT₃,rfl,?_⟩ (λb o hb hnf hne=>keep b o hne ((hs₁.2.1 b hnf).trans hb)) λb o hb hne=>?_
 .first | (simp;done) | (rcases hpl with rfl | ⟨_,_,_,_,_,_,_,rfl⟩<;>simp)
 .obtain⟨z,hz⟩:=hs₁.2.2 b o hb;show⟨z,keep b _ hne hz⟩
theorem WI(hfr:A.frames=some (env::outer))(hl:s.heap.FunFrames base (env::outer))(hf:env.frame=some L)(F:Fly lo s.heap H a T C d .none)(hlo:lo<=⇑s)(hH: ∀b,⇑s<=b->H b=none)
  (h: ∀h' T',Fly lo h' H a (some T') C d (rawInt L)->⇑s<=T'->(∀b o,s.heap.get? b=some o->b∉frs (env::outer)->b∉a::T.toList->h'.get? b=some o)->
   (∀b o,s.heap.get? b=some o->b∉a::T.toList-> ∃z,h'.get? b=some {o with slots:=z})->Q () {s with heap:=h'}):
  wpAny M A (noteFrame (.ref a) env) Q E s:=by
 obtain⟨⟨vs,sl,ha,hT⟩,hlow⟩:=F;unfold noteFrame;simp only[hf];cases T with
 | none=>
  show γ (Κ ha rfl hT ?_);rw[if_neg ⋯];show ZT hfr hl hf ha rfl (Array.getElem?_eq_some_iff.mp hT).1 λh' T' hs hne he htb k1 k2=>?_;obtain⟨oT,ts,t1,t2,t3⟩:=htb;show h h' T' ⟨⟨_,sl,he,by simp[(Array.getElem?_eq_some_iff.mp hT).1],hne,oT,ts,t1,t2,t3⟩,λb hb=>?_⟩ hs (λb o hb hn hc=>k1 b o hb hn λz=>hc (by simp[z])) λb o hb hc=>k2 b o hb λz=>hc (by simp[z]);rcases Ε.mp hb with e | hb
  .rw[e];show hlow a ξ
  .rcases ν.mp hb with rfl;show⟨η hlo hs,hH _ hs⟩
 | some t=>
  obtain⟨h1,hta,oT,ts,g1,g2,g3⟩:=hT;show γ (Κ ha rfl h1 ?_);rw[if_pos (show(Value.ref t !=Value.none)=true from by simp)];show γ (Κ g1 g2 g3 ?_);rw[if_neg (show¬((Value.none==rawInt L)=true) from by simp[rawInt])];show γ (wpAny_setField g1 g2 (Array.getElem?_eq_some_iff.mp g3).1 ?_);have other: ∀b,b≠t->(s.heap.update t (Obj.mapFields (·.setIfInBounds 3 Value.none))).get? b=s.heap.get? b:=λb hb=>Heap.get?_update_other _ _ (Ne.symm hb);have noRecord: ∀b o,s.heap.get? b=some o->(∀vs,o.data≠.fields vs)->b≠t:=λb o hb hnf q=>by
   rw[q,g1] at hb;injection hb with hb;subst hb;show hnf ts g2
  have szu:(s.heap.update t (Obj.mapFields (·.setIfInBounds 3 Value.none))).objs.size=⇑s:=Heap.size_after_update ..;show ZT (s:={s with heap:=s.heap.update t (Obj.mapFields (·.setIfInBounds 3 Value.none))}) hfr (hl.of_keeps λb o hb hnf=>⟨o,(other b (noRecord b o hb hnf)).trans hb,rfl⟩) hf ((other a (Ne.symm hta)).trans ha) rfl (Array.getElem?_eq_some_iff.mp h1).1 λh' T' hs hne he htb k1 k2=>?_;have hs':⇑s<=T':=by
   have hs:(s.heap.update t (Obj.mapFields (·.setIfInBounds 3 Value.none))).objs.size<=T':=hs;rw[szu] at hs;show hs
  obtain⟨oT',ts',t1,t2,t3⟩:=htb;show h h' T' ⟨⟨_,sl,he,by simp[(Array.getElem?_eq_some_iff.mp h1).1],hne,oT',ts',t1,t2,t3⟩,λb hb=>?_⟩ hs' (λb o hb hn hc=>k1 b o ((other b λz=>hc (by simp[z])).trans hb) hn λz=>hc (by simp[z])) λb o hb hc=>k2 b o ((other b λz=>hc (by simp[z])).trans hb) λz=>hc (by simp[z]);rcases Ε.mp hb with e | hb
  .rw[e];show hlow a ξ
  .rcases ν.mp hb with rfl;show⟨η hlo hs',hH _ hs'⟩
def YX(F:Fly lo s.heap H a (some t) C d fl)
  (h: ∀h',Fly lo h' H a (some t) C d .none->(∀b o,s.heap.get? b=some o->b≠t->h'.get? b=some o)->Q () {s with heap:=h'}):wpAny M A (setFlight (.ref a) none) Q E s:=by
 obtain⟨⟨vs,sl,ha,h1,hta,oT,ts,g1,g2,g3⟩,hlow⟩:=F;have hsz3:3<ts.size:=(Array.getElem?_eq_some_iff.mp g3).1;have other: ∀b,b≠t->(s.heap.update t (Obj.mapFields (·.setIfInBounds 3 ((none:Option Addr).elim Value.none λf=>rawInt f)))).get? b=s.heap.get? b:=
  λb hb=>Heap.get?_update_other _ _ (Ne.symm hb)
 unfold setFlight;show γ (Κ ha rfl h1 ?_);rw[if_pos (show(Value.ref t !=Value.none)=true from by simp)];show wpAny_setField g1 g2 hsz3 (h _ ⟨⟨vs,sl,(other a (Ne.symm hta)).trans ha,h1,hta,_,_,Heap.get?_update_self _ g1 (Obj.isFreed_of_fields (Obj.data_mapFields g2 _)),Obj.data_mapFields g2 _,by simp[hsz3]⟩,hlow⟩ λb o hb hn=>(other b hn).trans hb)
end
def CXE (P:Program) (w:World):CXT:=λouter H s E e s'=> ∃(a:Addr) (T:Option Addr) (C:Value) (d:Option Addr) (H':Hp),e= .ref a/\s'.os=s.os/\AllBare s'.gens/\Un (frs outer) [] H H' s.heap s'.heap/\
 HOk P w H' s'.heap/\Fly ⇑s s'.heap H' a T C d .none/\E C d H'
def Lands (X:Cx) (EX:St->XK):Prop:= ∀(ϖ:List (Addr×Obj)) (σ:St) (H:Hp) (s:Shared) (a:Addr) (T:Option Addr) (C:Value) (d:Option Addr),Inv X ϖ σ H s->Fly X.s₀.heap.objs.size s.heap H a T C d .none->
 (∀p∈X.pn,p.1∉a::T.toList)->EX σ C d H->X.xe (.ref a) s
def Un.more{h'':Heap}(u:Un fs [] H H' h h')(k: ∀b o,b<h.objs.size->h'.get? b=some o->b∉fs->h''.get? b=some o)(sl: ∀b o,b<h.objs.size->h'.get? b=some o-> ∃z,h''.get? b=some {o with slots:=z}):Un fs [] H H' h h'' where
 keep:=λb o q n hb hx=>k b o (ι q) (u.keep b o q n hb hx) hb
 slot:=λb o q n hb hx=>by
  obtain⟨z,e⟩:=u.slot b o q n hb hx;obtain⟨z',e'⟩:=sl b _ (ι q) e;show⟨z',e'⟩
 free:=u.free
 there:=λb o q hx=>by
  obtain⟨o',e⟩:=u.there b o q hx;obtain⟨z,e'⟩:=sl b _ (ι q) e;show⟨_,e'⟩
 tups:=u.tups
 frzs:=u.frzs
 tbls:=u.tbls
def Lands.passes{X:Cx}{EX:St->XK}(L:Lands X EX){ϖ:List (Addr×Obj)}{σ:St}{H:Hp}{s s':Shared}{e:Value}(I:Inv X ϖ σ H s)(h:CXE X.prog X.w X.stack H s (EX σ) e s'):X.xe e s':=by
 obtain⟨a,T,C,d,H',rfl,os,bare,un,hok,F,hE⟩:=h;have I':Inv X ϖ σ H' s':=I.call' (ch:=[]) os un hok bare λb hb=>nomatch hb;show L ϖ σ H' s' a T C d I' (F.mono I.sz) (λp hp hc=>?_) hE;have q:=(I.pin p (Ψ _ hp)).1;show absurd (θ (ι q) (F.lo _ hc).1) (Λ _)
def Wf (sp:Sp) (EX:St->XK) (t:TA):TE:=fun σ H Q=>t σ H λvs H1=>sp vs H1 Q (EX σ)
section
variable {X:Cx}{f:Addr}
theorem run_fnX(F:FnOk X.prog X.w X.K X.mg X.base (CXE X.prog X.w) k f fd ps sp)(hr:Room k X.A)(hb:Binds X.K fd ps [])(hx:Lands X EX)
  (I:Inv X ϖ σ H s) (r:Vals vs us) (h:sp vs H Q (EX σ)):wpAny (model X.prog X.w) X.A (call (.ref f) us) (EP X ϖ σ Q) X.xe s:=by
 have hl:us.length=ps.length:=by rw[<-r.length];show F.len _ _ _ _ h
 have hb':=hb s us I.kIn (by rw[List.append_nil];show hl);rw[List.append_nil] at hb';show wpAny_call (codeAny_mono (F.run X.A X.stack s H ⟨us,[]⟩ us vs Q (EX σ) hr I.env0 hb' r h) λr s' hq=>?_);cases r with
 | error e=>show hx.passes I hq
 | ok fl=>
  cases fl with
  | ret u=>show I.after hq
  | next=>show False.elim hq
  | brk=>show False.elim hq
  | cont=>show False.elim hq
def HasX (P:Program) (w:World) (K:W.Frag) (mg:Str->Option Value) (base:Heap) (k:Nat) (x:Str) (ps:List Str) (sp:Sp):Prop:=
 ∃(f:Addr) (fd:FuncData),FnOk P w K mg base (CXE P w) k f fd ps sp/\mg x=some (.ref f)/\W.keepIn K (.ref f)=true/\Binds K fd ps []
def pe_fX(h:HasX X.prog X.w X.K X.mg X.base k x ps sp)(L:Lands X EX)(hr:Room j X.A)(hkj:k<=j)(ha:PA X (e::es) t)(hg:Gl X x:=by rfl)(h1:zm e=false:=by rfl)(h2:es.all (λe=> !zm e)=true:=by rfl)
  (hdb:(x==("__debug__":Str))=false:=by decide):PE X (.Call (.Name x p) (e::es) [] pos) (Wf sp EX t):=by
 obtain⟨f,fd,F,hm,hk,hb⟩:=h;intro ϖ s σ H Q I h;show wpAny_Call_Name_kw (xo I hg hm ?_ hdb);show W.callWith_K (h₀:=X.base) I.ok.mod.kin hk (thn (ha pos ϖ s σ H _ I h) λus s1 ⟨vs,H1,I1,r,q⟩=>⟨I1.kIn,?_⟩) (ya h1) (z9 h2);show run_fnX F (hr.mono hkj) hb L I1 r q
theorem FnOk.calm{P:Program}{w:World}{K:W.Frag}{mg:Str->Option Value}{base:Heap}(F:FnOk P w K mg base (CXE P w) k f fd ps sp):FnOk P w K mg base CX0 k f fd ps (λvs H Q _=>sp vs H Q E0):=by
 show⟨λvs H Q E h=>F.len vs H Q E0 h,λA outer s H args us vs Q E hr he hb hv hs=>codeAny_mono (F.run A outer s H args us vs Q E0 hr he hb hv hs) λr s' hq=>?_⟩;cases r with
 | error e=>
  obtain⟨_,_,_,_,_,_,_,_,_,_,_,h⟩:=hq;show False.elim h
 | ok fl=>cases fl<;>show hq
def HasX.calm{P:Program}{w:World}{K:W.Frag}{mg:Str->Option Value}{base:Heap}(h:HasX P w K mg base k x ps sp):Has P w K mg base k x ps (λvs H Q _=>sp vs H Q E0):=by
 obtain⟨f,fd,F,hm,hk,hb⟩:=h;show⟨f,fd,F.calm,hm,hk,hb⟩
end
open Builtin Builtin.ObjectAttr
abbrev bmV:List Value:=[.type "ValueError",.type "Exception",.type "BaseException",.type "object"]
inductive OverV:List Value->Prop
 | base:OverV bmV
 | own (a:Addr) {l:List Value}:OverV l->OverV (.ref a::l)
theorem OverV.has(h:OverV l)(hb:bmV.contains (.type X)=b):l.contains (.type X)=b:=by
 induction h with
 | base=>show hb
 | own a _ ih=>rw[List.contains_cons,ih];rfl
theorem OverV.passes(h:OverV l)(self:Value):refuseLoop self "__setattr__" l=pure ():=by
 induction h with
 | base=>show PySem.F.store_ValueError.passes self
 | own a _ ih=>rw[refuseLoop_ref];show ih
structure XC (K:W.Frag) (C:Addr) (bm:List Value):Prop where
 at_: ∃(nm q:Str) (N:Addr) (bs:List Value) (sn:List Str) (sub:List Value) (ab:Bool) (col:Option Bool) (dd:Option Addr) (k0 k1 k2 k3 k5:Option Value),
  K.lookup C=some (excClassObj nm q C N bs bm true sn sub ab col dd k0 k1 k2 k3 k5 "ValueError.__new__")
 ov:OverV bm
structure XA (K:W.Frag) (C:Addr):Prop where
 bm: ∃bm,XC K C bm
 ga:W.findIn K (.ref C) "__getattribute__"=some (some (.builtin "BaseException.__getattribute__"))
 gt:W.findIn K (.ref C) "__getattr__"=some none
 sa:W.findIn K (.ref C) "__setattr__"=some (some (.builtin "object.__setattr__"))
 cl:W.findIn K (.ref C) "__class__"=some (some (.builtin "object.__class__"))
 sg:W.specialIn K (.builtin "object.__class__") "__get__"=some (some (.builtin "getset_descriptor.__get__"))
 tk:W.takesIn K (.builtin "object.__class__")=some true
end L2
namespace PySem
open Sem (wp)
open Builtin Builtin.ObjectAttr
open L2 (OverV)
section
variable {os:OsState}
variable {sub:List Value}
def check_new_x(T:OverV bm){rest:List Value}{Q:Unit->Shared->Prop}(hC:h.get? C=some (excClassObj nm q C N bs bm true sn sub ab col dd k0 k1 k2 k3 k5 "ValueError.__new__"))
  (hq:Q () ⟨h,g,d,t,os⟩):wpAny M A (checkBuiltinCall "ValueError.__new__" ⟨.ref C::rest,[]⟩) Q E ⟨h,g,d,t,os⟩:=by
 have F:=PySem.F.excBase_ValueError;have hcont:(Value.ref C::bm).contains (.type "ValueError")=true:=by rw[List.contains_cons,T.has F.hasB,Bool.or_true]
 have hstar:=F.noStar;simp only[checkBuiltinCall,F.newKind,F.newSplit,F.newRow]
 repeat (first | show wpAny_loadPart_at hC ?_ | (show wpAny_isSubtype_exc hC ?_;rw[hcont]) | show wpAny_staticBase_exc hC ?_ | show wpAny_madeBy_exc hC ?_ | simp only[bne_self_eq_false,Bool.false_eq_true,if_false] | wp_step)
 show hq
def exc_new_x(T:OverV bm){rest:List Value}{R:Result->Shared->Prop}(hC:h.get? C=some (excClassObj nm q C N bs bm true sn sub ab col dd k0 k1 k2 k3 k5 "ValueError.__new__"))
  (hq:R (.ok (.ret (.ref (h.objs.size+1)))) ⟨(h.push {cls:= .type "tuple",data:= .seq rest.toArray}).push
   {cls:= .ref C,data:= .fields #[.ref h.objs.size,.none,.none,.none,.bool false,.none]},g,d,t,os⟩) (hrest:rest.length<=sizeLine):
  codeAny (model prog w) A (.builtin "ValueError.__new__" ⟨.ref C::rest,[]⟩) R ⟨h,g,d,t,os⟩:=by
 have F:=PySem.F.excBase_ValueError;have hends:=F.ends;have hcB:(Value.ref C::bm).contains (.type "ValueError")=true:=by rw[List.contains_cons,T.has F.hasB,Bool.or_true]
 have hcA:(Value.ref C::bm).contains (.type "AttributeError")=false:=by rw[List.contains_cons,T.has F.noAttr];rfl
 have hcN:(Value.ref C::bm).contains (.type "NameError")=false:=by rw[List.contains_cons,T.has F.noName];rfl
 show codeAny_builtinAt F.entry ?_;unfold Builtin.«BaseException.__new__»;show wpAt_bind ?_;change wpAt _ _ _ (stack>>=_) _ _ _;show wpAt_bind (wpAt_stack λp below=>wpAt_of_wpAny ?_)
 wp_walk
 show wpAt_of_wpAny ?_;rw[F.owner]
 repeat (first | with_reducible show wpAny_madeHere_exc F.canon hC ?_ | with_reducible show wpAny_loadPart_at hC ?_ | (with_reducible show wpAny_isSubtype_exc hC ?_;first | rw[hcB] | rw[hcA] | rw[hcN]) | wp_step)
 change R _ _;rw[Φ];show hq
def type_call_x(T:OverV bm){rest:List Value}{Q:Fin->Shared->Prop}(hC:h.get? C=some (excClassObj nm q C N bs bm true sn sub ab col dd k0 k1 k2 k3 k5 "ValueError.__new__"))
  (hi:PySem.W.Looks (model prog w) h (typeLookup (.ref C) "__init__") (some (.ref fI))) (hf: ∀self,PySem.W.Looks (model prog w) h (bindSpecial (.ref fI) self) (.ref fI,[self])) (hrest:rest.length<=sizeLine)
  (hq:wpAny (model prog w) A (call (.ref fI) (.ref (h.objs.size+1)::rest)) (λr s'=>r= .none/\Q (.done (.ret (.ref (h.objs.size+1)))) s') E
   ⟨(h.push {cls:= .type "tuple",data:= .seq rest.toArray}).push {cls:= .ref C,data:= .fields #[.ref h.objs.size,.none,.none,.none,.bool false,.none]},g,d,t,os⟩):
  wpAny (model prog w) A (Builtin.«type.__call__» ⟨.ref C::rest,[]⟩) Q E ⟨h,g,d,t,os⟩:=by
 have F:=PySem.F.excBase_ValueError
 repeat (first | with_reducible show wpAny_loadPart_at hC ?_ | with_reducible show wpAny_madeBy_exc hC ?_ | wp_step)
 show codeAny_call_builtin_code (Code.quiet_builtin _ F.quiet) (check_new_x T hC ?_);show exc_new_x T hC ?_ hrest;change wpAny _ _ _ _ _ _;have hC₁:=δ {cls:= .ref C,data:= .fields #[.ref h.objs.size,.none,.none,.none,.bool false,.none]}
  (δ {cls:= .type "tuple",data:= .seq rest.toArray} hC)
 have k: ∀b o,h.get? b=some o->((h.push {cls:= .type "tuple",data:= .seq rest.toArray}).push {cls:= .ref C,data:= .fields #[.ref h.objs.size,.none,.none,.none,.bool false,.none]}).get? b=some o:=λb o e=>δ _ (δ _ e);have hget:((h.push {cls:= .type "tuple",data:= .seq rest.toArray}).push
   {cls:= .ref C,data:= .fields #[.ref h.objs.size,.none,.none,.none,.bool false,.none]}).get? (h.objs.size+1)=some
   {cls:= .ref C,data:= .fields #[.ref h.objs.size,.none,.none,.none,.bool false,.none]}:=by heap_get
 have hcC:(Value.ref C::bm).contains (.ref C)=true:=by simp
 have i1:=hi.keeps k;have b1:=(hf (.ref (h.objs.size+1))).keeps k;unfold isInstance
 repeat (first | with_reducible show wpAny_loadPart_at hget ?_ | (with_reducible show wpAny_isSubtype_exc hC₁ ?_;rw[hcC]) | wp_step)
 change wpAny _ _ (typeLookup (.ref C) _) _ _ _;show i1.at ?_;show wpAny_holding (γ (b1.at ?_));show γ (wpAny_mono hq (λr s' z=>?_) λ_ _ x=>x);obtain⟨rfl,z⟩:=z
 wp_walk
 show z
def make_x(T:OverV bm){rest:List Value}{Q:VSP}(hC:h.get? C=some (excClassObj nm q C N bs bm true sn sub ab col dd k0 k1 k2 k3 k5 "ValueError.__new__"))
  (hi:PySem.W.Looks (model prog w) h (typeLookup (.ref C) "__init__") (some (.ref fI))) (hf: ∀self,PySem.W.Looks (model prog w) h (bindSpecial (.ref fI) self) (.ref fI,[self])) (hrest:rest.length<=sizeLine)
  (hq:wpAny (model prog w) (A.under (.builtin "type.__call__" ⟨.ref C::rest,[]⟩)) (call (.ref fI) (.ref (h.objs.size+1)::rest)) (λr s'=>r= .none/\Q (.ref (h.objs.size+1)) s') E
   ⟨(h.push {cls:= .type "tuple",data:= .seq rest.toArray}).push {cls:= .ref C,data:= .fields #[.ref h.objs.size,.none,.none,.none,.bool false,.none]},g,d,t,os⟩):
  wpAny (model prog w) A (call (.ref C) rest) Q E ⟨h,g,d,t,os⟩:=by
 have f1:=tc_lookup;have f2:=tc_bind (.ref C);have hT:(⟨h,g,d,t,os⟩:Shared).TypeIs (.ref C) "type":=⟨_,hC,rfl⟩;show wpAny_call (codeAny_of_tree ?_);change wpAny _ _ (callAny (.ref C) _) _ _ _
 repeat (any_goals (first | assumption | with_reducible show wpAny_loadPart_at hC ?_ | wp_step))
 show⟨rfl,?_⟩;show codeAny_call_builtin_at (Code.quiet_builtin _ (nofun)) entry_typeCall (wpAny_check_type_call_sub hC (type_call_x T hC hi hf hrest ?_));show hq
end
end PySem
namespace PySem
open Sem (wp)
open Builtin Builtin.ObjectAttr
open L2 (OverV XC XA bmV)
section
variable {os:OsState}
variable {sub:List Value}
 {mA:Str->Option Value} {name:Str} {v:Value}
def store_entry_x{Q:Fin->Shared->Prop}(T:OverV bm)
  (hC:h.get? C=some (excClassObj nm q C N bs bm true sn sub ab col dd k0 k1 k2 k3 k5 "ValueError.__new__")) (hna:PySem.W.Looks (model prog w) h (typeLookup (.ref C) name) none) (hxC:x≠C) (I:h.Inst x C mA)
  (hq: ∀h' tk',h'.Inst x C (λy=>if y=name then some v else mA y)->
   (∀b o,b≠x->(∀o₀ dx,h.get? x=some o₀->o₀.dict=some dx->b≠dx)->h.get? b=some o->h'.get? b=some o)->
   (∀o₀,h.get? x=some o₀-> ∃o₁,h'.get? x=some o₁/\o₁.cls=o₀.cls/\o₁.data=o₀.data/\o₁.slots=o₀.slots/\(∀dx,o₀.dict=some dx->o₁.dict=some dx)/\(o₀.dict=none->o₁.dict=some h.objs.size))->Q (.done (.ret .none)) ⟨h',g,d,tk',os⟩) (hw:Within mA ns) (hsz:ns.length<=sizeLine):
  wpAny (model prog w) A (Builtin.«object.__setattr__» ⟨[.ref x,.str name tk,v],[]⟩) Q E ⟨h,g,d,t,os⟩:=by
 obtain⟨o,hx,hc,hnc,hd⟩:=I;have hpass:=T.passes (.ref x);unfold Builtin.«object.__setattr__»
 repeat (first | rw[refuse_eq] | (rw[refuseLoop_ref,hpass]) | (with_reducible show wpAny_loadPart_at hx ?_;rw[hc]) | with_reducible show wpAny_mroOf_exc hC ?_ | with_reducible show hna.at ?_ | wp_step)
 rcases hd with ⟨hdn,hmA⟩ | ⟨dx,hdx,hne,hns⟩
 .rw[hdn,if_neg (by simp[typeHasDict])];split
  .rename_i hcd
   cases hcd
  split
  .rename_i c hcd
   show absurd hcd (hnc c)
  .have hx₁:(h.push {cls:= .type "dict",data:= .dict #[]}).get? x=some o:=δ _ hx;have hxs:x≠h.objs.size:=Ι (ι hx);show γ (wpAny_alloc' ?_);show γ (wpAny_update' hx₁ ?_);show ε ?_;have hgd:((h.push {cls:= .type "dict",data:= .dict #[]}).update x λo=>{cls:=o.cls,dict:=some h.objs.size,data:=o.data,slots:=o.slots}).get? h.objs.size
     =some {cls:= .type "dict",data:= .dict #[]}:=
    (Heap.get?_update_ne _ _ _ _ hxs.symm).trans (Heap.get?_push_at rfl rfl)
   have hnd:((h.push {cls:= .type "dict",data:= .dict #[]}).update x λo=>{cls:=o.cls,dict:=some h.objs.size,data:=o.data,slots:=o.slots}).Ns h.objs.size (λ_=>none):=
    ⟨_,#[],_,hgd,rfl,λe he=>absurd he Sort,λ_=>rfl⟩
   change wpAny _ _ (storeInDict h.objs.size (.str name tk) name v) _ _ _;unfold storeInDict newKeyGuard;show γ (ε (γ (wpAny_nsSet1 (Heap.Ns1.of_empty hnd) λh' hn' hs=>?_)));obtain⟨oD,esD,epD,hoD,hdD,hcD⟩:=hn'.count (Within.cons name v Within.nil);show γ (wpAny_lookBehind hoD (by rw[hdD];show pastItsLine_dict (η hcD (by rw[List.length_cons,List.length_nil,sizeLine_eq];lia))) ?_)
   wp_walk
   have hx':h'.get? x=some {cls:=o.cls,dict:=some h.objs.size,data:=o.data,slots:=o.slots}:=?_;show hq h' _ ⟨{cls:=o.cls,dict:=some h.objs.size,data:=o.data,slots:=o.slots},hx',hc,hnc,.inr ⟨h.objs.size,rfl,hxs.symm,?_⟩⟩ (λb ob hbx _ hb=>?_)
    (λo₀ h₀=>by obtain rfl:o=o₀:=Α (hx.symm.trans h₀);show⟨_,hx',rfl,rfl,rfl,λdx e=>(by rw[hdn] at e;cases e),λ_=>rfl⟩)
   .obtain⟨o',es,ep,e1,e2,e3,eu,e4⟩:=hn';show⟨o',es,ep,e1,e2,e3,eu,λy=>by rw[e4 y];by_cases hy:y=name<;>simp[hy,hmA]⟩
   .show(hs.2 b (Ι (ι hb))).trans ((Heap.get?_update_ne _ _ _ _ hbx).trans (δ _ hb))
   .show(hs.2 x hxs).trans (Heap.get?_update_self _ hx₁ ?_);have hfr:=(Heap.get?_some_iff.mp hx).2;obtain⟨oc,od,odt,osl⟩:=o;cases odt<;>first | rfl | show hfr
 .rw[hdx];show ε ?_;change wpAny _ _ (storeInDict dx (.str name tk) name v) _ _ _;unfold storeInDict newKeyGuard;show γ (ε (γ (wpAny_nsSet1 hns λh' hn' hs=>?_)));obtain⟨oD,esD,epD,hoD,hdD,hcD⟩:=hn'.count (Within.cons name v hw);show γ (wpAny_lookBehind hoD (by rw[hdD];show pastItsLine_dict (η hcD (by rw[List.length_cons];lia))) ?_)
  wp_walk
  show hq h' _ ⟨o,(hs.2 x hne.symm).trans hx,hc,hnc,.inr ⟨dx,hdx,hne,hn'⟩⟩ (λb ob _ hbd hb=>?_)
   (λo₀ h₀=>⟨o₀,(hs.2 x hne.symm).trans h₀,rfl,rfl,rfl,λ_ e=>e,λe=>by obtain rfl:o=o₀:=Α (hx.symm.trans h₀);rw[hdx] at e;cases e⟩)
  show(hs.2 b (hbd o dx hx hdx)).trans hb
def check_sa_x{Q:Unit->Shared->Prop}(T:OverV bm)
  (hC:h.get? C=some (excClassObj nm q C N bs bm true sn sub ab col dd k0 k1 k2 k3 k5 "ValueError.__new__")) (hx:h.get? x=some o) (hc:o.cls= .ref C) (hq:Q () ⟨h,g,d,t,os⟩):
  wpAny M A (checkBuiltinCall "object.__setattr__" ⟨[.ref x,nameV,v],[]⟩) Q E ⟨h,g,d,t,os⟩:=by
 have SF:=PySem.F.store_ValueError;have hcB:(Value.ref C::bm).contains (.type "object")=true:=by rw[List.contains_cons,T.has SF.hasOwner,Bool.or_true]
 have ha:=SF.args (.ref x) nameV v;simp only[checkBuiltinCall,SF.kind,SF.split];show γ ?_
 .unfold isInstance
  repeat (first | (with_reducible show wpAny_loadPart_at hx ?_;rw[hc]) | (with_reducible show wpAny_isSubtype_exc hC ?_;rw[hcB]) | wp_step)
  show hq
def Xd{Q:Unit->Shared->Prop}(T:OverV bm)
  (hC:h.get? C=some (excClassObj nm q C N bs bm true sn sub ab col dd k0 k1 k2 k3 k5 "ValueError.__new__")) (hsa:PySem.W.Looks (model prog w) h (typeLookup (.ref C) "__setattr__") (some (.builtin "object.__setattr__")))
  (hna:PySem.W.Looks (model prog w) h (typeLookup (.ref C) name) none) (hxC:x≠C) (I:h.Inst x C mA)
  (hq: ∀h' tk',h'.Inst x C (λy=>if y=name then some v else mA y)->
   (∀b o,b≠x->(∀o₀ dx,h.get? x=some o₀->o₀.dict=some dx->b≠dx)->h.get? b=some o->h'.get? b=some o)->
   (∀o₀,h.get? x=some o₀-> ∃o₁,h'.get? x=some o₁/\o₁.cls=o₀.cls/\o₁.data=o₀.data/\o₁.slots=o₀.slots/\(∀dx,o₀.dict=some dx->o₁.dict=some dx)/\(o₀.dict=none->o₁.dict=some h.objs.size))->Q () ⟨h',g,d,tk',os⟩) (hw:Within mA ns) (hsz:ns.length<=sizeLine):
  wpAny (model prog w) A (setAttr (.ref x) name v) Q E ⟨h,g,d,t,os⟩:=by
 obtain⟨o,hx,hc,_⟩:=id I;have SF:=PySem.F.store_ValueError;have f3:=SF.slot.bind (.ref x);unfold setAttr callSpecial? specialOf
 repeat (any_goals (first | assumption | (with_reducible show wpAny_loadPart_at hx ?_;rw[hc]) | with_reducible show hsa.at ?_ | wp_step))
 show codeAny_call_builtin SF.slot.plain SF.entry (check_sa_x T hC hx hc (store_entry_x T hC hna hxC I (λh' tk' I' hk hsame=>?_) hw hsz))
 repeat (any_goals (first | assumption | wp_step))
 show hq h' tk' I' hk hsame
end
section
variable {os:OsState}{K:W.Frag}
variable {sub:List Value}
 {name:Str} {v:Value} {ox:Obj} {od:Option Obj}
def vU{Q:Unit->Shared->Prop}(T:OverV bm)(hC:h.get? C=some (excClassObj nm q C N bs bm true sn sub ab col dd k0 k1 k2 k3 k5 "ValueError.__new__"))
  (hx:h.get? x=some ox) (hc:ox.cls= .ref C) (hq:Q () ⟨h,g,d,t,os⟩):wpAny M A (checkBuiltinCall "BaseException.__getattribute__" ⟨[.ref x,nameV],[]⟩) Q E ⟨h,g,d,t,os⟩:=by
 have hk:builtinKind "BaseException.__getattribute__"=some .slot:=nofun
 have hsplit:splitId "BaseException.__getattribute__"=some ("BaseException","__getattribute__"):=nofun
 have hcB:(Value.ref C::bm).contains (.type "BaseException")=true:=by rw[List.contains_cons,T.has (b:=true) (nofun)];rfl
 have ha:=F.args_bexc_ga (.ref x) nameV;simp only[checkBuiltinCall,hk,hsplit];show γ ?_
 .unfold isInstance
  repeat (first | (with_reducible show wpAny_loadPart_at hx ?_;rw[hc]) | (with_reducible show wpAny_isSubtype_exc hC ?_;rw[hcB]) | wp_step)
  show hq
def load_x{Q:VSP}(T:OverV bm)(hC:h.get? C=some (excClassObj nm q C N bs bm true sn sub ab col dd k0 k1 k2 k3 k5 "ValueError.__new__"))(X:K.In h)
  (hga:PySem.W.findIn K (.ref C) "__getattribute__"=some (some (.builtin "BaseException.__getattribute__"))) (hgt:PySem.W.findIn K (.ref C) "__getattr__"=some none)
  (I:PySem.W.InstAt h x ox C od) (hf:PySem.W.findObj K C od name=some (.value v)) (hh:PySem.W.handedIn v=true) (hq:Q v ⟨h,g,d,t+1,os⟩):
  wpAny (model prog w) A (getAttr (.ref x) name expr) Q E ⟨h,g,d,t,os⟩:=by
 have FB:=PySem.F.attrBase_ValueError;have f3:=FB.ga.bind (.ref x);have hx0:(expr&&onTheHeap (Value.builtin "BaseException.__getattribute__"))=false:=by cases expr<;>rfl
 have hx2:(Value.builtin "BaseException.__getattribute__"==Value.builtin "object.__getattribute__")=false:=nofun
 have hx1:(onTheHeap (Value.ref C)&&Value.builtin "BaseException.__getattribute__"==Value.builtin "object.__getattribute__")=false:=by rw[hx2];rfl
 have L0:=I.type (M:=model prog w);have L1:=PySem.W.looks_findIn (M:=model prog w) X hga;have L2:=PySem.W.looks_findIn (M:=model prog w) X hgt;have L3:=PySem.W.looks_find (M:=model prog w) X I hf;unfold getAttr getAttrBy;show γ (wpAny_mkText (wpAny_holding (γ (L0.at (γ (L1.at ?_))))));dsimp only;rw[hx1,if_neg ⋯];unfold getAttrByItsOwn;have ho:hookBefore (.ref C)=typeLookup (.ref C) "__getattr__":=rfl;rw[ho];show γ (L2.at (γ (wpAny_attempt (wpAny_holding ?_))));unfold callGetattribute;rw[hx0,if_neg ⋯];unfold boundAndCalled;rw[f3];show γ (ε ?_);show wpAny_call (codeAny_call_builtin FB.ga.plain F.entry_bexc_ga (vU T hC I.at_ I.cls ?_));unfold Builtin.«object.__getattribute__»
 repeat (first | with_reducible show L0.at ?_ | with_reducible show L3.at ?_ | wp_step)
 change wpAny _ _ (handedOut v) _ _ _;rw[PySem.W.handedOut_of hh];show ε hq
end
end PySem
namespace L2
open PySem PySem.Spec PyProof.Rows
def XObj (a C:Addr) (d:Option Addr) (vs:Array Value):HO:= .ext λh=> ∃sl,h.get? a=some ⟨.ref C,d,.fields vs,sl⟩
def XDct (dx:Addr) (fs:List (Str×V)):HO:= .ext λh=> ∃mA,h.Ns1 dx mA/\(∀f,RelO (fs.lookup f) (mA f))/\PySem.Within mA (fs.map (·.1))
section
variable {fs:List (Str×V)}
def yP(ok:HOk P w H h)(e:H a=some (XObj a C d vs)): ∃sl,h.get? a=some ⟨.ref C,d,.fields vs,sl⟩:=(ok a _ e).1
def vf(ok:HOk P w H h)(e:H dx=some (XDct dx fs)): ∃mA,h.Ns1 dx mA/\(∀f,RelO (fs.lookup f) (mA f))/\PySem.Within mA (fs.map (·.1)):=(ok dx _ e).1
def Zx(e:h.get? a=some ⟨.ref C,d,.fields vs,sl⟩):ObjOk P w H h a (XObj a C d vs):=⟨⟨sl,e⟩,⟨_,e⟩,λh1 h2 ⟨z,q⟩ k=>⟨z,k _ q⟩⟩
def Y1{mA:Str->Option Value}(n:h.Ns1 dx mA)(r: ∀f,RelO (fs.lookup f) (mA f))(wi:PySem.Within mA (fs.map (·.1))):ObjOk P w H h dx (XDct dx fs):=by
 show⟨⟨mA,n,r,wi⟩,?_,λh1 h2 ⟨m,⟨o,es,ep,e,c⟩,r,wi⟩ k=>⟨m,⟨o,es,ep,k _ e,c⟩,r,wi⟩⟩;obtain⟨o,_,_,e,_⟩:=n;show⟨o,e⟩
end
section
variable {X:Cx}
def Inv.two{φ:Heap->Prop}(I:Inv X ϖ σ H s)(mu:H a=some (.ext φ))(hdx:⇑s<=dx)(k: ∀b u,b≠a->s.heap.get? b=some u->h'.get? b=some u)(ha: ∃u,h'.get? a=some u)
  (n1:ObjOk X.prog X.w (upd (upd H dx o) a o') h' dx o) (n2:ObjOk X.prog X.w (upd (upd H dx o) a o') h' a o'):Inv X ϖ σ (upd (upd H dx o) a o') {s with heap:=h',toks:=t'}:=by
 have hn:H dx=none:=I.hok.fresh hdx;have up: ∀b,b≠a->b≠dx->upd (upd H dx o) a o' b=H b:=λb h1 h2=>by rw[zi h1,zi h2]
 have nea: ∀b u,H b=some u->(∀φ,u≠.ext φ)->b≠a/\b≠dx:=λb u e hu=>⟨λz=>by rw[z,mu] at e;show hu φ (Α e).symm,zg e hn⟩;show I.un ⟨λb ob e n _ _=>k b ob (λz=>by rw[z,mu] at n;cases n) e,λb ob e n _ _=>⟨ob.slots,k b ob (λz=>by rw[z,mu] at n;cases n) e⟩,λb ob e n _=>?_,λb ob e _=>?_,λb xs e=>?_,λb ob u e=>?_,λb ps e=>⟨#[],?_⟩⟩ λb u e=>?_
 .rw[up b (λz=>by rw[z,mu] at n;cases n) λz=>absurd (θ (ι e) (z▸hdx)) (Λ _)];show n
 .by_cases q:b=a
  .rw[q];show ha
  .show⟨ob,k b ob q e⟩
 .have q:=nea b _ e (λ_ z=>by cases z);rw[up b q.1 q.2];show e
 .have q:=nea b _ e (λ_ z=>by cases z);rw[up b q.1 q.2];show e
 .have q:=nea b _ e (λ_ z=>by cases z);rw[up b q.1 q.2,e];simp
 .by_cases q:b=a
  .rw[q,zj] at e;cases e;rw[q];show n2
  .by_cases q2:b=dx
   .rw[q2] at q;rw[q2,zi q,zj] at e;cases e;rw[q2];show n1
   .rw[up b q q2] at e;show(I.hok b u e).stay (λc v hc z=>k c v (λy=>?_) z) (λc z=>?_) λc xs z=>?_
    .rcases hc with hc | hc
     .show q (hc▸y)
     .rw[y,mu] at hc;cases hc
    .have q:=nea c _ z (λ_ z=>by cases z);rw[up c q.1 q.2];show z
    .have q:=nea c _ z (λ_ z=>by cases z);rw[up c q.1 q.2];show z
def Inv.inst(I:Inv X ϖ σ H s)(e:H a=some (XObj a C d vs))(xc:XC X.K C bm):a≠C:=by
 obtain⟨nm,q,N,bs,sn,sub,ab,col,dd,k0,k1,k2,k3,k5,hl⟩:=xc.at_;have hC:=I.kIn _ _ hl;obtain⟨sl,ha⟩:=yP I.hok e;rintro rfl;rw[hC] at ha;cases ha
def XSt (H:Hp) (a C:Addr) (d:Option Addr) (vs:Array Value) (f:Str) (y:V) (G:Hp->Prop):Prop:=match d with
 | none=> ∀dx,H dx=none->dx≠a->G (upd (upd H dx (XDct dx [(f,y)])) a (XObj a C (some dx) vs))
 | some dx=> ∃fs,H dx=some (XDct dx fs)/\fs.length<100/\G (upd H dx (XDct dx (putF f y fs)))
theorem setattr_x{E:VSP}{f:Str}{Q:Unit->Shared->Prop}(I:Inv X ϖ σ H s)(e:H a=some (XObj a C d vs))(xa:XA X.K C)(n:ye X.K C f)(ry:RelV y u)
  (h:XSt H a C d vs f y λH'=> ∀s',Inv X ϖ σ H' s'->Q () s'):wpAny (model X.prog X.w) A (setAttr (.ref a) f u) Q E s:=by
 obtain⟨bm,xc⟩:=xa.bm;have hne:=I.inst e xc;obtain⟨nm,q,N,bs,sn,sub,ab,col,dd,k0,k1,k2,k3,k5,hl⟩:=xc.at_;obtain⟨sl,ha⟩:=yP I.hok e;have K:=I.kIn;have L1:=W.looks_findIn (M:=model X.prog X.w) K xa.sa;have L2:=W.looks_findIn (M:=model X.prog X.w) K (show W.findIn X.K (.ref C) f=some none from n);have hC:=K _ _ hl;obtain⟨hh,g,dr,t,os⟩:=s;cases d with
 | none=>
  show Xd (mA:=λ_=>none) (ns:=[]) xc.ov hC L1 L2 hne ⟨_,ha,rfl,λc z=>(by cases z),.inl ⟨rfl,λ_=>rfl⟩⟩ (λh' tk' inst k same=>?_) PySem.Within.nil ⋯;obtain⟨o1,e1,c1,d1,s1,_,d2⟩:=same _ ha;have d2:=d2 rfl;obtain⟨o2,e2,_,_,z⟩:=inst;rw[e1] at e2;cases e2;have hd:hh.objs.size≠a:=Χ (ι ha);show h hh.objs.size (I.hok.fresh (μ _)) hd _ (I.two (t':=tk') (h':=h') e (μ _) (λb u hb z=>k b u hb (λo₀ dx h0 hdx=>by rw[ha] at h0;cases h0;cases hdx) z) ⟨_,e1⟩ ?_ ?_)
  .rcases z with ⟨z,_⟩ | ⟨d3,z,_,ns⟩
   .rw[d2] at z;cases z
   .rw[d2] at z;cases z;show Y1 ns (λg=>?_) λg hg=>?_
    .change RelO (List.lookup g [(f,y)]) (if g=f then some u else none);by_cases q:g=f
     .have hb:(g==f)=true:=beq_iff_eq.mpr q;simp only[List.lookup,hb,if_pos q];show ry
     .have hb:(g==f)=false:=beq_eq_false_iff_ne.mpr q;simp only[List.lookup,hb,if_neg q];show True.intro
    .by_cases q:g=f
     .rw[q];simp
     .show absurd (if_neg q) hg
  .obtain⟨oc,od,odt,osl⟩:=o1;dsimp only at c1 d1 s1 d2;rw[c1,d1,s1,d2] at e1;show Zx e1
 | some dx=>
  obtain⟨fs,ed,hl',h⟩:=h;obtain⟨mA,n1,r,wi⟩:=vf I.hok ed;have hda:dx≠a:=λz=>by
   obtain⟨o,es,ep,e1,e2,_⟩:=n1;rw[z,ha] at e1;cases e1;cases e2
  show Xd (mA:=mA) (ns:=fs.map (·.1)) xc.ov hC L1 L2 hne ⟨_,ha,rfl,λc z=>(by cases z),.inr ⟨dx,rfl,hda,n1⟩⟩ (λh' tk' inst k same=>?_) wi (by rw[ω,sizeLine_eq];lia);obtain⟨o1,e1,c1,d1,s1,d2,_⟩:=same _ ha;have d2:=d2 dx rfl;obtain⟨o2,e2,_,_,z⟩:=inst;rw[e1] at e2;cases e2;obtain⟨oc,od,odt,osl⟩:=o1;dsimp only at c1 d1 s1 d2;rw[c1,d1,s1,d2] at e1;have ns:h'.Ns1 dx (λy=>if y=f then some u else mA y):=by
   rcases z with ⟨z,_⟩ | ⟨d3,z,_,ns⟩
   .have z:od=none:=z;rw[d2] at z;cases z
   .have z:od=some d3:=z;rw[d2] at z;cases z;show ns
  show h _ (I.write (x:=dx) (e:=dx) (t':=tk') (h':=h') (by rw[ed];show True.intro) (.inl rfl) (λb u hb z=>?_) (by obtain⟨o,_,_,e,_⟩:=ns;show⟨o,e⟩) (Y1 ns (λg=>?_) λg hg=>?_))
  .by_cases q:b=a
   .rw[q] at z ⊢;have z:hh.get? a=some u:=z;rw[ha] at z;cases z;show e1
   .show k b u q (λo₀ dx' h0 hdx=>by rw[ha] at h0;cases h0;cases hdx;show hb) z
  .change RelO ((putF f y fs).lookup g) (if g=f then some u else mA g);rw[wT];by_cases q:g=f
   .rw[if_pos q,if_pos q];show ry
   .rw[if_neg q,if_neg q];show r g
  .by_cases q:g=f
   .rw[q];show(wE f y fs).1
   .show(wE f y fs).2 g (wi g λz=>hg ?_);change(if g=f then some u else mA g)=none;rw[if_neg q];show z
def getattr_x{E:VSP}{f:Str}{Q:VSP}(I:Inv X ϖ σ H s)(e:H a=some (XObj a C (some dx) vs))(ed:H dx=some (XDct dx fs))(xa:XA X.K C)(n:ye X.K C f)
  (l:fs.lookup f=some v) (h: ∀u s',Inv X ϖ σ H s'->RelV v u->Q u s'):wpAny (model X.prog X.w) A (getAttr (.ref a) f b) Q E s:=by
 obtain⟨bm,xc⟩:=xa.bm;obtain⟨nm,q,N,bs,sn,sub,ab,col,dd,k0,k1,k2,k3,k5,hl⟩:=xc.at_;obtain⟨sl,ha⟩:=yP I.hok e;obtain⟨mA,n1,r,wi⟩:=vf I.hok ed;obtain⟨u,hu,ru⟩:=RelO.some_of (v:=v) (o:=mA f) (by rw[<-l];show r f);obtain⟨od,J,hlk⟩:=Zk n1;have K:=I.kIn;have hC:=K _ _ hl;have hh:W.hasDictIn X.K C=true:=by
  unfold W.hasDictIn W.clsIn;rw[hl];rfl
 obtain⟨hp,g,dr,t,os⟩:=s;show load_x (ox:=⟨.ref C,some dx,.fields vs,sl⟩) (od:=some od) xc.ov hC K xa.ga xa.gt ⟨ha,rfl,rfl,J⟩ (W.findObj_own hh n rfl (by rw[hlk,hu])) (handed_of ru) (h u _ (I.tok _) ru)
end
def sXf (K:W.Frag) (ta tv:TE) (f:Str):TS:=λD σ H=>tv σ H λy H1=>ta σ H1 λx H2=> ∃(a C:Addr) (d:Option Addr) (vs:Array Value),x= .ref a/\H2 a=some (XObj a C d vs)/\XA K C/\ye K C f/\XSt H2 a C d vs f y (D.nx σ)
def tXf (K:W.Frag) (ta:TE) (f:Str):TE:=fun σ H Q=>ta σ H λx H1=> ∃(a C dx:Addr) (vs:Array Value) (fs:List (Str×V)) (v:V),x= .ref a/\H1 a=some (XObj a C (some dx) vs)/\H1 dx=some (XDct dx fs)/\XA K C/\ye K C f/\fs.lookup f=some v/\Q v H1
section
variable {X:Cx}{f:Str}
def pe_xf(he:PE X e ta)(hb:attributeBase e f X.env (eval e X.env)=eval e X.env:=by rfl):PE X (.Attribute e f pos) (tXf X.K ta f):=by
 intro ϖ s σ H Q I h;show attr_of hb (thn (he ϖ s σ H _ I h) λu s1 ⟨x,H1,I1,rx,a,C,dx,vs,fs,v,ex,ea,ed,c,n,l,q⟩=>?_);subst ex;obtain rfl:u=Value.ref a:=rx;show getattr_x I1 ea ed c n l λu' s2 I2 ru=>⟨v,H1,I2,ru,q⟩
theorem Vs(ha:PE X o ta)(hv:PE X value tv)(hs:swapsWith value (some (.Attribute o f pos')) pos.line X.env=pure false:=by rfl):PS X (.Assign [.Attribute o f pos'] value pos) (sXf X.K ta tv f):=by
 intro ϖ s σ H D I h;show plainObj_wpAny_Assign_Attribute (thn (hv ϖ s σ H _ I h) λu s1 ⟨y,H1,I1,ry,q⟩=>thn (ha ϖ s1 σ H1 _ I1 q) λov s2 ⟨x,H2,I2,rx,a,C,d,vs,ex,ea,c,n,q2⟩=>?_) hs;subst ex;obtain rfl:ov=Value.ref a:=rx;show setattr_x I2 ea c n ry ?_;cases d with
 | none=>show λdx h1 h2 s3 I3=>⟨σ,_,I3,q2 dx h1 h2⟩
 | some dx=>
  obtain⟨fs,h1,h2,q2⟩:=q2;show⟨fs,h1,h2,λs3 I3=>⟨σ,_,I3,q2⟩⟩
end
end L2
namespace PySem
open Sem (wp)
open L2 (OverV)
section
variable {sub:List Value}
def raise_made_x{Q:Flow->Shared->Prop}(T:OverV bm)(hh:A.handled=none)
  (h:wpAny M A x (λv s₁=> ∃e vs d sl,v= .ref e/\s₁.heap.get? C=some (excClassObj nm q C N bs bm true sn sub ab col dd k0 k1 k2 k3 k5 "ValueError.__new__")/\
   s₁.heap.get? e=some ⟨.ref C,d,.fields vs,sl⟩/\vs[1]? =some .none/\E (.ref e) s₁) E s):
  wpAny M A (raiseStmt env (some x) none) Q E s:=by
 have hcB:(Value.ref C::bm).contains (.type "BaseException")=true:=by rw[List.contains_cons,T.has (b:=true) (nofun),Bool.or_true]
 unfold raiseStmt;show γ (wpAny_mono h (λv s₁ h₁=>?_) λ_ _ x=>x);obtain⟨e,vs,d,sl,rfl,hC,he,h1,hE⟩:=h₁;obtain⟨hp,g,dr,tk,os⟩:=s₁;unfold setFlight
 repeat (first | with_reducible show wpAny_loadPart_at he ?_ | with_reducible show wpAny_loadPart_at hC ?_ | (with_reducible show wpAny_isSubtype_exc hC ?_;rw[hcB]) | with_reducible show Κ he rfl h1 ?_ | wp_step)
 show wpAny_raiseNew_none hh hE
end
end PySem
namespace L2
open PySem PySem.Spec PyProof.Rows
def unt (H:Hp) (a:Addr):Hp:=λb=>if b=a then none else H b
def xX:unt H a a=none:=if_pos rfl
def yY(h:b≠a):unt H a b=H b:=if_neg h
structure XMk (K:W.Frag) (C f:Addr):Prop where
 init:W.findIn K (.ref C) "__init__"=some (some (.ref f))
 fn:W.isFn K (.ref f)=true
 kp:W.keepIn K (.ref C)=true
 xa:XA K C
section
variable {X:Cx}
def Inv.drop{φ:Heap->Prop}(I:Inv X ϖ σ H s)(e:H a=some (.ext φ)):Inv X ϖ σ (unt H a) s:=by
 have nea: ∀b u,H b=some u->(∀φ,u≠.ext φ)->b≠a:=λb u h hu z=>by rw[z,e] at h;show hu φ (Α h).symm
 have nn: ∀b,H b=none->unt H a b=none:=λb h=>by
  by_cases q:b=a
  .rw[q];show xX
  .rw[yY q];show h
 show⟨I.ok,I.os,I.bare,⟨I.base.keep,I.base.slot,λb o q n hx=>nn b (I.base.free b o q n hx),I.base.there,λb xs q=>?_,λb o u q=>?_,λb ps q=>?_⟩,I.loc,I.cell,nn _ I.free,λx c q=>nn _ (I.freeC x c q),λp hp=>?_,λb u q=>?_,I.len⟩
 .have z:=I.base.tups b xs q;rw[yY (nea b _ z λ_ y=>by cases y)];show z
 .have z:=I.base.frzs b o u q;rw[yY (nea b _ z λ_ y=>by cases y)];show z
 .obtain⟨m,z⟩:=I.base.tbls b ps q;show⟨m,by rw[yY (nea b _ z λ_ y=>by cases y)];show z⟩
 .obtain⟨p1,p2,p3⟩:=I.pin p hp;show⟨p1,nn _ p2,p3⟩
 .by_cases z:b=a
  .rw[z,xX] at q;cases q
  .rw[yY z] at q;show(I.hok b u q).stay (λc v _ y=>y) (λc y=>?_) λc xs y=>?_
   .rw[yY (nea c _ y λ_ w=>by cases w)];show y
   .rw[yY (nea c _ y λ_ w=>by cases w)];show y
theorem run_makeX{f:Addr}{Q:Addr->Array Value->Hp->Prop}(M:XMk X.K C f)(F:FnOk X.prog X.w X.K X.mg X.base CX0 k f fd ps sp)(hr:Room (k+1) X.A)(hb:Binds X.K fd ps [])
  (I:Inv X ϖ σ H s) (r:Vals vs us) (hl:vs.length<=1000) (h: ∀a v0,H a=none->sp (.ref a::vs) (upd H a (XObj a C none v0)) (λv H2=>v= .non/\Q a v0 H2) E0):
  wpAny (model X.prog X.w) X.A (call (.ref C) us) (λu s'=> ∃a v0 H2,u= .ref a/\⇑s<=a/\v0[1]? =some Value.none/\Inv X ϖ σ H2 s'/\Q a v0 H2) X.xe s:=by
 obtain⟨bm,xc⟩:=M.xa.bm;obtain⟨nm,q,N,bs,sn,sub,ab,col,dd,k0,k1,k2,k3,k5,hlk⟩:=xc.at_;have hC:=I.kIn _ _ hlk;have I2:Inv X ϖ σ (upd H (⇑s+1) (XObj (⇑s+1) C none #[.ref ⇑s,.none,.none,.none,.bool false,.none]))
   {s with heap:=(s.heap.push {cls:= .type "tuple",data:= .seq us.toArray}).push {cls:= .ref C,data:= .fields #[.ref ⇑s,.none,.none,.none,.bool false,.none]}}:=by
  show I.laid (t':=s.toks) (λb u e=>δ _ (δ _ e)) (Nat.le_succ _) (Zx (sl:=#[]) ?_);have:=ο (s.heap.push {cls:= .type "tuple",data:= .seq us.toArray}) (o:={cls:= .ref C,data:= .fields #[.ref ⇑s,.none,.none,.none,.bool false,.none]}) rfl
  rwa [Φ] at this
 have hq:=h (⇑s+1) #[.ref ⇑s,.none,.none,.none,.bool false,.none] (I.hok.fresh (Nat.le_succ _));have r2:Vals (V.ref (⇑s+1)::vs) (Value.ref (⇑s+1)::us):= .cons rfl r;have hlp:(Value.ref (⇑s+1)::us).length=ps.length:=by rw[<-r2.length];show F.len _ _ _ _ hq
 have hb':=hb _ (Value.ref (⇑s+1)::us) I2.kIn (by rw[List.append_nil];show hlp);rw[List.append_nil] at hb';have L1:=W.looks_findIn (M:=model X.prog X.w) I.kIn M.init;have L2: ∀self,W.Looks (model X.prog X.w) s.heap (bindSpecial (.ref f) self) (.ref f,[self]):=λself=>W.bind_fn I.kIn self (beq_iff_eq.mp M.fn);have hlu:us.length<=sizeLine:=by rw[<-r.length,sizeLine_eq];lia
 obtain⟨hh,g,dr,t,os⟩:=s;show make_x xc.ov hC L1 L2 hlu (wpAny_call (codeAny_mono (F.run _ X.stack _ _ ⟨Value.ref (hh.objs.size+1)::us,[]⟩ (Value.ref (hh.objs.size+1)::us) _ _ E0 (hr.make C us []) (I2.env0.make C us []) hb' r2 hq) λr s' hq'=>?_));cases r with
 | error e=>show False.elim hq'
 | ok fl=>
  cases fl with
  | ret u=>
   obtain⟨v,H',I3,rv,ev,q3⟩:=I2.after hq';subst ev;show⟨rv,_,_,H',rfl,Nat.le_succ _,rfl,I3,q3⟩
  | next=>show False.elim hq'
  | brk=>show False.elim hq'
  | cont=>show False.elim hq'
end
def YI (C:Addr) (sp:Sp) (EX:St->XK) (t:TA):TS:=λ_ σ H=>t σ H λvs H1=>vs.length<=1000/\ ∀a v0,H1 a=none->
 sp (.ref a::vs) (upd H1 a (XObj a C none v0)) (λv H2=>v= .non/\ ∃d,H2 a=some (XObj a C d v0)/\EX σ (.ref C) d (unt H2 a)) E0
def HasC (P:Program) (w:World) (K:W.Frag) (mg:Str->Option Value) (base:Heap) (k:Nat) (x:Str) (C:Addr) (ps:List Str) (sp:Sp):Prop:=
 ∃(f:Addr) (fd:FuncData),XMk K C f/\FnOk P w K mg base CX0 k f fd ps sp/\mg x=some (.ref C)/\Binds K fd ps []
def ps_raise{X:Cx}{EX:St->XK}(h:HasC X.prog X.w X.K X.mg X.base k x C ps sp)(L:Lands X EX)(hc:X.calm=true)(hr:Room j X.A)(hkj:k+1<=j)
  (ha:PA X (e::es) t) (hg:Gl X x:=by rfl) (h1:zm e=false:=by rfl) (h2:es.all (λe=> !zm e)=true:=by rfl) (hdb:(x==("__debug__":Str))=false:=by decide):
  PS X (.Raise (some (.Call (.Name x p) (e::es) [] cpos)) none pos) (YI C sp EX t):=by
 obtain⟨f,fd,M,F,hm,hb⟩:=h;obtain⟨bm,xc⟩:=M.xa.bm;obtain⟨nm,q,N,bs,sn,sub,ab,col,dd,k0,k1,k2,k3,k5,hlk⟩:=xc.at_;intro ϖ s σ H D I h;rw[arm_exec_Raise];show γ (wpAny_standAt (raise_made_x (C:=C) (nm:=nm) (q:=q) (N:=N) (bs:=bs) (sn:=sn) (sub:=sub) (ab:=ab) (col:=col) (dd:=dd) (k0:=k0) (k1:=k1) (k2:=k2) (k3:=k3) (k5:=k5) xc.ov (I.ok.hd hc) ?_));show γ (wpAny_mono (wpAny_Call_Name_kw (xo I hg hm ?_ hdb)) (λv s₃ h₃=>γ (wpAny_standAt (ε h₃))) λ_ _ x=>x);show W.callWith_K (h₀:=X.base) I.ok.mod.kin M.kp (thn (ha cpos ϖ s σ H _ I h) λus s1 ⟨vs,H1,I1,r,hl,q⟩=>⟨I1.kIn,?_⟩) (ya h1) (z9 h2);show thn (run_makeX M F (hr.mono hkj) hb I1 r hl q) λu s2 ⟨a,v0,H2,eu,hlo,hv,I2,d,ea,hE⟩=>?_;subst eu;obtain⟨sl,hget⟩:=yP I2.hok ea;have I3:=I2.drop ea;show⟨a,v0,d,sl,rfl,I2.kIn _ _ hlk,hget,hv,?_⟩;show L ϖ σ _ _ a none (.ref C) d I3 ⟨⟨v0,sl,hget,hv⟩,λb hb=>?_⟩ (λp hp hc=>?_) hE
 .rcases ν.mp hb with rfl;show⟨η I1.sz hlo,xX⟩
 .rcases ν.mp hc with e;have z:=(I2.pin p (Ψ _ hp)).2.1;rw[e,ea] at z;cases z
def spXi (K:W.Frag) (fs:List Str):Sp:=λvs H Q _=> ∃(a C:Addr) (v0:Array Value) (us:List V),vs= .ref a::us/\us.length=fs.length/\H a=some (XObj a C none v0)/\XA K C/\(∀f∈fs,ye K C f)/\
 ∀dx,H dx=none->dx≠a->Q .non (upd (upd H dx (XDct dx (fs.zip us))) a (XObj a C (some dx) v0))
def upd_swap(h:b≠a):upd (upd (upd H b o1) a o2) b o3=upd (upd H b o3) a o2:=by
 funext c
 by_cases q1:c=a
 .rw[q1,zi (Ne.symm h),zj,zj]
 .by_cases q2:c=b
  .rw[q2,zj,zi h,zj]
  .rw[zi q2,zi q1,zi q2,zi q1,zi q2]
def unt_upd(h:b≠a)(hn:H a=none):unt (upd (upd (upd H a o1) b o2) a o3) a=upd H b o2:=by
 funext c
 by_cases q1:c=a
 .rw[q1,xX,zi (Ne.symm h),hn]
 .rw[yY q1,zi q1];by_cases q2:c=b
  .rw[q2,zj,zj]
  .rw[zi q2,zi q2,zi q1]
end L2
namespace PySem
open Sem (wp)
open L2 (OverV)
def excMatches_x{M:Model}{A:Around}{E:VSP}{nm q nm' q':Str}{C N D N':Addr}{bs bm bs' bm':List Value}{sn sn':List Str}{sub sub':List Value}{ab ab':Bool}{col col':Option Bool}{dd dd':Option Addr}{k0 k1 k2 k3 k5 k0' k1' k2' k3' k5':Option Value}
  {h:Heap} {g:Array GenState} {d:Drawn} {t:Nat} {os:OsState} {e:Addr} {oe:Obj} {Q:Bool->Shared->Prop} (TD:OverV bm')
  (hC:h.get? C=some (excClassObj nm q C N bs bm true sn sub ab col dd k0 k1 k2 k3 k5 "ValueError.__new__")) (hD:h.get? D=some (excClassObj nm' q' D N' bs' bm' true sn' sub' ab' col' dd' k0' k1' k2' k3' k5' "ValueError.__new__"))
  (he:h.get? e=some oe) (hcls:oe.cls= .ref C) (hin:(Value.ref C::bm).contains (.ref D)=true) (hq:Q true ⟨h,g,d,t,os⟩):wpAny M A (excMatches (.ref e) (.ref D)) Q E ⟨h,g,d,t,os⟩:=by
 have hcB:(Value.ref D::bm').contains (.type "BaseException")=true:=by rw[List.contains_cons,TD.has (b:=true) (nofun),Bool.or_true]
 have f:=tc_notTuple;unfold excMatches
 repeat (first | (with_reducible show wpAny_loadPart_at he ?_;rw[hcls]) | with_reducible show wpAny_loadPart_at hD ?_ | (with_reducible show wpAny_isSubtype_exc hD ?_;rw[hcB]) | (with_reducible show wpAny_isSubtype_exc hC ?_;rw[hin]) | wp_step)
 show hq
end PySem
namespace L2
open PySem PySem.Spec PyProof.Rows
abbrev Cx.tr (X:Cx) (pn:List (Addr×Obj)) (xe:VSP):Cx:={X with pn:=pn,xe:=xe}
abbrev Cx.hdl (X:Cx) (a:Addr):Cx:={X with A:=X.A.mark (some (.ref a)),calm:=false,xe:=λ_ _=>False}
section
variable {X:Cx}{xe:VSP}
def Cx.Ok.tr(ok:X.Ok)(pn:List (Addr×Obj))(xe:VSP):(X.tr pn xe).Ok:=
 ⟨ok.mod,ok.kind,ok.glob,ok.blt,ok.above,ok.inj,ok.has,ok.cab,ok.hd,ok.frames,ok.stk,ok.exf,ok.bs,ok.bsz,ok.noex,ok.exfs,ok.funs,ok.frf⟩
def Cx.Ok.untr{pn:List (Addr×Obj)}(ok:(X.tr pn xe).Ok):X.Ok:=
 ⟨ok.mod,ok.kind,ok.glob,ok.blt,ok.above,ok.inj,ok.has,ok.cab,ok.hd,ok.frames,ok.stk,ok.exf,ok.bs,ok.bsz,ok.noex,ok.exfs,ok.funs,ok.frf⟩
def Cx.Ok.hdl(ok:X.Ok)(a:Addr):(X.hdl a).Ok:=
 ⟨ok.mod,ok.kind,ok.glob,ok.blt,ok.above,ok.inj,ok.has,ok.cab,λz=>(nomatch z),ok.frames,ok.stk,ok.exf,ok.bs,ok.bsz,ok.noex,ok.exfs,ok.funs,ok.frf⟩
def Inv.tr(I:Inv X ϖ σ H s)(xe:VSP):Inv (X.tr (X.pn++ϖ) xe) [] σ H s:=⟨I.ok.tr _ _,I.os,I.bare,I.base,I.loc,I.cell,I.free,I.freeC,λp hp=>I.pin p (by rw[List.append_nil] at hp;show hp),I.hok,I.len⟩
def Inv.untr(I:Inv (X.tr (X.pn++ϖ) xe) q σ H s):Inv X ϖ σ H s:=⟨I.ok.untr,I.os,I.bare,I.base,I.loc,I.cell,I.free,I.freeC,λp hp=>I.pin p (Ψ _ hp),I.hok,I.len⟩
def Inv.hdl(I:Inv X ϖ σ H s)(a:Addr):Inv (X.hdl a) ϖ σ H s:=⟨I.ok.hdl a,I.os,I.bare,I.base,I.loc,I.cell,I.free,I.freeC,I.pin,I.hok,I.len⟩
def Inv.unhdl(ok:X.Ok)(I:Inv (X.hdl a) ϖ σ H s):Inv X ϖ σ H s:=⟨ok,I.os,I.bare,I.base,I.loc,I.cell,I.free,I.freeC,I.pin,I.hok,I.len⟩
theorem SP.untr{f:Flow}(h:SP (X.tr (X.pn++ϖ) xe) q D f s):SP X ϖ D f s:=by
 cases f with
 | next=>obtain⟨σ',H',I,q⟩:=h;show⟨σ',H',I.untr,q⟩
 | brk=>obtain⟨σ',H',I,q⟩:=h;show⟨σ',H',I.untr,q⟩
 | cont=>obtain⟨σ',H',I,q⟩:=h;show⟨σ',H',I.untr,q⟩
 | ret u=>obtain⟨v,σ',H',I,r,q⟩:=h;show⟨v,σ',H',I.untr,r,q⟩
def Inv.away{lo:Nat}{a:Addr}{T:Option Addr}{C fl:Value}{d:Option Addr}(I:Inv X ϖ σ H s)(F:Fly lo s.heap H a T C d fl)(hlo:X.s₀.heap.objs.size<=lo)(hp: ∀p∈X.pn++ϖ,p.1∉a::T.toList):
  ∀b∈a::T.toList,(b∈X.ex\/X.s₀.heap.objs.size<=b)/\b≠X.env.locals/\(∀x c,X.env.cells.lookup x=some c->c≠b)/\ ∀p∈X.pn++ϖ,p.1≠b:=λb hb=>by
 obtain⟨o,vs,e,hd⟩:=F.rcd b hb;show⟨.inr (η hlo (F.lo b hb).1),λz=>?_,λx c hc z=>?_,λp hp' z=>hp p hp' (z▸hb)⟩
 .obtain⟨m,⟨o',_,_,e',d',_⟩,_⟩:=I.loc;rw[z] at e;rw[e'] at e;cases e;rw[d'] at hd;cases hd
 .obtain⟨v,o',e',d'⟩:=I.cell x c hc;rw[z,e] at e';cases e';rw[hd] at d';cases d'
def Inv.newer(I:Inv X ϖ σ H s)(ht:⇑s<=t): ∀b∈[t],(b∈X.ex\/X.s₀.heap.objs.size<=b)/\b≠X.env.locals/\(∀x c,X.env.cells.lookup x=some c->c≠b)/\ ∀p∈X.pn++ϖ,p.1≠b:=λb hb=>by
 rcases ν.mp hb with rfl;have lt: ∀c o,s.heap.get? c=some o->c≠b:=λc o e z=>absurd (θ (ι e) (z▸ht)) (Λ _);show⟨.inr (η I.sz ht),λz=>?_,λx c hc=>?_,λp hp=>lt _ _ (I.pin p hp).1⟩
 .show absurd (θ I.lt (z▸ht)) (Λ _)
 .obtain⟨v,o,e,_⟩:=I.cell x c hc;show lt c o e
def Inv.track{a:Addr}{o:HO}{ob:Obj}{vs:Array Value}(I:Inv X ϖ σ H s)(hn:H a=none)(e:s.heap.get? a=some ob)(hd:ob.data= .fields vs)
  (hch:(a∈X.ex\/X.s₀.heap.objs.size<=a)/\a≠X.env.locals/\(∀x c,X.env.cells.lookup x=some c->c≠a)/\ ∀p∈X.pn++ϖ,p.1≠a) (hx:a∉X.ex) (new:ObjOk X.prog X.w (upd H a o) s.heap a o):Inv X ϖ σ (upd H a o) s:=by
 have hlo:X.s₀.heap.objs.size<=a:=hch.1.elim (λz=>absurd z hx) id;have up: ∀b,b≠a->upd H a o b=H b:=λb h=>zi h;show⟨I.ok,I.os,I.bare,⟨I.base.keep,I.base.slot,λb ob q n hx=>?_,I.base.there,λb xs q=>?_,λb o u q=>?_,λb ps q=>?_⟩,I.loc,I.cell,?_,λx c q=>?_,λp hp=>?_,λb u q=>?_,I.len⟩
 .rw[up b λz=>absurd (θ (ι q) (z▸hlo)) (Λ _)];show I.base.free b ob q n hx
 .have z:=I.base.tups b xs q;rw[up b (zg z hn)];show z
 .have z:=I.base.frzs b o u q;rw[up b (zg z hn)];show z
 .obtain⟨m,z⟩:=I.base.tbls b ps q;show⟨m,by rw[up b (zg z hn)];show z⟩
 .rw[up _ (Ne.symm hch.2.1)];show I.free
 .rw[up _ (hch.2.2.1 x c q)];show I.freeC x c q
 .obtain⟨p1,p2,p3⟩:=I.pin p hp;show⟨p1,by rw[up _ (hch.2.2.2 p hp)];show p2,p3⟩
 .by_cases z:b=a
  .rw[z,zj] at q;cases q;rw[z];show new
  .rw[up b z] at q;show(I.hok b u q).stay (λc v _ y=>y) (λc y=>?_) λc xs y=>?_
   .rw[up c (zg y hn)];show y
   .rw[up c (zg y hn)];show y
def ZP{E:VSP}{Q:Unit->Shared->Prop}(I:Inv X ϖ σ H s)(hN:X.N.Nodup)(hi:X.N[i]? =some n)(hk:X.env.scope.names.lookup n=some .local)
  (h: ∀s',Inv X ϖ (σ.set i none) H s'->Q () s'):wpAny M A (do bindName X.env n .none;unbindBehindTheSuite X.env n pos) Q E s:=by
 have hcls:(X.env.scope.kind== .class || (X.env.scope.kind== .module&&X.env.locals !=X.env.globals))=false:=by rw[I.ok.kind];rfl
 have hl:X.env.kindOf n=some .local:=hk;have hiσ:i<σ.length:=by rw[I.len];show(Η.mp hi).1
 show γ (wpAny_bindName (yZ (v:=V.non) I hN hi (.inl hk) rfl (λs1 I1=>?_) (.inr hk)));obtain⟨m,hn,hlo⟩:=id I1.loc;obtain⟨u,_,lk⟩:=hlo i n V.non hi (List.getElem?_set_self hiσ) (.inl hk);have hmn:m n=some u:=by
  rcases lk with ⟨_,e⟩ | ⟨z,_⟩
  .show e
  .rcases z with z | z<;>(rw[hl] at z;cases z)
 unfold unbindBehindTheSuite;show wpAny_onRaise ?_;unfold unbindName;show γ (wpAny_point (γ ?_));unfold deleteName;simp only[hl,hcls];rw[if_neg ⋯];show γ (wpAny_nsDel_keeps hn λh2 v hn2 hs=>?_);rw[hmn];simp only[if_true,Option.isSome_some,Bool.not_true,Bool.false_eq_true,if_false];show ε (wpAny_point (h _ ?_));have cne:=I1.cne;have tracked:HOk X.prog X.w H h2:=λb ob e=>by
  show(I1.hok b ob e).stay (λc w' hc q=>(hs.2 c ?_).trans q) (λ_ q=>q) λ_ _ q=>q;rintro rfl;rcases hc with rfl | hc
  .rw[I1.free] at e;cases e
  .rw[I1.free] at hc;cases hc
 show⟨I1.ok,I1.os,I1.bare,⟨λb o e n hb hx=>?_,λb o e n hb hx=>?_,I1.base.free,λb o e hx=>?_,I1.base.tups,I1.base.frzs,I1.base.tbls⟩,⟨_,hn2,λj y v' e1 e2 e3=>?_⟩,λy c e=>?_,I1.free,I1.freeC,λp hp=>?_,tracked,by exists I.len⟩
 .show(hs.2 b (Ι (θ (ι e) I1.ok.above))).trans (I1.base.keep b o e n hb hx)
 .obtain⟨sl,e1⟩:=I1.base.slot b o e n hb hx;show⟨sl,(hs.2 b (Ι (θ (ι e) I1.ok.above))).trans e1⟩
 .obtain⟨o',e1⟩:=I1.base.there b o e hx;show⟨o',(hs.2 b (Ι (θ (ι e) I1.ok.above))).trans e1⟩
 .by_cases hj:j=i
  .subst hj;rw[List.getElem?_set_self hiσ] at e2;cases e2
  .rw[List.getElem?_set_ne (Ne.symm hj)] at e2;obtain⟨u',r',q⟩:=hlo j y v' e1 (by rw[List.getElem?_set_ne (Ne.symm hj)];show e2) e3;show⟨u',r',?_⟩;rcases q with ⟨k,e⟩ | ⟨k,c,e,z⟩
   .show .inl ⟨k,?_⟩;have:y≠n:=λe=>hj (vI hN e1 (e▸hi));simp[this,e]
   .show .inr ⟨k,c,e,z.sameBut hs (cne y c e)⟩
 .obtain⟨w',z⟩:=I1.cell y c e;show⟨w',z.sameBut hs (cne y c e)⟩
 .obtain⟨e,n,ne,nf,d⟩:=I1.pin p hp;show⟨(hs.2 p.1 ne).trans e,n,ne,nf,d⟩
end
def unE (i:Nat) (D:Ends):Ends:={nx:=fun σ H=>D.nx (σ.set i none) H,rt:=D.rt,bk:=fun σ H=>D.bk (σ.set i none) H,ct:=fun σ H=>D.ct (σ.set i none) H}
def tTry (K:W.Frag) (D:Addr) (i:Nat) (tb:(St->XK)->TS) (ts:TS):TS:=λDn σ H=>tb (fun σ' C d H'=> ∃(c:Addr) (bm:List Value),C= .ref c/\XC K c bm/\(Value.ref c::bm).contains (.ref D)=true/\
 ∀a vs,H' a=none->ts (unE i Dn) (σ'.set i (some (.ref a))) (upd H' a (XObj a c d vs))) Dn σ H
theorem ps_try{X:Cx}{tb:(St->XK)->TS}(M:Nm X.N X.env.scope)(hst:X.stack=X.env::X.outer)(hfr:X.env.frame=some X.env.locals)(hex:X.ex=[])
  (hm:X.mg x=some (.ref D)) (xd:XC X.K D bmD) (hi:X.N[i]? =some n) (hk:X.env.scope.names.lookup n=some .local)
  (hb: ∀pn xe EX,PassesOwn (model X.prog X.w) X.A X.env xe->Lands (X.tr pn xe) EX->PSs (X.tr pn xe) body (tb EX)) (hs: ∀a,PSs (X.hdl a) (b₀::suite) ts) (hg:Gl X x:=by rfl) (hdb:(x==("__debug__":Str))=false:=by decide):
  PS X (.Try body [.ExceptHandler (some (.Name x np)) (some n) (b₀::suite) hpos] [] [] pos) (tTry X.K D i tb ts):=by
 intro ϖ s σ H Dn I h;show wpAny_Try_except ?_;have hL: ∀EX:St->XK,(∀σ' C d H',EX σ' C d H'-> ∃(c:Addr) (bm:List Value),C= .ref c/\XC X.K c bm/\(Value.ref c::bm).contains (.ref D)=true/\ ∀a vs,H' a=none->ts (unE i Dn) (σ'.set i (some (.ref a))) (upd H' a (XObj a c d vs)))->
   Lands (X.tr (X.pn++ϖ) λe s'=>wpAny (model X.prog X.w) X.A (noteFrame e X.env) (λ_ s2=>wpAny (model X.prog X.w) X.A (setFlight e none) (λ_ s3=>wpAny (model X.prog X.w) X.A (handleBy e X.env [.ExceptHandler (some (.Name x np)) (some n) (b₀::suite) hpos]) (SP X ϖ Dn) X.xe s3) X.xe s2) X.xe s') EX:=by
  intro EX hEX pins' σ' H' s' a T C d I1 F hp hE;obtain⟨c,bm,rfl,xc,hin,hts⟩:=hEX _ _ _ _ hE;have I2:Inv X ϖ σ' H' s':=I1.untr;have hstk:s'.heap.FunFrames X.base (X.env::X.outer):=by rw[<-hst];show I2.stack
  have hfrs: ∀b∈frs (X.env::X.outer),H' b=none:=by rw[<-hst];show I2.stkFree
  change wpAny (model X.prog X.w) X.A (noteFrame (.ref a) X.env) _ X.xe s';show WI (by rw[I2.ok.frames,hst]) hstk hfr F I2.sz (λb hb=>I2.hok.fresh hb) λh1 T1 F1 hT1 k1 k2=>?_;have aw:=I2.away F (μ _) hp;have I3:Inv X ϖ σ' H' {s' with heap:=h1}:=I2.call (g':=s'.gens) (d':=s'.drawn) (t':=s'.toks) (ch:=a::T.toList) (by rw[hst];show X5 k1 k2) (ZO I2.hok k1 hfrs λb hb=>(F.lo b hb).2) I2.bare aw;show YX (s:={s' with heap:=h1}) F1 λh2 F2 k3=>?_;have nw:=I2.newer hT1;have I4:Inv X ϖ σ' H' {s' with heap:=h2}:=Inv.call (s:={s' with heap:=h1}) (h':=h2) (g':=s'.gens) (d':=s'.drawn) (t':=s'.toks) (ch:=[T1]) I3 (X5 (h:=h1) (λb o q _ hc=>k3 b o q λz=>hc (by simp[z])) λb o q hc=>⟨o.slots,k3 b o q λz=>hc (by simp[z])⟩)
   (ZO (h:=h1) (fs:=[]) (ch:=[T1]) I3.hok (λb o q _ hc=>k3 b o q λz=>hc (by simp[z])) (λb hb=>nomatch hb) λb hb=>by rcases ν.mp hb with rfl;show I2.hok.fresh hT1) I2.bare nw
  obtain⟨vs,sl,hget,_⟩:=F2.at_;obtain⟨nm,q,N,bs,sn,sub,ab,col,dd,k0,k1',k2',k3',k5,hlk⟩:=xc.at_;obtain⟨nm',q',N',bs',sn',sub',ab',col',dd',k0',k1'',k2'',k3'',k5',hlk'⟩:=xd.at_;show wpAny_handleBy_cons (codeAny_handlers_test (xo (X:=X.hdl a) (I4.hdl a) hg hm ?_ hdb)) (by intro z;cases z);show excMatches_x xd.ov (I4.kIn _ _ hlk) (I4.kIn _ _ hlk') hget rfl hin ?_;show codeAny_handlers_suite_as ?_;show YX (s:={s' with heap:=h2}) F2 λh5 F5 k5'=>?_;have I5:Inv X ϖ σ' H' {s' with heap:=h5}:=Inv.call (s:={s' with heap:=h2}) (h':=h5) (g':=s'.gens) (d':=s'.drawn) (t':=s'.toks) (ch:=[T1]) I4 (X5 (h:=h2) (λb o q _ hc=>k5' b o q λz=>hc (by simp[z])) λb o q hc=>⟨o.slots,k5' b o q λz=>hc (by simp[z])⟩)
   (ZO (h:=h2) (fs:=[]) (ch:=[T1]) I4.hok (λb o q _ hc=>k5' b o q λz=>hc (by simp[z])) (λb hb=>nomatch hb) λb hb=>by rcases ν.mp hb with rfl;show I2.hok.fresh hT1) I2.bare nw
  obtain⟨vs5,sl5,hget5,_⟩:=F5.at_;have I6:Inv X ϖ σ' (upd H' a (XObj a c d vs5)) {s' with heap:=h5}:=I5.track (F.lo a ξ).2 hget5 rfl (aw a ξ) (by rw[hex];show λz=>nomatch z) (Zx hget5);show yZ (X:=X.hdl a) (v:=V.ref a) (I6.hdl a) M.nd hi (.inl hk) rfl (λs7 I7=>?_) (.inr hk);have ok:=I.ok;show wpAny_mono (hs a ϖ s7 _ _ _ I7 (hts a vs5 (F.lo a ξ).2)) (λf s8 z=>?_) λ_ _ z=>False.elim z;cases f with
  | next=>
   obtain⟨σ8,H8,I8,z⟩:=z;show ZP (I8.unhdl ok) M.nd hi hk λs9 I9=>⟨_,H8,I9,z⟩
  | brk=>
   obtain⟨σ8,H8,I8,z⟩:=z;show ZP (I8.unhdl ok) M.nd hi hk λs9 I9=>⟨_,H8,I9,z⟩
  | cont=>
   obtain⟨σ8,H8,I8,z⟩:=z;show ZP (I8.unhdl ok) M.nd hi hk λs9 I9=>⟨_,H8,I9,z⟩
  | ret u=>
   obtain⟨v,σ8,H8,I8,r,z⟩:=z;show ZP (I8.unhdl ok) M.nd hi hk λs9 I9=>⟨v,_,H8,I9,r,z⟩
 show wpAny_mono (hb (X.pn++ϖ) _ _ PassesOwn.looking (hL _ λ_ _ _ _ z=>z) [] s σ H Dn (I.tr _) h) (λf s1 z=>?_) λ_ _ z=>z;cases f with
 | next=>show wpAny_execs_nil z.untr
 | brk=>show z.untr
 | cont=>show z.untr
 | ret u=>show z.untr
section
variable {L:Addr}{lo:Nat}
theorem note_any(hfr:A.frames=some (env::outer))(hl:s.heap.FunFrames base (env::outer))(hf:env.frame=some L)(F:Fly lo s.heap H a T C d fl)(hlo:lo<=⇑s)(hH: ∀b,⇑s<=b->H b=none)
  (h: ∀h' T' fl',Fly lo h' H a (some T') C d fl'->(T'∈a::T.toList\/⇑s<=T')->(∀b o,s.heap.get? b=some o->b∉frs (env::outer)->b∉a::T.toList->h'.get? b=some o)->
   (∀b o,s.heap.get? b=some o->b∉a::T.toList-> ∃z,h'.get? b=some {o with slots:=z})->Q () {s with heap:=h'}):
  wpAny M A (noteFrame (.ref a) env) Q E s:=by
 cases T with
 | none=>show WI hfr hl hf (⟨F.at_,F.lo⟩:Fly lo s.heap H a none C d .none) hlo hH λh' T' F' hT' k1 k2=>h h' T' _ F' (.inr hT') k1 k2
 | some t=>
  have F0:=F;obtain⟨⟨vs,sl,ha,hT⟩,hlow⟩:=F;unfold noteFrame;simp only[hf];obtain⟨h1,hta,oT,ts,g1,g2,g3⟩:=hT;show γ (Κ ha rfl h1 ?_);rw[if_pos (show(Value.ref t !=Value.none)=true from by simp)];show γ (Κ g1 g2 g3 ?_);by_cases hq:(fl==rawInt L)=true
  .rw[if_pos hq];show ε (h s.heap t fl F0 (.inl Sort) (λb o hb _ _=>hb) λb o hb _=>⟨o.slots,hb⟩)
  rw[if_neg hq];show γ (wpAny_setField g1 g2 (Array.getElem?_eq_some_iff.mp g3).1 ?_);have other: ∀b,b≠t->(s.heap.update t (Obj.mapFields (·.setIfInBounds 3 Value.none))).get? b=s.heap.get? b:=λb hb=>Heap.get?_update_other _ _ (Ne.symm hb);have noRecord: ∀b o,s.heap.get? b=some o->(∀vs,o.data≠.fields vs)->b≠t:=λb o hb hnf q=>by
   rw[q,g1] at hb;injection hb with hb;subst hb;show hnf ts g2
  have szu:(s.heap.update t (Obj.mapFields (·.setIfInBounds 3 Value.none))).objs.size=⇑s:=Heap.size_after_update ..;show ZT (s:={s with heap:=s.heap.update t (Obj.mapFields (·.setIfInBounds 3 Value.none))}) hfr (hl.of_keeps λb o hb hnf=>⟨o,(other b (noRecord b o hb hnf)).trans hb,rfl⟩) hf ((other a (Ne.symm hta)).trans ha) rfl (Array.getElem?_eq_some_iff.mp h1).1 λh' T' hs hne he htb k1 k2=>?_;have hs':⇑s<=T':=by
   have hs:(s.heap.update t (Obj.mapFields (·.setIfInBounds 3 Value.none))).objs.size<=T':=hs;rw[szu] at hs;show hs
  obtain⟨oT',ts',t1,t2,t3⟩:=htb;show h h' T' _ ⟨⟨_,sl,he,by simp[(Array.getElem?_eq_some_iff.mp h1).1],hne,oT',ts',t1,t2,t3⟩,λb hb=>?_⟩ (.inr hs') (λb o hb hn hc=>k1 b o ((other b λz=>hc (by simp[z])).trans hb) hn λz=>hc (by simp[z])) λb o hb hc=>k2 b o ((other b λz=>hc (by simp[z])).trans hb) λz=>hc (by simp[z]);rcases Ε.mp hb with e | hb
  .rw[e];show hlow a ξ
  .rcases ν.mp hb with rfl;show⟨η hlo hs',hH _ hs'⟩
end
def LandsF (X:Cx) (EX:St->XK):Prop:= ∀(ϖ:List (Addr×Obj)) (σ:St) (H:Hp) (s:Shared) (a:Addr) (T:Option Addr) (C:Value) (d:Option Addr) (fl:Value),Inv X ϖ σ H s->Fly X.s₀.heap.objs.size s.heap H a T C d fl->
 (∀p∈X.pn,p.1∉a::T.toList)->EX σ C d H->X.xe (.ref a) s
def LandsF.lands{EX:St->XK}(L:LandsF X EX):Lands X EX:=λϖ σ H s a T C d I F hp hE=>L ϖ σ H s a T C d _ I F hp hE
def landsF_cx{P:Program}{w:World}{K:W.Frag}{mg:Str->Option Value}{base:Heap}{N:List Str}{qual:Str}{scope:Scope}{f:Addr}{cd:Value}{A:Around}{outer:List Env}{s:Shared}{H:Hp}{E:XK}:
  LandsF (cxOf (CXE P w) P w K mg base N qual scope f cd A outer s H E) (λ_=>E):=by
 intro ϖ σ H' s' a T C d fl I F hp hE;change wpAny (model P w) (A.deeper (envOfC qual scope ⇑s f cd)) (leaving (envOfC qual scope ⇑s f cd) (.ref a)) (λ_ s''=>CXE P w outer H s E (.ref a) s'') (λe' s''=>CXE P w outer H s E e' s'') s';unfold leaving;have hstk:=I.stack;have hfr:=I.stkFree;show γ (note_any I.ok.frames hstk rfl F I.sz (λb hb=>I.hok.fresh hb) λh1 T1 fl1 F1 hT1 k1 k2=>?_);show YX (s:={s' with heap:=h1}) F1 λh2 F2 k3=>?_;have low: ∀b,b<⇑s->b∉a::T.toList:=λb hb z=>absurd (θ hb (F.lo b z).1) (Λ _);have hsz:⇑s<=⇑s':=I.sz;have nT1: ∀b,b<⇑s->b≠T1:=λb hb z=>by
  rcases hT1 with q | q
  .show low b hb (z▸q)
  .show absurd (θ (θ (z▸hb) hsz) q) (Λ _)
 show⟨a,some T1,C,d,H',rfl,I.os,I.bare,Un.more I.base (λb o hb q hn=>?_) (λb o hb q=>?_),?_,F2,hE⟩
 .show k3 b o (k1 b o q (λz=>?_) (low b hb)) (nT1 b hb);rcases Ε.mp z with z | z
  .show absurd (θ hb (η I.ok.above (Nat.le_of_eq z.symm))) (Λ _)
  .show hn z
 .obtain⟨z,e⟩:=k2 b o q (low b hb);show⟨z,k3 b _ e (nT1 b hb)⟩
 .show ZO (fs:=frs (envOfC qual scope ⇑s f cd::outer)) (ch:=T1::(a::T.toList)) I.hok (λb o q hn hc=>?_) hfr λb hb=>?_
  .show k3 b o (k1 b o q hn λz=>hc (ζ _ z)) λz=>hc (by simp[z])
  .rcases Ε.mp hb with e | hb
   .rw[e];show(F1.lo T1 Sort).2
   .show(F.lo b hb).2
def Fun.okXF{P:Program}{w:World}{K:W.Frag}{mg:Str->Option Value}{base:Heap}{x qual:Str}{st:Stmt}{f:Addr}{fd:FuncData}{N ps:List Str}{k:Nat}{sp:Sp}(F:Fun K x qual st f fd)(S:FnScope N ps (zl st))(len: ∀vs H Q E,sp vs H Q E->vs.length=ps.length)
  (hbody: ∀(cdv:Value) (A:Around) (outer:List Env) (s:Shared) (H:Hp) (vs:List V) (Q:VK) (E:XK),Room k (A.deeper (envOfC qual (zl st) ⇑s f cdv))->sp vs H Q E->
   LandsF (cxOf (CXE P w) P w K mg base N qual (zl st) f cdv A outer s H E) (λ_=>E)->
   ∃t,PSs (cxOf (CXE P w) P w K mg base N qual (zl st) f cdv A outer s H E) (zE st) t/\t {nx:=λ_ H'=>Q .non H',rt:=Q} (start N vs) H):FnOk P w K mg base (CXE P w) (k+1) f fd ps sp:=by
 obtain⟨oc,od,kV,doc,pm,an,cdv,ct,osl,rfl,lk,hcd⟩:=F.ex;show VH lk hcd S len λA outer s H vs Q E hr hsp=>?_;show hbody cdv A outer s H vs Q E hr hsp landsF_cx
end L2
namespace PySem.SeqAt
open PySem.MeetsSeq PySem PySem.Spec
def dict_says_no(l:Addr)(es:Array DictEntry)(n:Nat)(dd:Option Addr)(sl:Array (Option Value))(b:Str)(u:Tok):
  Meets (Builtin.«dict.__eq__» ⟨[.ref l,.str b u],[]⟩) (λ_ R s=>s.heap.get? l=some {cls:= .type "dict",dict:=dd,data:= .dict es n,slots:=sl}/\R (.ok (.ret .notImplemented)) s):=
 .of_wp λprog w A R s h=>by
  obtain⟨hp,g,d,tk,os⟩:=s;obtain⟨hl,h⟩:=h;have f1:isSubtype (.type "str") (.type "dict")=pure false:=by rw[isSubtype_type];kernel_rfl
  have f2:isSubtype (.type "dict") (.type "dict")=pure true:=by rw[isSubtype_type];kernel_rfl
  wp_walk using wpAny_loadPart' hl,wpAny_load hl
  show⟨_,rfl,h⟩
def text_says_no(b:Str)(u:Tok)(l:Addr)(es:Array DictEntry)(n:Nat)(dd:Option Addr)(sl:Array (Option Value)):
  Meets (Builtin.«str.__eq__» ⟨[.str b u,.ref l],[]⟩) (λ_ R s=>s.heap.get? l=some {cls:= .type "dict",dict:=dd,data:= .dict es n,slots:=sl}/\R (.ok (.ret .notImplemented)) s):=
 .of_wp λprog w A R s h=>by
  obtain⟨hp,g,d,tk,os⟩:=s;obtain⟨hl,h⟩:=h
  wp_walk using wpAny_loadPart' hl,wpAny_load hl
  show⟨_,rfl,h⟩
end PySem.SeqAt
namespace HT
open PySem PySem.Spec PyProof.Rows
def adjust_rev(n:Nat):Builtin.Slice.sliceAdjust none none (-1) (n:Int)=((n:Int)-1,-1):=by
 unfold Builtin.Slice.sliceAdjust;simp
def places_rev(n:Nat):Builtin.Slice.slicePlaces ((n:Int)-1) (-1) (-1)=n:=by
 unfold Builtin.Slice.slicePlaces;have h1: ¬((-1:Int)>0):=by lia
 simp only[h1,if_false];rcases Nat.eq_zero_or_pos n with h | h
 .subst h;rfl
 .have e: -(-1:Int)=1:=rfl;simp only[e,Int.ediv_one];split<;>lia
def pick_rev(xs:Array Value):((List.range xs.size).filterMap fun(m:Nat)=>xs[((xs.size:Int)-1+(m:Int)*(-1)).toNat]?)=xs.toList.reverse:=by
 have e:=W.krv_pick xs;unfold slicePick at e;rw[W.krv_bounds] at e;have e2:((sliceRange ((xs.size:Int)-1) (-1) (-1)).filterMap (xs[·]?))=xs.toList.reverse:=by
  have:=congrArg Array.toList e;exists this
 rw[W.krv_sliceRange,List.filterMap_map] at e2;rw[<-e2]
 apply congrFun
 apply congrArg
 funext m
 change xs[((xs.size:Int)-1+(m:Int)*(-1)).toNat]? =xs[xs.size-1-m]?;congr 1;lia
theorem getItem_tuple_rev{Q:VSP}(ht:IsTup s.heap t items)(hs:s.heap.IsSliceOf sl .none .none (.int (-1) tk))
  (h:Q (.ref ⇑s) {s with heap:=s.heap.push {cls:= .type "tuple",data:= .seq items.toList.reverse.toArray}}) (hsz:items.size<=sizeLine):wpAny (model prog w) A (getItem (.ref t) (.ref sl)) Q E s:=by
 have hz:sizeOk (.seq items.toList.reverse.toArray):=by
  change items.toList.reverse.toArray.size<=sizeLine;exists hsz
 obtain⟨os,hos,hcs,hds⟩:=id hs;have hTs:s.TypeIs (.ref sl) "slice":=⟨os,hos,hcs⟩;unfold getItem
 try with_reducible show wpAny_holding ?_
 first | show γ (ε ?_) | skip
 show γ (wpAny_sequenceKey ht.typeIs ⋯ ?_);show γ (wpAny_callSpecial?_slot (name:=Str.ofString "__getitem__") ht.typeIs PyProof.Rows.slot_tuple_getitem (wpAny_call_entry PyProof.Rows.slot_tuple_getitem ht.typeIs entry_tuple_getitem ?_ (args_tuple_getitem _ _)));change wpAny _ _ (Builtin.Tuple.tupleItemsOf (.ref t)>>=_) _ _ s;show γ (tupleItemsOf_ ht (γ (wpAny_typeOf hTs ?_)));rw[if_pos ⋯];show γ ?_;unfold Builtin.Slice.sliceApplied Builtin.Slice.sliceFields;show γ (γ (Κ hos hds (x:= .none) rfl (γ (Κ hos hds (x:= .none) rfl (γ (Κ hos hds (x:= .int (-1) tk) rfl (ε ?_)))))));show γ (slicePart_int ?_);change wpAny _ _ (if ((-1:Int)==0)=true then _ else _) _ _ s;rw[if_neg ⋯];show γ (slicePart_none (γ (slicePart_none (γ (ε ?_)))));change wpAny _ _ (match Builtin.Slice.sliceAdjust none none (-1) (items.size:Int) with | (lo,hi)=>pure (lo,(-1:Int),Builtin.Slice.slicePlaces lo hi (-1))) _ _ s;rw[adjust_rev];change wpAny _ _ (pure ((items.size:Int) - 1,(-1:Int),Builtin.Slice.slicePlaces ((items.size:Int) - 1) (-1) (-1))) _ _ s;rw[places_rev];show ε ?_;change wpAny _ _ (if (((items.size:Int) - 1)==0&&(-1:Int)==1&&items.size==items.size)=true then _ else _) _ _ s;rw[if_neg Sort,pick_rev]
 first
  | show γ (m:=Builtin.Tuple.tupleExact _) (wpAny_newObj_type (ε ⟨_,rfl,ε h⟩) hz)
  | show γ (m:=Builtin.Tuple.tupleExact _) (wpAny_newObj_type (γ (ε (ε ⟨_,rfl,ε h⟩))) hz)
  | show γ (γ (m:=Builtin.Tuple.tupleExact _) (wpAny_newObj_type (ε (ε ⟨_,rfl,ε h⟩)) hz))
  | show γ (γ (m:=Builtin.Tuple.tupleExact _) (wpAny_newObj_type (ε ⟨_,rfl,ε h⟩) hz))
end HT
namespace L2
open PySem PySem.Spec PyProof.Rows
def tRev (te:TE):TE:=fun σ H Q=>te σ H λx H1=> ∃(a:Addr) (xs:List V),x= .ref a/\H1 a=some (.tup xs)/\ ∀q,H1 q=none->Q (.ref q) (upd H1 q (.tup xs.reverse))
def pe_rev{X:Cx}{e:Expr}{te:TE}{p1 p2 pos:Pos}{k:Expr}(he:PE X e te)(hk:PO X (some k) (Wb (tC (.int (-1))))):PE X (.Subscript e (.Slice none none (some k) p2) pos) (tRev te):=by
 intro ϖ s σ H Q I h;show Subscript_ (thn (he ϖ s σ H _ I h) λv s1 ⟨x,H1,I1,r1,a,xs,ex,ha,q1⟩=>?_);show wpAny_Slice ?_;rw[evalPart_none];show ε (ε ?_);show thn (hk ϖ s1 σ H1 (λo H'=>o=some (-1)/\H'=H1) I1 ⟨_,rfl,rfl,rfl⟩) λvk s2 ⟨o,H2,I2,pk,eo,eH⟩=>?_;subst ex eo eH;obtain rfl:v=Value.ref a:=r1;obtain⟨tk,rfl⟩: ∃tk,vk= .int (-1) tk:=by
  cases pk
  show⟨_,rfl⟩
 have I3:Inv X ϖ σ H2 {s2 with heap:=s2.heap.push {cls:= .type "slice",data:= .fields #[.none,.none,.int (-1) tk]}}:=I2.kept (t':=s2.toks) λb ob q=>δ _ q;obtain⟨its,r,ht,hz⟩:=I3.tuple (SqT.of ha);have hsz:its.toArray.size<=sizeLine:=by rw[ψ,<-r.length];show hz
 change wpAny (model X.prog X.w) X.A (subscriptTail e (.Slice none none (some k) p2) (.ref a) (.ref ⇑s2)) (EP X ϖ σ Q) X.xe {s2 with heap:=s2.heap.push {cls:= .type "slice",data:= .fields #[.none,.none,.int (-1) tk]}};show tail_any ht.typeIs PyProof.Rows.slot_tuple_getitem.lookup ?_ (by with_unfolding_all rfl);show HT.getItem_tuple_rev ht (Heap.IsSliceOf.new ..) ?_ hsz;show⟨.ref _,_,I3.laid (t':=s2.toks) (λb o e=>δ _ e) (μ _) (show ObjOk X.prog X.w _ _ _ (.tup xs.reverse) from⟨by rw[List.length_reverse];show hz,its.reverse,r.reverse,_,ο _ rfl,rfl,0,by simp⟩),rfl,q1 _ (I3.hok.fresh (μ _))⟩
structure KS (H H':Hp):Prop where
 t: ∀q xs,H q=some (.tup xs)->H' q=some (.tup xs)
 l: ∀q xs,H q=some (.lst xs)-> ∃ys,H' q=some (.lst ys)
 d: ∀q xs,H q=some (.dK xs)-> ∃ys,H' q=some (.dK ys)
end L2
namespace L2
open PySem PySem.Spec PyProof.Rows Builtin Builtin.Str
section
variable {X:Cx}
def call_strI:CallR X (.type "str") (λxs H Q=> ∃i:Int,xs=[.int i]/\i.natAbs.log2<1920/\Q (.str (Str.ofString (toString i))) H):=by
 intro ϖ s σ H xs us Q I r h;obtain⟨i,rfl,hi,q⟩:=h;obtain⟨u,rfl,t,rfl⟩:=Za r;show P.str_of_int hi ⟨.str _,H,I.tok _,⟨_,rfl⟩,q⟩
end
end L2
namespace L2
open PySem PyProof.Rows
def sg (x:Str):List Str:=x.cps.toList.map λc=>⟨#[c]⟩
end L2
namespace PySem
open Sem (wp)
open AutoSeq1 (wpAny_loadPart')
theorem collect_rng{Q:List Value->Shared->Prop}{r:Addr}{a b c:Int}{t u v:Tok}{n:Nat}(hh:A.handled=none)(hr:IsRange s.heap r a b c t u v)(hsmall:Builtin.Range.small a b c=true)(hn:Builtin.Range.rangeSize a b c=n)(hlen:n<=2^24)
  (hQ: ∀(s':Shared) (acc:Array Value),(∀b o,s.heap.get? b=some o->s'.heap.get? b=some o)->s'.gens=s.gens->s'.drawn=s.drawn->s'.os=s.os->ItemsOf (λi v=> ∃t,v= .int (a+i*c) t) acc n->Q acc.toList s'):wpAny (model prog w) A (collect (.ref r)) Q E s:=by
 unfold collect;show γ (wpAny_runValue (codeAny_builtin F.entry_proto_collect ?_));rw[Around.under_plainId F.plain_proto_collect _];change wpAny _ A.in1 (newList []>>=λl=>again (.builtin "list.__iadd__" ⟨[l,.ref r],[]⟩)) _ _ s;show γ (wpAny_newObj_type ?_);show ε ⟨plainId_quiet F.plain_list_iadd _,codeAny_builtin F.entry_list_iadd ?_⟩;rw[Around.under_plainId F.plain_list_iadd _];have hS:(s.heap.push {cls:= .type "list",data:= .seq ([]:List Value).toArray}).get? ⇑s=some {cls:= .type "list",data:= .seq #[] 0}:=ο _ rfl;change wpAny _ A.in1 (Builtin.List.listExtendWith (.ref ⇑s) (.ref r) (.ref ⇑s)) _ _ _;show wpAny_extend_range (A:=A) (R:=fun(z:Result) (s':Shared)=>match z with
  | .ok (.ret v)=>wpAny (model prog w) A (match v with
   | .ref a=>do match (<-load a).data with
    | .seq xs _=>pure xs.toList
    | _=>unsupported "internal:collect"
   | _=>unsupported "internal:collect") Q E s'
  | .ok _=>False
  | .error e=>E e s') (s:={s with heap:=s.heap.push {cls:= .type "list",data:= .seq ([]:List Value).toArray}}) hh (δ _ hr) hsmall hn hlen ⇑s (.ref ⇑s) 0 hS λh' tk acc' c' hk hS' hacc=>?_
 change wpAny _ A (load ⇑s>>=_) _ _ _;show γ (wpAny_load hS' (ε ?_));show hQ {s with heap:=h',toks:=tk} acc' (λb o e=>hk b o (Ι (ι e)) (δ _ e)) rfl rfl rfl hacc
def new_tuple_rng(r:Addr)(o:Obj)(a b c:Int)(t u v:Tok)(n:Nat)(hsmall:Builtin.Range.small a b c=true)(hn:Builtin.Range.rangeSize a b c=n)(hlen:n<=2^24):
  Meets (Builtin.«tuple.__new__» ⟨[.type "tuple",.ref r],[]⟩)
   (λA R s=>A.handled=none/\IsRange s.heap r a b c t u v/\ ∀(s':Shared) (acc:Array Value),(∀b o,s.heap.get? b=some o->s'.heap.get? b=some o)->s'.gens=s.gens->s'.drawn=s.drawn->s'.os=s.os->ItemsOf (λi v=> ∃t,v= .int (a+i*c) t) acc n->
    R (.ok (.ret (.ref ⇑s'))) {s' with heap:=s'.heap.push {cls:= .type "tuple",data:= .seq acc}}):=
 .of_wp λprog w A R s h=>by
  obtain⟨hh,hr,h⟩:=h;have hsub:=sub_tuple_self;have hinit:=init_tuple_lookup;have hmh:=madeHere_tuple;have hT:s.TypeIs (.ref r) "range":=⟨_,hr,rfl⟩;have hh1:A.in1.handled=none:=hh
  wp_walk using wpAny_typeOf hT,collect_rng hh1 hr hsmall hn hlen
  intro s' acc hk hg hd hos hacc;change wpAny _ _ (Builtin.Tuple.tupleExact acc.toList.toArray>>=λv=>ret v) _ _ _;unfold Builtin.Tuple.tupleExact;show γ (wpAny_newObj_type ?_ (show acc.toList.toArray.size<=sizeLine by simp only[Array.toArray_toList];rw[hacc.1,sizeLine_eq];lia));show ε ⟨_,rfl,?_⟩;have e:acc.toList.toArray=acc:=by simp
  rw[e];show h s' acc hk hg hd hos hacc
def call_tuple_rng{Q:VSP}{r:Addr}{a b c:Int}{t u v:Tok}{n:Nat}(hh:A.handled=none)(hr:IsRange s.heap r a b c t u v)(hsmall:Builtin.Range.small a b c=true)(hn:Builtin.Range.rangeSize a b c=n)(hlen:n<=2^24)
  (h: ∀(h':Heap) (tk:Nat) (acc:Array Value),(∀b o,s.heap.get? b=some o->h'.get? b=some o)->ItemsOf (λi v=> ∃t,v= .int (a+i*c) t) acc n->Q (.ref h'.objs.size) {s with heap:=h'.push {cls:= .type "tuple",data:= .seq acc},toks:=tk}):
  wpAny (model prog w) A (call (.type "tuple") [.ref r]) Q E s:=by
 show callType_new F.called_tuple ⋯ (F.typeCall_tuple_1 _) (F.newCall_tuple_1 _) (λobj=>F.args_object_init_2 obj _) F.entry_tuple_new
  (new_tuple_rng r default a b c t u v n hsmall hn hlen) ⟨hh,hr,λs' acc hk hg hd hos hacc=>⟨⟨_,ο _ rfl,rfl⟩,?_⟩⟩
 obtain⟨h',g',d',tk',os'⟩:=s';have e1:g'=s.gens:=hg;have e2:d'=s.drawn:=hd;have e3:os'=s.os:=hos;subst e1 e2 e3;show h h' tk' acc hk hacc
end PySem
namespace L2
open PySem PySem.Spec PyProof.Rows
section
variable {X:Cx}
def Vn:List V->Hp->VK->Prop:=λxs H Q=> ∃(p:Addr) (n:Nat),xs=[.ref p]/\H p=some (.rng 0 (n:Int))/\n<=1000/\ ∀l,H l=none->Q (.ref l) (upd H l (.tup ((List.range n).map fun(i:Nat)=>V.int (i:Int))))
def call_tupRng(hr:Room k X.A):CallR X (.type "tuple") Vn:=by
 intro ϖ s σ H xs us Q I r h;obtain⟨p,n,rfl,hp,hn,q⟩:=h;obtain⟨u,rfl,ru⟩:=r.one;cases ru
 obtain⟨t,u,v,e⟩:=I.hok p _ hp;show call_tuple_rng (n:=n) hr.hd e (small_one ∅ ∅ ∅ ∅) (by rw[rangeSize_one];split<;>lia) ∅ λh' tk acc hk hacc=>?_;have I1:Inv X ϖ σ H {s with heap:=h',toks:=tk}:=I.kept (t':=tk) hk;show⟨.ref h'.objs.size,_,I1.laid (t':=tk) (λb o e=>δ _ e) (μ _) ?_,rfl,q _ (I1.hok.fresh (μ _))⟩;obtain⟨hsz,hit⟩:=hacc;show⟨by rw[ω,List.length_range];show Υ (Ze hn),acc.toList,w4 (by simp[hsz]) λj x u ex eu=>?_,_,ο _ rfl,rfl,0,by simp⟩;have hj:j<n:=by
  have:=(Η.mp ex).1;exists this
 rw[Ν,List.getElem?_range hj] at ex;have ex':V.int (j:Int)=x:=Α ex;subst ex';obtain⟨t,ht⟩:=hit j u (by exists eu);subst ht;show⟨t,by simp⟩
end
end L2
namespace PySem
open Sem (wp)
open Builtin Builtin.ObjectAttr
open L2 (OverV XC XA bmV)
section
variable {os:OsState}{K:W.Frag}
variable {sub:List Value}
 {ox:Obj} {od:Option Obj}
def class_get_x{R:Result->Shared->Prop}(T:OverV bm)(hC:h.get? C=some (excClassObj nm q C N bs bm true sn sub ab col dd k0 k1 k2 k3 k5 "ValueError.__new__"))(hx:h.get? x=some ox)(hc:ox.cls= .ref C)(hq:R (.ok (.ret (.ref C))) ⟨h,g,d,t,os⟩):
  codeAny (model prog w) A (.call (.builtin "getset_descriptor.__get__") ⟨[.builtin "object.__class__",.ref x,.ref C],[]⟩) R ⟨h,g,d,t,os⟩:=by
 have hT5:(⟨h,g,d,t,os⟩:Shared).TypeIs (.builtin "object.__class__") "getset_descriptor":=F.typeOf_object_class;have hcB:(Value.ref C::bm).contains (.type (".".intercalate ("object.__class__".cutAt '.').dropLast))=true:=by
  rw[F.owner_object_class,List.contains_cons,T.has (b:=true) (nofun)];rfl
 show codeAny_call_builtin F.slot_gs_get.plain F.entry_gs_get (F.slot_gs_get.check _ _ _ _ _ _ _ _ hT5 (F.args_gs_get _ _ _) ?_)
 repeat (any_goals (first | assumption | (with_reducible show wpAny_loadPart_at hx ?_;rw[hc]) | (with_reducible show wpAny_isSubtype_exc hC ?_;rw[hcB]) | wp_step))
 show⟨Code.quiet_builtin _ (nofun),codeAny_builtin F.entry_object_class ?_⟩
 repeat (any_goals (first | assumption | (with_reducible show wpAny_loadPart_at hx ?_;rw[hc]) | wp_step))
def class_attr_x{Q:Option Value->Shared->Prop}(T:OverV bm)(hC:h.get? C=some (excClassObj nm q C N bs bm true sn sub ab col dd k0 k1 k2 k3 k5 "ValueError.__new__"))(X:K.In h)
  (hga:PySem.W.findIn K (.ref C) "__getattribute__"=some (some (.builtin "BaseException.__getattribute__"))) (hgt:PySem.W.findIn K (.ref C) "__getattr__"=some none)
  (I:PySem.W.InstAt h x ox C od) (hf:PySem.W.findObj K C od "__class__"=some (.bind (.builtin "getset_descriptor.__get__") (.builtin "object.__class__"))) (hq:Q (some (.ref C)) ⟨h,g,d,t+1,os⟩):
  wpAny (model prog w) A (getAttr? (.ref x) "__class__") Q E ⟨h,g,d,t,os⟩:=by
 have FB:=PySem.F.attrBase_ValueError;have f3:=FB.ga.bind (.ref x);have hx0:(false&&onTheHeap (Value.builtin "BaseException.__getattribute__"))=false:=rfl;have hx2:(Value.builtin "BaseException.__getattribute__"==Value.builtin "object.__getattribute__")=false:=nofun
 have hx1:(onTheHeap (Value.ref C)&&Value.builtin "BaseException.__getattribute__"==Value.builtin "object.__getattribute__")=false:=by rw[hx2];rfl
 have L0:=I.type (M:=model prog w);have L1:=PySem.W.looks_findIn (M:=model prog w) X hga;have L2:=PySem.W.looks_findIn (M:=model prog w) X hgt;have L3:=PySem.W.looks_find (M:=model prog w) X I hf;unfold getAttr? getAttrBy? getAttrBy;show γ (wpAny_mkText (γ (wpAny_attempt (wpAny_holding (γ (L0.at (γ (L1.at ?_))))))));dsimp only;rw[hx1,if_neg ⋯];unfold getAttrByItsOwn;have ho:hookBefore (.ref C)=typeLookup (.ref C) "__getattr__":=rfl;rw[ho];show γ (L2.at (γ (wpAny_attempt (wpAny_holding ?_))));unfold callGetattribute;rw[hx0,if_neg ⋯];unfold boundAndCalled;rw[f3];show γ (ε ?_);show wpAny_call (codeAny_call_builtin FB.ga.plain F.entry_bexc_ga (vU T hC I.at_ I.cls ?_));unfold Builtin.«object.__getattribute__»
 repeat (first | with_reducible show L0.at ?_ | with_reducible show L3.at ?_ | wp_step)
 show class_get_x T hC I.at_ I.cls ?_
 repeat (any_goals (first | assumption | wp_step))
end
end PySem
namespace L2
open PySem PySem.Spec PyProof.Rows
def XC.cls{K:W.Frag}{C:Addr}{bm:List Value}(x:XC K C bm): ∃cd,W.clsIn K C=some cd/\cd.mro= .ref C::bm/\W.typeIn K (.ref C)=some (.type "type"):=by
 obtain⟨nm,q,N,bs,sn,sub,ab,col,dd,k0,k1,k2,k3,k5,hl⟩:=x.at_;show⟨{name:=nm,bases:=bs,mro:= .ref C::bm,ns:=N,qualname:=q,hasDict:=true,slotNames:=sn,subclasses:=sub,abstract:=ab,collection:=col,hasDel:=false},?_,rfl,?_⟩
 .unfold W.clsIn;rw[hl]
 .unfold W.typeIn;simp only[hl];rfl
def XC.mro{K:W.Frag}{C:Addr}{bm:List Value}(x:XC K C bm)(v:Value):W.mroIn K C v=some ((Value.ref C::bm).contains v):=by
 obtain⟨cd,h1,h2,_⟩:=x.cls;unfold W.mroIn;rw[h1,Option.bind_some,h2,if_neg Sort]
def WM{K:W.Frag}{C c:Addr}{bm bm':List Value}(x:XC K C bm)(y:XC K c bm'):W.kitOne K (.ref C) (.ref c)=some ((Value.ref C::bm).contains (.ref c)):=by
 obtain⟨cd,h1,h2,h3⟩:=y.cls;unfold W.kitOne;by_cases q:(Value.ref C==Value.ref c)=true
 .rw[if_pos q,List.contains_cons];have:(Value.ref c==Value.ref C)=true:=by rw[beq_iff_eq] at q ⊢;show q.symm
  rw[this];rfl
 .rw[if_neg q];unfold W.kitCls;dsimp only;rw[h1,h3,if_pos Sort];show x.mro _
def kit_xv{K:W.Frag}{C:Addr}{bm:List Value}(x:XC K C bm):W.kitOne K (.ref C) (.type "ValueError")=some true:=by
 unfold W.kitOne;rw[if_neg (by intro q;cases beq_iff_eq.mp q)];unfold W.kitCls;dsimp only;rw[if_pos (nofun)];change W.mroIn K C _=_;rw[x.mro,List.contains_cons,x.ov.has (b:=true) (by decide+kernel),Bool.or_true]
def WL{K:W.Frag}{C a:Addr}(xa:XA K C):W.KitX K (.ref a) (.ref C) (λh=> ∃ox od,W.InstAt h a ox C (some od)):=by
 obtain⟨bm,xc⟩:=xa.bm;obtain⟨nm,q,N,bs,sn,sub,ab,col,dd,k0,k1,k2,k3,k5,hl⟩:=xc.at_;obtain⟨cd,h1,h2,h3⟩:=xc.cls;show⟨λM h X ⟨ox,od,I⟩=>I.type,λM h X _=>?_,λh tp dd' its n sl X htp=>?_,λ{prog w A E Q s} X ⟨ox,od,I⟩ k=>?_⟩
 .intro A' Q' E' s' k z;unfold isType loadHead;show γ (wpAny_loadPart (k _ _ (X _ _ hl)) (ε z))
 .show Bool.eq_false_iff.mpr λz=>?_;have e:C=tp:=Value.ref.inj (beq_iff_eq.mp z);subst e;have z:=(X _ _ hl).symm.trans htp;have z2:=congrArg (λo=>Option.map Obj.cls o) z;simp[excClassObj] at z2
 .obtain⟨hp,g,d,t,os⟩:=s;show class_attr_x xc.ov (X _ _ hl) X xa.ga xa.gt I (W.findObj_data (by rw[h1];rfl) xa.cl xa.sg xa.tk) k
section
variable {X:Cx}
def Inv.instAt(I:Inv X ϖ σ H s)(e:H a=some (XObj a C (some dx) vs))(ed:H dx=some (XDct dx fs)): ∃ox od,W.InstAt s.heap a ox C (some od):=by
 obtain⟨sl,ha⟩:=yP I.hok e;obtain⟨mA,⟨o,_,_,ho,_⟩,_⟩:=vf I.hok ed;show⟨_,o,ha,rfl,rfl,ho⟩
end
def rIsX (K:W.Frag):List V->Hp->VK->Prop:=λxs H Q=> ∃(a C dx:Addr) (vs:Array Value) (fs:List (Str×V)) (c:V) (b:Bool),xs=[.ref a,c]/\H a=some (XObj a C (some dx) vs)/\H dx=some (XDct dx fs)/\XA K C/\
 (∀u,RelV c u->W.kitOne K (.ref C) u=some b)/\Q (.bl b) H
def Wv (K:W.Frag):List V->Hp->VK->Prop:=λxs H Q=> ∃(a C dx p:Addr) (vs:Array Value) (fs:List (Str×V)) (cs:List V) (b:Bool),xs=[.ref a,.ref p]/\H a=some (XObj a C (some dx) vs)/\H dx=some (XDct dx fs)/\XA K C/\
 H p=some (.tup cs)/\(∀us,Vals cs us->W.kitAny K (.ref C) us=some b)/\Q (.bl b) H
theorem call_isX:CallR X (.builtin "isinstance") (rIsX X.K):=by
 intro ϖ s σ H xs us Q I r h;obtain⟨a,C,dx,vs,fs,c,b,rfl,ea,ed,xa,hk,q⟩:=h;cases r with
 | cons r1 r2=>
  obtain⟨u,rfl,ru⟩:=Vals.one r2;cases r1
  have hp:=I.instAt ea ed;show W.kia_one (WL xa) I.kIn hp (hk u ru) (λz=>nomatch z) λtk=>⟨.bl b,H,I.kept (t':=tk) λ_ _ e=>e,rfl,q⟩
theorem call_isXT:CallR X (.builtin "isinstance") (Wv X.K):=by
 intro ϖ s σ H xs us Q I r h;obtain⟨a,C,dx,p,vs,fs,cs,b,rfl,ea,ed,xa,ep,hk,q⟩:=h;cases r with
 | cons r1 r2=>
  obtain⟨u,rfl,ru⟩:=Vals.one r2;cases r1
  cases ru
  have hp:=I.instAt ea ed;obtain⟨_,its,rv,o,eo,hc,n,hd⟩:=(show ObjOk X.prog X.w H s.heap p (.tup cs) from I.hok p _ ep);obtain⟨oc,od,odt,osl⟩:=o;dsimp only at hc hd;subst hc hd;show W.kia_tup (WL xa) I.kIn hp eo (hk its rv) (λz=>nomatch z) λtk=>⟨.bl b,H,I.kept (t':=tk) λ_ _ e=>e,rfl,q⟩
theorem v8: ∀{cs:List Addr} {us:List Value},Vals (cs.map V.ref) us->us=cs.map Value.ref
 | [],_,.nil=>rfl
 | c::cs,_,.cons r1 r2=>by
  cases r1
  rw[v8 r2];rfl
def WE{X:Cx}(hm:X.mg x=some (.ref C))(hg:Gl X x:=by rfl)(hd:(x==("__debug__":Str))=false:=by decide):PE X (.Name x pos) (tC (.ref C)):=
 λϖ s σ H Q I h=>xo I hg hm ⟨.ref C,H,I,rfl,h⟩ hd
def W2{K:W.Frag}{ta tv:TE}{f:Str}{D:Ends}{σ:St}{H:Hp}(h:tv σ H λy H1=>ta σ H1 λx H2=> ∃(a C:Addr) (d:Option Addr) (vs:Array Value),x= .ref a/\H2 a=some (XObj a C d vs)/\XA K C/\ye K C f/\XSt H2 a C d vs f y (D.nx σ)):sXf K ta tv f D σ H:=h
def isXT_K{X:Cx}{K:W.Frag}(h:X.K=K):CallR X (.builtin "isinstance") (Wv K):=h▸call_isXT
def isX_K{X:Cx}{K:W.Frag}(h:X.K=K):CallR X (.builtin "isinstance") (rIsX K):=h▸call_isX
def WC{X:Cx}{K:W.Frag}{e:Expr}{ta:TE}{f:Str}{pos:Pos}(h:X.K=K)(he:PE X e ta)(hb:attributeBase e f X.env (eval e X.env)=eval e X.env:=by rfl):PE X (.Attribute e f pos) (tXf K ta f):=h▸pe_xf he hb
def contains_D:(Value.ref c:: .ref D::bmV).contains (.ref D)=true:=by simp
def zR(h1:c≠c')(h2:c'≠D):(Value.ref c:: .ref D::bmV).contains (.ref c')=false:=by
 rw[List.contains_cons,List.contains_cons];have e1:(Value.ref c'==Value.ref c)=false:=by
  show Bool.eq_false_iff.mpr λz=>h1 ?_;show(Value.ref.inj (beq_iff_eq.mp z)).symm
 have e2:(Value.ref c'==Value.ref D)=false:=by
  show Bool.eq_false_iff.mpr λz=>h2 ?_;show Value.ref.inj (beq_iff_eq.mp z)
 rw[e1,e2];rfl
abbrev eS (led:Bool):Obj:={cls:= .type "set",dict:=none,data:= .set #[] 0 (.fresh 0 0 led)}
end L2
namespace L2
open PySem
def pi_r2{X:Cx}(hm:X.mg "range"=none)(ha:PA X [a,b] ta)(hg:Gl X "range":=by rfl)(h:zm a=false:=by rfl)(h':zm b=false:=by rfl):PI X tg (.Call (.Name "range" p) [a,b] [] pos) (WO ta):=pi_range2 hg hm ha (by rw[ya h,ya h'];rfl) (by rw[ya h'];rfl)
end L2
namespace L2
open PySem PySem.Spec PyProof.Rows Builtin Builtin.Str
def Itrs (lo c:Int) (n:Nat):It:=⟨λi _=>i<n,λi H x H'=>H'=H/\x= .int (lo+i*c),λi _=>n<=i⟩
def turn_rangeS{P:Program}{w:World}{K:W.Frag}{tg:Expr}(it:Addr)(lo c:Int)(n:Nat):Turn P w K tg (Itrs lo c n) [it] it (λi h=>IsRangeIter h it (lo+(i:Nat)*c) ((n:Int)-(i:Nat)) c) where
 mem:=by simp
 obj:=λi h st b hb=>by
  have e:b=it:=by exists hb
  subst e;show⟨_,st,λv z=>by
   have z':Data.fields _=Data.cell v:=z;cases z'⟩
 keep:=λi h h' st k=>k it Sort _ st
 item:=by
  intro X hP hw hK hc i ϖ s σ H E I hf st hg;subst hP hw hK;obtain⟨f0,f1,f2,f3,f4,f5⟩:=hf it Sort;have W:=Walks.range (prog:=X.prog) (w:=X.w) (I.ok.hd hc) it lo c n;show W.item i s _ _ hg st λv h' tk hv st' kk=>?_;obtain⟨t,rfl⟩:=hv;have I1:Inv X ϖ σ H {s with heap:=h',toks:=tk}:=I.turned (λb o hb e=>kk b o (by exists hb) e) f0 f1 f3 f4 f5;show⟨_,rfl,XJ (s:={s with heap:=h',toks:=tk}) (n:="range_iterator") st' rfl rfl ⋯ ⟨.int (lo+i*c),H,I1,⟨t,rfl⟩,⟨rfl,rfl⟩,st',λb hb=>(hf b hb).1⟩⟩
 done:=by
  intro X hP hw hK hc i ϖ s σ H E I hf st hg;subst hP hw hK;obtain⟨f0,f1,f2,f3,f4,f5⟩:=hf it Sort;show wpAny_pyNext_range_end (I.ok.hd hc) st (by have:n<=i:=hg;lia) λh' eb=>⟨rfl,I.turned (t':=s.toks) (λb o hb e=>eb b o hb e) f0 f1 f3 f4 f5⟩
 self:=λ_ _ _ _ _ st h=>wpAny_pyIter_rangeiter st h
def Yh(a b:Int):Builtin.Range.rangeSize a b 2=if a<b then (b-a+1) / 2 else 0:=by
 unfold Builtin.Range.rangeSize;simp only[show(2:Int)>0 by decide,if_true];split<;>lia
def small_two(ha:0<=a)(ha':a<2^40)(hb:0<=b)(hb':b<2^40):Builtin.Range.small a b 2=true:=by
 unfold Builtin.Range.small;rw[Yh];simp only[Builtin.Range.rangeFitsLong,Bool.and_eq_true,Bool.or_eq_true,decide_eq_true_eq,beq_iff_eq,show(2:Int)>0 by decide,if_true];split<;>lia
def VF (ta:TA):TI:=fun σ H R=>ta σ H λvs H1=> ∃i j:Int,vs=[.int i,.int j,.int 2]/\(0<=i/\i<2^40/\0<=j/\j<2^40)/\R (Itrs i 2 ((j-i+1) / 2).toNat) H1
section
variable {X:Cx}
def range_it2{ϖ:List (Addr×Obj)}{σ:St}{H:Hp}{s:Shared}{R:It->Hp->Prop}{E:VSP}{lo hi:Int}{t u v:Tok}{tk:Nat}(I:Inv X ϖ σ H s)(h1:0<=lo)(h2:lo<2^40)(h3:0<=hi)(h4:hi<2^40)
  (q:R (Itrs lo 2 ((hi - lo+1) / 2).toNat) H):wpAny (model X.prog X.w) X.A (pyIter (.ref ⇑s)) (PIE X ϖ σ tg R) E {s with heap:=s.heap.push {cls:= .type "range",data:= .fields #[.int lo t,.int hi u,.int 2 v]},toks:=tk}:=by
 show wpAny_pyIter_range (IsRange.new ..) (small_two h1 h2 h3 h4) ?_;have I1:Inv X ϖ σ H {s with heap:=s.heap.push {cls:= .type "range",data:= .fields #[.int lo t,.int hi u,.int 2 v]},toks:=tk}:=I.kept λb o e=>δ _ e;show⟨(s.heap.push {cls:= .type "range",data:= .fields #[.int lo t,.int hi u,.int 2 v]}).objs.size,[(s.heap.push {cls:= .type "range",data:= .fields #[.int lo t,.int hi u,.int 2 v]}).objs.size],_,_,H,rfl,
  I1.kept (t':=tk) λb o e=>δ _ e,turn_rangeS _ lo 2 ((hi-lo+1) / 2).toNat,?_,λb hb=>?_,q⟩
 .have e1:lo+((0:Nat):Int)*2=lo:=by simp
  have e2:(((((hi-lo+1) / 2).toNat:Nat):Int))-((0:Nat):Int)=Builtin.Range.rangeSize lo hi 2:=by rw[Yh];split<;>lia
  change IsRangeIter _ _ (lo+((0:Nat):Int)*2) (((((hi-lo+1) / 2).toNat:Nat):Int)-((0:Nat):Int)) 2;rw[e1,e2];show ο _ rfl
 .have e:b=(s.heap.push {cls:= .type "range",data:= .fields #[.int lo t,.int hi u,.int 2 v]}).objs.size:=by exists hb
  subst e;show I1.fpOk (μ _) (I1.hok.fresh (μ _))
theorem pi_r3(hm:X.mg "range"=none)(ha:PA X [a,b,c] ta)(hg:Gl X "range":=by rfl)(h:zm a=false:=by rfl)(h':zm b=false:=by rfl)(h'':zm c=false:=by rfl):
  PI X tg (.Call (.Name "range" p) [a,b,c] [] pos) (VF ta):=by
 intro ϖ s σ H R I h0;show Call_ (xh I hg hm boot_range (PyProof.Rows.callWith_type1 (thn (ha pos ϖ s σ H _ I h0) λus s1 ⟨vs,H1,I1,r1,q1⟩=>?_) (by rw[ya h]) (z9 (by simp[h',h'']))));obtain⟨i,j,e,⟨q1,q2,q3,q4⟩,q⟩:=q1;subst e;cases r1 with
 | cons r rr=>
  cases rr with
  | cons r' rr=>
   cases rr with
   | cons r'' rr=>
    cases rr
    obtain⟨t,rfl⟩:=r;obtain⟨t',rfl⟩:=r';obtain⟨t'',rfl⟩:=r'';show call_range_3 ⋯ (range_it2 I1 q1 q2 q3 q4 q) (Or.inl (PyProof.noPylong_small ∅))
end
end L2
namespace PT
open PySem L2 G2
def fT (i:Int):Str:=Str.ofString (toString i)
def inL (y:Str):Bool:= !(Builtin.Str.occurrences "abcdefghijklmnopqrstuvwxyz" y 0 (Str.length "abcdefghijklmnopqrstuvwxyz") 1).isEmpty
def noNames:List Str:=["sorts","begin","in","out","rule","to"]
def ln (ws:List Str):Str:=Txt.join ⟨#[32]⟩ ws
abbrev Bad:=Nat×Nat
def nameP (x:Str):Bool:=decide (1<=x.length)&&(decide (x.length<=8)&&(!decide (x∈noNames)&&(sg x).all inL))
def Bd (cA:Addr) (H:Hp) (E:XK) (b:Bad):Prop:= ∀dx H',Same H H'->H' dx=none->E (.ref cA) (some dx) (upd H' dx (XDct dx [("line",.int (b.1:Int)),("word",.int (b.2:Int))]))
def nums (lo n:Nat):List Str:=(List.range n).map λk=>fT ((lo+k:Nat):Int)
def gdW (h:Nat) (sorts:List Str) (x:Str):Bool:=if h=0 then nameP x else if h=1 then decide (x∈nums 0 100) else decide (x∈sorts)
def hfB (h most:Nat) (ws sorts:List Str) (i:Nat):Prop:=most<i\/gdW h sorts (ws.getD i "")=false\/((h=0\/h=2)/\ws.getD i ""∈(ws.take i).drop 1)
instance {h most:Nat} {ws sorts:List Str} {i:Nat}:Decidable (hfB h most ws sorts i):=by unfold hfB;infer_instance
def hfGo (h most:Nat) (ws sorts:List Str):Nat->Nat->Option Nat
 | 0,_=>none
 | n+1,i=>if hfB h most ws sorts i then some i else hfGo h most ws sorts n (i+1)
def hf (h least most:Nat) (ws sorts:List Str):Option Nat:=match hfGo h most ws sorts (ws.length-1) 1 with
 | some i=>some i
 | none=>if ws.length<=least then some ws.length else none
def sfT (ws:List Str) (to:Bool) (m i:Nat) (cs:List Int):Prop:=i<ws.length/\(¬(to=true/\ws.getD i ""="to")\/cs=List.replicate m 0)
instance {ws:List Str} {to:Bool} {m i:Nat} {cs:List Int}:Decidable (sfT ws to m i cs):=by unfold sfT;infer_instance
def eo {α:Type} (r:Except Bad α) (k:Option Bad):Option Bad:=match r with
 | .error b=>some b
 | .ok _=>k
def wl (ws:List Str):Nat:=(ws.map λw=>w.length+1).sum
end PT
namespace L2
open PySem PySem.Spec PyProof.Rows
def sqL0{K:W.Frag}{H:Hp}{a:Addr}{xs:List V}(h:SqL [] H a xs):SqL K H a xs:=h.elim .inl fun⟨_,_,_,e,_⟩=>nomatch e
def sqT0{K:W.Frag}{H:Hp}{a:Addr}{xs:List V}(h:SqT [] H a xs):SqT K H a xs:=h.elim .inl fun⟨_,_,_,e,_⟩=>nomatch e
theorem tyV0{K:W.Frag}{T:String}{x:V}{H:Hp}(h:tyV [] T x H):tyV K T x H:=by
 cases x with
 | ref p=>
  rcases h with ⟨a,xs,h⟩ | ⟨_,o,e,_⟩ | h | h
  .show .inl ⟨a,xs,sqL0 h⟩
  .cases e
  .show .inr (.inr (.inl h))
  .show .inr (.inr (.inr h))
 | _=>show h
section
variable {X:Cx}
def rLn0:List V->Hp->VK->Prop:=λxs H Q=> ∃p ys,xs=[.ref p]/\(SqL [] H p ys\/SqT [] H p ys)/\Q (.int ys.length) H
def call_len_seq0:CallR X (.builtin "len") rLn0:=λϖ s σ H xs us Q I r h=>call_len_seq ϖ s σ H xs us Q I r (let ⟨p,ys,e,hp,q⟩:=h;⟨p,ys,e,hp.imp sqL0 sqT0,q⟩)
def pe_bm_0{o e:Expr}{es:List Expr}{to:TE}{t:TA}{name:Str}{apos cpos:Pos}{T id:String}{r:V->List V->Hp->VK->Prop}(pa:PlainAttrs T)(slot:Slot T name id)(hty:typeOf (.builtin id)=pure (.type "method_descriptor"))(hm:MtR X id r)(ho:PE X o to)(ha:PA X (e::es) t)
  (hbase:attributeBase o name X.env (eval o X.env)=eval o X.env:=by rfl)
  (hfew:((backTo cpos (starEach (e::es) X.env)).all (λx=> !x.1)&&(backToKw cpos (keywordEach [] X.env)).all (λx=>x.1.isSome)
   &&decide ((e::es).length+([]:List Keyword).length+(if ([]:List Keyword).isEmpty then 0 else 1)<30))=true:=by rfl)
  (hline:(apos.endLine==cpos.line)=true:=by rfl) (hs:starEach (e::es) X.env=(false,eval e X.env)::starEach es X.env:=by rfl) (hplain:(backTo cpos (starEach es X.env)).any (·.1)=false:=by rfl):
  PE X (.Call (.Attribute o name apos) (e::es) [] cpos) (tBM [] T r to t):=by
 intro ϖ s σ H Q I h;show wpAny_Call_method_late hbase hfew hline rfl (thn (ho ϖ s σ H _ I h) λv s1 ⟨x,H1,I1,r1,ty,q1⟩=>?_);obtain⟨h1,h2⟩:=X7 I1 r1 (tyV0 ty);show⟨T,id,pa,slot,hty,h1,h2,?_⟩;have hA:=ha cpos ϖ s1 σ H1 _ I1 q1;rw[hs] at hA ⊢;show Calls.callWith_builtin (by change(false || (backTo cpos (starEach es X.env)).any (·.1))=false;rw[hplain]<;>rfl) (Calls.evalArgs_plain ?_);show thn hA λus s2 ⟨vs,H2,I2,r2,q2⟩=>hm ϖ s2 σ H2 x vs v us Q I2 r1 r2 q2
def rTupOf0:List V->Hp->VK->Prop:=λxs H Q=> ∃p ys,xs=[.ref p]/\((SqL [] H p ys/\ ∀l,H l=none->Q (.ref l) (upd H l (.tup ys)))\/(SqT [] H p ys/\Q (.ref p) H))
def call_tuple_of0:CallR X (.type "tuple") rTupOf0:=λϖ s σ H xs us Q I r h=>call_tuple_of ϖ s σ H xs us Q I r (let ⟨p,ys,e,h⟩:=h;⟨p,ys,e,h.imp (λz=>⟨sqL0 z.1,z.2⟩) λz=>⟨sqT0 z.1,z.2⟩⟩)
def rLstOf0:List V->Hp->VK->Prop:=λxs H Q=> ∃p ys,xs=[.ref p]/\(SqL [] H p ys\/SqT [] H p ys)/\ ∀l,H l=none->Q (.ref l) (upd H l (.lst ys))
def call_list_of0:CallR X (.type "list") rLstOf0:=λϖ s σ H xs us Q I r h=>call_list_of ϖ s σ H xs us Q I r (let ⟨p,ys,e,hp,q⟩:=h;⟨p,ys,e,hp.imp sqL0 sqT0,q⟩)
end
end L2
set_option maxHeartbeats 4000000
namespace SB
open PySem PySem.SetTable PyProof.Rows
structure Tb (L:Bool) (t:SetTable):Prop where
 du:t.dummies=#[]
 led:t.led=L
 rise:t.plain=true->t.place.toList.Pairwise (· < ·)
end SB
set_option maxHeartbeats 4000000
namespace SB
open PySem PySem.SetTable PyProof.Rows
section
variable {L:Bool}
def ivE (e:Int×Value):Int:=match e.2 with | .int k _=>k | _=>0
structure StO (prog:Program) (w:World) (L:Bool) (o:Obj) (es:Array (Int×Value)) (ep:Nat) (t:SetTable) (ks:List Int):Prop where
 ex:o.ExactSet
 da:o.data= .set es ep t
 el:ElemsOf (intKind prog w) es.toList
 pm:(es.toList.map ivE).Perm ks
 lt:es.size<scanBound
 fit:t.fits es.size=true
 tb:Tb L t
def stored{h:Heap}(ho:h.get? a=some o)(S:StO prog w L o es ep t ks){es':Array (Int×Value)}{t':SetTable}
  (el:ElemsOf (intKind prog w) es'.toList) (pm:(es'.toList.map ivE).Perm ks') (lt:es'.size<scanBound) (fit:t'.fits es'.size=true) (tb:Tb L t'):
  (h.update a (Obj.putSet es' t')).get? a=some {o with data:= .set es' (ep+1) t'}/\StO prog w L {o with data:= .set es' (ep+1) t'} es' (ep+1) t' ks':=by
 have g:=Heap.get?_update_self (Obj.putSet es' t') ho (by rw[putSet_of es' t' S.da];rfl);rw[putSet_of es' t' S.da] at g;show⟨g,S.ex,rfl,el,pm,lt,fit,tb⟩
end
end SB
set_option maxHeartbeats 4000000
set_option maxHeartbeats 4000000
set_option maxHeartbeats 4000000
set_option maxHeartbeats 4000000
set_option maxHeartbeats 4000000
set_option maxHeartbeats 4000000
set_option maxHeartbeats 4000000
namespace PySem.SeqAt
open PySem PySem.Spec
def RcAt.dict_text(b:Str)(u:Tok)(ho:s.heap.get? l=some o)(hx:o.ExactDict)(hd:o.data= .dict es n)(hu:A.units<cLine):RcAt A s (.ref l) (.str b u) false:=λprog w E Q h=>by
 obtain⟨cls,dd,data,sl⟩:=o;have hc:=hx.1;simp only at hc hd;subst hc hd;show rc_eq_decline_or (k:=false) ⟨_,ho,rfl⟩ (typeIs_str s b u) ⋯ (by rw[isSubtype_type];kernel_rfl) F.slot_dict_eq F.slot_str_eq_refl (λ_ hq=>call_meets F.slot_dict_eq ⟨_,ho,rfl⟩ F.entry_dict_eq (F.args_dict_eq_2 _ _) (dict_says_no l es n dd sl b u) ⟨ho,hq⟩)
  (λ_ hq=>call_meets F.slot_str_eq_refl (typeIs_str s b u) F.entry_str_eq (F.args_str_eq_2 _ _) (text_says_no b u l es n dd sl) ⟨ho,hq⟩) (λ_ hq=>wpAny_of_eq (rfl:isSame (.ref l) (.str b u)=pure false) hq) (.inr hu) h
end PySem.SeqAt
namespace L2
open PySem PySem.Spec PyProof.Rows
def SysK (K:W.Frag):Prop:= ∃o,K.lookup sysModules=some o/\o.cls= .type "dict"
mutual
inductive RdW (H:Hp):V->PyData->Prop
 | non:RdW H .non .none
 | bl (b:Bool):RdW H (.bl b) (.bool b)
 | int (i:Int):RdW H (.int i) (.int i)
 | str (x:Str):RdW H (.str x) (.str x)
 | lst {p:Addr} {xs:List V} {ds:List PyData}:H p=some (.lst xs)->RdWs H xs ds->RdW H (.ref p) (.list ds)
 | tup {p:Addr} {xs:List V} {ds:List PyData}:H p=some (.tup xs)->RdWs H xs ds->RdW H (.ref p) (.tuple ds)
 | dct {p:Addr}:H p=some (.dK [])->RdW H (.ref p) (.dict [])
inductive RdWs (H:Hp):List V->List PyData->Prop
 | nil:RdWs H [] []
 | cons {v:V} {d:PyData} {vs:List V} {ds:List PyData}:RdW H v d->RdWs H vs ds->RdWs H (v::vs) (d::ds)
end
mutual
theorem RdW.plain:RdW H v d->d.canLay0=true->RdV H v d
 | .non,_=> .non
 | .bl b,_=> .bl b
 | .int i,_=> .int i
 | .str x,_=> .str x
 | .lst e h,c=> .lst e (RdWs.plain h (by simpa[PyData.canLay0] using c))
 | .tup e h,c=> .tup e (RdWs.plain h (by simpa[PyData.canLay0] using c))
 | .dct e,c=>by simp[PyData.canLay0] at c
theorem RdWs.plain:RdWs H v d->PyData.canLayAll0 d=true->RdVs H v d
 | .nil,_=> .nil
 | .cons a b,c=>by
  simp only[PyData.canLayAll0,Bool.and_eq_true] at c;show .cons (RdW.plain a c.1) (RdWs.plain b c.2)
end
section
variable {X:Cx}
def Inv.nosys(I:Inv X ϖ σ H s)(sm:SysK X.K)(e:s.heap.get? p=some o)(h:o.cls≠.type "dict"):sysModules≠p:=λz=>by
 obtain⟨o',e',c⟩:=sm;have:=I.kIn _ _ e';rw[z,e] at this;cases this;show h c
mutual
theorem RdW.reads(I:Inv X ϖ σ H s)(sm:SysK X.K):RdW H v d-> ∀{u:Value},RelV v u-> ∃as,Reads s.heap u d as/\sysModules∉as
 | .non,u,r=>by
  cases r
  show⟨[],.none,by simp⟩
 | .bl b,u,r=>by
  cases r
  show⟨[],.bool b,by simp⟩
 | .int i,u,r=>by
  obtain⟨t,rfl⟩:=r;show⟨[],.int i t,by simp⟩
 | .str x,u,r=>by
  obtain⟨t,rfl⟩:=r;show⟨[],.str x t,by simp⟩
 | .lst (p:=p) hp h,u,r=>by
  cases r
  obtain⟨its,n,rv,e,z⟩:=I.lst hp;obtain⟨as,q,nm⟩:=RdWs.reads I sm h rv;show⟨p::as,.list e rfl rfl (by exists q),by simp only[List.mem_cons,not_or];show⟨I.nosys sm e Sort,nm⟩⟩
 | .tup (p:=p) hp h,u,r=>by
  cases r
  obtain⟨z,its,rv,o,e,c,n,d⟩:=I.hok p _ hp;obtain⟨as,q,nm⟩:=RdWs.reads I sm h rv;show⟨as,.tuple e c d (by exists q),nm⟩
 | .dct (p:=p) hp,u,r=>by
  cases r
  obtain⟨z,ns,vs,kv,o,es,ep,e,ex,hd,ko,en,nd⟩:=XT I.hok hp;cases kv
  have:es.toList=[]:=by
   generalize es.toList=l at en;cases en;rfl
  show⟨[p]++[]++[],.dict e ex.1 hd (by rw[this];show .nil) (by rw[this];show .nil),by exists λz=>(by simp[z] at ns)⟩
theorem RdWs.reads(I:Inv X ϖ σ H s)(sm:SysK X.K):RdWs H vs ds-> ∀{us:List Value},Vals vs us-> ∃as,ReadsAll s.heap us ds as/\sysModules∉as
 | .nil,us,r=>by
  cases r
  show⟨[],.nil,by simp⟩
 | .cons h hs,us,r=>by
  cases r with
  | cons r1 r2=>
   obtain⟨as,q,n1⟩:=RdW.reads I sm h r1;obtain⟨bs,q2,n2⟩:=RdWs.reads I sm hs r2;show⟨as++bs,.cons q q2,by simp[n1,n2]⟩
end
def rReprW:List V->Hp->VK->Prop:=λxs H Q=> ∃v d,xs=[v]/\RdW H v d/\d.showable=true/\d.depth<=150/\d.shown.length<=sizeLine/\Q (.str d.shown) H
theorem call_reprW(sm:SysK X.K)(hr:Room k X.A):CallR X (.builtin "repr") rReprW:=by
 intro ϖ s σ H xs us Q I r h;obtain⟨v,d,rfl,hv,h1,h3,h4,q⟩:=h;obtain⟨u,rfl,ru⟩:=r.one;have hu:=hr.un;have go: ∀{a:Addr},RdW H (.ref a) d->wpAny (model X.prog X.w) X.A (call (.builtin "repr") [.ref a]) (EP X ϖ σ Q) X.xe s:=λ{a} hv=>by
  obtain⟨as,ra,nm⟩:=hv.reads I sm (u:= .ref a) rfl;show repr_of_reads' ra h1 (λ_=>nm) hr.gd ∅ (λ_ _ e=>e) (λh' u tk hk=>⟨.str _,H,I.kept hk,⟨_,rfl⟩,q⟩) h4
 cases hv with
 | non=>cases ru;show PySem.P.repr_of_none ⟨.str _,H,I.tok _,⟨_,rfl⟩,q⟩
 | bl b=>cases ru;show PySem.P.repr_of_bool ⟨.str _,H,I.tok _,⟨_,rfl⟩,q⟩
 | int i=>obtain⟨t,rfl⟩:=ru;show PySem.P.repr_of_int (by simpa[PyData.showable] using h1) ⟨.str _,H,I.tok _,⟨_,rfl⟩,q⟩
 | str x=>obtain⟨t,rfl⟩:=ru;show PySem.P.repr_of_str ⟨.str _,H,I.tok _,⟨_,rfl⟩,q⟩ h4
 | lst hp hs=>cases ru;show go (.lst hp hs)
 | tup hp hs=>cases ru;show go (.tup hp hs)
 | dct hp=>cases ru;show go (.dct hp)
def rEqDT:R2:=λx y H Q=> ∃p kvs b,x= .ref p/\y= .str b/\H p=some (.dK kvs)/\Q (.bl false) H
def op_eqDT(hr:Room k X.A):OpR X (compareOp .Eq) rEqDT:=by
 intro ϖ s σ H x y v u Q I rx ry h;obtain⟨p,kvs,b,rfl,rfl,hp,q⟩:=h;cases rx
 obtain⟨t,rfl⟩:=ry;obtain⟨z,ns,vs,kv,o,es,ep,e,ex,hd,ko,en,nd⟩:=XT I.hok hp;have:=hr.un;show SeqAt.RcAt.dict_text b t e ex hd ∅ X.prog X.w _ _ ⟨.bl _,H,I,rfl,q⟩
end
end L2
set_option maxHeartbeats 4000000
namespace RV
open PySem PyProof.Rows
def nolen:typeLookup (.type "list_reverseiterator") "__len__"=pure none:=by rw[typeLookup_type,builtinLookup_eq_fast];kernel_rfl
def lhint:typeLookup (.type "list_reverseiterator") "__length_hint__"=pure (some (.builtin "list_reverseiterator.__length_hint__")):=by rw[typeLookup_type,builtinLookup_eq_fast];kernel_rfl
def hint{Q:Bool->Shared->Prop}(hT:s.TypeIs (.ref I) "list_reverseiterator")(h:Q false s):wpAny (model prog w) A (Builtin.List.listLengthHint (.ref I)) Q E s:=by
 unfold Builtin.List.listLengthHint;show γ (wpAny_specialOf hT nolen ?_);change wpAny _ A (specialOf (Value.ref I) (Str.ofString "__length_hint__")>>=_) _ _ _;show γ (wpAny_specialOf hT lhint ?_);generalize hid:("list_reverseiterator.__length_hint__":String)=id0
 wp_delta
 rw[show splitId id0=some ("list_reverseiterator","__length_hint__") from by subst hid;decide+kernel];subst hid;show γ (wpAny_isInstance (T:="list_reverseiterator") (b:=true) hT (by rw[isSubtype_type];kernel_rfl) ?_);show wpAny_ite_split (λz=>absurd z ⋯) (λ_=>?_);show wpAny_ite_split (λ_=>?_) (λz=>absurd (nofun) z);show wpAny_ite_split (λz=>absurd z (nofun)) (λ_=>?_);show ε h
def stops{Q:Option Value->Shared->Prop}(hh:A.handled=none)(hit:s.heap.IsRevIter it l (-1))(hQ: ∀h',(∀b o,s.heap.get? b=some o->h'.get? b=some o)->Q none {s with heap:=h'}):wpAny (model prog w) A (pyNext (.ref it)) Q E s:=by
 obtain⟨o,ho,hc,hd⟩:=id hit;unfold pyNext;show γ (wpAny_attempt (wpAny_callSpecial?_slot (name:=Str.ofString "__next__") hit.typeIs F.slot_lri_next (wpAny_call_entry F.slot_lri_next hit.typeIs F.entry_lri_next ?_ (F.args_lri_next_1 _))));unfold Builtin.«list_reverseiterator.__next__»;show γ (wpAny_of_eq (a:=(Value.ref it,[])) rfl ?_);(try dsimp only);show γ (Κ ho hd (x:=rawInt (-1)) rfl ?_);change wpAny _ _ (if (-1:Int)<0 then _ else _) _ _ s;rw[if_pos ⋯];show γ (wpAny_rule ?_)
 first | change wpAny _ _ (newExc (.type "StopIteration") []>>=_) _ _ _ | (show γ ?_;change wpAny _ _ (newExc (.type "StopIteration") []>>=_) _ _ _)
 show γ ?_;simp only[newExc,newTuple];show γ (wpAny_newObj_type ?_ (by size_fits));show γ (m:=firstArgMember _ _) (wpAny_of_eq (a:=Value.none) (by first | rfl | (simp only[firstArgMember];rfl)) ?_);show wpAny_newObj_type ?_ (by size_fits);simp only[raiseNew];show γ (wpAny_handled ?_)
 first | rw[show A.in1.handled=none from hh] | rw[hh]
 show γ (ε (wpAny_throw ?_));show γ (wpAny_isInstance (T:="StopIteration") (b:=true) ⟨_,ο _ rfl,rfl⟩ isSubtype_stop ?_);show ε (hQ _ λb o q=>δ _ (δ _ q))
theorem loop(hh:A.handled=none)(hne:l≠I){its:Array Value}(S:Addr)(hSI:S≠I)(hSl:S≠l)(hz:its.size<=sizeLine):
  ∀(k i:Nat) (s:Shared) (acc:Array Value) (c:Nat),its.size - i=k->i<=its.size->s.heap.IsRevIter I l ((its.size:Int) - 1 - (i:Int))->s.heap.IsList l its->s.heap.get? S=some {cls:= .type "list",dict:=none,data:= .seq acc c,slots:=#[]}->ItemsOf (λi v=>its[its.size - 1 - i]? =some v) acc i->
  (∀h' tk acc' c',(∀b o,b≠S->b≠I->s.heap.get? b=some o->h'.get? b=some o)->(∃o,h'.get? I=some o)->h'.get? S=some {cls:= .type "list",dict:=none,data:= .seq acc' c',slots:=#[]}->ItemsOf (λi v=>its[its.size - 1 - i]? =some v) acc' its.size->R (.ok (.ret .none)) {s with heap:=h',toks:=tk})->
  codeAny (model prog w) A (.builtin "list.extend.loop" ⟨[.ref S,.ref I,.none],[]⟩) R s:=by
 intro k
 induction k with
 | zero=>
  intro i s acc c hk hi hit hl hS ha hR;have e:i=its.size:=by lia
  subst e;show codeAny_builtin F.entry_extend_loop ?_;rw[Around.under_plainId F.plain_extend_loop _];change wpAny _ A.in1 (pyNext (.ref I)>>=_) _ _ s;have e:(its.size:Int)-1-(its.size:Int)=-1:=by lia
  rw[e] at hit;show γ (stops (A:=A.in1) hh hit λh' kp=>ε (hR h' s.toks acc c (λb o _ _ q=>kp b o q) ?_ (kp _ _ hS) ha));obtain⟨o,ho,_⟩:=hit;show⟨o,kp _ _ ho⟩
 | succ k ih=>
  intro i s acc c hk hi hit hl hS ha hR;show codeAny_builtin F.entry_extend_loop ?_;rw[Around.under_plainId F.plain_extend_loop _];change wpAny _ A.in1 (pyNext (.ref I)>>=_) _ _ s;have e:(its.size:Int)-1-(i:Int)=((its.size-1-i:Nat):Int):=by lia
  rw[e] at hit;have hx:its[its.size-1-i]? =some (its[its.size-1-i]'∅):=Array.getElem?_eq_getElem ∅;show γ (wpAny_pyNext_rev_item hit hl hx λh1 hit1 sb=>?_);have hS1:h1.get? S=_:=(sb.2 S hSI).trans hS;change wpAny _ A.in1 (updateSeq S (·.push _)>>=_) _ _ _;show γ ?_;have e2:((its.size-1-i:Nat):Int)-1=(its.size:Int)-1-((i+1:Nat):Int):=by lia
  rw[e2] at hit1;have ot: ∀f b o,b≠S->h1.get? b=some o->(h1.update S f).get? b=some o:=λf b o n q=>(Heap.get?_update_other _ _ (Ne.symm n)).trans q;show wpAny_updateSeq hS1 rfl (ε ⟨plainId_quiet F.plain_extend_loop _,ih (i+1) _ (acc.push _) _ ∅ ∅ (hit1.at λo q=>ot _ _ _ (Ne.symm hSI) q) (hl.at λo q=>ot _ _ _ (Ne.symm hSl) ((sb.2 l hne).trans q)) (Heap.get?_update_self _ hS1 rfl) (ha.push hx) λh' tk acc' c' kp hI hS' ha'=>?_⟩) (by rw[ha.1];lia) (by change(acc.push _).size<=sizeLine+1;rw[Array.size_push,ha.1];lia);show hR h' tk acc' c' (λb o n1 n2 q=>kp b o n1 n2 (ot _ b o n1 ((sb.2 b n2).trans q))) hI hS' ha'
def ext(hh:A.handled=none)(hne:l≠I){its:Array Value}(S:Addr)(hSI:S≠I)(hSl:S≠l)(hi:s.heap.IsRevIter I l ((its.size:Int)-1))(hl:s.heap.IsList l its)
  (hS:s.heap.get? S=some {cls:= .type "list",data:= .seq #[] c₀}) (hz:its.size<=sizeLine)
  (hR: ∀h' tk acc c,(∀b o,b≠S->b≠I->s.heap.get? b=some o->h'.get? b=some o)->(∃o,h'.get? I=some o)->h'.get? S=some {cls:= .type "list",dict:=none,data:= .seq acc c,slots:=#[]}->ItemsOf (λi v=>its[its.size - 1 - i]? =some v) acc its.size->R (.ok (.ret .none)) {s with heap:=h',toks:=tk}):
  wpAny (model prog w) A.in1 (Builtin.List.listExtendWith (.ref S) (.ref I) .none) (λfin s'=>match fin with | .done f=>R (.ok f) s' | .again c'=>c'.quiet=true/\codeAny (model prog w) A c' R s') (λe s'=>R (.error e) s') s:=by
 unfold Builtin.List.listExtendWith;show γ (wpAny_typeOf hi.typeIs ?_);have e1:Builtin.List.listSameRef (.ref S) (.ref I)=false:=by simp[Builtin.List.listSameRef,hSI]
 have e2:(Value.type "list_reverseiterator"==Value.type "list")=false:=by decide
 have e3:(Value.type "list_reverseiterator"==Value.type "tuple")=false:=by decide
 simp only[e1,e2,e3,Bool.or_false,Bool.false_eq_true,if_false];show γ (wpAny_pyIter_revIter hi ?_);show γ (wpAny_holding (hint hi.typeIs ?_));show ε ⟨plainId_quiet F.plain_extend_loop _,loop hh hne S hSI hSl hz its.size 0 _ #[] c₀ rfl (Θ _) (by exists hi) hl hS (ItemsOf.nil _) hR⟩
def listRev{Q:VSP}(hh:A.handled=none)(hne:l≠I){its:Array Value}(hi:s.heap.IsRevIter I l ((its.size:Int)-1))(hl:s.heap.IsList l its)(hz:its.size<=sizeLine)
  (hQ: ∀h' tk acc c,(∀b o,b≠I->s.heap.get? b=some o->h'.get? b=some o)->(∃o,h'.get? I=some o)->h'.get? ⇑s=some {cls:= .type "list",dict:=none,data:= .seq acc c,slots:=#[]}->ItemsOf (λi v=>its[its.size - 1 - i]? =some v) acc its.size->Q (.ref ⇑s) {s with heap:=h',toks:=tk}):
  wpAny (model prog w) A (call (.type "list") [.ref I]) Q E s:=by
 have ltI:I<⇑s:=by obtain⟨o,ho,_⟩:=hi;show ι ho
 have ltl:l<⇑s:=by obtain⟨o,ho,_⟩:=hl;show ι ho
 show callType_codes (Q₁:=λobj s₁=>obj= .ref ⇑s/\s₁={s with heap:=s.heap.push {cls:= .type "list",data:= .seq #[]}}) F.called_list (F.typeCall_list_1 _) F.entry_list_init (code_list_new _ ⟨rfl,rfl⟩) λobj s1 e1=>?_;obtain⟨rfl,rfl⟩:=e1;have hS:(s.heap.push {cls:= .type "list",data:= .seq #[]}).get? ⇑s=some {cls:= .type "list",data:= .seq #[]}:=ο _ rfl;have kp: ∀b o,s.heap.get? b=some o->(s.heap.push {cls:= .type "list",data:= .seq #[]}).get? b=some o:=λb o q=>δ _ q;generalize s.heap.push {cls:= .type "list",data:= .seq #[]}=g at hS kp ⊢;show⟨⟨_,hS,rfl⟩,F.args_list_init_2 _ _,?_⟩;change wpAny _ A.in1.in1 (do let old<-Builtin.List.listItems (.ref ⇑s);Builtin.List.listUpdate (.ref ⇑s) (λ_=>#[]);letGo old.toList.reverse;Builtin.List.listExtendWith (.ref ⇑s) (.ref I) .none) _ _ _;show γ ?_;unfold Builtin.List.listItems;show γ (wpAny_seqItems hS rfl (ε ?_));change wpAny _ _ (updateSeq ⇑s (λ_=>#[])>>=λ_=>letGo (#[]:Array Value).toList.reverse>>=λ_=>Builtin.List.listExtendWith (.ref ⇑s) (.ref I) .none) _ _ _;show γ (wpAny_updateSeq hS rfl ?_);have hS2:=Heap.get?_update_self (Obj.mapSeq (λ_=>(#[]:Array Value))) hS rfl;have ot: ∀b o,b≠⇑s->g.get? b=some o->(g.update ⇑s (Obj.mapSeq (λ_=>(#[]:Array Value)))).get? b=some o:=λb o n q=>(Heap.get?_update_other _ _ (Ne.symm n)).trans q;show γ (wpAny_letGo ?_);have nI:⇑s≠I:=λz=>by rw[z] at ltI;show Λ _ ltI
 have nl:⇑s≠l:=λz=>by rw[z] at ltl;show Λ _ ltl
 show ext (A:=A.in1) hh hne _ nI nl (hi.at λo q=>ot _ _ (Ne.symm nI) (kp _ _ q)) (hl.at λo q=>ot _ _ (Ne.symm nl) (kp _ _ q)) hS2 hz λh' tk acc c hk hI hS' ha=>?_;show⟨rfl,hQ h' tk acc c (λb o n q=>hk b o (Ι (ι q)) n (ot b o (Ι (ι q)) (kp b o q))) hI hS' ha⟩
end RV
namespace L2
open PySem PySem.Spec PyProof.Rows
section
variable {X:Cx}
def Inv.trk{ϖ:List (Addr×Obj)}{σ:St}{H:Hp}{s:Shared}{a:Addr}{o:HO}(I:Inv X ϖ σ H s)(hn:H a=none)(hlo:X.s₀.heap.objs.size<=a)(hch:a≠X.env.locals/\(∀x c,X.env.cells.lookup x=some c->c≠a)/\ ∀p∈X.pn++ϖ,p.1≠a)
  (new:ObjOk X.prog X.w (upd H a o) s.heap a o):Inv X ϖ σ (upd H a o) s:=by
 have up: ∀b,b≠a->upd H a o b=H b:=λb h=>zi h;show⟨I.ok,I.os,I.bare,⟨I.base.keep,I.base.slot,λb ob q n hx=>?_,I.base.there,λb xs q=>?_,λb o u q=>?_,λb ps q=>?_⟩,I.loc,I.cell,?_,λx c q=>?_,λp hp=>?_,λb u q=>?_,I.len⟩
 .rw[up b λz=>absurd (θ (ι q) (z▸hlo)) (Λ _)];show I.base.free b ob q n hx
 .have z:=I.base.tups b xs q;rw[up b (zg z hn)];show z
 .have z:=I.base.frzs b o u q;rw[up b (zg z hn)];show z
 .obtain⟨m,z⟩:=I.base.tbls b ps q;show⟨m,by rw[up b (zg z hn)];show z⟩
 .rw[up _ (Ne.symm hch.1)];show I.free
 .rw[up _ (hch.2.1 x c q)];show I.freeC x c q
 .obtain⟨p1,p2,p3⟩:=I.pin p hp;show⟨p1,by rw[up _ (hch.2.2 p hp)];show p2,p3⟩
 .by_cases z:b=a
  .rw[z,zj] at q;cases q;rw[z];show new
  .rw[up b z] at q;show(I.hok b u q).stay (λc v _ y=>y) (λc y=>?_) λc xs y=>?_
   .rw[up c (zg y hn)];show y
   .rw[up c (zg y hn)];show y
def rvO (r p:Addr) (n:Nat):HO:= .ext λh=>h.IsRevIter r p ((n:Int)-1)
def Vp:List V->Hp->VK->Prop:=λxs H Q=> ∃(p:Addr) (ys:List V),xs=[.ref p]/\H p=some (.lst ys)/\ ∀r,H r=none->Q (.ref r) (upd H r (rvO r p ys.length))
def call_revd:CallR X (.type "reversed") Vp:=by
 intro ϖ s σ H xs us Q I r h;obtain⟨p,ys,rfl,hp,q⟩:=h;obtain⟨u,rfl,ru⟩:=r.one;cases ru
 obtain⟨hz,its,n,rv,el,hg⟩:=I.lstM hp;have hsz:its.toArray.size=ys.length:=by simp[el]
 show call_reversed_list (items:=its.toArray) ⟨_,hg,rfl,n,rfl⟩ ⟨.ref _,_,I.laid (λb o e=>δ _ e) (μ _) ?_,rfl,q _ I.fresh⟩;have ho:(s.heap.push (revObj p ((its.toArray.size:Int)-1))).get? ⇑s=some (revObj p ((its.toArray.size:Int)-1)):=ο _ rfl;rw[hsz] at ho ⊢;show⟨⟨_,ho,rfl,rfl⟩,⟨_,ho⟩,λh1 h2 x k=>x.at k⟩
def Ws:List V->Hp->VK->Prop:=λxs H Q=> ∃(r p:Addr) (ys:List V),xs=[.ref r]/\H r=some (rvO r p ys.length)/\H p=some (.lst ys)/\ ∀l,H l=none->Q (.ref l) (upd (upd H r (.ext λh=> ∃o,h.get? r=some o)) l (.lst ys.reverse))
def call_lstRv(hc:X.calm=true):CallR X (.type "list") Ws:=by
 intro ϖ s σ H xs us Q I r h;obtain⟨t,p,ys,rfl,ht,hp,q⟩:=h;obtain⟨u,rfl,ru⟩:=r.one;cases ru
 obtain⟨hz,its,n,rv,el,hg⟩:=I.lstM hp;have hsz:its.toArray.size=ys.length:=by simp[el]
 have hne:p≠t:=Vw hp ht (by intro z;cases z);have hi:s.heap.IsRevIter t p ((ys.length:Int)-1):=(I.hok t _ ht).1;show RV.listRev (its:=its.toArray) (I.ok.hd hc) hne (by rw[hsz];show hi) ⟨_,hg,rfl,n,rfl⟩ (by rw[hsz];show hz) λh' tk acc c hk hI hS ha=>?_;have tl:t<⇑s:=by obtain⟨o,ho,_⟩:=hi;show ι ho

 have I1:Inv X ϖ σ (upd H t (.ext λh=> ∃o,h.get? t=some o)) {s with heap:=h',toks:=tk}:=
  I.write (x:=t) (e:=t) (by rw[ht];trivial) (.inl rfl) (λb u n e=>hk b u n e) hI ⟨hI,hI,λh1 h2 ⟨o,e⟩ k=>⟨o,k o e⟩⟩
 have I2:=I1.trk (a:=⇑s) (o:= .lst ys.reverse) (by rw[zi (Χ tl)];show I.fresh) I.sz (I.newer (μ _) _ ξ).2 ?_
 .show⟨.ref _,_,I2,rfl,q _ I.fresh⟩
 .obtain⟨hs,hv⟩:=ha;show⟨by rw[List.length_reverse];show hz,acc.toList,c,w4 (by simp[hs,hsz]) λj x u ex eu=>?_,hS⟩;have hj:j<ys.length:=by have:=(Η.mp ex).1;exists this
  rw[List.getElem?_reverse hj] at ex;have:=hv j u (by exists eu);rw[hsz] at this;obtain⟨v,e1,r1⟩:=rv.get ex;have e2:its[ys.length-1-j]? =some u:=by exists this
  rw[e1] at e2;cases e2;show r1
end
end L2
namespace L3
open PySem PySem.Spec PyProof.Rows L2
inductive W where
 | non | bl (b:Bool) | int (i:Int) | str (x:Str) | ref (a:Addr) | ty (n:String) | tup (ws:List W) | exc (c:Addr) (ns:List Str) (ws:List W)
mutual
inductive Rv (H:Hp):W->V->Prop
 | non:Rv H .non .non
 | bl (b:Bool):Rv H (.bl b) (.bl b)
 | int (i:Int):Rv H (.int i) (.int i)
 | str (x:Str):Rv H (.str x) (.str x)
 | ref (a:Addr):Rv H (.ref a) (.ref a)
 | ty (n:String):Rv H (.ty n) (.ty n)
 | tup {p:Addr} {xs:List V} {ws:List W}:H p=some (.tup xs)->Rvs H ws xs->Rv H (.tup ws) (.ref p)
 | exc {a c dx:Addr} {vs:Array Value} {ns:List Str} {ws:List W} {xs:List V}:H a=some (XObj a c (some dx) vs)->H dx=some (XDct dx (ns.zip xs))->Rvs H ws xs->Rv H (.exc c ns ws) (.ref a)
inductive Rvs (H:Hp):List W->List V->Prop
 | nil:Rvs H [] []
 | cons {w:W} {v:V} {ws:List W} {vs:List V}:Rv H w v->Rvs H ws vs->Rvs H (w::ws) (v::vs)
end
def Im:HO->Prop
 | .tup _=>True
 | .ext _=>True
 | _=>False
def Kt (H H':Hp):Prop:= ∀p o,Im o->H p=some o->H' p=some o
def Kt.t(k:Kt H H')(e:H p=some (.tup xs)):H' p=some (.tup xs):=k p _ trivial e
def Kt.of(k: ∀a o,H a=some o->H' a=some o):Kt H H':=λp o _ e=>k p o e
def Kt.new{H:Hp}{a:Addr}{o:HO}(h:H a=none):Kt H (upd H a o):=λp xs _ e=>by
 rw[zi (zg e h)];show e
def Kt.put(h: ∀u,Im u->H a≠some u):Kt H (upd H a o):=λp xs i e=>by
 rw[zi (λz=>by subst z;show h _ i e)];show e
def nIm{H:Hp}{a:Addr}{o:HO}(e:H a=some o)(n: ¬Im o): ∀u,Im u->H a≠some u:=λu i z=>by
 rw[e] at z;cases z;show n i
mutual
theorem Rv.up(k:Kt H H'):Rv H w v->Rv H' w v
 | .non=> .non
 | .bl b=> .bl b
 | .int i=> .int i
 | .str x=> .str x
 | .ref a=> .ref a
 | .ty n=> .ty n
 | .tup e r=> .tup (k.t e) (Rvs.up k r)
 | .exc e d r=> .exc (k _ _ trivial e) (k _ _ trivial d) (Rvs.up k r)
theorem Rvs.up(k:Kt H H'):Rvs H ws vs->Rvs H' ws vs
 | .nil=> .nil
 | .cons a r=> .cons (Rv.up k a) (Rvs.up k r)
end
section
variable {ws us:List W}{vs xs:List V}
theorem Rvs.len: ∀{ws:List W} {vs:List V},Rvs H ws vs->ws.length=vs.length
 | _,_,.nil=>rfl
 | _,_,.cons _ r=>by simp[Rvs.len r]
theorem Rvs.app: ∀{ws us:List W} {vs xs:List V},Rvs H ws vs->Rvs H us xs->Rvs H (ws++us) (vs++xs)
 | _,_,_,_,.nil,r=>r
 | _,_,_,_,.cons a r,q=> .cons a (Rvs.app r q)
theorem Rvs.get: ∀{ws:List W} {vs:List V} {i:Nat} {w:W},Rvs H ws vs->ws[i]? =some w-> ∃v,vs[i]? =some v/\Rv H w v
 | _,_,_,_,.nil,e=>by simp at e
 | _,_,0,_,.cons a r,e=>by simp at e;subst e;show⟨_,rfl,a⟩
 | _,_,i+1,_,.cons a r,e=>by exists Rvs.get (i:=i) r (by exists e)
theorem Rvs.take: ∀{ws:List W} {vs:List V} (n:Nat),Rvs H ws vs->Rvs H (ws.take n) (vs.take n)
 | _,_,0,_=> .nil
 | _,_,_+1,.nil=> .nil
 | _,_,n+1,.cons a r=> .cons a (Rvs.take n r)
theorem Rvs.drop: ∀{ws:List W} {vs:List V} (n:Nat),Rvs H ws vs->Rvs H (ws.drop n) (vs.drop n)
 | _,_,0,r=>r
 | _,_,_+1,.nil=> .nil
 | _,_,n+1,.cons _ r=>Rvs.drop n r
theorem Rvs.set(a:Rv H w v): ∀{ws:List W} {vs:List V} (i:Nat),Rvs H ws vs->Rvs H (ws.set i w) (vs.set i v)
 | _,_,_,.nil=> .nil
 | _,_,0,.cons _ r=> .cons a r
 | _,_,i+1,.cons q r=> .cons q (Rvs.set a i r)
theorem Rvs.erase: ∀{ws:List W} {vs:List V} (i:Nat),Rvs H ws vs->Rvs H (ws.eraseIdx i) (vs.eraseIdx i)
 | _,_,_,.nil=> .nil
 | _,_,0,.cons _ r=>r
 | _,_,i+1,.cons q r=> .cons q (Rvs.erase i r)
def Rvs.one(r:Rvs H [w] vs): ∃v,vs=[v]/\Rv H w v:=by
 cases r with | cons a r=>cases r;show⟨_,rfl,a⟩
def Rvs.two(r:Rvs H [w,u] vs): ∃v x,vs=[v,x]/\Rv H w v/\Rv H u x:=by
 cases r with | cons a r=>cases r with | cons b r=>cases r;show⟨_,_,rfl,a,b⟩
theorem Rvs.rep(a:Rv H w v): ∀n,Rvs H (List.replicate n w) (List.replicate n v)
 | 0=> .nil
 | n+1=> .cons a (Rvs.rep a n)
theorem Rvs.rev(r:Rvs H ws vs):Rvs H ws.reverse vs.reverse:=by
 induction ws generalizing vs with
 | nil=>cases r;show .nil
 | cons w ws ih=>cases r with | cons a r=>exists (ih r).app (.cons a .nil)
end
inductive HW where
 | lst (ws:List W) | flst (ws:List W) | dK (kvs:List (Key×W))
abbrev Gp:=Addr->Option HW
def updG (G:Gp) (a:Addr) (o:HW):Gp:=λb=>if b=a then some o else G b
def updG_same:updG G a o a=some o:=by unfold updG;rw[if_pos rfl]
def ze(h:b≠a):updG G a o b=G b:=by unfold updG;rw[if_neg h]
def Rkv {κ:Type} (H:Hp):List (κ×W)->List (κ×V)->Prop:=Paired λp q=>p.1=q.1/\Rv H p.2 q.2
theorem Rkv.up(k:Kt H H'){a:List (κ×W)}{b:List (κ×V)}(r:Rkv H a b):Rkv H' a b:=by
 induction r with
 | nil=>show .nil
 | cons x _ ih=>show .cons ⟨x.1,x.2.up k⟩ ih
def RhO (H:Hp) (a:Addr):HW->Prop
 | .lst ws=> ∃xs,H a=some (.lst xs)/\Rvs H ws xs
 | .flst ws=> ∃xs,Rd H a (.lst xs)/\Rvs H ws xs
 | .dK kvs=> ∃ks,H a=some (.dK ks)/\Rkv H kvs ks
def Rh (G:Gp) (H:Hp):Prop:= ∀a o,G a=some o->RhO H a o
theorem RhO.up(k:Kt H H')(e:H' a=H a)(r:RhO H a o):RhO H' a o:=by
 cases o with
 | lst ws=>obtain⟨xs,h,q⟩:=r;show⟨xs,e.trans h,q.up k⟩
 | flst ws=>obtain⟨xs,h,q⟩:=r;show⟨xs,h.elim (λz=> .inl (e.trans z)) (fun⟨o,z⟩=> .inr ⟨o,e.trans z⟩),q.up k⟩
 | dK kvs=>obtain⟨xs,h,q⟩:=r;show⟨xs,e.trans h,q.up k⟩
theorem RhO.ne(r:RhO H a o):H a≠none:=by
 intro z;cases o with
 | lst ws=>obtain⟨xs,h,q⟩:=r;rw[z] at h;cases h
 | flst ws=>obtain⟨xs,h,q⟩:=r;rcases h with h | ⟨o,h⟩<;>(rw[z] at h;cases h)
 | dK kvs=>obtain⟨xs,h,q⟩:=r;rw[z] at h;cases h
theorem RhO.notup{H:Hp}{a:Addr}{o:HW}(r:RhO H a o): ∀u,Im u->H a≠some u:=by
 cases o with
 | lst ws=>obtain⟨xs,h,q⟩:=r;show nIm h (λz=>z)
 | flst ws=>obtain⟨xs,h,q⟩:=r;rcases h with h | ⟨o,h⟩<;>show nIm h (λz=>z)
 | dK kvs=>obtain⟨xs,h,q⟩:=r;show nIm h (λz=>z)
theorem Rh.fresh(r:Rh G H)(h:H a=none):G a=none:=by
 cases e:G a with
 | none=>rfl
 | some o=>show absurd h (r a o e).ne
def Rh.beside(r:Rh G H)(h:H a=none):Rh G (upd H a u):=λb o e=>
 (r b o e).up (Kt.new h) (zi λz=>by subst z;show(r b o e).ne h)
def Rh.new(r:Rh G H)(h:H a=none)(n:RhO (upd H a u) a o):Rh (updG G a o) (upd H a u):=λb o' e=>by
 by_cases z:b=a
 .subst z;rw[updG_same] at e;cases e;show n
 .rw[ze z] at e;show(r b o' e).up (Kt.new h) (zi z)
def Rh.put(r:Rh G H)(h: ∀u,Im u->H a≠some u)(n:RhO (upd H a u) a o):Rh (updG G a o) (upd H a u):=λb o' e=>by
 by_cases z:b=a
 .subst z;rw[updG_same] at e;cases e;show n
 .rw[ze z] at e;show(r b o' e).up (Kt.put h) (zi z)
def Rh.lnew(r:Rh G H)(h:H a=none)(q:Rvs H ws xs):Rh (updG G a (.lst ws)) (upd H a (.lst xs)):=r.new h ⟨xs,zj,q.up (Kt.new h)⟩
def Rh.lput{G:Gp}{H:Hp}(r:Rh G H){a:Addr}{ws:List W}{xs ys:List V}(h:H a=some (.lst ys))(q:Rvs H ws xs):Rh (updG G a (.lst ws)) (upd H a (.lst xs)):=
 have h': ∀u,Im u->H a≠some u:=nIm h (λz=>z)
 r.put h' ⟨xs,zj,q.up (Kt.put h')⟩
abbrev St3:=List (Option W)
abbrev St2:=L2.St
inductive Rst (H:Hp):St3->St2->Prop
 | nil:Rst H [] []
 | u {v:Option V} {τ:St3} {σ:St2}:Rst H τ σ->Rst H (none::τ) (v::σ)
 | k {w:W} {v:V} {τ:St3} {σ:St2}:Rv H w v->Rst H τ σ->Rst H (some w::τ) (some v::σ)
theorem Rst.up(k:Kt H H')(r:Rst H τ σ):Rst H' τ σ:=by
 induction r with
 | nil=>show .nil
 | u _ ih=>show .u ih
 | k a _ ih=>show .k (a.up k) ih
theorem Rst.get: ∀{τ:St3} {σ:St2} {i:Nat} {w:W},Rst H τ σ->τ[i]? =some (some w)-> ∃v,σ[i]? =some (some v)/\Rv H w v
 | _,_,_,_,.nil,e=>by simp at e
 | _,_,0,_,.u r,e=>by simp at e
 | _,_,0,_,.k a r,e=>by simp at e;subst e;show⟨_,rfl,a⟩
 | _,_,i+1,_,.u r,e=>by exists Rst.get (i:=i) r (by exists e)
 | _,_,i+1,_,.k a r,e=>by exists Rst.get (i:=i) r (by exists e)
theorem Rst.set(a:Rv H w v): ∀{τ:St3} {σ:St2} (i:Nat),Rst H τ σ->Rst H (τ.set i (some w)) (σ.set i (some v))
 | _,_,_,.nil=> .nil
 | _,_,0,.u r=> .k a r
 | _,_,0,.k _ r=> .k a r
 | _,_,i+1,.u r=> .u (Rst.set a i r)
 | _,_,i+1,.k q r=> .k q (Rst.set a i r)
theorem Rst.app: ∀{τ τ':St3} {σ σ':St2},Rst H τ σ->Rst H τ' σ'->Rst H (τ++τ') (σ++σ')
 | _,_,_,_,.nil,q=>q
 | _,_,_,_,.u r,q=> .u (Rst.app r q)
 | _,_,_,_,.k a r,q=> .k a (Rst.app r q)
theorem Rst.nones: ∀n,Rst H (List.replicate n none) (List.replicate n none)
 | 0=> .nil
 | n+1=> .u (Rst.nones n)
theorem Rst.unset: ∀{τ:St3} {σ:St2} (i:Nat),Rst H τ σ->Rst H (τ.set i none) (σ.set i none)
 | _,_,_,.nil=> .nil
 | _,_,0,.u r=> .u r
 | _,_,0,.k _ r=> .u r
 | _,_,i+1,.u r=> .u (Rst.unset i r)
 | _,_,i+1,.k q r=> .k q (Rst.unset i r)
def sub3 (ix:List Nat) (τ:St3):St3:=ix.map λi=>(τ[i]?).join
theorem Rst.sub(r:Rst H τ σ): ∀ix,Rst H (sub3 ix τ) (L2.sub ix σ)
 | []=> .nil
 | i::ix=>by
  change Rst H ((τ[i]?).join::_) ((σ[i]?).join::_);cases e:(τ[i]?).join with
  | none=>show .u (Rst.sub r ix)
  | some w=>
   have e':τ[i]? =some (some w):=by
    cases e2:τ[i]? with
    | none=>rw[e2] at e;cases e
    | some q=>rw[e2] at e;rw[show q=some w from e]
   obtain⟨v,h,a⟩:=r.get e';rw[h];show .k a (Rst.sub r ix)
theorem Rst.all: ∀{ws:List W} {vs:List V},Rvs H ws vs->Rst H (ws.map some) (vs.map some)
 | _,_,.nil=> .nil
 | _,_,.cons a r=> .k a (Rst.all r)
inductive Tg where
 | n (i:Nat) | t (is:List Nat)
 deriving DecidableEq
inductive Ex where
 | v (i:Nat) | c (x:V) | k (x:Str)
 | op (o:Operator) (a b:Ex) | neg (a:Ex) | cmp (o:CmpOp) (a b:Ex) | ch (o p:CmpOp) (a b c:Ex)
 | and (a b:Ex) | or (a b:Ex) | not (a:Ex) | ite (c a b:Ex)
 | tup (es:Ex) | lst (es:Ex) | dic (ks:List Key) (vs:Ex) | dic0 | nl | cn (a r:Ex)
 | ix (a b:Ex) | sl (a lo hi:Ex) | rev (a:Ex)
 | call (x:Str) (es:Ex) | bi (x:Str) (es:Ex) | me (o:Ex) (m:Str) (es:Ex) | fld (o:Ex) (f:Str)
 | lv (r:Ex) | rw (f:Str) (r:Ex) | lr (f:Str) (e:Ex) | isx (e:Ex) (cs:List Str) | lrv (e:Ex)
 | is (e:Ex) | ir (es:Ex) | iz (es:Ex) | ie (e:Ex) | ic (n:Nat) (ix:List Nat) (g:Tg) (it cond e:Ex)
inductive Sx where
 | nop | seq (a b:Sx) | set (g:Tg) (e:Ex) | put (o i e:Ex) | aug (i:Nat) (o:Operator) (e:Ex)
 | iff (c:Ex) (a b:Sx) | fo (g:Tg) (it:Ex) (b:Sx) | wh (c:Ex) (b:Sx) | ret (e:Ex) | retN | ex (e:Ex) | brk | cnt
 | raise (x:Str) (es:Ex) | tr (b:Sx) (x:Str) (i:Nat) (h:Sx)
abbrev Kc:=W->Gp->Prop
abbrev XK3:=Addr->List Str->List W->Gp->Prop
structure Sp3 where
 {α:Type}
 enc:α->List W
 pre:α->Gp->Prop
 post:α->Gp->W->Gp->Prop
 exc:α->Gp->Addr->List Str->List W->Gp->Prop:=λ_ _ _ _ _ _=>False
@[irreducible] def Sp3.run (s : Sp3) (ws : List W) (G : Gp) (Q : Kc) (E : XK3) : Prop := ∃ a, ws = s.enc a /\ s.pre a G /\ (∀ w G', s.post a G w G' -> Q w G') /\ ∀ c ns us G', s.exc a G c ns us G' -> E c ns us G'
def y1{s:Sp3}:s.run ws G Q E= ∃a,ws=s.enc a/\s.pre a G/\(∀w G',s.post a G w G'->Q w G')/\ ∀c ns us G',s.exc a G c ns us G'->E c ns us G':=by unfold Sp3.run;rfl
abbrev XS:=St3->XK3
def X0:XS:=λ_ _ _ _ _=>False
structure En where
 sp:Str->Option Sp3
 kv:Str->Option W
 cl:Str->Option (Addr×List Str):=λ_=>none
 sub:Addr->Str->Option Bool:=λ_ _=>none
 cn:Str->Option Addr:=λ_=>none
 fd:Addr->Str->Bool:=λ_ _=>false
def delG (G:Gp) (a:Addr):Gp:=λb=>if b=a then none else G b
mutual
inductive Pd (G:Gp):W->PyData->Prop
 | non:Pd G .non .none
 | bl (b:Bool):Pd G (.bl b) (.bool b)
 | int (i:Int):Pd G (.int i) (.int i)
 | str (x:Str):Pd G (.str x) (.str x)
 | tup {ws:List W} {ds:List PyData}:Pds G ws ds->Pd G (.tup ws) (.tuple ds)
 | lst {p:Addr} {ws:List W} {ds:List PyData}:G p=some (.lst ws)->Pds G ws ds->Pd G (.ref p) (.list ds)
 | dct {p:Addr}:G p=some (.dK [])->Pd G (.ref p) (.dict [])
inductive Pds (G:Gp):List W->List PyData->Prop
 | nil:Pds G [] []
 | cons {w:W} {d:PyData} {ws:List W} {ds:List PyData}:Pd G w d->Pds G ws ds->Pds G (w::ws) (d::ds)
end
def eqW (x y:W) (G:Gp) (Q:Bool->Prop):Prop:=match x,y with
 | .int i,.int j=>Q (decide (i=j))
 | .str a,.str b=>Q (decide (a=b))
 | .bl a,.bl b=>Q (decide (a=b))
 | x,y=> ∃dx dy,Pd G x dx/\Pd G y dy/\dx.canLay0=true/\dy.canLay0=true/\dx.depth<=60/\Q (PyData.eqv dx dy)
def int2 (x y:W) (k:Int->Int->Prop):Prop:=match x,y with
 | .int i,.int j=>k i j
 | _,_=>False
def addW (x y:W) (G:Gp) (Q:Kc):Prop:=match x,y with
 | .int i,.int j=>Q (.int (i+j)) G
 | .tup a,.tup b=>a.length+b.length<=1000/\Q (.tup (a++b)) G
 | .ref p,.ref q=> ∃xs ys,G p=some (.lst xs)/\G q=some (.lst ys)/\xs.length+ys.length<=sizeLine/\ ∀r,G r=none->Q (.ref r) (updG G r (.lst (xs++ys)))
 | _,_=>False
def mulW (x y:W) (G:Gp) (Q:Kc):Prop:=match x,y with
 | .int i,.int j=>IntMulOk i j/\Q (.int (i*j)) G
 | .ref p,.int k=> ∃xs,G p=some (.lst xs)/\0<=k/\k<2^63/\xs.length*k.toNat<=sizeLine/\ ∀r,G r=none->Q (.ref r) (updG G r (.lst (List.replicate k.toNat xs).flatten))
 | _,_=>False
def binW (o:Operator) (x y:W) (G:Gp) (Q:Kc):Prop:=match o with
 | .Add=>addW x y G Q
 | .Sub=>int2 x y λi j=>Q (.int (i-j)) G
 | .Mult=>mulW x y G Q
 | .FloorDiv=>int2 x y λi j=>(0<j/\j.natAbs.log2<9000)/\Q (.int (i / j)) G
 | .Mod=>int2 x y λi j=>0<j/\Q (.int (i%j)) G
 | .Pow=>int2 x y λi j=>CPow i j/\Q (.int (i^j.toNat)) G
 | _=>False
def seqW (x:W) (G:Gp) (Q:Bool->List W->Prop):Prop:=match x with
 | .tup ws=>Q true ws
 | .ref p=> ∃ws,(G p=some (.lst ws))/\Q false ws
 | _=>False
def keyW:W->Option Key
 | .int i=>some (.inl i)
 | .str x=>some (.inr x)
 | _=>none
def valW {κ:Type} [DecidableEq κ] (kvs:List (κ×W)) (k:κ):Option W:=(kvs.find? λkv=>decide (kv.1=k)).map (·.2)
def putW {κ:Type} [DecidableEq κ] (kvs:List (κ×W)) (k:κ) (v:W):List (κ×W):=
 if kvs.any (λkv=>decide (kv.1=k)) then kvs.map (λkv=>if kv.1=k then (kv.1,v) else kv) else kvs++[(k,v)]
def y8 (kvs more:List (Key×W)):List (Key×W):=more.foldl (λacc kv=>putW acc kv.1 kv.2) kvs
def Zo (p:Addr) (y:W) (G:Gp) (Q:Option W->Prop):Prop:= ∃kvs k,G p=some (.dK kvs)/\keyW y=some k/\Q (valW kvs k)
def inW (x y:W) (G:Gp) (Q:Bool->Prop):Prop:=match y with
 | .ref p=>(∃ws dx ds,G p=some (.lst ws)/\Pd G x dx/\Pds G ws ds/\dx.canLay0=true/\PyData.canLayAll0 ds=true/\dx.depth<=60/\Q (ds.any λd=>PyData.eqv d dx))\/Zo p x G λo=>Q o.isSome
 | .tup ws=> ∃dx ds,Pd G x dx/\Pds G ws ds/\dx.canLay0=true/\PyData.canLayAll0 ds=true/\dx.depth<=60/\Q (ds.any λd=>PyData.eqv d dx)
 | _=>False
def XG:W->Bool
 | .non=>true
 | _=>false
def isW (x y:W) (Q:Bool->Prop):Prop:=match y with
 | .non=>Q (XG x)
 | .bl true=>(match x with
  | .bl c=>Q c
  | _=>False)
 | _=>False
def cmpW (o:CmpOp) (x y:W) (G:Gp) (Q:Bool->Prop):Prop:=match o with
 | .Eq=>(match x,y with
  | .ref p,.str b=>((∃kvs,G p=some (.dK kvs))/\Q false)\/eqW (.ref p) (.str b) G Q
  | .ref p,.ref q=>(∃ws,G p=some (.lst ws)/\G q=some (.lst [])/\Q ws.isEmpty)\/eqW (.ref p) (.ref q) G Q
  | x,y=>eqW x y G Q)
 | .NotEq=>(match x,y with
  | .ref p,.ref q=>(∃ws,G p=some (.lst ws)/\G q=some (.lst [])/\Q (!ws.isEmpty))\/eqW (.ref p) (.ref q) G λb=>Q (!b)
  | x,y=>eqW x y G λb=>Q (!b))
 | .In=>inW x y G Q
 | .NotIn=>inW x y G λb=>Q (!b)
 | .Lt=>int2 x y λi j=>Q (decide (i<j))
 | .LtE=>int2 x y λi j=>Q (decide (i<=j))
 | .Gt=>int2 x y λi j=>Q (decide (j<i))
 | .GtE=>int2 x y λi j=>Q (decide (j<=i))
 | .Is=>isW x y Q
 | .IsNot=>isW x y λb=>Q (!b)
def ixW (x y:W) (G:Gp) (Q:W->Prop):Prop:=match x,y with
 | .tup ws,.int i=> ∃w,atI ws i=some w/\Q w
 | .ref p,y=>(∃ws i w,(G p=some (.lst ws)\/G p=some (.flst ws))/\y= .int i/\atI ws i=some w/\Q w)\/Zo p y G λo=> ∃w,o=some w/\Q w
 | _,_=>False
def cutW {α:Type} (xs:List α) (lo hi:Option Int):List α:=(xs.drop (HT.sIx xs.length 0 lo)).take (HT.sIx xs.length xs.length hi-HT.sIx xs.length 0 lo)
def slW (x:W) (lo hi:Option Int) (G:Gp) (Q:Kc):Prop:=match x with
 | .tup ws=>ws.length<=1000/\Q (.tup (cutW ws lo hi)) G
 | .ref p=> ∃ws,(G p=some (.lst ws)\/G p=some (.flst ws))/\ ∀r,G r=none->Q (.ref r) (updG G r (.lst (cutW ws lo hi)))
 | _=>False
def Xv (x:List W) (Q:Option Int->Prop):Prop:=match x with
 | []=>Q none
 | [.int i]=>Q (some i)
 | _=>False
def tyNs:List String:=["int","bool","str","tuple","list"]
def tyW (n:String) (x:W) (G:Gp):Option Bool:=if tyNs.contains n=true then (match x with
 | .int _=>some (n=="int")
 | .bl _=>some (n=="bool" || n=="int")
 | .str _=>some (n=="str")
 | .tup _=>some (n=="tuple")
 | .non=>some false
 | .ref p=>match G p with
  | some (.lst _)=>some (n=="list")
  | some (.dK _)=>some false
  | _=>none
 | _=>none) else none
def biL (f:Str) (tp:Bool) (ws:List W) (G:Gp) (Q:Kc):Prop:=
 if f="tuple" then Q (.tup ws) G
 else if f="len" then Q (.int ws.length) G
 else if f="list" then∀r,G r=none->Q (.ref r) (updG G r (.lst ws))
 else if f="sum" then∃ns:List Int,ws=ns.map .int/\Q (.int ns.sum) G
 else if f="all" then tp=false/\ ∃bs:List Bool,ws=bs.map .bl/\Q (.bl (bs.all id)) G
 else if f="any" then tp=false/\ ∃bs:List Bool,ws=bs.map .bl/\Q (.bl (bs.any id)) G
 else False
def rowB (f:Str):Bool:=(["tuple","len","list","sum","all","any"]:List Str).contains f
def biW (f:Str) (ws:List W) (G:Gp) (Q:Kc):Prop:=match ws with
 | [x,y]=>(f="max"/\ ∃i j,x= .int i/\y= .int j/\Q (.int (if j>i then j else i)) G)\/(f="min"/\ ∃i j,x= .int i/\y= .int j/\Q (.int (if j<i then j else i)) G)\/(f="isinstance"/\ ∃n b,y= .ty n/\tyW n x G=some b/\Q (.bl b) G)
 | [x]=>(f="int"/\ ∃b,x= .bl b/\Q (.int (if b then 1 else 0)) G)\/(f="repr"/\ ∃d,Pd G x d/\d.showable=true/\d.depth<=150/\d.shown.length<=sizeLine/\Q (.str d.shown) G)\/(f="str"/\ ∃i:Int,x= .int i/\i.natAbs.log2<1920/\Q (.str (Str.ofString (toString i))) G)
 | _=>False
def meW (m:Str) (x:W) (ws:List W) (G:Gp) (Q:Kc):Prop:=match x with
 | .ref l=>match ws with
  | []=>m="pop"/\ ∃xs y,G l=some (.lst xs)/\xs[xs.length - 1]? =some y/\Q y (updG G l (.lst xs.dropLast))
  | [y]=>(m="append"/\ ∃xs,G l=some (.lst xs)/\xs.length<sizeLine/\Q .non (updG G l (.lst (xs++[y]))))\/
   (m="pop"/\ ∃xs i k z,y= .int i/\G l=some (.lst xs)/\ixN xs.length i=some k/\xs.length<=sizeLine/\xs[k]? =some z/\Q z (updG G l (.lst (xs.eraseIdx k))))\/
   (m="extend"/\ ∃b xs zs,y= .ref b/\G l=some (.lst xs)/\G b=some (.lst zs)/\xs.length+zs.length<=sizeLine/\Q .non (updG G l (.lst (xs++zs))))
  | [y,d]=>m="get"/\Zo l y G λo=>Q (o.getD d) G
  | _=>False
 | _=>False
def tyM (m:Str) (x:W) (G:Gp):Prop:=match x with
 | .ref p=>if m="get" then∃kvs,G p=some (.dK kvs) else∃ws,G p=some (.lst ws)
 | _=>False
def meN (m:Str) (n:Nat):Bool:=(m=="pop"&&(n==0 || n==1)) || (m=="append"&&n==1) || (m=="extend"&&n==1) || (m=="get"&&n==2)
def YN:List Nat->List W->St3->St3
 | i::is,w::ws,τ=>YN is ws (τ.set i (some w))
 | _,_,τ=>τ
def xw:Tg->W->St3->Option St3
 | .n i,w,τ=>some (τ.set i (some w))
 | .t is,.tup ws,τ=>if is.length=ws.length then some (YN is ws τ) else none
 | _,_,_=>none
def cbr (k:Bool) (A B:Prop):Prop:=if k=true then A else B
def zC (g:Tg) (tc:St3->Gp->(Bool->Gp->Prop)->Prop) (te:St3->Gp->Kc->Prop) (ok:Gp->Prop) (Q:List W->Gp->Prop):List W->St3->List W->Gp->Prop
 | [],_,acc,G=>ok G/\Q acc G
 | x::xs,τ,acc,G=>ok G/\ ∃τ',xw g x τ=some τ'/\tc τ' G λb G1=>cbr b (te τ' G1 λy G2=>acc.length<sizeLine/\zC g tc te ok Q xs τ' (acc++[y]) G2) (zC g tc te ok Q xs τ' acc G1)
abbrev Ki:=List W->(Gp->Prop)->Gp->Prop
def xS (x:W) (G:Gp) (Q:Ki):Prop:=match x with
 | .tup ws=>Q ws (λ_=>True) G
 | .ref p=> ∃ws,G p=some (.lst ws)/\(Q ws (λG'=>G' p=some (.lst ws)) G\/Q ws (λ_=>True) (delG G p))
 | _=>False
def rngW (lo hi:Int):List W:=(List.range (hi-lo).toNat).map fun(i:Nat)=> .int (lo+i)
def rngA (ws:List W) (Q:List W->Prop):Prop:=match ws with
 | [.int j]=>(-(2^62)<=j/\j<2^62)/\Q (rngW 0 j)
 | [.int i,.int j]=>(-(2^62)<=i/\i<2^62/\ -(2^62)<=j/\j<2^62)/\Q (rngW i j)
 | [.int i,.int j,.int 2]=>(0<=i/\i<2^40/\0<=j/\j<2^40)/\Q ((List.range ((j-i+1) / 2).toNat).map fun(m:Nat)=> .int (i+m*2))
 | _=>False
def zipW (a b:List W):List W:=List.zipWith (λx y=> .tup [x,y]) a b
def enuW (k:Nat):List W->List W
 | []=>[]
 | x::xs=> .tup [.int k,x]::enuW (k+1) xs
@[irreducible] def br (k : Bool) (A B : Prop) : Prop := if k = true then A else B
def xk:br k A B=(if k=true then A else B):=by unfold br;rfl
def br_t(h:A):br true A B:=by rw[xk];show h
def br_f(h:B):br false A B:=by rw[xk];show h
def br_i(h:k=true->A)(h':k=false->B):br k A B:=by
 cases k
 .show br_f (h' rfl)
 .show br_t (h rfl)
def br_d[Decidable p](h:p->A)(h': ¬p->B):br (decide p) A B:=br_i (λe=>h (of_decide_eq_true e)) λe=>h' (of_decide_eq_false e)
def br_n(h:br k B A):br (!k) A B:=by
 rw[xk] at h ⊢;cases k<;>show h
def lrW (f:Str) (w:W) (G:Gp) (Q:Kc):Prop:=match w with
 | .int n=>0<=n/\n<=1000/\((f="list"/\ ∀r,G r=none->Q (.ref r) (updG G r (.lst (rngW 0 n))))\/(f="tuple"/\Q (.tup (rngW 0 n)) G))
 | _=>False
def zipA (ws:List W) (G:Gp) (Q:Ki):Prop:=match ws with
 | [x,y]=>xS x G λa ok G2=>xS y G2 λb ok' G3=>Q (zipW a b) (λG=>ok G/\ok' G) G3
 | _=>False
def isB (Q:Bool->Gp->Prop):Kc:=λw G=>match w with
 | .bl b=>Q b G
 | _=>False
mutual
def den (N:En) (E:XS):Ex->St3->Gp->Kc->Prop
 | .v i,τ,G,Q=>match τ[i]? with
  | some (some w)=>Q w G
  | _=>False
 | .c x,_,G,Q=>match x with
  | .non=>Q .non G
  | .bl b=>Q (.bl b) G
  | .int i=>Q (.int i) G
  | .str s=>Q (.str s) G
  | .ty n=>Q (.ty n) G
  | _=>False
 | .k x,_,G,Q=>match N.kv x with
  | some w=>Q w G
  | none=>False
 | .op o a b,τ,G,Q=>den N E a τ G λx G1=>den N E b τ G1 λy G2=>binW o x y G2 Q
 | .neg a,τ,G,Q=>den N E a τ G λx G1=>match x with
  | .int i=>Q (.int (-i)) G1
  | _=>False
 | .cmp o a b,τ,G,Q=>den N E a τ G λx G1=>den N E b τ G1 λy G2=>cmpW o x y G2 λk=>Q (.bl k) G2
 | .ch o p a b c,τ,G,Q=>den N E a τ G λx G1=>den N E b τ G1 λy G2=>cmpW o x y G2 λk=>br k (den N E c τ G2 λz G3=>cmpW p y z G3 λk=>Q (.bl k) G3) (Q (.bl false) G2)
 | .and a b,τ,G,Q=>den N E a τ G (isB λk G1=>br k (den N E b τ G1 Q) (Q (.bl false) G1))
 | .or a b,τ,G,Q=>den N E a τ G (isB λk G1=>br k (Q (.bl true) G1) (den N E b τ G1 Q))
 | .not a,τ,G,Q=>den N E a τ G (isB λk G1=>Q (.bl (!k)) G1)
 | .ite c a b,τ,G,Q=>den N E c τ G (isB λk G1=>br k (den N E a τ G1 Q) (den N E b τ G1 Q))
 | .tup es,τ,G,Q=>dens N E es τ G λws G1=>ws.length<=sizeLine/\Q (.tup ws) G1
 | .lst es,τ,G,Q=>dens N E es τ G λws G1=>ws.length<=sizeLine/\ ∀r,G1 r=none->Q (.ref r) (updG G1 r (.lst ws))
 | .dic ks vs,τ,G,Q=>dens N E vs τ G λws G1=>ws.length=ks.length/\ ∀r,G1 r=none->Q (.ref r) (updG G1 r (.dK (y8 [] (ks.zip ws))))
 | .dic0,_,G,Q=> ∀r,G r=none->Q (.ref r) (updG G r (.dK []))
 | .nl,_,_,_=>False
 | .cn _ _,_,_,_=>False
 | .ix a b,τ,G,Q=>den N E a τ G λx G1=>den N E b τ G1 λy G2=>ixW x y G2 λw=>Q w G2
 | .sl a lo hi,τ,G,Q=>den N E a τ G λx G1=>dens N E lo τ G1 λl G2=>Xv l λl=>dens N E hi τ G2 λh G3=>Xv h λh=>slW x l h G3 Q
 | .rev a,τ,G,Q=>den N E a τ G λx G1=>match x with
  | .tup ws=>ws.length<=1000/\Q (.tup ws.reverse) G1
  | _=>False
 | .call x es,τ,G,Q=>match N.sp x with
  | some sp=>dens N E es τ G λws G1=>sp.run ws G1 Q (E τ)
  | none=>False
 | .bi f es,τ,G,Q=>dens N E es τ G λws G1=>biW f ws G1 Q
 | .me o m es,τ,G,Q=>den N E o τ G λx G1=>tyM m x G1/\dens N E es τ G1 λws G2=>meW m x ws G2 Q
 | .fld o f,τ,G,Q=>den N E o τ G λw G1=>match w with
  | .exc c ns ws=>N.fd c f=true/\ ∃w',(ns.zip ws).lookup f=some w'/\Q w' G1
  | _=>False
 | .isx e cs,τ,G,Q=>(∀x∈cs,x="ValueError"\/ ∃D,N.cn x=some D)/\den N E e τ G λw G1=>match w with
  | .exc c _ _=>(match cs.mapM (N.sub c) with
   | some bs=>Q (.bl (bs.any id)) G1
   | none=>False)
  | _=>False
 | .lrv e,τ,G,Q=>den N E e τ G λw G1=>match w with
  | .ref p=> ∃ws,G1 p=some (.lst ws)/\ ∀r,G1 r=none->Q (.ref r) (updG G1 r (.lst ws.reverse))
  | _=>False
 | .lv r,τ,G,Q=>denR N E r τ G λ_ ys G2=> ∀r,G2 r=none->Q (.ref r) (updG G2 r (.lst ys))
 | .lr f e,τ,G,Q=>den N E e τ G λw G1=>lrW f w G1 Q
 | .rw f r,τ,G,Q=>denR N E r τ G λtp ws G1=>biL f tp ws G1 Q
 | .is _,_,_,_=>False
 | .ir _,_,_,_=>False
 | .iz _,_,_,_=>False
 | .ie _,_,_,_=>False
 | .ic _ _ _ _ _ _,_,_,_=>False
def dens (N:En) (E:XS):Ex->St3->Gp->(List W->Gp->Prop)->Prop
 | .nl,_,G,Q=>Q [] G
 | .cn a r,τ,G,Q=>den N E a τ G λx G1=>dens N E r τ G1 λxs G2=>Q (x::xs) G2
 | _,_,_,_=>False
def denC (N:En) (E:XS):Ex->St3->Gp->(Bool->Gp->Prop)->Prop
 | .nl,_,G,Q=>Q true G
 | .cn c _,τ,G,Q=>den N E c τ G (isB Q)
 | _,_,_,_=>False
def denR (N:En) (E:XS):Ex->St3->Gp->(Bool->List W->Gp->Prop)->Prop
 | .is e,τ,G,Q=>den N E e τ G λw G1=>seqW w G1 λtp ws=>Q tp ws G1
 | .ic n ix g it cond e,τ,G,Q=>denI N E it τ G λws ok G1=>zC g (denC N X0 cond) (den N X0 e) ok (Q false) ws (List.replicate n none++sub3 ix τ) [] G1
 | _,_,_,_=>False
def denI (N:En) (E:XS):Ex->St3->Gp->Ki->Prop
 | .ir es,τ,G,Q=>dens N E es τ G λws G1=>rngA ws λws=>Q ws (λ_=>True) G1
 | .ie e,τ,G,Q=>den N E e τ G λx G1=>xS x G1 λws ok G2=>Q (enuW 0 ws) ok G2
 | .iz es,τ,G,Q=>dens N E es τ G λws G1=>zipA ws G1 Q
 | .is e,τ,G,Q=>den N E e τ G λw G1=>xS w G1 Q
 | .ic n ix g it cond e,τ,G,Q=>denI N E it τ G λws ok G1=>zC g (denC N X0 cond) (den N X0 e) ok (λys G2=>Q ys (λ_=>True) G2) ws (List.replicate n none++sub3 ix τ) [] G1
 | _,_,_,_=>False
end
structure Ends3 where
 nx:St3->Gp->Prop
 rt:Kc
 bk:St3->Gp->Prop:=λ_ _=>False
 ct:St3->Gp->Prop:=λ_ _=>False
def yC (g:Tg) (b:Ends3->St3->Gp->Prop) (ok:Gp->Prop) (D:Ends3):List W->St3->Gp->Prop
 | [],τ,G=>ok G/\D.nx τ G
 | x::xs,τ,G=>ok G/\ ∃τ',xw g x τ=some τ'/\b {D with nx:=yC g b ok D xs,ct:=yC g b ok D xs,bk:=D.nx} τ' G
def whGo (c:St3->Gp->(Bool->Gp->Prop)->Prop) (b:Ends3->St3->Gp->Prop) (D:Ends3):Nat->St3->Gp->Prop
 | 0,_,_=>False
 | n+1,τ,G=>c τ G λk G1=>br k (b {D with nx:=whGo c b D n,ct:=whGo c b D n,bk:=D.nx} τ G1) (D.nx τ G1)
def putA (x y v:W) (G:Gp) (Q:Gp->Prop):Prop:=match x with
 | .ref p=>(∃ws i j,G p=some (.lst ws)/\y= .int i/\ixN ws.length i=some j/\Q (updG G p (.lst (ws.set j v))))\/
  (∃kvs k,G p=some (.dK kvs)/\keyW y=some k/\kvs.length<sizeLine/\Q (updG G p (.dK (putW kvs k v))))
 | _=>False
def augW (o:Operator) (x y:W) (Q:W->Prop):Prop:=match o,x,y with
 | .Add,.int a,.int b=>Q (.int (a+b))
 | .Sub,.int a,.int b=>Q (.int (a-b))
 | _,_,_=>False
def unE3 (i:Nat) (D:Ends3):Ends3:={nx:=fun τ G=>D.nx (τ.set i none) G,rt:=D.rt,bk:=fun τ G=>D.bk (τ.set i none) G,ct:=fun τ G=>D.ct (τ.set i none) G}
def denS (N:En) (E:XS):Sx->Ends3->St3->Gp->Prop
 | .nop,D,τ,G=>D.nx τ G
 | .seq a b,D,τ,G=>denS N E a {D with nx:=denS N E b D} τ G
 | .set g e,D,τ,G=>den N E e τ G λw G1=> ∃τ',xw g w τ=some τ'/\D.nx τ' G1
 | .put o i e,D,τ,G=>den N E e τ G λv G1=>den N E o τ G1 λx G2=>den N E i τ G2 λy G3=>putA x y v G3 λG4=>D.nx τ G4
 | .aug i o e,D,τ,G=>den N E (.v i) τ G λx G1=>den N E e τ G1 λy G2=>augW o x y λz=>D.nx (τ.set i (some z)) G2
 | .iff c a b,D,τ,G=>den N E c τ G (isB λk G1=>br k (denS N E a D τ G1) (denS N E b D τ G1))
 | .fo g it b,D,τ,G=>denI N E it τ G λws ok G1=>yC g (denS N E b) ok D ws τ G1
 | .wh c b,D,τ,G=> ∃n,whGo (fun τ G Q=>den N E c τ G (isB Q)) (denS N E b) D n τ G
 | .ret e,D,τ,G=>den N E e τ G D.rt
 | .retN,D,_,G=>D.rt .non G
 | .ex e,D,τ,G=>den N E e τ G λ_ G1=>D.nx τ G1
 | .brk,D,τ,G=>D.bk τ G
 | .cnt,D,τ,G=>D.ct τ G
 | .raise x es,_,τ,G=>match N.cl x with
  | some (C,ns)=>dens N E es τ G λws G1=>ws.length=ns.length/\ns.length<=2/\E τ C ns ws G1
  | none=>False
 | .tr b x i h,D,τ,G=>match N.cn x with
  | some _=>denS N (fun τ' c ns ws G'=>N.sub c x=some true/\denS N E h (unE3 i D) (τ'.set i (some (.exc c ns ws))) G') b D τ G
  | none=>False
def Fr (G:Gp) (H:Hp) (G':Gp) (H':Hp):Prop:= ∀a o,G a=none->H a=some o->G' a=none/\H' a=some o
def Fr.refl:Fr G H G H:=λ_ _ a b=>⟨a,b⟩
def Fr.trans(a:Fr G H G1 H1)(b:Fr G1 H1 G2 H2):Fr G H G2 H2:=λp o h1 h2=>let ⟨x,y⟩:=a p o h1 h2;b p o x y
theorem Fr.kt(f:Fr G H G' H')(r:Rh G H):Kt H H':=λp u i e=>by
 cases h:G p with
 | none=>show(f p _ h e).2
 | some o=>show absurd e ((r p o h).notup u i)
def Fr.beside{G:Gp}{H:Hp}{a:Addr}{u:HO}(h:H a=none):Fr G H G (upd H a u):=λb o g e=>⟨g,by rw[zi (zg e h)];show e⟩
def Fr.new{G:Gp}{H:Hp}{a:Addr}{u:HO}{o:HW}(h:H a=none):Fr G H (updG G a o) (upd H a u):=λb o' g e=>by
 have n:=zg e h;show⟨by rw[ze n];show g,by rw[zi n];show e⟩
def Fr.put(h:G a=some o1):Fr G H (updG G a o) (upd H a u):=λb o' g e=>by
 have n:b≠a:=λz=>by subst z;rw[g] at h;cases h
 show⟨by rw[ze n];show g,by rw[zi n];show e⟩
def Fr.same(k: ∀a o,H a=some o->H' a=some o):Fr G H G H':=λa o g e=>⟨g,k a o e⟩
theorem Rh.same(r:Rh G H)(k: ∀a o,H a=some o->H' a=some o):Rh G H':=λa o e=>by
 have q:=r a o e;show q.up (Kt.of k) ?_;cases h:H a with
 | none=>show absurd h q.ne
 | some u=>show k a u h
def SubG (G' G:Gp):Prop:= ∀a o,G' a=some o->G a=some o
def SubG.refl:SubG G G:=λ_ _ e=>e
theorem SubG.none(s:SubG G' G)(h:G a=none):G' a=none:=by
 cases e:G' a with
 | none=>rfl
 | some o=>rw[s a o e] at h;cases h
def Rh.sub(r:Rh G H)(s:SubG G' G):Rh G' H:=λa o e=>r a o (s a o e)
def Fr.sub(f:Fr G H G1 H1)(s:SubG G2 G1):Fr G H G2 H1:=λa o h e=>let ⟨x,y⟩:=f a o h e;⟨s.none x,y⟩
def SubG.del:SubG (delG G a) G:=λb o e=>by
 unfold delG at e;split at e
 .cases e
 .show e
def Xfs (H:Hp) (d:Option Addr) (ns:List Str) (ws:List W):Prop:= ∃dx xs,d=some dx/\H dx=some (XDct dx (ns.zip xs))/\Rvs H ws xs
abbrev XS2:=St2->XK
def Xr (G:Gp) (H:Hp) (E3:XS) (E:XS2):Prop:= ∀τ σ c ns ws d G' H',Fr G H G' H'->Rst H' τ σ->Rh G' H'->Xfs H' d ns ws->E3 τ c ns ws G'->E σ (.ref c) d H'
def Xr.up(x:Xr G H E3 E)(f:Fr G H G' H'):Xr G' H' E3 E:=fun τ σ c ns ws d G2 H2 g a b e q=>x τ σ c ns ws d G2 H2 (f.trans g) a b e q
def Xr.x0:Xr G H X0 E:=λ_ _ _ _ _ _ _ _ _ _ _ _ h=>h.elim
def LE (E3:XS) (E:XS2) (T:St3->Gp->Kc->Prop) (t:TE):Prop:= ∀τ G σ H (Q:Kc) (R:VK),Rst H τ σ->Rh G H->Xr G H E3 E->T τ G Q->
 (∀w v G' H',Fr G H G' H'->Rv H' w v->Rh G' H'->Q w G'->R v H')->t σ H R
def LA (E3:XS) (E:XS2) (n:Nat) (T:St3->Gp->(List W->Gp->Prop)->Prop) (t:TA):Prop:= ∀τ G σ H (Q:List W->Gp->Prop) (R:List V->Hp->Prop),Rst H τ σ->Rh G H->Xr G H E3 E->T τ G Q->
 (∀w v G' H',w.length=n->Fr G H G' H'->Rvs H' w v->Rh G' H'->Q w G'->R v H')->t σ H R
def LT (E3:XS) (E:XS2) (T:St3->Gp->(Bool->Gp->Prop)->Prop) (t:TT):Prop:= ∀τ G σ H (Q:Bool->Gp->Prop) (R:Bool->Hp->Prop),Rst H τ σ->Rh G H->Xr G H E3 E->T τ G Q->
 (∀b G' H',Fr G H G' H'->Rh G' H'->Q b G'->R b H')->t σ H R
def LR (r3:W->W->Gp->Kc->Prop) (r:R2):Prop:= ∀x y G H u v (Q:Kc) (R:VK),Rv H x u->Rv H y v->Rh G H->r3 x y G Q->(∀w v G' H',Fr G H G' H'->Rv H' w v->Rh G' H'->Q w G'->R v H')->r u v H R
def LC (r3:List W->Gp->Kc->Prop) (r:List V->Hp->VK->Prop):Prop:= ∀xs G H us (Q:Kc) (R:VK),Rvs H xs us->Rh G H->r3 xs G Q->(∀w v G' H',Fr G H G' H'->Rv H' w v->Rh G' H'->Q w G'->R v H')->r us H R
section
variable {Ta Tb Tc:St3->Gp->Kc->Prop}
def LE.op{r3:W->W->Gp->Kc->Prop}(ha:LE E3 E Ta ta)(hb:LE E3 E Tb tb)(hr:LR r3 r):LE E3 E (fun τ G Q=>Ta τ G λx G1=>Tb τ G1 λy G2=>r3 x y G2 Q) (tOp r ta tb):=by
 intro τ G σ H Q R rs rh rx q k;show ha τ G σ H _ _ rs rh rx q λw v G1 H1 f1 a1 r1 q1=>?_;show hb τ G1 σ H1 _ _ (rs.up (f1.kt rh)) r1 (rx.up f1) q1 λw' v' G2 H2 f2 a2 r2 q2=>?_;show hr w w' G2 H2 v v' _ _ (a1.up (f2.kt r1)) a2 r2 q2 λw v G' H' f a r q=>k w v G' H' ((f1.trans f2).trans f) a r q
theorem LE.toT{T:St3->Gp->Kc->Prop}(h:LE E3 E T t):LT E3 E (fun τ G Q=>T τ G (isB Q)) (tB t):=by
 intro τ G σ H Q R rs rh rx q k;show h τ G σ H _ _ rs rh rx q λw v G1 H1 f1 a1 r1 q1=>?_;cases a1 with
 | bl b=>show⟨b,rfl,k b _ _ f1 r1 q1⟩
 | _=>show q1.elim
theorem LT.ite{U:St3->Gp->(Bool->Gp->Prop)->Prop}(hc:LT E3 E U u)(ha:LE E3 E Ta ta)(hb:LE E3 E Tb tb):LE E3 E (fun τ G Q=>U τ G λk G1=>br k (Ta τ G1 Q) (Tb τ G1 Q)) (tIf u ta tb):=by
 intro τ G σ H Q R rs rh rx q k;show hc τ G σ H _ _ rs rh rx q λb G1 H1 f1 r1 q1=>?_;rw[xk] at q1;cases b with
 | true=>
  rw[if_pos rfl] at q1 ⊢;show ha τ G1 σ H1 _ _ (rs.up (f1.kt rh)) r1 (rx.up f1) q1 λw v G' H' f a r q=>k w v G' H' (f1.trans f) a r q
 | false=>
  rw[if_neg Δ] at q1 ⊢;show hb τ G1 σ H1 _ _ (rs.up (f1.kt rh)) r1 (rx.up f1) q1 λw v G' H' f a r q=>k w v G' H' (f1.trans f) a r q
theorem LE.andV(ha:LE E3 E Ta ta)(hb:LE E3 E Tb tb):LE E3 E (fun τ G Q=>Ta τ G (isB λk G1=>br k (Tb τ G1 Q) (Q (.bl false) G1))) (Vb ta tb):=by
 intro τ G σ H Q R rs rh rx q k;show ha τ G σ H _ _ rs rh rx q λw v G1 H1 f1 a1 r1 q1=>?_;cases a1 with
 | bl b=>
  show⟨b,rfl,?_⟩;have q1:br b _ _:=q1;rw[xk] at q1;cases b with
  | true=>show hb τ G1 σ H1 _ _ (rs.up (f1.kt rh)) r1 (rx.up f1) q1 λw v G' H' f a r q=>k w v G' H' (f1.trans f) a r q
  | false=>show k _ _ _ _ f1 (.bl false) r1 q1
 | _=>show q1.elim
theorem LE.orV(ha:LE E3 E Ta ta)(hb:LE E3 E Tb tb):LE E3 E (fun τ G Q=>Ta τ G (isB λk G1=>br k (Q (.bl true) G1) (Tb τ G1 Q))) (tOrV ta tb):=by
 intro τ G σ H Q R rs rh rx q k;show ha τ G σ H _ _ rs rh rx q λw v G1 H1 f1 a1 r1 q1=>?_;cases a1 with
 | bl b=>
  show⟨b,rfl,?_⟩;have q1:br b _ _:=q1;rw[xk] at q1;cases b with
  | false=>show hb τ G1 σ H1 _ _ (rs.up (f1.kt rh)) r1 (rx.up f1) q1 λw v G' H' f a r q=>k w v G' H' (f1.trans f) a r q
  | true=>show k _ _ _ _ f1 (.bl true) r1 q1
 | _=>show q1.elim
theorem LE.notV(ha:LE E3 E Ta ta):LE E3 E (fun τ G Q=>Ta τ G (isB λk G1=>Q (.bl (!k)) G1)) (W7 ta):=by
 intro τ G σ H Q R rs rh rx q k;show ha τ G σ H _ _ rs rh rx q λw v G1 H1 f1 a1 r1 q1=>?_;cases a1 with
 | bl b=>show⟨b,rfl,k _ _ _ _ f1 (.bl _) r1 q1⟩
 | _=>show q1.elim
theorem LT.andT{Ua:St3->Gp->(Bool->Gp->Prop)->Prop}(ha:LT E3 E Ua ua)(hb:LT E3 E (fun τ G Q=>Tb τ G (isB Q)) ub):LT E3 E (fun τ G Q=>Ua τ G λk G1=>br k (Tb τ G1 (isB Q)) (isB Q (.bl false) G1)) (tAnd ua ub):=by
 intro τ G σ H Q R rs rh rx q k;show ha τ G σ H _ _ rs rh rx q λb G1 H1 f1 r1 q1=>?_;rw[xk] at q1;cases b with
 | true=>show hb τ G1 σ H1 _ _ (rs.up (f1.kt rh)) r1 (rx.up f1) q1 λb G' H' f r q=>k b G' H' (f1.trans f) r q
 | false=>show k _ _ _ f1 r1 q1
theorem LT.orT{Ua:St3->Gp->(Bool->Gp->Prop)->Prop}(ha:LT E3 E Ua ua)(hb:LT E3 E (fun τ G Q=>Tb τ G (isB Q)) ub):LT E3 E (fun τ G Q=>Ua τ G λk G1=>br k (isB Q (.bl true) G1) (Tb τ G1 (isB Q))) (tOr ua ub):=by
 intro τ G σ H Q R rs rh rx q k;show ha τ G σ H _ _ rs rh rx q λb G1 H1 f1 r1 q1=>?_;rw[xk] at q1;cases b with
 | false=>show hb τ G1 σ H1 _ _ (rs.up (f1.kt rh)) r1 (rx.up f1) q1 λb G' H' f r q=>k b G' H' (f1.trans f) r q
 | true=>show k _ _ _ f1 r1 q1
def LT.notT{Ua:St3->Gp->(Bool->Gp->Prop)->Prop}(ha:LT E3 E Ua ua):LT E3 E (fun τ G Q=>Ua τ G λk G1=>isB Q (.bl (!k)) G1) (tNot ua):=by
 intro τ G σ H Q R rs rh rx q k;show ha τ G σ H _ _ rs rh rx q λb G1 H1 f1 r1 q1=>k _ _ _ f1 r1 q1
def LA.nil:LA E3 E 0 (λ_ G Q=>Q [] G) tNil:=fun τ G σ H Q R rs rh rx q k=>k [] [] G H rfl Fr.refl .nil rh q
def LA.cons{Tr:St3->Gp->(List W->Gp->Prop)->Prop}(ha:LE E3 E Ta ta)(hr:LA E3 E n Tr tr):LA E3 E (n+1) (fun τ G Q=>Ta τ G λx G1=>Tr τ G1 λxs G2=>Q (x::xs) G2) (z0 ta tr):=by
 intro τ G σ H Q R rs rh rx q k;show ha τ G σ H _ _ rs rh rx q λw v G1 H1 f1 a1 r1 q1=>?_;show hr τ G1 σ H1 _ _ (rs.up (f1.kt rh)) r1 (rx.up f1) q1 λws vs G2 H2 hl f2 a2 r2 q2=>k _ _ G2 H2 (by simp[hl]) (f1.trans f2) (.cons (a1.up (f2.kt r1)) a2) r2 q2
def LA.tup{Tr:St3->Gp->(List W->Gp->Prop)->Prop}(hr:LA E3 E n Tr tr):LE E3 E (fun τ G Q=>Tr τ G λws G1=>ws.length<=sizeLine/\Q (.tup ws) G1) (tTup tr):=by
 intro τ G σ H Q R rs rh rx q k;show hr τ G σ H _ _ rs rh rx q λws vs G1 H1 _ f1 a1 r1 q1=>⟨by rw[<-a1.len];show q1.1,λp hp=>?_⟩;show k _ _ G1 _ (f1.trans (Fr.beside hp)) (.tup zj (a1.up (Kt.new hp))) (r1.beside hp) q1.2
def LA.lst{Tr:St3->Gp->(List W->Gp->Prop)->Prop}(hr:LA E3 E n Tr tr):LE E3 E (fun τ G Q=>Tr τ G λws G1=>ws.length<=sizeLine/\ ∀r,G1 r=none->Q (.ref r) (updG G1 r (.lst ws))) (tLst tr):=by
 intro τ G σ H Q R rs rh rx q k;show hr τ G σ H _ _ rs rh rx q λws vs G1 H1 _ f1 a1 r1 q1=>⟨by rw[<-a1.len];show q1.1,λp hp=>?_⟩;show k _ _ _ _ (f1.trans (Fr.new hp)) (.ref p) (r1.lnew hp a1) (q1.2 p (r1.fresh hp))
def LA.cb{Tr:St3->Gp->(List W->Gp->Prop)->Prop}{r3:List W->Gp->Kc->Prop}{r:List V->Hp->VK->Prop}(hr:LA E3 E n Tr tr)(hc:LC r3 r):LE E3 E (fun τ G Q=>Tr τ G λws G1=>r3 ws G1 Q) (tCB r tr):=by
 intro τ G σ H Q R rs rh rx q k;show hr τ G σ H _ _ rs rh rx q λws vs G1 H1 _ f1 a1 r1 q1=>?_;show hc ws G1 H1 vs _ _ a1 r1 q1 λw v G' H' f a r q=>k w v G' H' (f1.trans f) a r q
def up (sp:Sp3):Sp:=λvs H R E=> ∃ws G,Rvs H ws vs/\Rh G H/\sp.run ws G (λw G'=> ∀v H',Fr G H G' H'->Rv H' w v->Rh G' H'->R v H') (λc ns us G'=> ∀d H',Fr G H G' H'->Rh G' H'->Xfs H' d ns us->E (.ref c) d H')
def Sp3.run.mono{sp:Sp3}(h:sp.run ws G Q Z)(a: ∀w G,Q w G->Q' w G)(b: ∀c ns us G,Z c ns us G->Z' c ns us G):sp.run ws G Q' Z':=by
 rw[y1] at h ⊢;obtain⟨g,e,h⟩:=h;show⟨g,e,h.1,λw G' p=>a _ _ (h.2.1 w G' p),λc ns us G' p=>b _ _ _ _ (h.2.2 c ns us G' p)⟩
def LA.call{sp:Sp3}{Tr:St3->Gp->(List W->Gp->Prop)->Prop}(hr:LA E3 E n Tr tr):LE E3 E (fun τ G Q=>Tr τ G λws G1=>sp.run ws G1 Q (E3 τ)) (Wf (up sp) E tr):=by
 intro τ G σ H Q R rs rh rx q k;show hr τ G σ H _ _ rs rh rx q λws vs G1 H1 _ f1 a1 r1 q1=>⟨ws,G1,a1,r1,?_⟩;show q1.mono (λw G' hq v H' f a r=>k w v G' H' (f1.trans f) a r hq) (λc ns us G' hq d H' f r x=>?_);show rx τ σ c ns us d G' H' (f1.trans f) ((rs.up (f1.kt rh)).up (f.kt r1)) r x hq
def LA.call0{sp:Sp3}{Tr:St3->Gp->(List W->Gp->Prop)->Prop}(hr:LA X0 E n Tr tr):LE X0 E (fun τ G Q=>Tr τ G λws G1=>sp.run ws G1 Q (X0 τ)) (Xc (λvs H Q _=>up sp vs H Q E0) [] E0 tr):=by
 intro τ G σ H Q R rs rh rx q k;show hr τ G σ H _ _ rs rh rx q λws vs G1 H1 _ f1 a1 r1 q1=>?_;rw[List.append_nil];show⟨ws,G1,a1,r1,q1.mono (λw G' hq v H' f a r=>k w v G' H' (f1.trans f) a r hq) (λc ns us G' hq=>hq.elim)⟩
end
end L3
namespace EL
def cf (xs:List Int):Nat->Int:=λj=>xs.getD j 0
def gcdL (xs:List Int):Nat:=xs.foldl (λg x=>Nat.gcd g x.natAbs) 0
def ro (left:List (List Int)) (i j:Nat):Int:=cf (left.getD i []) j
def cm (a b:Int):Int:=((a*b).natAbs:Int) / (gcdL [a,b]:Int)
def lrow (lead:List Int) (p:Nat) (r:List Int):List Int:=(List.range r.length).map λk=>cf r k*cf lead p-cf lead k*cf r p
def lrH (p:Nat) (left:List (List Int)):List (List Int):=left.filter λr=>decide (cf r p≠0)
def lrR (p:Nat) (left:List (List Int)):List (List Int):=left.filter λr=>decide (cf r p=0)
def lrN (p:Nat) (left:List (List Int)):List (List Int):=match lrH p left with
 | []=>lrR p left
 | lead::hs=>lrR p left++hs.map (lrow lead p)
def lrF (p:Nat) (left:List (List Int)):Nat:=if lrH p left=[] then 0 else 1
def lr (rows:List (List Int)):Nat->List (List Int)×Nat
 | 0=>(rows,0)
 | p+1=>(lrN p (lr rows p).1,(lr rows p).2+lrF p (lr rows p).1)
end EL
namespace EL
open PySem L2
open PySem.Builtin.Int
def op_fdivL:OpR X (binaryOp .FloorDiv) (rI (λ_ j=>0<j/\j.natAbs.log2<9000) λi j=> .int (i / j)):=opI λi j _ _ _ _ _ hc q=>
 PyProof.Rows.floordiv_int (by have:=hc.1;lia) (by rw[Int.fdiv_eq_ediv_of_nonneg i (Int.le_of_lt hc.1)];show q) (.inl (PyProof.noPylong_of_log2 hc.2))
end EL
namespace L3
open PySem PySem.Spec PyProof.Rows L2
mutual
theorem Pd.rd(r:Rh G H):Pd G w d-> ∀{v:V},Rv H w v->RdW H v d
 | .non,_,a=>by cases a;show .non
 | .bl b,_,a=>by cases a;show .bl b
 | .int i,_,a=>by cases a;show .int i
 | .str x,_,a=>by cases a;show .str x
 | .tup h,_,a=>by
  cases a with
  | tup e q=>show .tup e (Pds.rd r h q)
 | .lst e h,_,a=>by
  cases a with
  | ref=>obtain⟨xs,e1,q⟩:=r _ _ e;show .lst e1 (Pds.rd r h q)
 | .dct e,_,a=>by
  cases a with
  | ref=>obtain⟨xs,e1,q⟩:=r _ _ e;cases q;show .dct e1
theorem Pds.rd(r:Rh G H):Pds G ws ds-> ∀{vs:List V},Rvs H ws vs->RdWs H vs ds
 | .nil,_,a=>by cases a;show .nil
 | .cons h hs,_,a=>by
  cases a with
  | cons a as=>show .cons (Pd.rd r h a) (Pds.rd r hs as)
end
section
variable {X:Cx}
def op_false{f:Value->Value->Sem Value}:OpR X f (λ_ _ _ _=>False):=λ_ _ _ _ _ _ _ _ _ _ _ _ h=>h.elim
theorem Xl(r:Rvs H ws xs): ∀n,Rvs H (List.replicate n ws).flatten (List.replicate n xs).flatten
 | 0=> .nil
 | n+1=>by rw[List.replicate_succ,List.replicate_succ,List.flatten_cons,List.flatten_cons];show r.app (Xl r n)
def xj{k:Int->Int->Prop}(rx:Rv H x u)(ry:Rv H y v)(h:int2 x y k): ∃i j,u= .int i/\v= .int j/\k i j:=by
 unfold int2 at h;split at h
 .cases rx;cases ry;show⟨_,_,rfl,rfl,h⟩
 .show h.elim
def binR(o:Operator): ∃r,(∀X:Cx,OpR X (binaryOp o) r)/\LR (binW o) r:=by
 cases o
 case Add=>
  show⟨_,λX=>op_add.or (op_catG.or op_cat),λx y G H u v Q R rx ry rh q kk=>?_⟩;have q:addW x y G Q:=q;unfold addW at q;split at q
  .cases rx;cases ry
   show .inl ⟨_,_,rfl,rfl,kk _ _ _ _ Fr.refl (.int _) rh q⟩
  .cases rx with | tup e1 q1=>cases ry with | tup e2 q2=>
   show .inr (.inl ⟨_,_,_,_,rfl,rfl,e1,e2,by rw[<-q1.len,<-q2.len];show q.1,λp H' s e=>?_⟩);have kt:Kt H H':=Kt.of s;show kk _ _ _ _ (Fr.same s) (.tup e ((q1.up kt).app (q2.up kt))) (rh.same s) q.2
  .cases rx;cases ry
   obtain⟨xs,ys,g1,g2,hl,q⟩:=q;obtain⟨as,e1,q1⟩:=rh _ _ g1;obtain⟨bs,e2,q2⟩:=rh _ _ g2;show .inr (.inr ⟨_,_,_,_,rfl,rfl,e1,e2,by rw[<-q1.len,<-q2.len];show hl,λp hp=>kk _ _ _ _ (Fr.new hp) (.ref p) (rh.lnew hp (q1.app q2)) (q p (rh.fresh hp))⟩)
  .show q.elim
 case Sub=>show⟨_,λX=>op_sub,λx y G H u v Q R rx ry rh q kk=>let ⟨_,_,a,b,q⟩:=xj rx ry q;⟨_,_,a,b,kk _ _ _ _ Fr.refl (.int _) rh q⟩⟩
 case Mult=>
  show⟨_,λX=>op_mulB.or op_rep,λx y G H u v Q R rx ry rh q kk=>?_⟩;have q:mulW x y G Q:=q;unfold mulW at q;split at q
  .cases rx;cases ry
   show .inl ⟨_,_,rfl,rfl,q.1,kk _ _ _ _ Fr.refl (.int _) rh q.2⟩
  .cases rx;cases ry
   obtain⟨xs,g1,k0,k1,hl,q⟩:=q;obtain⟨as,e1,q1⟩:=rh _ _ g1;show .inr ⟨_,_,_,rfl,rfl,e1,by lia,k1,by rw[<-q1.len];show hl,λp hp=>kk _ _ _ _ (Fr.new hp) (.ref p) (rh.lnew hp (Xl q1 _)) (q p (rh.fresh hp))⟩
  .show q.elim
 case FloorDiv=>show⟨_,λX=>EL.op_fdivL,λx y G H u v Q R rx ry rh q kk=>let ⟨_,_,a,b,q⟩:=xj rx ry q;⟨_,_,a,b,q.1,kk _ _ _ _ Fr.refl (.int _) rh q.2⟩⟩
 case Mod=>show⟨_,λX=>op_mod,λx y G H u v Q R rx ry rh q kk=>let ⟨_,_,a,b,q⟩:=xj rx ry q;⟨_,_,a,b,q.1,kk _ _ _ _ Fr.refl (.int _) rh q.2⟩⟩
 case Pow=>show⟨_,λX=>op_pow,λx y G H u v Q R rx ry rh q kk=>let ⟨_,_,a,b,q⟩:=xj rx ry q;⟨_,_,a,b,q.1,kk _ _ _ _ Fr.refl (.int _) rh q.2⟩⟩
 all_goals show⟨_,λX=>op_false,λx y G H u v Q R rx ry rh q kk=>(q:False).elim⟩
def rInD (neg:Bool):R2:=λx y H Q=> ∃dx ds,RdV H x dx/\(RdV H y (.list ds)\/RdV H y (.tuple ds))/\dx.canLay0=true/\PyData.canLayAll0 ds=true/\dx.depth<=60/\Q (.bl (if neg then !(ds.any λd=>PyData.eqv d dx) else ds.any λd=>PyData.eqv d dx)) H
def op_inD(hr:Room k X.A):OpR X (compareOp .In) (rInD false):=by
 intro ϖ s σ H x y v u Q I rx ry h;obtain⟨dx,ds,hx,hy,cx,cy,hd,q⟩:=h;obtain⟨as,ra⟩:=hx.reads I rx;have hu:=hr.units;rcases hy with hy | hy
 .obtain⟨bs,rb⟩:=hy.reads I ry;show SeqAt.in_list_reads rb ra cy cx (by have:=Nat.min_le_right (PyData.depthAll ds) dx.depth;lia) ⟨.bl _,H,I,rfl,q⟩
 .obtain⟨bs,rb⟩:=hy.reads I ry;show SeqAt.in_tuple_reads rb ra cy cx (by have:=Nat.min_le_right (PyData.depthAll ds) dx.depth;lia) ⟨.bl _,H,I,rfl,q⟩
def op_notInD(hr:Room k X.A):OpR X (compareOp .NotIn) (rInD true):=by
 intro ϖ s σ H x y v u Q I rx ry h;obtain⟨dx,ds,hx,hy,cx,cy,hd,q⟩:=h;obtain⟨as,ra⟩:=hx.reads I rx;have hu:=hr.units;rcases hy with hy | hy
 .obtain⟨bs,rb⟩:=hy.reads I ry;show SeqAt.notIn_list_reads rb ra cy cx (by have:=Nat.min_le_right (PyData.depthAll ds) dx.depth;lia) ⟨.bl _,H,I,rfl,q⟩
 .obtain⟨bs,rb⟩:=hy.reads I ry;show SeqAt.notIn_tuple_reads rb ra cy cx (by have:=Nat.min_le_right (PyData.depthAll ds) dx.depth;lia) ⟨.bl _,H,I,rfl,q⟩
def Vq (neg:Bool):R2:=λx y H Q=> ∃a o,y= .ref a/\DGet H a x o/\Q (.bl (if neg then !o.isSome else o.isSome)) H
def op_inDi(hr:Room k X.A):OpR X (compareOp .In) (Vq false):=by
 intro ϖ s σ H x y v u Q I rx ry h;obtain⟨a,o,rfl,g,q⟩:=h;have hu:=hr.units;cases ry
 show d_in ∅ I g rx λs' I'=>⟨.bl _,H,I',rfl,q⟩
def op_notInDi(hr:Room k X.A):OpR X (compareOp .NotIn) (Vq true):=by
 intro ϖ s σ H x y v u Q I rx ry h;obtain⟨a,o,rfl,g,q⟩:=h;have hu:=hr.units;cases ry
 show d_notIn ∅ I g rx λs' I'=>⟨.bl _,H,I',rfl,q⟩
def op_isTr:OpR X (compareOp .Is) (λx y H Q=> ∃c,x= .bl c/\y= .bl true/\Q (.bl c) H):=by
 intro ϖ s σ H x y v u Q I rx ry h;obtain⟨c,rfl,rfl,q⟩:=h;cases rx
 cases ry
 show wpAny_is_plain (by cases c<;>rfl) (zu I q ?_);cases c<;>rfl
def rIxDi:R2:=λx y H Q=> ∃a v,x= .ref a/\DGet H a y (some v)/\Q v H
theorem ix_di(hr:Room k X.A):IxR X rIxDi:=by
 intro value slice ϖ s σ H x y v u Q I rx ry h hs;obtain⟨a,z,rfl,g,q⟩:=h;have hu:=hr.units;cases rx
 have hT:=dict_typeIs I g;unfold subscriptTail;show γ ?_;rw[getitemInPython_of_ne hT.not_modules];show γ (wpAny_specialOf hT PySem.F.slot_dict_getitem.lookup ?_);have fin:wpAny (model X.prog X.w) X.A (subscripted slice false (.ref a) u) (λr s₃=>wpAny (model X.prog X.w) X.A (letTemporaryGo value (.ref a) r>>=λ_=>pure r) (EP X ϖ σ Q) X.xe s₃) X.xe s:=by
  rw[hs];show wpAny_operating (wpAny_mono (d_getItem ∅ I g ry λw' s3 I3 rw'=>(⟨z,H,I3,rw',q⟩:EP X ϖ σ Q w' s3)) (λr s₃ h₃=>γ (wpAny_letTemporaryGo (ε h₃))) λ_ _ x=>x)
 first
  | show ε (γ fin)
  | show γ (ε (γ fin))
  | show γ fin
end
def WN(e:keyW w=some k)(r:Rv H w v):v=kV k:=by
 cases r<;>simp[keyW] at e<;>subst e<;>rfl
def RvO (H:Hp):Option W->Option V->Prop
 | some w,some v=>Rv H w v
 | none,none=>True
 | _,_=>False
theorem valW_r[DecidableEq κ]{a:List (κ×W)}{b:List (κ×V)}(r:Rkv H a b)(k:κ):RvO H (valW a k) (valV b k):=by
 induction r with
 | nil=>show trivial
 | cons x _ ih=>
  rename_i p q l1 l2 _
  by_cases h:p.1=k
  .have h':q.1=k:=x.1▸h;rw[xU h',show valW (p::l1) k=some p.2 by simp[valW,List.find?_cons,h]];show x.2
  .have h': ¬q.1=k:=λz=>h (x.1.trans z);rw[xW h',show valW (p::l1) k=valW l1 k by simp[valW,List.find?_cons,h]];show ih
theorem Ww[DecidableEq κ]{a:List (κ×W)}{b:List (κ×V)}(r:Rkv H a b)(k:κ)(q:Rv H w v):Rkv H (putW a k w) (putK b k v):=by
 have hany:(a.any λkv=>decide (kv.1=k))=(b.any λkv=>decide (kv.1=k)):=by
  induction r with
  | nil=>rfl
  | cons x _ ih=>simp only[List.any_cons,ih,x.1]
 have hmap:Rkv H (a.map λkv=>if kv.1=k then (kv.1,w) else kv) (b.map λkv=>if kv.1=k then (kv.1,v) else kv):=by
  clear hany
  induction r with
  | nil=>show .nil
  | cons x _ ih=>
   rename_i p q' l1 l2 _
   show .cons ?_ ih;by_cases h:p.1=k
   .have h':q'.1=k:=x.1▸h;simp only[h,h',if_true];show⟨trivial,q⟩
   .have h': ¬q'.1=k:=λz=>h (x.1.trans z);simp only[h,h',if_false];show x
 unfold putW putK;rw[hany];split
 .show hmap
 .show Paired.snoc r ⟨rfl,q⟩
def ZQ(rh:Rh G H){Q:Option W->Prop}(ry:Rv H y v)(h:Zo p y G Q): ∃o o',DGet H p v o'/\RvO H o o'/\Q o:=by
 obtain⟨kvs,k,g,e,q⟩:=h;obtain⟨ks',e1,r1⟩:=rh _ _ g;have:=WN e ry;subst this;show⟨_,_,DGet.k e1,valW_r r1 k,q⟩
def RvO.isSome(r:RvO H o o'):o.isSome=o'.isSome:=by
 cases o<;>cases o'<;>first | rfl | show r.elim
end L3
namespace L2
open PySem PySem.Spec PyProof.Rows
section
variable {X:Cx}
def rNeL (f:Bool->Bool):R2:=λx y H Q=> ∃(a z:Addr) (xs:List V),x= .ref a/\y= .ref z/\H a=some (.lst xs)/\H z=some (.lst [])/\Q (.bl (f xs.isEmpty)) H
def ZL(I:Inv X ϖ σ H s)(ha:H a=some (.lst xs)): ∃its,Vals xs its/\s.heap.IsList a its.toArray:=by
 obtain⟨its,r,⟨o,n,e,c,d,g⟩,_⟩:=I.list (SqL.of ha);show⟨its,r,⟨o,e,c,n,g⟩⟩
theorem op_neL(hr:Room k X.A):OpR X (compareOp .NotEq) (rNeL λb=> !b):=by
 intro ϖ s σ H x y v u Q I rx ry h;obtain⟨a,z,xs,rfl,rfl,ha,hz,q⟩:=h;cases rx
 cases ry
 have hu:=hr.units;obtain⟨its,r,pl⟩:=ZL I ha;obtain⟨its2,r2,pl2⟩:=ZL I hz;have e2:its2=[]:=r2.nil_iff.mpr rfl;subst e2;cases xs with
 | nil=>
  have e1:its=[]:=r.nil_iff.mpr rfl;subst e1;show SeqAt.RcNeAt.lists (e:=λ_=>true) pl pl2 rfl ∅ (λj h1 h2=>absurd h2 Sort) X.prog X.w X.xe _ ⟨.bl _,H,I,rfl,q⟩
 | cons y ys=>
  have hne:its≠[]:=λe=>by have:=r.nil_iff.mp e;cases this
  show SeqAt.RcNeAt.lists_lengths pl pl2 (by exists hne) ∅ X.prog X.w X.xe _ ⟨.bl _,H,I,rfl,q⟩
theorem op_eqL0(hr:Room k X.A):OpR X (compareOp .Eq) (rNeL λb=>b):=by
 intro ϖ s σ H x y v u Q I rx ry h;obtain⟨a,z,xs,rfl,rfl,ha,hz,q⟩:=h;cases rx
 cases ry
 have hu:=hr.units;obtain⟨its,r,pl⟩:=ZL I ha;obtain⟨its2,r2,pl2⟩:=ZL I hz;have e2:its2=[]:=r2.nil_iff.mpr rfl;subst e2;cases xs with
 | nil=>
  have e1:its=[]:=r.nil_iff.mpr rfl;subst e1;show SeqAt.RcAt.lists (e:=λ_=>true) pl pl2 rfl ∅ (λj h1 h2=>absurd h2 Sort) X.prog X.w X.xe _ ⟨.bl _,H,I,rfl,q⟩
 | cons y ys=>
  have hne:its≠[]:=λe=>by have:=r.nil_iff.mp e;cases this
  show SeqAt.RcAt.lists_lengths pl pl2 (by exists hne) ∅ X.prog X.w X.xe _ ⟨.bl _,H,I,rfl,q⟩
end
end L2
namespace L3
open PySem PySem.Spec PyProof.Rows L2
section
variable {X:Cx}
abbrev cmpQ (o:CmpOp):W->W->Gp->Kc->Prop:=λx y G Q=>cmpW o x y G λk=>Q (.bl k) G
def VI{Q:Bool->Prop}(rx:Rv H x u)(ry:Rv H y v)(rh:Rh G H)(h:eqW x y G Q):
  (scal u v=true/\Q (decide (u=v)))\/ ∃dx dy,RdV H u dx/\RdV H v dy/\dx.canLay0=true/\dy.canLay0=true/\dx.depth<=60/\Q (PyData.eqv dx dy):=by
 unfold eqW at h;split at h
 .cases rx;cases ry
  show .inl ⟨rfl,?_⟩;exists h
 .cases rx;cases ry
  show .inl ⟨rfl,?_⟩;exists h
 .cases rx;cases ry
  show .inl ⟨rfl,?_⟩;exists h
 .obtain⟨dx,dy,p1,p2,c1,c2,d,q⟩:=h;show .inr ⟨dx,dy,(p1.rd rh rx).plain c1,(p2.rd rh ry).plain c2,c1,c2,d,q⟩
def VA{Q:Bool->Prop}(rx:Rv H x u)(ry:Rv H y v)(rh:Rh G H)(h:inW x y G Q):
  (∃dx ds,RdV H u dx/\(RdV H v (.list ds)\/RdV H v (.tuple ds))/\dx.canLay0=true/\PyData.canLayAll0 ds=true/\dx.depth<=60/\Q (ds.any λd=>PyData.eqv d dx))\/ ∃a o,v= .ref a/\DGet H a u o/\Q o.isSome:=by
 unfold inW at h;split at h
 .cases ry
  rcases h with ⟨ws,dx,ds,g,p1,p2,c1,c2,d,q⟩ | h
  .show .inl ⟨dx,ds,(p1.rd rh rx).plain c1,.inl ((Pd.rd rh (.lst g p2) (.ref _)).plain (by simpa[PyData.canLay0] using c2)),c1,c2,d,q⟩
  .obtain⟨o,o',g,r,q⟩:=ZQ rh rx h;show .inr ⟨_,o',rfl,g,by rw[<-r.isSome];show q⟩
 .obtain⟨dx,ds,p1,p2,c1,c2,d,q⟩:=h;show .inl ⟨dx,ds,(p1.rd rh rx).plain c1,.inr ((Pd.rd rh (.tup p2) ry).plain (by simpa[PyData.canLay0] using c2)),c1,c2,d,q⟩
 .show h.elim
def isNon_r(r:Rv H x u):XG x=decide (u= .non):=by cases r<;>simp[XG]
theorem Yy: ∀{ns:List Int} {H:Hp} {vs:List V},Rvs H (ns.map W.int) vs->vs=ns.map V.int
 | [],_,_,r=>by cases r;rfl
 | n::ns,_,_,r=>by
  cases r with | cons a r=>cases a;rw[Yy r];rfl
theorem ZJ: ∀{ns:List Bool} {H:Hp} {vs:List V},Rvs H (ns.map W.bl) vs->vs=ns.map V.bl
 | [],_,_,r=>by cases r;rfl
 | n::ns,_,_,r=>by
  cases r with | cons a r=>cases a;rw[ZJ r];rfl
def Vy{Q:Bool->Prop}(rx:Rv H x u)(ry:Rv H y v)(h:isW x y Q):(v= .non/\Q (decide (u= .non)))\/ ∃c,u= .bl c/\v= .bl true/\Q c:=by
 unfold isW at h;split at h
 .cases ry;show .inl ⟨rfl,by rw[<-isNon_r rx];show h⟩
 .split at h
  .cases rx;cases ry;show .inr ⟨_,rfl,rfl,h⟩
  .show h.elim
 .show h.elim
def cmpR(K:W.Frag)(k:Nat)(o:CmpOp): ∃r,(∀X:Cx,X.K=K->Room k X.A->OpR X (compareOp o) r)/\LR (cmpQ o) r:=by
 cases o
 case Eq=>
  show⟨_,λX hK hr=>((op_eq.or (op_eqD hr)).or (op_eqDT hr)).or (op_eqL0 hr),λx y G H u v Q R rx ry rh q kk=>?_⟩;have q':eqW x y G (λb=>Q (.bl b) G)\/(∃p b,x= .ref p/\y= .str b/\(∃kvs,G p=some (.dK kvs))/\Q (.bl false) G)\/ ∃p z ws,x= .ref p/\y= .ref z/\G p=some (.lst ws)/\G z=some (.lst [])/\Q (.bl ws.isEmpty) G:=by
   unfold cmpQ cmpW at q;simp only at q;split at q
   .rcases q with ⟨g,q⟩ | q
    .show .inr (.inl ⟨_,_,rfl,rfl,g,q⟩)
    .show .inl q
   .rcases q with ⟨ws,g,g',q⟩ | q
    .show .inr (.inr ⟨_,_,ws,rfl,rfl,g,g',q⟩)
    .show .inl q
   .show .inl q
  rcases q' with q | ⟨p,b,rfl,rfl,⟨kvs,g⟩,q⟩ | ⟨p,z,ws,rfl,rfl,g,g',q⟩
  .rcases VI (Q:=λb=>Q (.bl b) G) rx ry rh q with ⟨a,q⟩ | ⟨dx,dy,a,b,c,d,e,q⟩
   .show .inl (.inl (.inl ⟨a,kk _ _ _ _ Fr.refl (.bl _) rh q⟩))
   .show .inl (.inl (.inr ⟨dx,dy,a,b,c,d,e,kk _ _ _ _ Fr.refl (.bl _) rh q⟩))
  .cases rx;cases ry
   obtain⟨ks,h,_⟩:=rh _ _ g;show .inl (.inr ⟨_,_,_,rfl,rfl,h,kk _ _ _ _ Fr.refl (.bl _) rh q⟩)
  .cases rx;cases ry
   obtain⟨xs,h,hr⟩:=rh _ _ g;obtain⟨ys,h',hr'⟩:=rh _ _ g';cases hr'
   have e:xs.isEmpty=ws.isEmpty:=by cases hr<;>rfl
   show .inr ⟨_,_,_,rfl,rfl,h,h',by rw[e];show kk _ _ _ _ Fr.refl (.bl _) rh q⟩
 case NotEq=>
  show⟨_,λX hK hr=>(op_ne.or (G2.op_neD hr)).or (op_neL hr),λx y G H u v Q R rx ry rh q kk=>?_⟩;have q':eqW x y G (λb=>Q (.bl (!b)) G)\/ ∃p z ws,x= .ref p/\y= .ref z/\G p=some (.lst ws)/\G z=some (.lst [])/\Q (.bl (!ws.isEmpty)) G:=by
   unfold cmpQ cmpW at q;simp only at q;split at q
   .rcases q with ⟨ws,g,g',q⟩ | q
    .show .inr ⟨_,_,ws,rfl,rfl,g,g',q⟩
    .show .inl q
   .show .inl q
  rcases q' with q | ⟨p,z,ws,rfl,rfl,g,g',q⟩
  .rcases VI (Q:=λb=>Q (.bl (!b)) G) rx ry rh q with ⟨a,q⟩ | ⟨dx,dy,a,b,c,d,e,q⟩
   .show .inl (.inl ⟨a,kk _ _ _ _ Fr.refl (.bl _) rh q⟩)
   .show .inl (.inr ⟨dx,dy,a,b,c,d,e,kk _ _ _ _ Fr.refl (.bl _) rh q⟩)
  .cases rx;cases ry
   obtain⟨xs,h,hr⟩:=rh _ _ g;obtain⟨ys,h',hr'⟩:=rh _ _ g';cases hr'
   have e:xs.isEmpty=ws.isEmpty:=by cases hr<;>rfl
   show .inr ⟨_,_,_,rfl,rfl,h,h',by rw[e];show kk _ _ _ _ Fr.refl (.bl _) rh q⟩
 case In=>
  show⟨_,λX hK hr=>(op_inD hr).or (op_inDi hr),λx y G H u v Q R rx ry rh q kk=>?_⟩;rcases VA (Q:=λb=>Q (.bl b) G) rx ry rh q with ⟨dx,ds,a,b,c,d,e,q⟩ | ⟨a,o,e,g,q⟩
  .show .inl ⟨dx,ds,a,b,c,d,e,kk _ _ _ _ Fr.refl (.bl _) rh q⟩
  .show .inr ⟨a,o,e,g,kk _ _ _ _ Fr.refl (.bl _) rh q⟩
 case NotIn=>
  show⟨_,λX hK hr=>(op_notInD hr).or (op_notInDi hr),λx y G H u v Q R rx ry rh q kk=>?_⟩;rcases VA (Q:=λb=>Q (.bl (!b)) G) rx ry rh q with ⟨dx,ds,a,b,c,d,e,q⟩ | ⟨a,o,e,g,q⟩
  .show .inl ⟨dx,ds,a,b,c,d,e,kk _ _ _ _ Fr.refl (.bl _) rh q⟩
  .show .inr ⟨a,o,e,g,kk _ _ _ _ Fr.refl (.bl _) rh q⟩
 case Lt=>show⟨_,λX hK hr=>op_lt,λx y G H u v Q R rx ry rh q kk=>let ⟨_,_,a,b,q⟩:=xj rx ry q;⟨_,_,a,b,kk _ _ _ _ Fr.refl (.bl _) rh q⟩⟩
 case LtE=>show⟨_,λX hK hr=>op_le,λx y G H u v Q R rx ry rh q kk=>let ⟨_,_,a,b,q⟩:=xj rx ry q;⟨_,_,a,b,kk _ _ _ _ Fr.refl (.bl _) rh q⟩⟩
 case Gt=>show⟨_,λX hK hr=>op_gt,λx y G H u v Q R rx ry rh q kk=>let ⟨_,_,a,b,q⟩:=xj rx ry q;⟨_,_,a,b,kk _ _ _ _ Fr.refl (.bl _) rh q⟩⟩
 case GtE=>show⟨_,λX hK hr=>op_ge,λx y G H u v Q R rx ry rh q kk=>let ⟨_,_,a,b,q⟩:=xj rx ry q;⟨_,_,a,b,kk _ _ _ _ Fr.refl (.bl _) rh q⟩⟩
 case Is=>
  show⟨_,λX hK hr=>op_isN.or op_isTr,λx y G H u v Q R rx ry rh q kk=>?_⟩;rcases Vy (Q:=λb=>Q (.bl b) G) rx ry q with ⟨a,q⟩ | ⟨c,a,b,q⟩
  .show .inl ⟨a,kk _ _ _ _ Fr.refl (.bl _) rh q⟩
  .show .inr ⟨c,a,b,kk _ _ _ _ Fr.refl (.bl _) rh q⟩
 case IsNot=>
  show⟨_,λX hK hr=>op_notN.or op_notT,λx y G H u v Q R rx ry rh q kk=>?_⟩;rcases Vy (Q:=λb=>Q (.bl (!b)) G) rx ry q with ⟨a,q⟩ | ⟨c,a,b,q⟩
  .show .inl ⟨a,kk _ _ _ _ Fr.refl (.bl _) rh q⟩
  .show .inr ⟨c,a,b,kk _ _ _ _ Fr.refl (.bl _) rh q⟩
theorem VN(r:Rvs H ws vs)(e:atI ws i=some w): ∃v,atI vs i=some v/\Rv H w v:=by
 unfold atI at e ⊢;rw[<-r.len];cases h:ixN ws.length i with
 | none=>rw[h] at e;cases e
 | some j=>
  rw[h] at e;show r.get e
def XM(rh:Rh G H)(g:G p=some (.lst ws)\/G p=some (.flst ws)): ∃xs,SqL [] H p xs/\Rvs H ws xs:=by
 rcases g with g | g
 .obtain⟨xs,e,q⟩:=rh _ _ g;show⟨xs,.inl (.inl e),q⟩
 .obtain⟨xs,e,q⟩:=rh _ _ g;show⟨xs,.inl e,q⟩
theorem ixR(K:W.Frag)(k:Nat): ∃r,(∀X:Cx,X.K=K->Room k X.A->IxR X r)/\LR (λx y G Q=>ixW x y G λw=>Q w G) r:=by
 show⟨_,λX hK hr=>(hK▸ix_seq:IxR X (rIx K)).or (ix_di hr),λx y G H u v Q R rx ry rh q kk=>?_⟩;have q:ixW x y G (λw=>Q w G):=q;unfold ixW at q;split at q
 .obtain⟨w,e,q⟩:=q;cases rx with | tup e1 q1=>
  cases ry
  obtain⟨z,h,a⟩:=VN q1 e;show .inl (.inr (.inl ⟨_,_,_,z,rfl,rfl,SqT.of e1,h,kk _ _ _ _ Fr.refl a rh q⟩))
 .cases rx
  rcases q with ⟨ws,i,w,g,rfl,e,q⟩ | q
  .cases ry
   obtain⟨xs,s,q1⟩:=XM rh g;obtain⟨z,h,a⟩:=VN q1 e;show .inl (.inl ⟨_,_,_,z,rfl,rfl,sqL0 s,h,kk _ _ _ _ Fr.refl a rh q⟩)
  .obtain⟨o,o',g,r,w,rfl,q⟩:=ZQ rh ry q;cases o' with
   | none=>show r.elim
   | some z=>show .inr ⟨_,z,rfl,g,kk _ _ _ _ Fr.refl r rh q⟩
 .show q.elim
def VJ(r:Rvs H ws vs)(lo hi:Option Int):Rvs H (cutW ws lo hi) (cutV vs lo hi):=by
 unfold cutW cutV;rw[r.len];show(r.drop _).take _
def slR(K:W.Frag): ∃r,(∀X:Cx,X.K=K->SlR X r)/\ ∀x lo hi G H u (Q:Kc) (R:VK),Rv H x u->Rh G H->slW x lo hi G Q->(∀w v G' H',Fr G H G' H'->Rv H' w v->Rh G' H'->Q w G'->R v H')->r u lo hi H R:=by
 show⟨_,λX hK=>sl_tupG.or (hK▸sl_list:SlR X (rSlL K)),λx lo hi G H u Q R rx rh q kk=>?_⟩;unfold slW at q;split at q
 .cases rx with | tup e1 q1=>
  show .inl ⟨_,_,rfl,e1,λp H' s e=>?_⟩;have kt:Kt H H':=Kt.of s;show kk _ _ _ _ (Fr.same s) (.tup e (VJ (q1.up kt) lo hi)) (rh.same s) q.2
 .cases rx
  obtain⟨ws,g,q⟩:=q;obtain⟨xs,s,q1⟩:=XM rh g;show .inr ⟨_,xs,rfl,sqL0 s,λp hp=>kk _ _ _ _ (Fr.new hp) (.ref p) (rh.lnew hp (VJ q1 lo hi)) (q p (rh.fresh hp))⟩
 .show q.elim
end
end L3
namespace L2
open PySem PySem.Spec PyProof.Rows
def rSumT:List V->Hp->VK->Prop:=λxs H Q=> ∃(p:Addr) (ns:List Int),xs=[.ref p]/\H p=some (.tup (ns.map V.int))/\Q (.int ns.sum) H
def call_sumT{X:Cx}{k:Nat}(hr:Room k X.A):CallR X (.builtin "sum") rSumT:=by
 intro ϖ s σ H xs us Q I r h;obtain⟨p,ns,rfl,hp,q⟩:=h;obtain⟨u,rfl,ru⟩:=r.one;cases ru
 obtain⟨its,rv,pl,hz⟩:=I.tuple (SqT.of hp);obtain⟨ys,rfl,hy⟩:=ZN rv;have ht:s.heap.IsTuple p (intItems ys.toArray):=by
  obtain⟨o,e,c,n,d⟩:=pl;show⟨o,e,c,n,by rw[d];simp[intItems]⟩
 have hlt:p<⇑s:=by obtain⟨_,e,_⟩:=ht;show ι e
 show call_sum_walkG (wpAny_pyIter_tuple ht ?_);show⟨_,_,_,_,_,_,numAt ys.toArray,rfl,Walks.tuple (A:=X.A.in1) hr.hd ⇑s p (Ι hlt) (intItems ys.toArray),?_,?_,(λ_ _=>intItems_at),λh' tk t' hk=>?_⟩
 .show⟨⟨_,ο _ rfl,rfl,rfl⟩,ht.at λo e=>δ _ e⟩
 .intro b hb;change b<(s.heap.push _).objs.size;rw[Φ];rcases Ε.mp hb with rfl | hb
  .show Nat.lt_succ_self _
  .rw[ν.mp hb];show Nat.lt_succ_of_lt hlt
 .have kp: ∀b o,s.heap.get? b=some o->h'.get? b=some o:=λb o e=>hk b o (by
   intro hm;have:=ι e;rw[ν.mp hm] at this;show absurd this (Λ _)) (δ _ e)
  show⟨.int ns.sum,H,I.kept kp,⟨t',?_⟩,q⟩;congr 1;have hlen:ys.length=ns.length:=by rw[<-hy,ω]
  rw[preSum_eq];simp[hy,hlen,intItems]
end L2
namespace L3
open PySem PySem.Spec PyProof.Rows L2
def SeqV (H:Hp) (tp:Bool) (v:V) (ws:List W):Prop:= ∃p xs,v= .ref p/\H p=some (if tp then .tup xs else .lst xs)/\Rvs H ws xs
def LB (f:Str) (r:List V->Hp->VK->Prop):Prop:= ∀tp ws G H v (Q:Kc) (R:VK),SeqV H tp v ws->Rh G H->biL f tp ws G Q->(∀w v G' H',Fr G H G' H'->Rv H' w v->Rh G' H'->Q w G'->R v H')->r [v] H R
def isBi (f:Str) (v:Value):Prop:=bootBuiltins f=some v/\((∃id,v= .builtin id)\/ ∃T,v= .type T)
theorem biLR(k:Nat){f:Str}(hf:rowB f=true): ∃v r,isBi f v/\(∀X:Cx,Room k X.A->X.calm=true->CallR X v r)/\LB f r:=by
 simp only[rowB,List.contains_eq_mem,List.mem_cons,List.not_mem_nil,or_false,decide_eq_true_eq] at hf;rcases hf with rfl | rfl | rfl | rfl | rfl | rfl
 .show⟨_,_,⟨PyProof.Rows.boot_tuple,.inr ⟨_,rfl⟩⟩,λX hr hc=>call_tuple_of0,λtp ws G H v Q R s rh q kk=>?_⟩;obtain⟨p,xs,rfl,e,a⟩:=s;simp only[biL,if_true] at q;cases tp with
  | true=>show⟨p,xs,rfl,.inr ⟨SqT.of e,kk _ _ _ _ Fr.refl (.tup e a) rh q⟩⟩
  | false=>show⟨p,xs,rfl,.inl ⟨SqL.of e,λl hl=>kk _ _ _ _ (Fr.beside hl) (.tup zj (a.up (Kt.new hl))) (rh.beside hl) q⟩⟩
 .show⟨_,_,⟨PySem.boot_len,.inl ⟨_,rfl⟩⟩,λX hr hc=>call_len_seq0,λtp ws G H v Q R s rh q kk=>?_⟩;obtain⟨p,xs,rfl,e,a⟩:=s;simp[biL] at q;rw[a.len] at q;cases tp with
  | true=>show⟨p,xs,rfl,.inr (SqT.of e),kk _ _ _ _ Fr.refl (.int _) rh q⟩
  | false=>show⟨p,xs,rfl,.inl (SqL.of e),kk _ _ _ _ Fr.refl (.int _) rh q⟩
 .show⟨_,_,⟨PyProof.Rows.boot_list,.inr ⟨_,rfl⟩⟩,λX hr hc=>call_list_of0,λtp ws G H v Q R s rh q kk=>?_⟩;obtain⟨p,xs,rfl,e,a⟩:=s;simp[biL] at q;cases tp with
  | true=>show⟨p,xs,rfl,.inr (SqT.of e),λl hl=>kk _ _ _ _ (Fr.new hl) (.ref l) (rh.lnew hl a) (q l (rh.fresh hl))⟩
  | false=>show⟨p,xs,rfl,.inl (SqL.of e),λl hl=>kk _ _ _ _ (Fr.new hl) (.ref l) (rh.lnew hl a) (q l (rh.fresh hl))⟩
 .show⟨_,_,⟨PyProof.Rows.boot_sum,.inl ⟨_,rfl⟩⟩,λX hr hc=>(call_sum hc).or (call_sumT hr),λtp ws G H v Q R s rh q kk=>?_⟩;obtain⟨p,xs,rfl,e,a⟩:=s;simp[biL] at q;obtain⟨ns,rfl,q⟩:=q;have:=Yy a;subst this;cases tp with
  | true=>show .inr ⟨p,ns,rfl,e,kk _ _ _ _ Fr.refl (.int _) rh q⟩
  | false=>show .inl ⟨p,ns,rfl,e,kk _ _ _ _ Fr.refl (.int _) rh q⟩
 .show⟨_,_,⟨PyProof.Rows.boot_all,.inl ⟨_,rfl⟩⟩,λX hr hc=>call_all hc,λtp ws G H v Q R s rh q kk=>?_⟩;obtain⟨p,xs,rfl,e,a⟩:=s;simp[biL] at q;obtain⟨rfl,bs,rfl,q⟩:=q;have:=ZJ a;subst this;show⟨p,bs,rfl,e,kk _ _ _ _ Fr.refl (.bl _) rh (by exists q)⟩
 .show⟨_,_,⟨PyProof.Rows.boot_any,.inl ⟨_,rfl⟩⟩,λX hr hc=>call_any hc,λtp ws G H v Q R s rh q kk=>?_⟩;obtain⟨p,xs,rfl,e,a⟩:=s;simp[biL] at q;obtain⟨rfl,bs,rfl,q⟩:=q;have:=ZJ a;subst this;show⟨p,bs,rfl,e,kk _ _ _ _ Fr.refl (.bl _) rh (by exists q)⟩
section
variable {X:Cx}
def biN:List Str:=["max","min","int","isinstance","repr","str"]
theorem tyW_r(r:Rv H x v)(rh:Rh G H)(K:W.Frag)(e:tyW n x G=some b): ∃t,TyOf K H v t/\W.kitOne K t (.type n)=some b:=by
 unfold tyW at e;split at e
 case isFalse=>cases e
 case isTrue hn=>
  simp only[tyNs,List.contains_eq_mem,List.mem_cons,List.not_mem_nil,or_false,decide_eq_true_eq] at hn;cases r with
  | int i=>show⟨_,.int i,?_⟩;rcases hn with rfl | rfl | rfl | rfl | rfl<;>cases e<;>rfl
  | bl i=>show⟨_,.bl i,?_⟩;rcases hn with rfl | rfl | rfl | rfl | rfl<;>cases e<;>rfl
  | str i=>show⟨_,.str i,?_⟩;rcases hn with rfl | rfl | rfl | rfl | rfl<;>cases e<;>rfl
  | non=>show⟨_,.non,?_⟩;rcases hn with rfl | rfl | rfl | rfl | rfl<;>cases e<;>rfl
  | tup h q=>show⟨_,.tup h,?_⟩;rcases hn with rfl | rfl | rfl | rfl | rfl<;>cases e<;>rfl
  | ty m=>cases e
  | exc _ _ _=>cases e
  | ref p=>
   simp only at e;split at e
   .rename_i ws g
    obtain⟨xs,h,_⟩:=rh _ _ g;show⟨_,.lst h,?_⟩;rcases hn with rfl | rfl | rfl | rfl | rfl<;>cases e<;>rfl
   .rename_i ws g
    obtain⟨xs,h,_⟩:=rh _ _ g;show⟨_,.dK h,?_⟩;rcases hn with rfl | rfl | rfl | rfl | rfl<;>cases e<;>rfl
   .cases e
theorem biWR(K:W.Frag)(sm:SysK K)(k:Nat){f:Str}(hf:biN.contains f=true): ∃v r,isBi f v/\(∀X:Cx,X.K=K->Room k X.A->X.calm=true->CallR X v r)/\LC (biW f) r:=by
 simp only[biN,List.contains_eq_mem,List.mem_cons,List.not_mem_nil,or_false,decide_eq_true_eq] at hf;have hb: ∀{f:Str} {xs:List W} {G:Gp} {H:Hp} {us:List V} {Q:Kc} {R:VK},Rvs H xs us->Rh G H->biW f xs G Q->(∀w v G' H',Fr G H G' H'->Rv H' w v->Rh G' H'->Q w G'->R v H')->
   (∃i j,us=[.int i,.int j]/\((f="max"/\R (.int (if j>i then j else i)) H)\/(f="min"/\R (.int (if j<i then j else i)) H)))\/(f="int"/\ ∃b,us=[.bl b]/\R (.int (if b then 1 else 0)) H)\/
   (f="isinstance"/\ ∃v n t b,us=[v,.ty n]/\TyOf K H v t/\W.kitOne K t (.type n)=some b/\R (.bl b) H)\/
   (f="repr"/\ ∃v d,us=[v]/\RdW H v d/\d.showable=true/\d.depth<=150/\d.shown.length<=sizeLine/\R (.str d.shown) H)\/(f="str"/\ ∃i:Int,us=[.int i]/\i.natAbs.log2<1920/\R (.str (Str.ofString (toString i))) H):=λ{f xs G H us Q R} a rh q kk=>by
  match xs,q with
  | [x,y],q=>
   obtain⟨u,v,rfl,r1,r2⟩:=a.two;rcases(q:_\/_) with ⟨e,i,j,rfl,rfl,q⟩ | ⟨e,i,j,rfl,rfl,q⟩ | ⟨e,n,b,rfl,h,q⟩
   .cases r1;cases r2
    show .inl ⟨_,_,rfl,.inl ⟨e,kk _ _ _ _ Fr.refl (.int _) rh q⟩⟩
   .cases r1;cases r2
    show .inl ⟨_,_,rfl,.inr ⟨e,kk _ _ _ _ Fr.refl (.int _) rh q⟩⟩
   .cases r2
    obtain⟨t,h1,h2⟩:=tyW_r r1 rh K h;show .inr (.inr (.inl ⟨e,_,_,t,b,rfl,h1,h2,kk _ _ _ _ Fr.refl (.bl _) rh q⟩))
  | [x],q=>
   obtain⟨u,rfl,r1⟩:=a.one;rcases(q:_\/_) with ⟨e,b,rfl,q⟩ | ⟨e,d,p,h1,h3,h4,q⟩ | ⟨e,i,rfl,h1,q⟩
   .cases r1
    show .inr (.inl ⟨e,_,rfl,kk _ _ _ _ Fr.refl (.int _) rh q⟩)
   .show .inr (.inr (.inr (.inl ⟨e,_,d,rfl,p.rd rh r1,h1,h3,h4,kk _ _ _ _ Fr.refl (.str _) rh q⟩)))
   .cases r1
    show .inr (.inr (.inr (.inr ⟨e,_,rfl,h1,kk _ _ _ _ Fr.refl (.str _) rh q⟩)))
 rcases hf with rfl | rfl | rfl | rfl | rfl | rfl
 .show⟨_,_,⟨PyProof.Rows.boot_max,.inl ⟨_,rfl⟩⟩,λX hK hr hc=>call_max2 hc,λxs G H us Q R a rh q kk=>?_⟩;rcases hb a rh q kk with ⟨i,j,e,⟨_,q⟩ | ⟨z,_⟩⟩ | ⟨z,_⟩ | ⟨z,_⟩ | ⟨z,_⟩ | ⟨z,_⟩
  .show⟨i,j,e,q⟩
  all_goals show absurd z ⋯
 .show⟨_,_,⟨PyProof.Rows.boot_min,.inl ⟨_,rfl⟩⟩,λX hK hr hc=>call_min2 hc,λxs G H us Q R a rh q kk=>?_⟩;rcases hb a rh q kk with ⟨i,j,e,⟨z,_⟩ | ⟨_,q⟩⟩ | ⟨z,_⟩ | ⟨z,_⟩ | ⟨z,_⟩ | ⟨z,_⟩
  .show absurd z ⋯
  .show⟨i,j,e,q⟩
  all_goals show absurd z ⋯
 .show⟨_,_,⟨PyProof.Rows.boot_int,.inr ⟨_,rfl⟩⟩,λX hK hr hc=>call_int1,λxs G H us Q R a rh q kk=>?_⟩;rcases hb a rh q kk with ⟨i,j,e,⟨z,_⟩ | ⟨z,_⟩⟩ | ⟨_,b,e,q⟩ | ⟨z,_⟩ | ⟨z,_⟩ | ⟨z,_⟩
  .show absurd z ⋯
  .show absurd z ⋯
  .show .inr ⟨b,e,q⟩
  all_goals show absurd z ⋯
 .show⟨_,_,⟨PyProof.Rows.boot_isinstance,.inl ⟨_,rfl⟩⟩,λX hK hr hc=>(hK▸call_isI:CallR X _ (rIsI K)),λxs G H us Q R a rh q kk=>?_⟩;rcases hb a rh q kk with ⟨i,j,e,⟨z,_⟩ | ⟨z,_⟩⟩ | ⟨z,_⟩ | ⟨_,q⟩ | ⟨z,_⟩ | ⟨z,_⟩
  .show absurd z ⋯
  .show absurd z ⋯
  .show absurd z ⋯
  .show q
  all_goals show absurd z ⋯
 .show⟨_,_,⟨PyProof.Rows.boot_repr,.inl ⟨_,rfl⟩⟩,λX hK hr hc=>call_reprW (hK▸sm) hr,λxs G H us Q R a rh q kk=>?_⟩;rcases hb a rh q kk with ⟨i,j,e,⟨z,_⟩ | ⟨z,_⟩⟩ | ⟨z,_⟩ | ⟨z,_⟩ | ⟨_,q⟩ | ⟨z,_⟩
  .show absurd z ⋯
  .show absurd z ⋯
  .show absurd z ⋯
  .show absurd z ⋯
  .show q
  .show absurd z ⋯
 .show⟨_,_,⟨PyProof.Rows.boot_str,.inr ⟨_,rfl⟩⟩,λX hK hr hc=>call_strI,λxs G H us Q R a rh q kk=>?_⟩;rcases hb a rh q kk with ⟨i,j,e,⟨z,_⟩ | ⟨z,_⟩⟩ | ⟨z,_⟩ | ⟨z,_⟩ | ⟨z,_⟩ | ⟨_,q⟩
  .show absurd z ⋯
  .show absurd z ⋯
  .show absurd z ⋯
  .show absurd z ⋯
  .show absurd z ⋯
  .show q
structure MeOk (X:Cx) (m:Str) (T id:String):Prop where
 pa:PlainAttrs T
 slot:Slot T m id
 ty:typeOf (.builtin id)=pure (.type "method_descriptor")
def w9{m:Str}(hm:(m=="get")=false){x:W}{G:Gp}{H:Hp}{u:V}(r:Rv H x u)(rh:Rh G H)(h:tyM m x G):tyV [] "list" u H:=by
 unfold tyM at h;split at h
 .rw[if_neg (by exists hm)] at h;cases r
  obtain⟨ws,g⟩:=h;obtain⟨xs,e,_⟩:=rh _ _ g;show .inl ⟨rfl,xs,SqL.of e⟩
 .show h.elim
def meR(k:Nat){m:Str}{n:Nat}(hm:meN m n=true): ∃T id r,(∀X:Cx,Room k X.A->MeOk X m T id/\MtR X id r)/\(∀{x:W} {G:Gp} {H:Hp} {u:V},Rv H x u->Rh G H->tyM m x G->tyV [] T u H)/\ ∀x xs G H u us (Q:Kc) (R:VK),xs.length=n->Rv H x u->Rvs H xs us->Rh G H->meW m x xs G Q->(∀w v G' H',Fr G H G' H'->Rv H' w v->Rh G' H'->Q w G'->R v H')->r u us H R:=by
 have hb: ∀{m:Str} {x:W} {xs:List W} {G:Gp} {H:Hp} {u:V} {us:List V} {Q:Kc} {R:VK},Rv H x u->Rvs H xs us->Rh G H->meW m x xs G Q->(∀w v G' H',Fr G H G' H'->Rv H' w v->Rh G' H'->Q w G'->R v H')->
   (m="pop"/\rPop u us H R)\/(m="append"/\Xp u us H R)\/(m="pop"/\Wr u us H R)\/(m="extend"/\Xo u us H R)\/(m="get"/\ ∃a y d o,u= .ref a/\us=[y,d]/\DGet H a y o/\R (o.getD d) H):=λ{m x xs G H u us Q R} r a rh q kk=>by
  unfold meW at q;split at q
  .cases r
   split at q
   .cases a
    obtain⟨e,ws,y,g,h1,q⟩:=q;obtain⟨xs,e1,b⟩:=rh _ _ g;obtain⟨z,hz,rz⟩:=b.get h1;have hl:=b.len;have nt:=nIm e1 (λz=>z);show .inl ⟨e,_,xs,z,rfl,rfl,e1,by rw[<-hl];show hz,kk _ _ _ _ (Fr.put g) (rz.up (Kt.put nt)) (rh.lput e1 (by rw[List.dropLast_eq_take,List.dropLast_eq_take,hl];show b.take _)) q⟩
   .obtain⟨v,rfl,ry⟩:=a.one;rcases q with ⟨e,ws,g,hl,q⟩ | ⟨e,ws,i,j,z,rfl,g,hi,hl,hz,q⟩ | ⟨e,p2,ws,zs,rfl,g,g2,hl,q⟩
    .obtain⟨xs,e1,b⟩:=rh _ _ g;show .inr (.inl ⟨e,_,xs,_,rfl,rfl,e1,by rw[<-b.len];show hl,kk _ _ _ _ (Fr.put g) .non (rh.lput e1 (b.app (.cons ry .nil))) q⟩)
    .cases ry
     obtain⟨xs,e1,b⟩:=rh _ _ g;obtain⟨zz,hzz,rz⟩:=b.get hz;have nt:=nIm e1 (λz=>z);have h3:=ZK hi;have hs:sizeLine=16777216:=rfl;have hp:((16777216:Nat):Int)<2^63:=by decide
     show .inr (.inr (.inl ⟨e,_,xs,i,j,zz,rfl,rfl,e1,by lia,by lia,by rw[<-b.len];show h3.1,hzz,kk _ _ _ _ (Fr.put g) (rz.up (Kt.put nt)) (rh.lput e1 (b.erase _)) q⟩))
    .cases ry
     obtain⟨xs,e1,b⟩:=rh _ _ g;obtain⟨ys,e2,b2⟩:=rh _ _ g2;show .inr (.inr (.inr (.inl ⟨e,_,_,xs,ys,rfl,rfl,e1,e2,by rw[<-b.len,<-b2.len];show hl,kk _ _ _ _ (Fr.put g) .non (rh.lput e1 (b.app b2)) q⟩)))
   .obtain⟨v,d,rfl,ry,rd⟩:=a.two;obtain⟨e,q⟩:=q;obtain⟨o,o',g,r,q⟩:=ZQ rh ry q;show .inr (.inr (.inr (.inr ⟨e,_,v,d,o',rfl,rfl,g,kk _ _ _ _ Fr.refl ?_ rh q⟩)));cases o<;>cases o'<;>first | show rd | show r.elim | show r
   .show q.elim
  .show q.elim
 simp only[meN,Bool.or_eq_true,Bool.and_eq_true,beq_iff_eq] at hm;rcases hm with ((⟨rfl,rfl | rfl⟩ | ⟨rfl,rfl⟩) | ⟨rfl,rfl⟩) | ⟨rfl,rfl⟩
 .show⟨"list",_,_,λX hr=>⟨⟨PySem.F.plainAttrs_list,PySem.F.slot_list_pop,PySem.F.type_list_pop⟩,mt_pop⟩,w9 ⋯,λx xs G H u us Q R hl r a rh q kk=>?_⟩;rcases hb r a rh q kk with ⟨_,q⟩ | ⟨z,_⟩ | ⟨_,q⟩ | ⟨z,_⟩ | ⟨z,_⟩
  .show q
  .show absurd z ⋯
  .obtain⟨_,_,_,_,_,_,e,_⟩:=q;subst e;have:=a.len;rw[hl] at this;cases this
  all_goals show absurd z ⋯
 .show⟨"list",_,_,λX hr=>⟨⟨PySem.F.plainAttrs_list,PySem.F.slot_list_pop,PySem.F.type_list_pop⟩,mt_popAt⟩,w9 ⋯,λx xs G H u us Q R hl r a rh q kk=>?_⟩;rcases hb r a rh q kk with ⟨_,q⟩ | ⟨z,_⟩ | ⟨_,q⟩ | ⟨z,_⟩ | ⟨z,_⟩
  .obtain⟨_,_,_,_,e,_⟩:=q;subst e;have:=a.len;rw[hl] at this;cases this
  .show absurd z ⋯
  .show q
  all_goals show absurd z ⋯
 .show⟨"list",_,_,λX hr=>⟨⟨PySem.F.plainAttrs_list,PySem.F.slot_list_append,PySem.F.type_list_append⟩,mt_append⟩,w9 ⋯,λx xs G H u us Q R hl r a rh q kk=>?_⟩;rcases hb r a rh q kk with ⟨z,_⟩ | ⟨_,q⟩ | ⟨z,_⟩ | ⟨z,_⟩ | ⟨z,_⟩
  .show absurd z ⋯
  .show q
  all_goals show absurd z ⋯
 .show⟨"list",_,_,λX hr=>⟨⟨PySem.F.plainAttrs_list,PySem.F.slot_list_extend,PySem.F.type_list_extend⟩,mt_extend⟩,w9 ⋯,λx xs G H u us Q R hl r a rh q kk=>?_⟩;rcases hb r a rh q kk with ⟨z,_⟩ | ⟨z,_⟩ | ⟨z,_⟩ | ⟨_,q⟩ | ⟨z,_⟩
  .show absurd z ⋯
  .show absurd z ⋯
  .show absurd z ⋯
  .show q
  .show absurd z ⋯
 .show⟨"dict","dict.get",λx vs H Q=> ∃a y d o,x= .ref a/\vs=[y,d]/\DGet H a y o/\Q (o.getD d) H,λX hr=>⟨⟨PySem.F.plainAttrs_dict,PySem.F.slot_dict_get,PySem.F.type_dict_get⟩,λϖ s σ H x xs v us Q I rx rv h=>?_⟩,λ{x G H u} r rh h=>?_,λx xs G H u us Q R hl r a rh q kk=>?_⟩
  .obtain⟨a,y,d,o,rfl,rfl,g,q⟩:=h;have hu:=hr.units;cases rx
   obtain⟨u1,u2,rfl,r1,r2⟩:=Vals.two rv;show d_get2 ∅ I g r1 r2 λw' s' I' rw'=>⟨_,H,I',rw',q⟩
  .unfold tyM at h;split at h
   .cases r
    rw[if_pos rfl] at h;obtain⟨kvs,g⟩:=h;obtain⟨xs,e,_⟩:=rh _ _ g;show .inr (.inr (.inl ⟨rfl,.inl ⟨_,e⟩⟩))
   .show h.elim
  .rcases hb r a rh q kk with ⟨z,_⟩ | ⟨z,_⟩ | ⟨z,_⟩ | ⟨z,_⟩ | ⟨_,q⟩
   .show absurd z ⋯
   .show absurd z ⋯
   .show absurd z ⋯
   .show absurd z ⋯
   .show q
end
section
variable {X:Cx}
def iSeq (K:W.Frag) (tl:TE):TI:=fun σ H R=>tl σ H λx H1=> ∃a,x= .ref a/\(((∃xs,SqL K H1 a xs)/\R (Itl K a) H1)\/((∃xs,SqT K H1 a xs)/\R (Itt K a) H1))
def pi_seq{l:Expr}{tl:TE}(hl:PE X l tl):PI X tg l (iSeq X.K tl):=by
 intro ϖ s σ H R I h;show thn (hl ϖ s σ H _ I h) λv s1 ⟨x,H1,I1,r1,q1⟩=>?_;obtain⟨a,e,q1⟩:=q1;subst e;cases r1
 have fin: ∀b∈[⇑s1],FpOk X ϖ H1 b:=λb hb=>by
  have e:b=⇑s1:=by exists hb
  subst e;show I1.fpOk (μ _) (I1.hok.fresh (μ _))
 rcases q1 with ⟨⟨xs,hq⟩,q⟩ | ⟨⟨xs,hq⟩,q⟩
 .obtain⟨its,rv,p,hz⟩:=I1.list hq;show wpAny_pyIter_list p.isList ?_;show⟨⇑s1,[⇑s1],_,_,H1,rfl,I1.kept (t':=s1.toks) λb o e=>δ _ e,turn_list a _,⟨_,ο _ rfl,rfl,rfl⟩,fin,q⟩
 .obtain⟨its,rv,p,hz⟩:=I1.tuple hq;show wpAny_pyIter_tuple (show s1.heap.IsTuple a its.toArray from p) ?_;show⟨⇑s1,[⇑s1],_,_,H1,rfl,I1.kept (t':=s1.toks) λb o e=>δ _ e,turn_tuple a _,⟨_,ο _ rfl,rfl,rfl⟩,fin,q⟩
def zipR (K:W.Frag) (vs:List V) (H1:Hp) (R:It->Hp->Prop):Prop:= ∃a b t u,vs=[.ref a,.ref b]/\(∃xs,SqB K t H1 a xs)/\(∃ys,SqB K u H1 b ys)/\R (Itq K t u a b) H1
def iZ2 (K:W.Frag) (ta:TA):TI:=fun σ H R=>ta σ H λvs H1=>zipR K vs H1 R
theorem pi_z2{e e':Expr}{ta:TA}{p pos:Pos}(hm:X.mg "zip"=none)(ha:PA X [e,e'] ta)(hg:Gl X "zip")(h:zm e=false)(h':zm e'=false):PI X (.Tuple es kt pt) (.Call (.Name "zip" p) [e,e'] [] pos) (iZ2 X.K ta):=by
 intro ϖ s σ H R I hh;show Call_ (xh I hg hm boot_zip (PyProof.Rows.callWith_type1 (thn (ha pos ϖ s σ H _ I hh) λus s1 ⟨vs,H1,I1,r1,q1⟩=>?_) (ya h) (z9 (by simp[h']))));obtain⟨a,b,t,u,rfl,⟨xs,hqa⟩,⟨ys,hqb⟩,q⟩:=q1;cases r1 with
 | cons ru r2=>cases r2 with | cons rv r3=>
  cases r3
  cases ru
  cases rv
  obtain⟨ia,rva,pa,za⟩:=I1.sqb hqa;obtain⟨ib,rvb,pb,zb⟩:=I1.sqb hqb;show call_zq (xs:=ia.toArray) (ys:=ib.toArray) pa pb λg hz hI hO j1 j2 hk=>wpAny_pyIter_zip hz ?_;show⟨_,[⇑s1+4,⇑s1+2,⇑s1+3,⇑s1,⇑s1+1],_,_,H1,rfl,I1.kept (t':=s1.toks) hk,turn_zq a b _ _ _ _ _ (zipApart_new pa.lt pb.lt),⟨hz,hI,⟨_,_,hO⟩,j1,j2⟩,λq hq=>?_,by assumption⟩;have hq':⇑s1<=q:=by
   simp only[List.mem_cons,List.not_mem_nil,or_false] at hq;rcases hq with z | z | z | z | z<;>rw[z]<;>first | show μ _ | show Nat.le_add_right _ _
  show I1.fpOk hq' (I1.hok.fresh hq')
def enR (K:W.Frag) (vs:List V) (H1:Hp) (R:It->Hp->Prop):Prop:= ∃a b,vs=[.ref a]/\(∃xs,SqB K b H1 a xs)/\R (Iteq K b a) H1
def iE2 (K:W.Frag) (ta:TA):TI:=fun σ H R=>ta σ H λvs H1=>enR K vs H1 R
def pi_e2{e:Expr}{ta:TA}{p pos:Pos}(hm:X.mg "enumerate"=none)(ha:PA X [e] ta)(hg:Gl X "enumerate")(h:zm e=false):PI X (.Tuple es kt pt) (.Call (.Name "enumerate" p) [e] [] pos) (iE2 X.K ta):=by
 intro ϖ s σ H R I hh;show Call_ (xh I hg hm boot_enumerate (PyProof.Rows.callWith_type1 (thn (ha pos ϖ s σ H _ I hh) λus s1 ⟨vs,H1,I1,r1,q1⟩=>?_) (ya h) rfl));obtain⟨a,t,rfl,⟨xs,hq⟩,q⟩:=q1;obtain⟨u,rfl,ru⟩:=r1.one;cases ru
 obtain⟨its,rv,pl,hz⟩:=I1.sqb hq;have hlt:=pl.lt;show call_eq (its:=its.toArray) pl λh' he hi hk=>wpAny_pyIter_enum he ?_;show⟨_,[⇑s1+1,⇑s1],_,_,H1,rfl,I1.kept (t':=s1.toks) hk,turn_eq a (⇑s1+1) ⇑s1 (Nat.succ_ne_self _) (Ι hlt) (Ι (θ hlt (Nat.le_succ _))),⟨⟨_,he⟩,hi⟩,λb hb=>?_,q⟩;have hb':⇑s1<=b:=by
  rcases Ε.mp hb with z | z
  .rw[z];show Nat.le_succ _
  .rw[ν.mp z];show μ _
 show I1.fpOk hb' (I1.hok.fresh hb')
end
def Walk (G:Gp) (H:Hp) (J:It) (ws:List W) (ok:Gp->Prop):Prop:= ∀i G2 H2,Fr G H G2 H2->Rh G2 H2->ok G2->
 (∀w,ws[i]? =some w->J.go i H2/\ ∀x H3,J.yld i H2 x H3->Rv H3 w x/\Rh G2 H3/\Fr G2 H2 G2 H3)/\(i=ws.length->J.stop i H2)
def LI (E3:XS) (E:XS2) (T:St3->Gp->Ki->Prop) (t:TI):Prop:= ∀τ G σ H (Q:Ki) (R:It->Hp->Prop),Rst H τ σ->Rh G H->Xr G H E3 E->T τ G Q->
 (∀ws ok J G' H',Fr G H G' H'->Rh G' H'->Walk G' H' J ws ok->Q ws ok G'->R J H')->t σ H R
def Stay (G:Gp) (H:Hp) (tp:Bool) (a:Addr) (ws:List W) (ok:Gp->Prop):Prop:= ∀G2 H2,Fr G H G2 H2->Rh G2 H2->ok G2-> ∃xs,H2 a=some (if tp then .tup xs else .lst xs)/\Rvs H2 ws xs
def walkL_r(rh:Rh G H)(h:xS (.ref p) G Q): ∃ws ok G',SubG G' G/\Stay G' H false p ws ok/\(∃xs,H p=some (.lst xs))/\Q ws ok G':=by
 obtain⟨ws,g,h⟩:=h;obtain⟨xs,e,q⟩:=rh _ _ g;rcases h with h | h
 .show⟨ws,_,G,SubG.refl,λG2 H2 f r2 g2=>(by obtain⟨xs,e,q⟩:=r2 _ _ g2;show⟨xs,e,q⟩),⟨_,e⟩,h⟩
 .show⟨ws,_,_,SubG.del,λG2 H2 f r2 _=>?_,⟨_,e⟩,h⟩;obtain⟨_,e2⟩:=f _ _ (by unfold delG;rw[if_pos rfl]) e;show⟨xs,e2,q.up (f.kt (rh.sub SubG.del))⟩
theorem wZ(r:Rv H x v)(rh:Rh G H)(h:xS x G Q): ∃tp a ws ok G',v= .ref a/\SubG G' G/\Stay G' H tp a ws ok/\(∃xs,H a=some (if tp then .tup xs else .lst xs))/\Q ws ok G':=by
 unfold xS at h;split at h
 .cases r with
  | tup e q=>
   show⟨true,_,_,_,G,rfl,SubG.refl,λG2 H2 f r2 _=>?_,⟨_,e⟩,h⟩;have k:=f.kt rh;show⟨_,k.t e,q.up k⟩
 .cases r
  obtain⟨ws,ok,G',sg,st,⟨xs,e⟩,q⟩:=walkL_r rh h;show⟨false,_,ws,ok,G',rfl,sg,st,⟨xs,e⟩,q⟩
 .show h.elim
def Stay.up{ok:Gp->Prop}(s:Stay G H tp a ws ok)(f:Fr G H G' H'):Stay G' H' tp a ws ok:=λG2 H2 g r o=>s G2 H2 (f.trans g) r o
def Stay.sub{ok:Gp->Prop}(s:Stay G H tp a ws ok)(h:SubG G' G)(rh:Rh G H):Stay G' H tp a ws ok:=s.up (λb o g e=>⟨h.none g,e⟩)
section
variable {K:W.Frag}{ws us vs:List W}
theorem walk_seq(s:Stay G H tp a ws ok):Walk G H (if tp then Itt K a else Itl K a) ws ok:=λi G2 H2 f r o=>by
 obtain⟨xs,e,q⟩:=s G2 H2 f r o;cases tp with
 | true=>
  show⟨λw hw=>?_,λhi=>⟨xs,SqT.of e,by rw[hi,q.len];show μ _⟩⟩;obtain⟨v,hv,rv⟩:=q.get hw;show⟨⟨xs,v,SqT.of e,hv⟩,λx H3 h=>?_⟩;obtain⟨rfl,h⟩:=h;have:=h xs (SqT.of e);rw[hv] at this;cases this;show⟨rv,r,Fr.refl⟩
 | false=>
  show⟨λw hw=>?_,λhi=>⟨xs,SqL.of e,by rw[hi,q.len];show μ _⟩⟩;obtain⟨v,hv,rv⟩:=q.get hw;show⟨⟨xs,v,SqL.of e,hv⟩,λx H3 h=>?_⟩;obtain⟨rfl,h⟩:=h;have:=h xs (SqL.of e);rw[hv] at this;cases this;show⟨rv,r,Fr.refl⟩
def SqB.of(e:H a=some (if t then .tup xs else .lst xs)):SqB K t H a xs:=by
 cases t
 .show SqL.of e
 .show SqT.of e
theorem YE: ∀(ws:List W) (k i:Nat) (w:W),(enuW k ws)[i]? =some w-> ∃x,ws[i]? =some x/\w= .tup [.int ((k+i:Nat):Int),x]
 | [],k,i,w,h=>by simp[enuW] at h
 | x::ws,k,0,w,h=>by simp[enuW] at h;show⟨x,rfl,h.symm⟩
 | x::ws,k,i+1,w,h=>by
  obtain⟨y,h1,h2⟩:=YE ws (k+1) i w (by simpa[enuW] using h);show⟨y,by simpa using h1,by rw[h2];simp;lia⟩
theorem YD: ∀(ws:List W) (k:Nat),(enuW k ws).length=ws.length
 | [],_=>rfl
 | _::ws,k=>by simp[enuW,YD ws]
def walk_en(s:Stay G H tp a ws ok):Walk G H (Iteq K tp a) (enuW 0 ws) ok:=λi G2 H2 f r o=>by
 obtain⟨xs,e,q⟩:=s G2 H2 f r o;have fin: ∀w,(enuW 0 ws)[i]? =some w-> ∃v y,xs[i]? =some v/\Rv H2 y v/\w= .tup [.int (i:Int),y]:=λw hw=>by
  obtain⟨y,h1,h2⟩:=YE ws 0 i w hw;obtain⟨v,hv,rv⟩:=q.get h1;show⟨v,y,hv,rv,by rw[h2,Nat.zero_add]⟩
 have sa:=SqB.of (K:=K) e;show⟨λw hw=>?_,λhi=>⟨xs,sa,by rw[hi,YD,q.len]⟩⟩;obtain⟨v,y,hv,rv,rfl⟩:=fin w hw;show⟨⟨xs,v,sa,hv⟩,λx H3 h=>?_⟩;obtain⟨p,z,rfl,hp,rfl,h⟩:=h;have:=h xs sa;rw[hv] at this;cases this;show⟨.tup zj (.cons (.int _) (.cons (rv.up (Kt.new hp)) .nil)),r.beside hp,Fr.beside hp⟩
theorem zipW_get: ∀(a b:List W) (i:Nat) (w:W),(zipW a b)[i]? =some w-> ∃x y,a[i]? =some x/\b[i]? =some y/\w= .tup [x,y]:=λa b i w h=>by
 unfold zipW at h;rw[List.getElem?_zipWith] at h;cases ha:a[i]? with
 | none=>rw[ha] at h;cases h
 | some x=>
  cases hb:b[i]? with
  | none=>rw[ha,hb] at h;cases h
  | some y=>rw[ha,hb] at h;cases h;show⟨x,y,rfl,rfl,rfl⟩
def walk_zip(s:Stay G H t a ws ok)(s':Stay G H u b us ok'):Walk G H (Itq K t u a b) (zipW ws us) (λG=>ok G/\ok' G):=λi G2 H2 f r o=>by
 obtain⟨xs,e,q⟩:=s G2 H2 f r o.1;obtain⟨ys,e',q'⟩:=s' G2 H2 f r o.2;have fin: ∀w,(zipW ws us)[i]? =some w-> ∃v v' y y',xs[i]? =some v/\ys[i]? =some v'/\Rv H2 y v/\Rv H2 y' v'/\w= .tup [y,y']:=λw hw=>by
  obtain⟨y,y',h1,h2,h3⟩:=zipW_get ws us i w hw;obtain⟨v,hv,rv⟩:=q.get h1;obtain⟨v',hv',rv'⟩:=q'.get h2;show⟨v,v',y,y',hv,hv',rv,rv',h3⟩
 have stp:i=(zipW ws us).length->xs.length<=i\/ys.length<=i:=λh=>by
  rw[show(zipW ws us).length=min ws.length us.length by simp[zipW],q.len,q'.len] at h;lia
 have end3: ∀{p:Addr} {v v':V} {y y':W},H2 p=none->Rv H2 y v->Rv H2 y' v'->Rv (upd H2 p (.tup [v,v'])) (.tup [y,y']) (.ref p)/\Rh G2 (upd H2 p (.tup [v,v']))/\Fr G2 H2 G2 (upd H2 p (.tup [v,v'])):=λhp rv rv'=>
  ⟨.tup zj (.cons (rv.up (Kt.new hp)) (.cons (rv'.up (Kt.new hp)) .nil)),r.beside hp,Fr.beside hp⟩
 have sa:=SqB.of (K:=K) e;have sb:=SqB.of (K:=K) e';show⟨λw hw=>?_,λh=>⟨xs,ys,sa,sb,stp h⟩⟩;obtain⟨v,v',y,y',hv,hv',rv,rv',rfl⟩:=fin w hw;show⟨⟨xs,ys,v,v',sa,sb,hv,hv'⟩,λx H3 h=>?_⟩;obtain⟨p,z,z',rfl,hp,rfl,h1,h2⟩:=h;have h1:=h1 xs sa;rw[hv] at h1;cases h1;have h2:=h2 ys sb;rw[hv'] at h2;cases h2;show end3 hp rv rv'
def Z3{lo hi:Int}:Walk G H (Itr lo (hi-lo).toNat) (rngW lo hi) (λ_=>True):=λi G2 H2 f r _=>by
 show⟨λw hw=>?_,λh=>?_⟩
 .unfold rngW at hw;have hi:i<(hi-lo).toNat:=by
   have:=(Η.mp hw).1;exists this
  rw[Ν,List.getElem?_range hi] at hw;have hw:W.int (lo+(i:Int))=w:=Α hw;subst hw;show⟨hi,λx H3 h=>?_⟩;obtain⟨rfl,rfl⟩:=h;show⟨.int _,r,Fr.refl⟩
 .change(hi-lo).toNat<=i;rw[h];simp[rngW]
end
def LG (g3:Tg) (g:TG):Prop:= ∀w v τ σ G H τ' (Q:St2->Hp->Prop),Rv H w v->Rst H τ σ->Rh G H->xw g3 w τ=some τ'->(∀σ',Rst H τ' σ'->Q σ' H)->g v σ H Q
def LG.n:LG (.n i) (yj i):=λw v τ σ G H τ' Q rv rs rh e k=>by
 cases e
 show k _ (rs.set rv i)
def gAll:List Nat->TGs
 | []=>gNil
 | i::is=>VG (yj i) (gAll is)
theorem WQ: ∀(is:List Nat) {ws:List W} {vs:List V} {τ:St3} {σ:St2} {Q:St2->Hp->Prop},is.length=ws.length->Rvs H ws vs->Rst H τ σ->(∀σ',Rst H (YN is ws τ) σ'->Q σ' H)->gAll is vs σ H Q
 | [],ws,vs,τ,σ,Q,hl,r,rs,k=>by
  cases r with
  | nil=>show⟨rfl,k σ rs⟩
  | cons _ _=>simp at hl
 | i::is,ws,vs,τ,σ,Q,hl,r,rs,k=>by
  cases r with
  | nil=>simp at hl
  | cons a r=>show⟨_,_,rfl,WQ is (by exists hl) r (rs.set a i) k⟩
theorem LG.t{K:W.Frag}{is:List Nat}:LG (.t is) (gTup K is.length (gAll is)):=λw v τ σ G H τ' Q rv rs rh e k=>by
 unfold xw at e;split at e
 .rename_i h;cases h
 .rename_i js ws τ0 h
  cases h
  split at e
  case isFalse=>cases e
  case isTrue hl=>
   cases e
   cases rv with
   | tup h q=>show⟨_,_,rfl,SqT.of h,by rw[<-q.len,<-hl],WQ is hl q rs k⟩
 .cases e
def Rh.other(r:Rh G H)(g:G a=none)(h: ∀u,Im u->H a≠some u):Rh G (upd H a u):=λb o e=>by
 have n:b≠a:=λz=>by subst z;rw[g] at e;cases e
 show(r b o e).up (Kt.put h) (zi n)
theorem WX{ok:Gp->Prop}{tc3:St3->Gp->(Bool->Gp->Prop)->Prop}{te3:St3->Gp->Kc->Prop}{Q3:List W->Gp->Prop}
  (hw:Walk G1 H1 J ws ok) (hg:LG g3 g) (hc:LT E3 E tc3 tc) (he:LE E3 E te3 te) (hx: ∀G H,Fr G1 H1 G H->Xr G H E3 E) (rs:Rst H1 τ0 σ0) (rh:Rh G1 H1) (hD:H1 D=none) (h:zC g3 tc3 te3 ok Q3 ws τ0 [] G1)
  (k: ∀acc G H,Fr G1 H1 G H->Rh G H->G D=none->SeqV H false (.ref D) acc->Q3 acc G->R (.ref D) H):CGo J D g tc te R σ0 H1:=by
 have nt0: ∀{H:Hp} {ys:List V},H D=some (.lst ys)-> ∀u,Im u->H D≠some u:=λe=>nIm e (λz=>z);show⟨λi m σ ys H=>m=ws.length-i/\i<=ws.length/\H D=some (.lst ys)/\ ∃τ acc G,Rst H τ σ/\Rh G H/\G D=none/\Fr G1 H1 G H/\Rvs H acc ys/\zC g3 tc3 te3 ok Q3 (ws.drop i) τ acc G,
  ⟨ws.length,by lia,Θ _,zj,τ0,[],G1,rs.up (Kt.new hD),rh.beside hD,rh.fresh hD,Fr.beside hD,.nil,by exists h⟩,?_⟩
 rintro i m σ ys H ⟨rfl,hi,eD,τ,acc,G,rsH,rhH,gD,fr,ra,hgo⟩;show⟨eD,?_⟩;by_cases hlt:i<ws.length
 .obtain⟨w,hw'⟩: ∃w,ws[i]? =some w:=⟨ws[i],by simp[hlt]⟩;have hd:ws.drop i=w::ws.drop (i+1):=by
   rw[List.drop_eq_getElem_cons hlt];have:ws[i]=w:=by rw[χ hlt] at hw';show Α hw'
   rw[this]
  rw[hd] at hgo;unfold zC at hgo;obtain⟨hok,τ',hb,hgo⟩:=hgo;obtain⟨go,yl⟩:=(hw i G H fr rhH hok).1 w hw';show .inr ⟨go,λv H' y=>?_⟩;obtain⟨rv,rh',f'⟩:=yl v H' y;have eD':=(f' D _ gD eD).2;show hg w v τ σ G H' τ' _ rv (rsH.up (f'.kt rhH)) rh' hb fun σ' rs'=>?_;have fr':=fr.trans f';show hc τ' G σ' H' _ _ rs' rh' (hx _ _ fr') hgo λb G2 H2 f2 r2 q2=>?_;have eD2:=f2 D _ gD eD';cases b with
  | false=>
   show⟨ws.length-(i+1),by lia,rfl,hlt,eD2.2,τ',acc,G2,rs'.up (f2.kt rh'),r2,eD2.1,fr'.trans f2,((ra.up (f'.kt rhH)).up (f2.kt rh')),q2⟩
  | true=>
   have q2:te3 τ' G2 _:=q2;show he τ' G2 σ' H2 _ _ (rs'.up (f2.kt rh')) r2 (hx _ _ (fr'.trans f2)) q2 λy v' G3 H3 f3 a3 r3 q3=>?_;have eD3:=f3 D _ eD2.1 eD2.2;have ra3:=((ra.up (f'.kt rhH)).up (f2.kt rh')).up (f3.kt r2);have kt:=Kt.put (o:= .lst (ys++[v'])) (nt0 eD3.2);show⟨eD3.2,by rw[<-ra3.len];show q3.1,ws.length-(i+1),by lia,rfl,hlt,zj,τ',acc++[y],G3,((rs'.up (f2.kt rh')).up (f3.kt r2)).up kt,r3.other eD3.1 (nt0 eD3.2),eD3.1,?_,(ra3.app (.cons a3 .nil)).up kt,q3.2⟩;intro a o h1 h2;have n:a≠D:=zg h2 hD;obtain⟨x1,x2⟩:=((fr'.trans f2).trans f3) a o h1 h2;show⟨x1,by rw[zi n];show x2⟩
 .have e:i=ws.length:=by lia
  subst e;rw[List.drop_length] at hgo;unfold zC at hgo;show .inl ⟨(hw _ G H fr rhH hgo.1).2 rfl,k acc G H fr rhH gD ⟨D,ys,rfl,eD,ra⟩ hgo.2⟩
structure EndsR (G:Gp) (H:Hp) (D3:Ends3) (D:Ends):Prop where
 nx: ∀τ σ G' H',Fr G H G' H'->Rst H' τ σ->Rh G' H'->D3.nx τ G'->D.nx σ H'
 rt: ∀w v G' H',Fr G H G' H'->Rv H' w v->Rh G' H'->D3.rt w G'->D.rt v H'
 bk: ∀τ σ G' H',Fr G H G' H'->Rst H' τ σ->Rh G' H'->D3.bk τ G'->D.bk σ H'
 ct: ∀τ σ G' H',Fr G H G' H'->Rst H' τ σ->Rh G' H'->D3.ct τ G'->D.ct σ H'
def EndsR.up(e:EndsR G H D3 D)(f:Fr G H G' H'):EndsR G' H' D3 D:=
 ⟨fun τ σ G2 H2 g=>e.nx τ σ G2 H2 (f.trans g),λw v G2 H2 g=>e.rt w v G2 H2 (f.trans g),fun τ σ G2 H2 g=>e.bk τ σ G2 H2 (f.trans g),fun τ σ G2 H2 g=>e.ct τ σ G2 H2 (f.trans g)⟩
def LS (E3:XS) (E:XS2) (T:Ends3->St3->Gp->Prop) (t:TS):Prop:= ∀τ G σ H D3 D,Rst H τ σ->Rh G H->Xr G H E3 E->EndsR G H D3 D->T D3 τ G->t D σ H
section
variable {Ta Tb Tc:St3->Gp->Kc->Prop}
def LS.nop:LS E3 E (λD τ G=>D.nx τ G) Wc:=fun τ G σ H D3 D rs rh rx e q=>e.nx τ σ G H Fr.refl rs rh q
def LS.seq(h:LS E3 E T t)(h':LS E3 E T' t'):LS E3 E (λD τ G=>T {D with nx:=T' D} τ G) (tSeq t t'):=fun τ G σ H D3 D rs rh rx e q=>
 h τ G σ H {D3 with nx:=T' D3} {D with nx:=t' D} rs rh rx ⟨fun τ' σ' G' H' f rs' rh' q'=>h' τ' G' σ' H' D3 D rs' rh' (rx.up f) (e.up f) q',e.rt,e.bk,e.ct⟩ q
def LS.set(he:LE E3 E Ta ta)(hg:LG g3 g):LS E3 E (λD τ G=>Ta τ G λw G1=> ∃τ',xw g3 w τ=some τ'/\D.nx τ' G1) (tAsg ta g):=fun τ G σ H D3 D rs rh rx e q=>
 he τ G σ H _ _ rs rh rx q λw v G1 H1 f a r q=>by
  obtain⟨τ',hb,q⟩:=q;show hg w v τ σ G1 H1 τ' _ a (rs.up (f.kt rh)) r hb fun σ' rs'=>e.nx _ _ _ _ f rs' r q
def LS.ret(he:LE E3 E Ta ta):LS E3 E (λD τ G=>Ta τ G D.rt) (tRet ta):=fun τ G σ H D3 D rs rh rx e q=>he τ G σ H _ _ rs rh rx q λw v G1 H1 f a r q=>e.rt _ _ _ _ f a r q
def LS.retN:LS E3 E (λD _ G=>D.rt .non G) W6:=fun τ G σ H D3 D rs rh rx e q=>e.rt _ _ _ _ Fr.refl .non rh q
def LS.ex(he:LE E3 E Ta ta):LS E3 E (λD τ G=>Ta τ G λ_ G1=>D.nx τ G1) (W8 ta):=fun τ G σ H D3 D rs rh rx e q=>he τ G σ H _ _ rs rh rx q λw v G1 H1 f a r q=>e.nx _ _ _ _ f (rs.up (f.kt rh)) r q
def LS.brk:LS E3 E (λD τ G=>D.bk τ G) Wg:=fun τ G σ H D3 D rs rh rx e q=>e.bk τ σ G H Fr.refl rs rh q
def LS.cnt:LS E3 E (λD τ G=>D.ct τ G) Va:=fun τ G σ H D3 D rs rh rx e q=>e.ct τ σ G H Fr.refl rs rh q
theorem LS.iff{U:St3->Gp->(Bool->Gp->Prop)->Prop}(hc:LT E3 E U u)(h:LS E3 E T t)(h':LS E3 E T' t'):LS E3 E (λD τ G=>U τ G λk G1=>br k (T D τ G1) (T' D τ G1)) (tIfS u t t'):=fun τ G σ H D3 D rs rh rx e q=>
 hc τ G σ H _ _ rs rh rx q λb G1 H1 f r q=>by
  rw[xk] at q;cases b with
  | true=>show h τ G1 σ H1 D3 D (rs.up (f.kt rh)) r (rx.up f) (e.up f) q
  | false=>show h' τ G1 σ H1 D3 D (rs.up (f.kt rh)) r (rx.up f) (e.up f) q
def LS.fo{TI3:St3->Gp->Ki->Prop}(hi:LI E3 E TI3 ti)(hg:LG g3 g)(h:LS E3 E T t):LS E3 E (λD τ G=>TI3 τ G λws ok G1=>yC g3 T ok D ws τ G1) (tFor ti g t):=fun τ0 G0 σ0 H0 D3 D rs0 rh0 rx e q=>
 hi τ0 G0 σ0 H0 _ _ rs0 rh0 rx q λws ok J G1 H1 f1 r1 hw q=>by
  show⟨λi m σ H=>m=ws.length-i/\i<=ws.length/\ ∃τ G,Rst H τ σ/\Rh G H/\Fr G1 H1 G H/\yC g3 T ok D3 (ws.drop i) τ G,⟨ws.length,by lia,Θ _,τ0,G1,rs0.up (f1.kt rh0),r1,Fr.refl,by exists q⟩,?_⟩;rintro i m σ H ⟨rfl,hi,τ,G,rs,rh,fr,hgo⟩;by_cases hlt:i<ws.length
  .obtain⟨w,hw'⟩: ∃w,ws[i]? =some w:=⟨ws[i],by simp[hlt]⟩;have hd:ws.drop i=w::ws.drop (i+1):=by
    rw[List.drop_eq_getElem_cons hlt];have:ws[i]=w:=by rw[χ hlt] at hw';show Α hw'
    rw[this]
   rw[hd] at hgo;unfold yC at hgo;obtain⟨hok,τ',hb,hgo⟩:=hgo;obtain⟨go,yl⟩:=(hw i G H fr rh hok).1 w hw';show .inr ⟨go,fun σ' H'=> ∃τ G,Rst H' τ σ'/\Rh G H'/\Fr G1 H1 G H'/\yC g3 T ok D3 (ws.drop (i+1)) τ G,fun σ' H' ⟨τ2,G2,a,b,c,d⟩=>⟨ws.length-(i+1),by lia,rfl,hlt,τ2,G2,a,b,c,d⟩,λv H' y=>?_⟩;obtain⟨rv,rh',f'⟩:=yl v H' y;show hg w v τ σ G H' τ' _ rv (rs.up (f'.kt rh)) rh' hb fun σ' rs'=>?_;have fr':=fr.trans f';have ff:=f1.trans fr';show h τ' G σ' H' {D3 with nx:=yC g3 T ok D3 (ws.drop (i+1)),ct:=yC g3 T ok D3 (ws.drop (i+1)),bk:=D3.nx} _ rs' rh' (rx.up ff) ⟨fun τ2 σ2 G2 H2 f2 a b q=>⟨τ2,G2,a,b,fr'.trans f2,q⟩,(e.up ff).rt,fun τ2 σ2 G2 H2 f2 a b q=>e.nx τ2 σ2 G2 H2 (ff.trans f2) a b q,fun τ2 σ2 G2 H2 f2 a b q=>⟨τ2,G2,a,b,fr'.trans f2,q⟩⟩ hgo
  .have ei:i=ws.length:=by lia
   subst ei;rw[List.drop_length] at hgo;unfold yC at hgo;show .inl ⟨(hw _ G H fr rh hgo.1).2 rfl,e.nx τ σ G H (f1.trans fr) rs rh hgo.2⟩
theorem LS.wh{U:St3->Gp->(Bool->Gp->Prop)->Prop}(hc:LT E3 E U u)(h:LS E3 E T t):LS E3 E (λD τ G=> ∃n,whGo U T D n τ G) (Wa u t):=fun τ0 G0 σ0 H0 D3 D rs0 rh0 rx e q=>by
 obtain⟨n,q⟩:=q;show⟨λm σ H=> ∃τ G,Rst H τ σ/\Rh G H/\Fr G0 H0 G H/\whGo U T D3 m τ G,⟨n,τ0,G0,rs0,rh0,Fr.refl,q⟩,?_⟩;rintro m σ H ⟨τ,G,rs,rh,fr,hgo⟩;cases m with
 | zero=>show hgo.elim
 | succ m=>
  unfold whGo at hgo;show hc τ G σ H _ _ rs rh (rx.up fr) hgo λb G1 H1 f r q=>?_;rw[xk] at q;cases b with
  | true=>
   have ff:=fr.trans f;show⟨fun σ' H'=> ∃τ G,Rst H' τ σ'/\Rh G H'/\Fr G0 H0 G H'/\whGo U T D3 m τ G,fun σ' H' q=>⟨m,Nat.lt_succ_self m,q⟩,?_⟩;show h τ G1 σ H1 {D3 with nx:=whGo U T D3 m,ct:=whGo U T D3 m,bk:=D3.nx} _ (rs.up (f.kt rh)) r (rx.up ff) ⟨fun τ2 σ2 G2 H2 f2 a b q=>⟨τ2,G2,a,b,ff.trans f2,q⟩,(e.up ff).rt,fun τ2 σ2 G2 H2 f2 a b q=>e.nx τ2 σ2 G2 H2 (ff.trans f2) a b q,fun τ2 σ2 G2 H2 f2 a b q=>⟨τ2,G2,a,b,ff.trans f2,q⟩⟩ q
  | false=>show e.nx _ _ _ _ (fr.trans f) (rs.up (f.kt rh)) r q
end
section
variable {X:Cx}
def Wq:TSet:=λo i v H Q=>Vo o i v H Q\/ ∃a H',o= .ref a/\DPut H a i v H'/\Q H'
def put_all(hr:Room k X.A):PSet X Wq:=by
 intro ϖ s σ H o i v ov iv u Q I ro ri rv h;rcases h with h | ⟨a,H',rfl,g,q⟩
 .show set_d ϖ s σ H o i v ov iv u Q I ro ri rv h
 .have hu:=hr.units;cases ro
  show d_setItem ∅ I g ri rv λs' I'=>⟨H',I',q⟩
def putA_r{x y z:W}{G:Gp}{H:Hp}{u v w:V}{Q:Gp->Prop}{R:Hp->Prop}(rx:Rv H x u)(ry:Rv H y v)(rz:Rv H z w)(rh:Rh G H)(h:putA x y z G Q)(kk: ∀G' H',Fr G H G' H'->Rh G' H'->Q G'->R H'):Wq u v w H R:=by
 unfold putA at h;split at h
 .cases rx
  rcases h with ⟨ws,i,j,g,rfl,hi,q⟩ | ⟨kvs,k,g,hk,hl,q⟩
  .cases ry
   obtain⟨xs,e,b⟩:=rh _ _ g;show .inl ⟨_,by simp only[dSet,e,<-b.len,hi,Option.map_some],kk _ _ (Fr.put g) (rh.lput e (b.set rz j)) q⟩
  .have:=WN hk ry;subst this;obtain⟨ks',e,b⟩:=rh _ _ g;have nt:=nIm e (λz=>z);show .inr ⟨_,_,rfl,DPut.k e (by rw[<-Paired.length b];show hl),kk _ _ (Fr.put g) (rh.put (o:= .dK (putW kvs k z)) nt ⟨_,zj,(Ww b _ rz).up (Kt.put nt)⟩) q⟩
 .show h.elim
end
structure Sc where
 sc:Scope
 N:List Str
 fns:List Str
 ks:List Str
 cls:List Str
 ki:List (Str×Int)
def ixOf:List Str->Str->Option Nat
 | [],_=>none
 | y::r,x=>if y=x then some 0 else (ixOf r x).map (· +1)
theorem zT: ∀{N:List Str} {x:Str} {i:Nat},ixOf N x=some i->N[i]? =some x
 | [],_,_,h=>by cases h
 | y::r,x,i,h=>by
  unfold ixOf at h;split at h
  .rename_i e;cases h;rw[e];rfl
  .obtain⟨j,hj,rfl⟩:=Option.map_eq_some_iff.mp h;exists zT hj
def okN (x:Str):Bool:= !(x==("__debug__":Str))&&(!(x==("__classdict__":Str))&& !(x==("__name__":Str)))
def glB (c:Sc) (x:Str):Bool:=decide (c.sc.names.lookup x=some .globalImplicit)&&okN x
def ZW:Const->Option V
 | .int n=>some (.int n)
 | .str y=>some (.str y)
 | .bool b=>some (.bl b)
 | .none=>some .non
 | _=>none
def tyX (x:Str):Option String:=if x="int" then some "int" else if x="bool" then some "bool" else if x="str" then some "str" else if x="tuple" then some "tuple" else if x="list" then some "list" else none
def nmOf:List Expr->Option (List Str)
 | []=>some []
 | .Name x _::r=>(nmOf r).map (x:: ·)
 | _=>none
def tgOf:Expr->Option (List Str×Bool)
 | .Name x _=>some ([x],false)
 | .Tuple es _ _=>(nmOf es).map (·,true)
 | _=>none
def tgS (N:List Str):Expr->Option Tg
 | .Name x _=>(ixOf N x).map .n
 | .Tuple es _ _=>(nmOf es).bind λxs=>(xs.mapM (ixOf N)).map .t
 | _=>none
def frOf (sc:Scope):List Str:=(sc.names.filter λy=>decide (y.2= .free)).map (·.1)
def nsB (o sc:Scope) (TN F:List Str):Bool:=decide (o.kind= .function)&&(decide (sc.kind= .function)&&(decide (∀y∈sc.names,y.2= .local->sc.names.lookup y.1=some .local)&&(decide (∀y∈sc.names,y.2= .cell->sc.names.lookup y.1=some .cell)&&
 (decide (∀y∈sc.names,y.2= .free->o.names.lookup y.1=some .cell/\sc.names.lookup y.1=some .free)&&(decide (∀y∈F,(y,NameKind.free)∈sc.names)&&(decide (TN++F).Nodup&&(decide (∀x∈TN++F,Vis (zL sc o) x)&&
 decide (∀x∈TN,(zL sc o).names.lookup x=some .local\/((zL sc o).names.lookup x=some .cell/\sc.names.lookup x=some .cell)))))))))
def y2:Expr->Bool
 | .Slice .. =>false
 | _=>true
def Xw:Expr->Bool
 | .Set .. =>false
 | _=>true
def wc:Expr->Bool
 | .Call (.Name _ _) [] [] _=>false
 | _=>true
def tstB:Nat->Expr->Bool
 | 0,_=>false
 | _+1,.IfExp .. =>false
 | m+1,.UnaryOp .Not a _=>tstB m a
 | m+1,.BoolOp _ vs _=>vs.all (tstB m)
 | _+1,.Compare _ [_] [_] _=>true
 | _+1,.Compare _ [_,_] [_,_] _=>true
 | _+1,.Compare .. =>false
 | _+1,_=>true
def wg:List (Option Expr)->Option (List Key)
 | []=>some []
 | some (.Constant (.int i) _ _)::r=>(wg r).map (.inl i:: ·)
 | some (.Constant (.str s) _ _)::r=>(wg r).map (.inr s:: ·)
 | _=>none
def rgOf:Expr->Option Expr
 | .Call (.Name y _) [b] [] _=>if y="range" then some b else none
 | _=>none
def rvOf:Expr->Option Expr
 | .Call (.Name y _) [b] [] _=>if y="reversed" then some b else none
 | _=>none
def isM1:Expr->Bool
 | .UnaryOp .USub (.Constant (.int 1) _ _) _=>true
 | _=>false
def okC (c:Sc) (x:Str):Bool:=c.cls.contains x&&(decide (ixOf c.N x=none)&&glB c x)
def clOf (c:Sc) (x:Str):List Expr->Option (List Str)
 | [.Name y _]=>if x="isinstance"/\okC c y=true then some [y] else none
 | [.Tuple es _ _]=>if x="isinstance" then (nmOf es).bind λxs=>if (xs.all (λy=>okC c y&& !(y==("ValueError":Str)))&&(!xs.isEmpty&&decide (xs.length<=20)))=true then some xs else none else none
 | _=>none
def mk:Option Ex->(Ex->Ex)->Option Ex:=λa f=>a.map f
def mk2 (a b:Option Ex) (f:Ex->Ex->Ex):Option Ex:=a.bind λx=>b.map λy=>f x y
def zn (b:Bool) (x:Option Ex):Option Ex:=if b then x else none
mutual
def cE:Nat->Sc->Expr->Option Ex
  | 0,_,_=>none
  | n+1,c,.Name x _=>match ixOf c.N x with
    | some i=>zn (decide (Vis c.sc x)&&okN x) (some (.v i))
    | none=>match c.ki.lookup x with
      | some v=>zn (glB c x) (some (.c (.int v)))
      | none=>if c.ks.contains x=true then zn (glB c x) (some (.k x)) else zn (glB c x) ((tyX x).map λy=> .c (.ty y))
  | n+1,c,.Constant k _ _=>(ZW k).map .c
  | n+1,c,.BinOp a o b _=>mk2 (cE n c a) (cE n c b) (.op o)
  | n+1,c,.UnaryOp .USub a _=>(cE n c a).map .neg
  | n+1,c,.UnaryOp .Not a _=>(cE n c a).map .not
  | n+1,c,.BoolOp o [a] _=>cE n c a
  | n+1,c,.BoolOp .And (a::b::r) p=>mk2 (cE n c a) (cE n c (.BoolOp .And (b::r) p)) .and
  | n+1,c,.BoolOp .Or (a::b::r) p=>mk2 (cE n c a) (cE n c (.BoolOp .Or (b::r) p)) .or
  | n+1,c,.Compare a [o] [b] _=>zn (!behindInMarks o b) (mk2 (cE n c a) (cE n c b) (.cmp o))
  | n+1,c,.Compare a [o,p] [b,d] _=>zn (!behindInMarks p d) ((cE n c a).bind λx=>mk2 (cE n c b) (cE n c d) (.ch o p x))
  | n+1,c,.IfExp t a b _=>zn (tstB 20 t)<| (cE n c t).bind λx=>mk2 (cE n c a) (cE n c b) (.ite x)
  | n+1,c,.Tuple es _ _=>(cEs n c es).map .tup
  | n+1,c,.List es _=>(cEs n c es).map .lst
  | n+1,c,.Dict [] [] _=>some .dic0
  | n+1,c,.Dict (k::ks) vs _=>match wg (k::ks) with
    | some kk=>zn (decide ((k::ks).length=vs.length)&&decide ((k::ks).length<=15)) ((cEs n c vs).map (.dic kk))
    | none=>none
  | n+1,c,.Subscript a (.Slice lo hi none _) _=>(cE n c a).bind λx=>mk2 (cO n c lo) (cO n c hi) (.sl x)
  | n+1,c,.Subscript a (.Slice none none (some e) _) _=>zn (isM1 e) ((cE n c a).map .rev)
  | n+1,c,.Attribute o f _=>zn (wc o) ((cE n c o).map λx=> .fld x f)
  | n+1,c,.Subscript a b _=>zn (y2 b) (mk2 (cE n c a) (cE n c b) .ix)
  | n+1,c,.Call (.Name x _) (a::r) [] _=>if ixOf c.N x=none/\glB c x=true then
      (if c.fns.contains x=true then (cEs n c (a::r)).map (.call x)
       else if rowB x=true/\r=[] then (match rgOf a with
         | some b=>zn (decide (x="list"\/x="tuple")&&(glB c "range"&& !zm b)) ((cE n c b).map (.lr x))
         | none=>(match rvOf a with
           | some b=>zn (decide (x="list")&&(glB c "reversed"&& !zm b)) ((cE n c b).map .lrv)
           | none=>(cR n c a).map (.rw x)))
       else (match clOf c x r with
         | some cs=>zn (!zm a) ((cE n c a).map λy=> .isx y cs)
         | none=>zn (biN.contains x) ((cEs n c (a::r)).map (.bi x))))
    else none
  | n+1,c,.Call (.Attribute o m ap) [] [] cp=>zn (wc o&&(ap.endLine==cp.line&&meN m 0)) ((cE n c o).map λx=> .me x m .nl)
  | n+1,c,.Call (.Attribute o m ap) (a::r) [] cp=>zn (wc o&&(ap.endLine==cp.line&&meN m (r.length+1))) (mk2 (cE n c o) (cEs n c (a::r)) λx y=> .me x m y)
  | n+1,c,.ListComp e [⟨tg,it,ifs,0⟩] sc _=>(cC n c e tg it ifs sc).map .lv
  | _,_,_=>none
def cEs:Nat->Sc->List Expr->Option Ex
 | 0,_,_=>none
 | n+1,c,[]=>some .nl
 | n+1,c,e::es=>zn (!zm e) (mk2 (cE n c e) (cEs n c es) .cn)
def cO:Nat->Sc->Option Expr->Option Ex
 | 0,_,_=>none
 | n+1,c,none=>some .nl
 | n+1,c,some e=>(cE n c e).map λx=> .cn x .nl
def cR:Nat->Sc->Expr->Option Ex
 | 0,_,_=>none
 | n+1,c,.ListComp e [⟨tg,it,ifs,0⟩] sc _=>cC n c e tg it ifs sc
 | n+1,c,e=>zn (!zm e) ((cE n c e).map .is)
def cC:Nat->Sc->Expr->Expr->Expr->List Expr->Scope->Option Ex
 | 0,_,_,_,_,_,_=>none
 | n+1,c,e,tg,it,ifs,sc=>(tgOf tg).bind λq=>((frOf sc).mapM (ixOf c.N)).bind λix=>
  zn (nsB c.sc sc q.1 (frOf sc)&&Xw it) ((cI n c tg it).bind λi=>(cF n {c with sc:=zL sc c.sc,N:=q.1++frOf sc} ifs).bind λf=>(cE n {c with sc:=zL sc c.sc,N:=q.1++frOf sc} e).map λx=>
   .ic q.1.length ix (if q.2 then .t (List.range q.1.length) else .n 0) i f x)
def cF:Nat->Sc->List Expr->Option Ex
 | 0,_,_=>none
 | n+1,c,[]=>some .nl
 | n+1,c,[e]=>zn (tstB 20 e) ((cE n c e).map λx=> .cn x .nl)
 | _,_,_=>none
def cI:Nat->Sc->Expr->Expr->Option Ex
  | 0,_,_,_=>none
  | n+1,c,tg,.Call (.Name x p) (a::r) [] q=>
    if ixOf c.N x=none/\glB c x=true/\c.fns.contains x=false/\(x="range"\/x="enumerate"\/x="zip") then
      (if x="range"/\r.length<=2 then (cEs n c (a::r)).map .ir
       else if x="enumerate"/\r=[]/\(tgOf tg).any (·.2)=true then zn (!zm a) ((cE n c a).map .ie)
       else if x="zip"/\r.length=1/\(tgOf tg).any (·.2)=true then (cEs n c (a::r)).map .iz
       else none)
    else (cE n c (.Call (.Name x p) (a::r) [] q)).map .is
  | n+1,c,tg,.ListComp e [⟨tg',it,ifs,0⟩] sc q=>(cE n c (.ListComp e [⟨tg',it,ifs,0⟩] sc q)).map .is
  | n+1,c,tg,e=>(cE n c e).map .is
end
def bltNs:List Str:=["tuple","len","list","sum","all","any","min","max","sorted","int","isinstance","repr","range","enumerate","zip","bool","str","reversed","ValueError"]
def vW:W->V
 | .int i=> .int i
 | .str s=> .str s
 | .bl b=> .bl b
 | .ty n=> .ty n
 | .ref a=> .ref a
 | _=> .non
structure NOk (N:En) (K:W.Frag):Prop where
 fl: ∀x w,N.kv x=some w-> ∀H,Rv H w (vW w)
 cl: ∀x C ns,N.cl x=some (C,ns)->XA K C/\ ∀f∈ns,ye K C f
 sm:SysK K
 cn: ∀x D,N.cn x=some D->x≠"ValueError"/\ ∃bm,XC K D bm
 sub: ∀c x b,N.sub c x=some b->XA K c/\((x="ValueError"/\b=true)\/ ∃D bm bmD,N.cn x=some D/\XC K c bm/\XC K D bmD/\b=(Value.ref c::bm).contains (.ref D))
 fd: ∀c f,N.fd c f=true->XA K c/\ye K c f
structure Cok (N:En) (K:W.Frag) (c:Sc) (k:Nat) (md:Bool) (E:XS2) (X:Cx):Prop where
 K:X.K=K
 sc:X.env.scope=c.sc
 nm:X.N=c.N
 calm:X.calm=true
 room:Room k X.A
 bl: ∀x,bltNs.contains x=true->X.mg x=none
 ks: ∀x w,N.kv x=some w-> ∃u,X.mg x=some u/\RelV (vW w) u
 fns: ∀x sp,N.sp x=some sp-> ∃j ps,j<=k/\HasX X.prog X.w X.K X.mg X.base j x ps (up sp)
 cls: ∀x C ns,N.cl x=some (C,ns)-> ∃j ps,j+1<=k/\HasC X.prog X.w X.K X.mg X.base j x C ps (spXi X.K ns)
 cn: ∀x D,N.cn x=some D->X.mg x=some (.ref D)
 ki: ∀x v,c.ki.lookup x=some v-> ∃u,X.mg x=some u/\RelV (V.int v) u
 land:md=false->Lands X E
theorem zK{f:Ex->Ex->Ex}(h:mk2 a b f=some x): ∃y z,a=some y/\b=some z/\x=f y z:=by
 unfold mk2 at h;cases a with
 | none=>cases h
 | some y=>
  cases b with
  | none=>cases h
  | some z=>cases h;show⟨y,z,rfl,rfl,rfl⟩
theorem zk(h:zn b o=some x):b=true/\o=some x:=by
 unfold zn at h;cases b with
 | false=>cases h
 | true=>show⟨rfl,h⟩
theorem zh{a:Option α}{f:α->β}{x:β}(h:a.map f=some x): ∃y,a=some y/\x=f y:=by
 cases a with
 | none=>cases h
 | some y=>cases h;show⟨y,rfl,rfl⟩
theorem zo{a:Option α}{f:α->Option β}{x:β}(h:a.bind f=some x): ∃y,a=some y/\f y=some x:=by
 cases a with
 | none=>cases h
 | some y=>show⟨y,rfl,h⟩
section
variable {K:W.Frag}{X:Cx}{md:Bool}
def w8(h:okN x=true):(x==("__debug__":Str))=false/\(x==("__classdict__":Str))=false/\x≠"__name__":=by
 simp only[okN,Bool.and_eq_true,Bool.not_eq_true'] at h;show⟨h.1,h.2.1,by exists h.2.2⟩
def yg(C:Cok N K c k md E X)(h:glB c x=true):Gl X x/\(x==("__debug__":Str))=false/\x≠"__name__":=by
 simp only[glB,Bool.and_eq_true,decide_eq_true_eq] at h;show⟨?_,(w8 h.2).1,(w8 h.2).2.2⟩;change X.env.scope.names.lookup x=_;rw[C.sc];show h.1
def wb:PE X e (λ_ _ _=>False):=λ_ _ _ _ _ _ h=>h.elim
def YC{T:St3->Gp->Kc->Prop}(h: ∀τ G Q,¬T τ G Q):LE E3 E T t:=fun τ G σ H Q R _ _ _ q=>(h _ _ _ q).elim
def LE.cst(h: ∀H,Rv H w v):LE E3 E (λ_ G Q=>Q w G) (tC v):=fun τ G σ H Q R rs rh rx q kk=>kk w v G H Fr.refl (h H) rh q
def LE.v:LE E3 E (den N E3 (.v i)) (tVar i):=fun τ G σ H Q R rs rh rx q kk=>by
 have q:(match τ[i]? with | some (some w)=>Q w G | _=>False):=q;split at q
 .rename_i w e
  obtain⟨v,hv,rv⟩:=rs.get e;show⟨v,hv,kk w v G H Fr.refl rv rh q⟩
 .show q.elim
def ty_ok(h:tyX x=some y):bltNs.contains x=true/\bootBuiltins x=some (.type y):=by
 unfold tyX at h;split at h
 .rename_i e;cases h;subst e;show⟨by decide,PyProof.Rows.boot_int⟩
 split at h
 .rename_i e;cases h;subst e;show⟨by decide,PyProof.Rows.boot_bool⟩
 split at h
 .rename_i e;cases h;subst e;show⟨by decide,PyProof.Rows.boot_str⟩
 split at h
 .rename_i e;cases h;subst e;show⟨by decide,PyProof.Rows.boot_tuple⟩
 split at h
 .rename_i e;cases h;subst e;show⟨by decide,PyProof.Rows.boot_list⟩
 .cases h
abbrev SE (N:En) (K:W.Frag) (c:Sc) (k:Nat) (md:Bool) (E3:XS) (E:XS2) (e:Expr) (x:Ex):Prop:= ∃t,LE E3 E (den N E3 x) t/\ ∀X,Cok N K c k md E X->PE X e t
abbrev STt (N:En) (K:W.Frag) (c:Sc) (k:Nat) (md:Bool) (E3:XS) (E:XS2) (e:Expr) (x:Ex):Prop:= ∃u,LT E3 E (fun τ G Q=>den N E3 x τ G (isB Q)) u/\ ∀X,Cok N K c k md E X->PT X e u
abbrev SW (N:En) (K:W.Frag) (c:Sc) (k:Nat) (md:Bool) (E3:XS) (E:XS2) (e:Expr) (x:Ex):Prop:= ∃u,LT E3 E (fun τ G Q=>den N E3 x τ G (isB Q)) u/\ ∀X,Cok N K c k md E X->PW X e u
abbrev SA (N:En) (K:W.Frag) (c:Sc) (k:Nat) (md:Bool) (E3:XS) (E:XS2) (es:List Expr) (x:Ex):Prop:=es.all (λe=> !zm e)=true/\ ∃t,LA E3 E es.length (dens N E3 x) t/\ ∀X,Cok N K c k md E X->PA X es t
theorem snd_name(hN:NOk N K)(h:cE (n+1) c (.Name x p)=some r):SE N K c k md E3 E (.Name x p) r:=by
 have h:(match ixOf c.N x with
  | some i=>zn (decide (Vis c.sc x)&&okN x) (some (Ex.v i))
  | none=>match c.ki.lookup x with
   | some v=>zn (glB c x) (some (Ex.c (.int v)))
   | none=>if c.ks.contains x=true then zn (glB c x) (some (Ex.k x)) else zn (glB c x) ((tyX x).map λy=>Ex.c (.ty y)))=some r:=h
 split at h
 .rename_i i hi
  obtain⟨g,e⟩:=zk h;cases e
  simp only[Bool.and_eq_true,decide_eq_true_eq] at g;obtain⟨d1,d2,_⟩:=w8 g.2;show⟨_,LE.v,λX C=>YS (by rw[C.nm];show zT hi) (by rw[C.sc];show g.1) d1 d2⟩
 .split at h
  .rename_i v hv
   obtain⟨g,e⟩:=zk h;cases e
   show⟨_,LE.cst (w:= .int v) λ_=> .int v,λX C=>?_⟩;obtain⟨hg,hd,hn⟩:=yg C g;obtain⟨u,hm,rv⟩:=C.ki x v hv;show Xs hg hm rv hd
  split at h
  .obtain⟨g,e⟩:=zk h;cases e
   cases hw:N.kv x with
   | none=>show⟨_,YC fun τ G Q q=>by
     have q:(match N.kv x with | some w=>Q w G | none=>False):=q;rw[hw] at q;show q,λX C=>wb⟩
   | some w=>
    have ed:den N E3 (.k x)=λ_ G Q=>Q w G:=by
     funext τ G Q
     change(match N.kv x with | some w=>Q w G | none=>False)=_;rw[hw]
    show⟨tC (vW w),by rw[ed];show LE.cst (hN.fl x w hw),λX C=>?_⟩;obtain⟨hg,hd,hn⟩:=yg C g;obtain⟨u,hm,rv⟩:=C.ks x w hw;show Xs hg hm rv hd
  .obtain⟨g,e⟩:=zk h;obtain⟨y,hy,rfl⟩:=zh e;obtain⟨hb,hv⟩:=ty_ok hy;show⟨_,LE.cst (w:= .ty y) λH=> .ty y,λX C=>?_⟩;obtain⟨hg,hd,hn⟩:=yg C g;show Xu (v:= .ty y) hg (C.bl x hb) hv rfl hn hd
def snd_const(h:cE (n+1) c (.Constant kk j p)=some r):SE N K c k md E3 E (.Constant kk j p) r:=by
 have h:(ZW kk).map Ex.c=some r:=h;obtain⟨v,hv,rfl⟩:=zh h;cases kk<;>cases hv
 .show⟨_,LE.cst (w:= .non) λ_=> .non,λX C=>WD⟩
 .show⟨_,LE.cst (w:= .bl _) λ_=> .bl _,λX C=>Vu⟩
 .show⟨_,LE.cst (w:= .int _) λ_=> .int _,λX C=>ZG⟩
 .show⟨_,LE.cst (w:= .str _) λ_=> .str _,λX C=>YU⟩
def LRw (E3:XS) (E:XS2) (T:St3->Gp->(Bool->List W->Gp->Prop)->Prop) (t:TE):Prop:= ∀τ G σ H (Q:Bool->List W->Gp->Prop) (R:VK),Rst H τ σ->Rh G H->Xr G H E3 E->T τ G Q->
 (∀tp ws v G' H',Fr G H G' H'->SeqV H' tp v ws->Rh G' H'->(tp=false-> ∀a,v= .ref a->G' a=none\/G' a=some (.lst ws))->Q tp ws G'->R v H')->t σ H R
def LE.row{T:St3->Gp->Kc->Prop}(h:LE E3 E T t):LRw E3 E (fun τ G Q=>T τ G λw G1=>seqW w G1 λtp ws=>Q tp ws G1) t:=fun τ G σ H Q R rs rh rx q kk=>
 h τ G σ H _ _ rs rh rx q λw v G1 H1 f a r q=>by
  unfold seqW at q;split at q
  .cases a with | tup e b=>show kk true _ _ _ _ f ⟨_,_,rfl,e,b⟩ r (λz=>by cases z) q
  .obtain⟨ws,g,q⟩:=q;cases a
   obtain⟨xs,e,b⟩:=r _ _ g;show kk false ws _ _ _ f ⟨_,xs,rfl,e,b⟩ r (λ_ a z=>by cases z;show .inr g) q
  .show q.elim
def LRw.bi{f:Str}{T:St3->Gp->(Bool->List W->Gp->Prop)->Prop}{r:List V->Hp->VK->Prop}(h:LRw E3 E T t)(hb:LB f r):LE E3 E (fun τ G Q=>T τ G λtp ws G1=>biL f tp ws G1 Q) (tCB r (z0 t tNil)):=fun τ G σ H Q R rs rh rx q kk=>
 h τ G σ H _ _ rs rh rx q λtp ws v G1 H1 f1 s r1 _ q1=>hb tp ws G1 H1 v _ _ s r1 q1 λw v G' H' f a r q=>kk w v G' H' (f1.trans f) a r q
def Nw (G:Gp) (H:Hp) (D:Addr):Prop:= ∀a o,G a=none->H a=some o->a≠D
def LCp (E3:XS) (E:XS2) (T:St3->Gp->(Bool->List W->Gp->Prop)->Prop) (t:TE):Prop:= ∀τ G σ H (Q:Bool->List W->Gp->Prop) (R:VK),Rst H τ σ->Rh G H->Xr G H E3 E->T τ G Q->
 (∀ws D G' H',Fr G H G' H'->Nw G H D->G' D=none->SeqV H' false (.ref D) ws->Rh G' H'->Q false ws G'->R (.ref D) H')->t σ H R
def LO (E3:XS) (E:XS2) (T:St3->Gp->(List W->Gp->Prop)->Prop) (t:TO):Prop:= ∀τ G σ H (Q:Option Int->Gp->Prop) (R:Option Int->Hp->Prop),Rst H τ σ->Rh G H->Xr G H E3 E->T τ G (λl G1=>Xv l λl=>Q l G1)->
 (∀o G' H',Fr G H G' H'->Rh G' H'->Q o G'->R o H')->t σ H R
def LCp.row{T:St3->Gp->(Bool->List W->Gp->Prop)->Prop}(h:LCp E3 E T t):LRw E3 E T t:=fun τ G σ H Q R rs rh rx q kk=>
 h τ G σ H Q R rs rh rx q λws D G' H' f _ g s r q=>kk false ws _ G' H' f s r (λ_ a e=>by cases e;show .inl g) q
def LCp.lv{T:St3->Gp->(Bool->List W->Gp->Prop)->Prop}(h:LCp E3 E T t):LE E3 E (fun τ G Q=>T τ G λ_ ys G2=> ∀r,G2 r=none->Q (.ref r) (updG G2 r (.lst ys))) t:=fun τ G σ H Q R rs rh rx q kk=>
 h τ G σ H _ R rs rh rx q λws D G' H' f nw g s r q=>by
  obtain⟨p,xs,e,hp,a⟩:=s;cases e
  show kk _ _ _ H' (λb o gb hb=>?_) (.ref D) (λb o gb=>?_) (q D g)
  .obtain⟨x,y⟩:=f b o gb hb;show⟨by rw[ze (nw b o gb hb)];show x,y⟩
  .by_cases z:b=D
   .subst z;rw[updG_same] at gb;cases gb;show⟨xs,hp,a⟩
   .rw[ze z] at gb;show r b o gb
theorem LE.neg{T:St3->Gp->Kc->Prop}(h:LE E3 E T t):LE E3 E (fun τ G Q=>T τ G λx G1=>match x with | .int i=>Q (.int (-i)) G1 | _=>False) (tUn (rU λi=> .int (-i)) t):=fun τ G σ H Q R rs rh rx q kk=>
 h τ G σ H _ _ rs rh rx q λw v G' H' f a r q=>by
  cases a with
  | int i=>show⟨i,rfl,kk _ _ _ _ f (.int _) r q⟩
  | _=>show q.elim
def i2m{k k':Int->Int->Prop}(h:int2 x y k)(m: ∀i j,k i j->k' i j):int2 x y k':=by
 unfold int2 at h ⊢;split at h
 .show m _ _ h
 .show h.elim
def ism{Q Q':Bool->Prop}(h:isW x y Q)(m: ∀b,Q b->Q' b):isW x y Q':=by
 unfold isW at h ⊢;split at h
 .show m _ h
 .split at h
  .show m _ h
  .show h.elim
 .show h.elim
def cmpW_mono{Q Q':Bool->Prop}(h:cmpW o x y G Q)(k: ∀b,Q b->Q' b):cmpW o x y G Q':=by
 have eqm: ∀{x y:W} {Q Q':Bool->Prop},eqW x y G Q->(∀b,Q b->Q' b)->eqW x y G Q':=λ{x y Q Q'} h k=>by
  unfold eqW at h ⊢;split at h
  .show k _ h
  .show k _ h
  .show k _ h
  .rename_i n1 n2 n3
   obtain⟨dx,dy,a,b,c,d,e,q⟩:=h;show⟨dx,dy,a,b,c,d,e,k _ q⟩
 have gm: ∀{p:Addr} {y:W} {Q Q':Option W->Prop},Zo p y G Q->(∀b,Q b->Q' b)->Zo p y G Q':=λ{p y Q Q'} h k=>by
  obtain⟨a,b,c,d,e⟩:=h;show⟨a,b,c,d,k _ e⟩
 have inm: ∀{x y:W} {Q Q':Bool->Prop},inW x y G Q->(∀b,Q b->Q' b)->inW x y G Q':=λ{x y Q Q'} h k=>by
  unfold inW at h ⊢;split at h
  .rcases h with ⟨a,b,c,d,e,f,g,i,j,q⟩ | h
   .show .inl ⟨a,b,c,d,e,f,g,i,j,k _ q⟩
   .show .inr (gm h λ_=>k _)
  .obtain⟨a,b,c,d,e,f,g,q⟩:=h;show⟨a,b,c,d,e,f,g,k _ q⟩
  .show h.elim
 unfold cmpW at h ⊢;split at h
 .split at h
  .show h.imp (λz=>⟨z.1,k _ z.2⟩) λz=>eqm z k
  .show h.imp (fun⟨a,b,c,d⟩=>⟨a,b,c,k _ d⟩) λz=>eqm z k
  .show eqm h k
 .split at h
  .show h.imp (fun⟨a,b,c,d⟩=>⟨a,b,c,k _ d⟩) λz=>eqm z λ_=>k _
  .show eqm h λ_=>k _
 .show inm h k
 .show inm h λ_=>k _
 .show i2m h λ_ _=>k _
 .show i2m h λ_ _=>k _
 .show i2m h λ_ _=>k _
 .show i2m h λ_ _=>k _
 .show ism h k
 .show ism h λ_=>k _
theorem LE.ch{Ta Tb Tc:St3->Gp->Kc->Prop}(ha:LE E3 E Ta ta)(hb:LE E3 E Tb tb)(hc:LE E3 E Tc tc)(hr:LR (cmpQ o) r)(hr':LR (cmpQ p) r'):
  LE E3 E (fun τ G Q=>Ta τ G λx G1=>Tb τ G1 λy G2=>cmpW o x y G2 λk=>br k (Tc τ G2 λz G3=>cmpW p y z G3 λk=>Q (.bl k) G3) (Q (.bl false) G2)) (YK r r' ta tb tc):=by
 intro τ G σ H Q R rs rh rx q k;show ha τ G σ H _ _ rs rh rx q λw v G1 H1 f1 a1 r1 q1=>?_;have rs1:=rs.up (f1.kt rh);show hb τ G1 σ H1 _ _ rs1 r1 (rx.up f1) q1 λw' v' G2 H2 f2 a2 r2 q2=>?_;have f12:=f1.trans f2;show hr w w' G2 H2 v v' (λx G2'=> ∃kk,x= .bl kk/\G2'=G2/\(br kk (Tc τ G2 λz G3=>cmpW p w' z G3 λk=>Q (.bl k) G3) (Q (.bl false) G2))) _ (a1.up (f2.kt r1)) a2 r2 ?_ λx z G3 H3 f3 a3 r3 q3=>?_
 .show cmpW_mono q2 λkk hk=>⟨kk,rfl,rfl,hk⟩
 .obtain⟨kk,rfl,rfl,q3⟩:=q3;cases a3
  show⟨kk,rfl,?_⟩;rw[xk] at q3;cases kk with
  | false=>show k _ _ _ _ (f12.trans f3) (.bl _) r3 q3
  | true=>
   have rs2:=(rs1.up (f2.kt r1)).up (f3.kt r2);show hc τ G3 σ H3 _ _ rs2 r3 (rx.up (f12.trans f3)) q3 λw3 v3 G4 H4 f4 a4 r4 q4=>?_;show hr' w' w3 G4 H4 _ v3 _ _ ((a2.up (f3.kt r2)).up (f4.kt r3)) a4 r4 q4 λw v G' H' f a r q=>k w v G' H' (((f12.trans f3).trans f4).trans f) a r q
end
def kTE:Key->TE
 | .inl i=>tC (.int i)
 | .inr s=>tC (.str s)
def Y9:List Key->List TE->List (TE×TE)
 | k::ks,t::ts=>(kTE k,t)::Y9 ks ts
 | _,_=>[]
def LPr (E3:XS) (E:XS2) (n:Nat) (T:St3->Gp->(List W->Gp->Prop)->Prop) (ts:List TE):Prop:= ∀kk:List Key,kk.length=n-> ∀τ G σ H (Q:List W->Gp->Prop) (R:List (V×V)->Hp->Prop),Rst H τ σ->Rh G H->Xr G H E3 E->T τ G Q->
 (∀w v G' H',w.length=n->Fr G H G' H'->Rvs H' w v->Rh G' H'->Q w G'->R ((kk.zip v).map λkv=>(kV kv.1,kv.2)) H')->Zy (Y9 kk ts) σ H R
def PEs (X:Cx):List Expr->List TE->Prop
 | [],[]=>True
 | e::es,t::ts=>PE X e t/\PEs X es ts
 | _,_=>False
structure SndAll (N:En) (K:W.Frag) (k:Nat) (n:Nat):Prop where
 e: ∀{c md E3 E ex x},(md=true->E3=X0)->cE n c ex=some x->SE N K c k md E3 E ex x
 t: ∀{c md E3 E ex x} m,(md=true->E3=X0)->cE n c ex=some x->tstB m ex=true->STt N K c k md E3 E ex x
 w: ∀{c md E3 E o vs p x} m,(md=true->E3=X0)->cE n c (.BoolOp o vs p)=some x->tstB m (.BoolOp o vs p)=true->SW N K c k md E3 E (.BoolOp o vs p) x
 a: ∀{c md E3 E es x},(md=true->E3=X0)->cEs n c es=some x->SA N K c k md E3 E es x
 v: ∀{c md E3 E es x},(md=true->E3=X0)->cEs n c es=some x-> ∃ts,LPr E3 E es.length (dens N E3 x) ts/\ ∀X,Cok N K c k md E X->PEs X es ts
 o: ∀{c md E3 E lo x},(md=true->E3=X0)->cO n c lo=some x-> ∃t,LO E3 E (dens N E3 x) t/\ ∀X,Cok N K c k md E X->PO X lo t
 r: ∀{c md E3 E ex x},(md=true->E3=X0)->cR n c ex=some x->zm ex=false/\ ∃t,LRw E3 E (denR N E3 x) t/\ ∀X,Cok N K c k md E X->PE X ex t
 cc: ∀{c md E3 E ex tg it ifs sc x} p,(md=true->E3=X0)->cC n c ex tg it ifs sc=some x-> ∃t,LCp E3 E (denR N E3 x) t/\ ∀X,Cok N K c k md E X->PE X (.ListComp ex [⟨tg,it,ifs,0⟩] sc p) t
 f: ∀{c md E3 E ifs x},(md=true->E3=X0)->cF n c ifs=some x-> ∃t,LT E3 E (denC N E3 x) t/\ ∀X,Cok N K c k md E X->PTs X ifs t
 i: ∀{c md E3 E tg ex x},(md=true->E3=X0)->cI n c tg ex=some x-> ∃t,LI E3 E (denI N E3 x) t/\ ∀X,Cok N K c k md E X->PI X tg ex t
section
variable {N:En} {K:W.Frag} {c:Sc} {X:Cx} {k n:Nat} {md:Bool} {E3:XS} {E:XS2}
def zP(C:Cok N K c k md E X){f:Str}{r:List V->Hp->VK->Prop}(hb:isBi f v)(hc:CallR X v r)(ha:PA X (a::es) t)(hm:X.mg f=none)(hg:glB c f=true)(h1:zm a=false)(h2:es.all (λe=> !zm e)=true):
  PE X (.Call (.Name f p) (a::es) [] pos) (tCB r t):=by
 obtain⟨hv,h⟩:=hb;obtain⟨g,hd,hn⟩:=yg C hg;rcases h with ⟨id,rfl⟩ | ⟨T,rfl⟩
 .show pe_cB hc hm hv ha g h1 h2 hn hd
 .show pe_cT hc hm hv ha g h1 h2 hn hd
def zA(h:(a::r).all (λe=> !zm e)=true):zm a=false/\r.all (λe=> !zm e)=true:=by
 simpa[List.all_cons] using h
theorem snd_lr{b a:Expr}{f:Str}{p pos:Pos}{y:Ex}(h:SE N K c k md E3 E b y)(hb:rgOf a=some b)(g:(decide (f="list"\/f="tuple")&&(glB c "range"&& !zm b))=true)(hg:glB c f=true):SE N K c k md E3 E (.Call (.Name f p) [a] [] pos) (.lr f y):=by
 obtain⟨t,lt,ht⟩:=h;obtain⟨q,q',rfl⟩: ∃q q',a= .Call (.Name "range" q) [b] [] q':=by
  unfold rgOf at hb;split at hb
  .split at hb
   .rename_i e;cases hb;subst e;show⟨_,_,rfl⟩
   .cases hb
  .cases hb
 simp only[Bool.and_eq_true,decide_eq_true_eq,Bool.not_eq_true'] at g;obtain⟨gf,gr,gs⟩:=g;have rngs: ∀n:Nat,rngW 0 (n:Int)=(List.range n).map fun(i:Nat)=>W.int (i:Int):=λn=>by simp[rngW]
 have rv: ∀(H:Hp) (n:Nat),Rvs H (rngW 0 (n:Int)) ((List.range n).map fun(i:Nat)=>V.int (i:Int)):=λH n=>by
  rw[rngs];have: ∀l:List Nat,Rvs H (l.map fun(i:Nat)=>W.int (i:Int)) (l.map fun(i:Nat)=>V.int (i:Int)):=λl=>by
   induction l with
   | nil=>show .nil
   | cons i l ih=>show .cons (.int _) ih
  show this _
 rcases gf with rfl | rfl
 .show⟨tCB Wu (z0 (tCB YO (z0 t tNil)) tNil),fun τ G σ H Q R rs rh rx qq kk=>?_,λX C=>?_⟩
  .show lt τ G σ H _ _ rs rh rx qq λw v G1 H1 f1 a1 r1 q1=>?_;unfold lrW at q1;split at q1
   .rename_i n
    cases a1
    obtain⟨n0,n1,q1 | q1⟩:=q1
    .obtain⟨m,rfl⟩:=Int.eq_ofNat_of_zero_le n0;show⟨_,rfl,λr hr=>⟨r,m,rfl,zj,by lia,λl hl=>?_⟩⟩;have f2:=Fr.beside (G:=G1) (u:= .rng 0 (m:Int)) hr;show kk _ _ _ _ ((f1.trans f2).trans (Fr.new hl)) (.ref l) ((r1.beside hr).lnew hl (rv _ m)) (q1.2 l ((r1.beside hr).fresh hl))
    .show absurd q1.1 ⋯
   .show q1.elim
  .show zP C ⟨PyProof.Rows.boot_list,.inr ⟨_,rfl⟩⟩ (call_listRng C.calm) (pa_1 (zP C ⟨PyProof.Rows.boot_range,.inr ⟨_,rfl⟩⟩ wY (pa_1 (ht X C) gs) (C.bl _ ⋯) gr gs rfl) rfl) (C.bl _ ⋯) hg rfl rfl
 .show⟨tCB Vn (z0 (tCB YO (z0 t tNil)) tNil),fun τ G σ H Q R rs rh rx qq kk=>?_,λX C=>?_⟩
  .show lt τ G σ H _ _ rs rh rx qq λw v G1 H1 f1 a1 r1 q1=>?_;unfold lrW at q1;split at q1
   .rename_i n
    cases a1
    obtain⟨n0,n1,q1 | q1⟩:=q1
    .show absurd q1.1 ⋯
    .obtain⟨m,rfl⟩:=Int.eq_ofNat_of_zero_le n0;show⟨_,rfl,λr hr=>⟨r,m,rfl,zj,by lia,λl hl=>?_⟩⟩;have f2:=Fr.beside (G:=G1) (u:= .rng 0 (m:Int)) hr;show kk _ _ _ _ ((f1.trans f2).trans (Fr.beside hl)) (.tup zj (rv _ m)) ((r1.beside hr).beside hl) q1.2
   .show q1.elim
  .show zP C ⟨PyProof.Rows.boot_tuple,.inr ⟨_,rfl⟩⟩ (call_tupRng C.room) (pa_1 (zP C ⟨PyProof.Rows.boot_range,.inr ⟨_,rfl⟩⟩ wY (pa_1 (ht X C) gs) (C.bl _ ⋯) gr gs rfl) rfl) (C.bl _ ⋯) hg rfl rfl
def snd_lrv{b a:Expr}{f:Str}{p pos:Pos}{y:Ex}(h:SE N K c k md E3 E b y)(hb:rvOf a=some b)(g:(decide (f="list")&&(glB c "reversed"&& !zm b))=true)(hg:glB c f=true):SE N K c k md E3 E (.Call (.Name f p) [a] [] pos) (.lrv y):=by
 obtain⟨t,lt,ht⟩:=h;obtain⟨q,q',rfl⟩: ∃q q',a= .Call (.Name "reversed" q) [b] [] q':=by
  unfold rvOf at hb;split at hb
  .split at hb
   .rename_i e;cases hb;subst e;show⟨_,_,rfl⟩
   .cases hb
  .cases hb
 simp only[Bool.and_eq_true,decide_eq_true_eq,Bool.not_eq_true'] at g;obtain⟨gf,gr,gs⟩:=g;subst gf;show⟨tCB Ws (z0 (tCB Vp (z0 t tNil)) tNil),fun τ G σ H Q R rs rh rx qq kk=>?_,λX C=>?_⟩
 .show lt τ G σ H _ _ rs rh rx qq λw v G1 H1 f1 a1 r1 q1=>?_;cases a1<;>try show q1.elim
  rename_i pa
  obtain⟨ws,gp,q1⟩:=q1;obtain⟨xs,hx,rv⟩:=r1 _ _ gp;show⟨pa,xs,rfl,hx,λr hr=>⟨r,pa,xs,rfl,zj,by rw[zi (zg hx hr)];show hx,λl hl=>?_⟩⟩;have nl:l≠r:=λz=>by rw[z,zj] at hl;cases hl
  have hl1:H1 l=none:=by rw[zi nl] at hl;show hl
  have eq1:upd (upd H1 r (rvO r pa xs.length)) r (.ext λh=> ∃o,h.get? r=some o)=upd H1 r (.ext λh=> ∃o,h.get? r=some o):=upd_upd;rw[eq1];have hl2:upd H1 r (.ext λh=> ∃o,h.get? r=some o) l=none:=by rw[zi nl];show hl1
  have r2:Rh G1 (upd H1 r (.ext λh=> ∃o,h.get? r=some o)):=r1.beside hr;show kk _ _ _ _ ((f1.trans (Fr.beside hr)).trans (Fr.new hl2)) (.ref l) (r2.lnew hl2 ((rv.up (Kt.new hr)).rev)) (q1 l (r1.fresh hl1))
 .show zP C ⟨PyProof.Rows.boot_list,.inr ⟨_,rfl⟩⟩ (call_lstRv C.calm) (pa_1 (zP C ⟨PyProof.Rows.boot_reversed,.inr ⟨_,rfl⟩⟩ call_revd (pa_1 (ht X C) gs) (C.bl _ ⋯) gr gs rfl) rfl) (C.bl _ ⋯) hg rfl rfl
theorem XE{c:Addr}(hN:NOk N K): ∀{xs:List Str} {bs:List Bool} {ds:List Addr},xs.mapM (N.sub c)=some bs->(∀x∈xs,x≠"ValueError")->xs.mapM N.cn=some ds->W.kitAny K (.ref c) (ds.map Value.ref)=some (bs.any id)
 | [],bs,ds,h,_,h'=>by simp at h h';subst h h';rfl
 | x::xs,bs,ds,h,hv,h'=>by
  rw[List.mapM_cons] at h h';cases e:N.sub c x with
  | none=>rw[e] at h;cases h
  | some b=>
   rw[e] at h;cases e2:xs.mapM (N.sub c) with
   | none=>rw[e2] at h;cases h
   | some bs'=>
    rw[e2] at h;cases h;cases d:N.cn x with
    | none=>rw[d] at h';cases h'
    | some D=>
     rw[d] at h';cases d2:xs.mapM N.cn with
     | none=>rw[d2] at h';cases h'
     | some ds'=>
      rw[d2] at h';cases h';obtain⟨xa,q⟩:=hN.sub c x b e;rcases q with ⟨z,_⟩ | ⟨D',bm,bmD,eD,xc,xd,hb⟩
      .show absurd z (hv x ξ)
      .rw[d] at eD;cases eD;change(match W.kitOne K (.ref c) (.ref D) with | some true=>some true | some false=>W.kitAny K (.ref c) (ds'.map Value.ref) | none=>none)=_;rw[WM xc xd,<-hb];cases b with
       | true=>rfl
       | false=>rw[List.any_cons];show XE hN e2 (λy hy=>hv y (ζ _ hy)) d2
def tCls:List Addr->TA
 | []=>tNil
 | D::ds=>z0 (tC (.ref D)) (tCls ds)
theorem We: ∀{ds:List Addr} {σ:St2} {H:Hp} {Q:List V->Hp->Prop},Q (ds.map V.ref) H->tCls ds σ H Q
 | [],_,_,_,q=>q
 | D::ds,σ,H,Q,q=>We (ds:=ds) (Q:=λxs H2=>Q (V.ref D::xs) H2) q
theorem WG(C:Cok N K c k md E X): ∀{es:List Expr} {xs:List Str} {ds:List Addr},nmOf es=some xs->(∀x∈xs,glB c x=true)->xs.mapM N.cn=some ds->PA X es (tCls ds)
 | [],xs,ds,h,hg,h'=>by cases h;simp at h';subst h';show YV
 | e::es,xs,ds,h,hg,h'=>by
  unfold nmOf at h;split at h
  .rename_i e2;cases e2
  .rename_i x p r e2
   cases e2
   obtain⟨ys,hy,rfl⟩:=zh h;rw[List.mapM_cons] at h';cases d:N.cn x with
   | none=>rw[d] at h';cases h'
   | some D=>
    rw[d] at h';cases d2:ys.mapM N.cn with
    | none=>rw[d2] at h';cases h'
    | some ds'=>
     rw[d2] at h';cases h';obtain⟨g,hd,hn⟩:=yg C (hg x ξ);show pa_c (WE (C.cn x D d) g hd) (WG C hy (λy hy'=>hg y (ζ _ hy')) d2)
  .cases h
theorem snd_isx(hN:NOk N K){f:Str}{p pos:Pos}{a:Expr}{es:List Expr}{y:Ex}{cs:List Str}(hg:glB c f=true)(hc:clOf c f es=some cs)(gs:zm a=false)(h:SE N K c k md E3 E a y):SE N K c k md E3 E (.Call (.Name f p) (a::es) [] pos) (.isx y cs):=by
 obtain⟨t,lt,ht⟩:=h;unfold clOf at hc;split at hc
 .rename_i x q
  split at hc
  .rename_i g
   obtain⟨rfl,g⟩:=g;cases hc
   simp only[okC,Bool.and_eq_true] at g;have one: ∀{v:V},(∀c0 b,N.sub c0 x=some b->XA K c0/\ ∀u,RelV v u->W.kitOne K (.ref c0) u=some b)->(∀X,Cok N K c k md E X->PE X (.Name x q) (tC v))->SE N K c k md E3 E (.Call (.Name "isinstance" p) [a,.Name x q] [] pos) (.isx y [x]):=λ{v} hv hp=>by
    show⟨tCB (rIsX K) (z0 t (z0 (tC v) tNil)),fun τ G σ H Q R rs rh rx qq kk=>?_,λX C=>?_⟩
    .show lt τ G σ H _ _ rs rh rx qq.2 λw u G1 H1 f1 a1 r1 q1=>?_;cases a1<;>try show q1.elim
     rename_i ea c0 dx vs ns ws xs e1 e2 e3
     have q1:(match [x].mapM (N.sub c0) with | some bs=>Q (.bl (bs.any id)) G1 | none=>False):=q1;rw[List.mapM_cons] at q1;cases e:N.sub c0 x with
     | none=>rw[e] at q1;show q1.elim
     | some b=>
      rw[e] at q1;have q2:Q (.bl (b || false)) G1:=q1;rw[Bool.or_false] at q2;obtain⟨xa,z⟩:=hv c0 b e;show⟨ea,c0,dx,vs,_,_,b,rfl,e1,e2,xa,z,kk _ _ _ _ f1 (.bl _) r1 q2⟩
    .show zP C ⟨PyProof.Rows.boot_isinstance,.inl ⟨_,rfl⟩⟩ (isX_K C.K) (pa_2 (ht X C) (hp X C) gs rfl) (C.bl _ ⋯) hg gs rfl
   cases hx:N.cn x with
   | none=>
    by_cases hv:x="ValueError"
    .subst hv;show one (v:= .ty "ValueError") (λc0 b e=>?_) λX C=>?_
     .obtain⟨xa,z⟩:=hN.sub _ _ _ e;obtain⟨bm,xc⟩:=xa.bm;rcases z with ⟨_,rfl⟩ | ⟨D,_,_,eD,_⟩
      .show⟨xa,λu hu=>by cases hu;show kit_xv xc⟩
      .rw[hx] at eD;cases eD
     .obtain⟨g1,hd,hn⟩:=yg C g.2.2;show Xu (v:= .ty "ValueError") g1 (C.bl "ValueError" ⋯) (nofun) rfl hn hd
    .show⟨λ_ _ _=>False,fun τ G σ H Q R rs rh rx qq kk=>?_,λX C=>wb⟩;rcases qq.1 x ξ with z | ⟨D,z⟩
     .show hv z
     .rw[hx] at z;cases z
   | some D=>
    show one (v:= .ref D) (λc0 b e=>?_) λX C=>?_
    .obtain⟨xa,z⟩:=hN.sub _ _ _ e;rcases z with ⟨rfl,rfl⟩ | ⟨D',bm,bmD,eD,xc,xd,hb⟩
     .show absurd rfl (hN.cn _ _ hx).1
     .rw[hx] at eD;cases eD;show⟨xa,λu hu=>by cases hu;rw[WM xc xd,hb]⟩
    .obtain⟨g1,hd,hn⟩:=yg C g.2.2;show WE (C.cn x D hx) g1 hd
  .cases hc
 .rename_i es' j q
  split at hc
  case isFalse=>cases hc
  case isTrue hf=>
  subst hf;obtain⟨xs,hxs,hc⟩:=zo hc;split at hc
  case isFalse=>cases hc
  case isTrue ga=>
  have hc:=Α hc;subst hc;have gx: ∀x∈xs,glB c x=true/\x≠"ValueError":=λx hx=>by
   have:=List.all_eq_true.mp (Bool.and_eq_true_iff.mp ga).1 x hx;simp only[okC,Bool.and_eq_true,Bool.not_eq_true',beq_eq_false_iff_ne,ne_eq] at this;show⟨this.1.2.2,this.2⟩
  cases hd:xs.mapM N.cn with
  | none=>
   show⟨λ_ _ _=>False,fun τ G σ H Q R rs rh rx qq kk=>?_,λX C=>wb⟩;have: ∀{l:List Str},(∀x∈l,∃D,N.cn x=some D)->l.mapM N.cn≠none:=λ{l}=>by
    induction l with
    | nil=>intro _ z;simp at z
    | cons x l ih=>
     intro h z;obtain⟨D,e⟩:=h x ξ;rw[List.mapM_cons,e] at z;cases e2:l.mapM N.cn with
     | none=>show ih (λy hy=>h y (ζ _ hy)) e2
     | some ds=>rw[e2] at z;cases z
   show this (λx hx=>(qq.1 x hx).resolve_left (gx x hx).2) hd
  | some ds=>
   have hdl:(ds.map V.ref).length<=sizeLine:=by
    have: ∀{l:List Str} {ds:List Addr},l.mapM N.cn=some ds->ds.length=l.length:=λ{l}=>by
     induction l with
     | nil=>intro ds h;simp at h;subst h;rfl
     | cons x l ih=>
      intro ds h;rw[List.mapM_cons] at h;cases e:N.cn x with
      | none=>rw[e] at h;cases h
      | some D=>
       rw[e] at h;cases e2:l.mapM N.cn with
       | none=>rw[e2] at h;cases h
       | some ds'=>rw[e2] at h;cases h;simp[ih e2]
    have h20:xs.length<=20:=by
     have:=(Bool.and_eq_true_iff.mp (Bool.and_eq_true_iff.mp ga).2).2;exists this
    rw[ω,this hd,sizeLine_eq];lia
   show⟨tCB (Wv K) (z0 t (z0 (tTup (tCls ds)) tNil)),fun τ G σ H Q R rs rh rx qq kk=>?_,λX C=>?_⟩
   .show lt τ G σ H _ _ rs rh rx qq.2 λw u G1 H1 f1 a1 r1 q1=>?_;change tTup (tCls ds) σ H1 _;show We ⟨hdl,λr hr=>?_⟩;cases a1<;>try show q1.elim
    rename_i ea c0 dx vs ns ws xs' e1 e2 e3
    have q1:(match xs.mapM (N.sub c0) with | some bs=>Q (.bl (bs.any id)) G1 | none=>False):=q1;cases e:xs.mapM (N.sub c0) with
    | none=>rw[e] at q1;show q1.elim
    | some bs=>
     rw[e] at q1;have xa:XA K c0:=by
      cases xs with
      | nil=>simp at ga
      | cons x xs=>
       rw[List.mapM_cons] at e;cases e4:N.sub c0 x with
       | none=>rw[e4] at e;cases e
       | some b=>show(hN.sub _ _ _ e4).1
     show⟨ea,c0,dx,r,vs,_,_,bs.any id,rfl,by rw[zi (zg e1 hr)];show e1,by rw[zi (zg e2 hr)];show e2,xa,zj,λus hu=>?_,kk _ _ _ _ (f1.trans (Fr.beside hr)) (.bl _) (r1.beside hr) q1⟩;rw[v8 hu];show XE hN e (λx hx=>(gx x hx).2) hd
   .show zP C ⟨PyProof.Rows.boot_isinstance,.inl ⟨_,rfl⟩⟩ (isXT_K C.K) (pa_2 (ht X C) (YT (WG C hxs (λx hx=>(gx x hx).1) hd)) gs rfl) (C.bl _ ⋯) hg gs rfl
 .cases hc
theorem snd_call(hN:NOk N K)(S:SndAll N K k n)(h3:md=true->E3=X0){f:Str}{p pos:Pos}{a:Expr}{es:List Expr}{x:Ex}(h:cE (n+1) c (.Call (.Name f p) (a::es) [] pos)=some x):SE N K c k md E3 E (.Call (.Name f p) (a::es) [] pos) x:=by
  replace h:(if ixOf c.N f=none/\glB c f=true then
      (if c.fns.contains f=true then (cEs n c (a::es)).map (Ex.call f)
       else if rowB f=true/\es=[] then (match rgOf a with
         | some b=>zn (decide (f="list"\/f="tuple")&&(glB c "range"&& !zm b)) ((cE n c b).map (Ex.lr f))
         | none=>(match rvOf a with
           | some b=>zn (decide (f="list")&&(glB c "reversed"&& !zm b)) ((cE n c b).map Ex.lrv)
           | none=>(cR n c a).map (Ex.rw f)))
       else (match clOf c f es with
         | some cs=>zn (!zm a) ((cE n c a).map λy=>Ex.isx y cs)
         | none=>zn (biN.contains f) ((cEs n c (a::es)).map (Ex.bi f))))
    else none)=some x:=h
  split at h
  case isFalse=>cases h
  case isTrue hh=>
    obtain⟨hi,hg⟩:=hh;split at h
    . obtain⟨y,hy,rfl⟩:=zh h
      obtain⟨st,t,lt,ht⟩:=S.a (E:=E) h3 hy;obtain⟨s1,s2⟩:=zA st;cases hs:N.sp f with
      | none=>show⟨_,YC fun τ G Q q=>by
          have q:(match N.sp f with | some sp=>dens N E3 y τ G λws G1=>sp.run ws G1 Q (E3 τ) | none=>False):=q;rw[hs] at q;show q,λX C=>wb⟩
      | some sp=>
        have ed:den N E3 (.call f y)=fun τ G Q=>dens N E3 y τ G λws G1=>sp.run ws G1 Q (E3 τ):=by
          funext τ G Q
          change(match N.sp f with | some sp=>dens N E3 y τ G λws G1=>sp.run ws G1 Q (E3 τ) | none=>False)=_;rw[hs]
        change∃t,LE E3 E (den N E3 (.call f y)) t/\_;rw[ed];cases md with
        | true=>
          have e:=h3 rfl;subst e;show⟨_,LA.call0 lt,λX C=>?_⟩;obtain⟨g,hd,hn⟩:=yg C hg;obtain⟨j,ps,hj,hx⟩:=C.fns f sp hs;show pe_f hx.calm C.room hj (ht X C) g s1 s2 hd
        | false=>
          show⟨_,LA.call lt,λX C=>?_⟩;obtain⟨g,hd,hn⟩:=yg C hg;obtain⟨j,ps,hj,hx⟩:=C.fns f sp hs;show pe_fX hx (C.land rfl) C.room hj (ht X C) g s1 s2 hd
    . split at h
      · rename_i hr
        obtain⟨hr,rfl⟩:=hr;split at h
        · rename_i b hb
          obtain⟨g,h⟩:=zk h;obtain⟨y,hy,rfl⟩:=zh h;show snd_lr (S.e (E:=E) h3 hy) hb g hg
        · split at h
          · rename_i b hb
            obtain⟨g,h⟩:=zk h;obtain⟨y,hy,rfl⟩:=zh h;show snd_lrv (S.e (E:=E) h3 hy) hb g hg
          obtain⟨y,hy,rfl⟩:=zh h;obtain⟨st,t,lt,ht⟩:=S.r (E:=E) h3 hy;obtain⟨v,r,hb,hc,lb⟩:=biLR k hr;show⟨_,lt.bi lb,λX C=>?_⟩;have hm:X.mg f=none:=C.bl f (by
            simp only[rowB,List.contains_eq_mem,List.mem_cons,List.not_mem_nil,or_false,decide_eq_true_eq] at hr;rcases hr with rfl | rfl | rfl | rfl | rfl | rfl | rfl | rfl | rfl<;>decide)
          show zP C hb (hc X C.room C.calm) (pa_1 (ht X C) st) hm hg st rfl
      · split at h
        · rename_i cs hcs
          obtain⟨gs,h⟩:=zk h;obtain⟨y,hy,rfl⟩:=zh h;show snd_isx hN hg hcs (by exists gs) (S.e (E:=E) h3 hy)
        obtain⟨gb,h⟩:=zk h;obtain⟨y,hy,rfl⟩:=zh h;obtain⟨st,t,lt,ht⟩:=S.a (E:=E) h3 hy;obtain⟨s1,s2⟩:=zA st;obtain⟨v,r,hb,hc,lc⟩:=biWR K hN.sm k gb;show⟨_,LA.cb lt lc,λX C=>?_⟩;have hm:X.mg f=none:=C.bl f (by
          simp only[biN,List.contains_eq_mem,List.mem_cons,List.not_mem_nil,or_false,decide_eq_true_eq] at gb;rcases gb with rfl | rfl | rfl | rfl | rfl | rfl<;>decide)
        show zP C hb (hc X C.K C.room C.calm) (ht X C) hm hg s1 s2
def base_of(h:wc o=true):attributeBase o m X.env (eval o X.env)=eval o X.env:=by
 unfold attributeBase;split
 .cases h
 .rfl
theorem WR: ∀{es:List Expr},es.all (λe=> !zm e)=true->(backTo cp (starEach es env)).all (λx=> !x.1)=true
 | [],_=>rfl
 | e::es,h=>by
  obtain⟨h1,h2⟩:=zA h;rw[ya h1];cases es with
  | nil=>rfl
  | cons a r=>
   have ih:=WR (env:=env) (cp:=cp) (es:=a::r) h2;obtain⟨h3,_⟩:=zA h2;rw[ya h3] at ih ⊢;simpa[backTo] using ih
def snd_me(S:SndAll N K k n)(h3:md=true->E3=X0)(h:cE (n+1) c (.Call (.Attribute o m ap) (a::es) [] cp)=some x):SE N K c k md E3 E (.Call (.Attribute o m ap) (a::es) [] cp) x:=by
 replace h:zn (wc o&&(ap.endLine==cp.line&&meN m (es.length+1))) (mk2 (cE n c o) (cEs n c (a::es)) λx y=>Ex.me x m y)=some x:=h;obtain⟨g,h⟩:=zk h;simp only[Bool.and_eq_true] at g;obtain⟨g1,g2,g3⟩:=g;obtain⟨y,z,hy,hz,rfl⟩:=zK h;obtain⟨to,lo,ho⟩:=S.e (E:=E) h3 hy;obtain⟨st,t,lt,ht⟩:=S.a (E:=E) h3 hz;obtain⟨s1,s2⟩:=zA st;obtain⟨T,id,r,ok,ty,lm⟩:=meR k g3;show⟨tBM [] T r to t,fun τ G σ H Q R rs rh rx q kk=>?_,λX C=>?_⟩
 .show lo τ G σ H _ _ rs rh rx q λw v G1 H1 f1 a1 r1 q1=>⟨ty a1 r1 q1.1,?_⟩;show lt τ G1 σ H1 _ _ (rs.up (f1.kt rh)) r1 (rx.up f1) q1.2 λws vs G2 H2 hl f2 a2 r2 q2=>?_;show lm w ws G2 H2 v vs _ _ hl (a1.up (f2.kt r1)) a2 r2 q2 λw v G' H' f a r q=>kk w v G' H' ((f1.trans f2).trans f) a r q
 .obtain⟨mo,mt⟩:=ok X C.room;have hlen:es.length+1<30:=by
   have:es.length+1<=2:=by
    simp only[meN,Bool.or_eq_true,Bool.and_eq_true,beq_iff_eq] at g3;lia
   lia
  show pe_bm_0 mo.pa mo.slot mo.ty mt (ho X C) (ht X C) (base_of g1) ?_ (by exists g2) (ya s1) (z9 s2);rw[WR st];change(true&&true&&decide ((a::es).length+0+0<30))=true;simp only[List.length_cons,Bool.true_and,decide_eq_true_eq];lia
def snd_me0(S:SndAll N K k n)(h3:md=true->E3=X0)(h:cE (n+1) c (.Call (.Attribute o m ap) [] [] cp)=some x):SE N K c k md E3 E (.Call (.Attribute o m ap) [] [] cp) x:=by
 replace h:zn (wc o&&(ap.endLine==cp.line&&meN m 0)) ((cE n c o).map λx=>Ex.me x m .nl)=some x:=h;obtain⟨g,h⟩:=zk h;simp only[Bool.and_eq_true] at g;obtain⟨g1,g2,g3⟩:=g;obtain⟨y,hy,rfl⟩:=zh h;obtain⟨to,lo,ho⟩:=S.e (E:=E) h3 hy;obtain⟨T,id,r,ok,ty,lm⟩:=meR k g3;show⟨tBM0 K T r to,fun τ G σ H Q R rs rh rx q kk=>?_,λX C=>?_⟩
 .show lo τ G σ H _ _ rs rh rx q λw v G1 H1 f1 a1 r1 q1=>⟨tyV0 (ty a1 r1 q1.1),?_⟩;show lm w [] G1 H1 v [] _ _ rfl a1 .nil r1 q1.2 λw v G' H' f a r q=>kk w v G' H' (f1.trans f) a r q
 .obtain⟨mo,mt⟩:=ok X C.room;have:=pe_bm0 (cpos:=cp) (apos:=ap) mo.pa mo.slot mo.ty mt (ho X C) (base_of g1) (by exists g2);rw[C.K] at this;show this
theorem ZI: ∀{F:List Str} {ix:List Nat},F.mapM (ixOf M)=some ix->ix.map (λi=>M[i]?)=F.map some
 | [],ix,h=>by simp at h;subst h;rfl
 | x::F,ix,h=>by
  rw[List.mapM_cons] at h;cases e:ixOf M x with
  | none=>rw[e] at h;cases h
  | some i=>
   rw[e] at h;cases e2:F.mapM (ixOf M) with
   | none=>rw[e2] at h;cases h
   | some is=>
    rw[e2] at h;cases h;rw[List.map_cons,List.map_cons,ZI e2,zT e]
def Vv(h:nsB o sc TN F=true):NBScope o sc TN F []:=by
 simp only[nsB,Bool.and_eq_true,decide_eq_true_eq] at h;obtain⟨h1,h2,h3,h4,h5,h6,h7,h8,h9⟩:=h;show {okind:=h1,kind:=h2,names:=h3,clN:=h4,fr:=h5,ff:=h6,nd:=h7,vis:=h8,loc:=h9,gl:=λx hx=>nomatch hx}
theorem xG: ∀{es:List Expr} {xs:List Str},nmOf es=some xs->(assignEach es env).length=xs.length/\(assignEach es env).findIdx? (·.1)=none
 | [],xs,h=>by cases h;show⟨rfl,rfl⟩
 | e::es,xs,h=>by
  unfold nmOf at h;split at h
  .rename_i e2;cases e2
  .rename_i x p r e2
   cases e2
   obtain⟨ys,hy,rfl⟩:=zh h;obtain⟨a,b⟩:=xG (env:=env) hy;show⟨by change(assignEach es env).length+1=_;rw[a];rfl,?_⟩;change List.findIdx? _ ((false,_)::assignEach es env)=none;rw[List.findIdx?_cons];simp[b]
  .cases h
theorem YR: ∀{es:List Expr} {xs:List Str} {is:List Nat},nmOf es=some xs->is.length=xs.length->(∀(j:Nat) (x:Str) (i:Nat) p,xs[j]? =some x->is[j]? =some i->PG Y (.Name x p) (yj i))->PGs Y es (gAll is)
 | [],xs,is,h,hl,hg=>by
  cases h
  cases is with
  | nil=>show pgs_nil
  | cons _ _=>simp at hl
 | e::es,xs,is,h,hl,hg=>by
  unfold nmOf at h;split at h
  .rename_i e2;cases e2
  .rename_i x p r e2
   cases e2
   obtain⟨ys,hy,rfl⟩:=zh h;cases is with
   | nil=>simp at hl
   | cons i is=>show pgs_cons (hg 0 x i p rfl rfl) (YR hy (by exists hl) λj x i p h1 h2=>hg (j+1) x i p (by exists h1) (by exists h2)) rfl
  .cases h
def Yo(B:NBScope X.env.scope sc q.1 F [])(hc:X.calm=true)(h:tgOf tg=some q){cl C fp s3 H3 xe}:
  ∃g,LG (if q.2 then .t (List.range q.1.length) else .n 0) g/\(∀K,X.K=K->g=(if q.2 then gTup K q.1.length (gAll (List.range q.1.length)) else yj 0))/\PG (cxN X (q.1++F) sc cl C fp s3 H3 xe) tg g:=by
 unfold tgOf at h;split at h
 .cases h
  show⟨_,LG.n,λ_ _=>rfl,pgbN B 0 rfl rfl⟩
 .obtain⟨xs,hx,rfl⟩:=zh h;have al:=xG (env:=(cxN X (xs++F) sc cl C fp s3 H3 xe).env) hx;show⟨gTup X.K xs.length (gAll (List.range xs.length)),?_,λK hK=>by subst hK;rfl,pgb_tupN hc (YR hx Sort λj x i p h1 h2=>?_) al.1 al.2⟩
  .have:=LG.t (K:=X.K) (is:=List.range xs.length);rw[List.length_range] at this;show this
  .have hj:=(Η.mp h1).1;rw[List.getElem?_range hj] at h2;cases h2
   show pgbN B j (by rw[List.getElem?_append_left hj];show h1) h1
 .cases h
def vd(h:Xw it=true): ∀x,foldedSetIterable it env x=pure x:=λx=>by
 unfold foldedSetIterable;split
 .cases h
 .rfl
theorem snd_cc(S:SndAll N K k n)(h3:md=true->E3=X0){e tg it:Expr}{ifs:List Expr}{sc:Scope}{x:Ex}(p:Pos)(h:cC (n+1) c e tg it ifs sc=some x):
  ∃t,LCp E3 E (denR N E3 x) t/\ ∀X,Cok N K c k md E X->PE X (.ListComp e [⟨tg,it,ifs,0⟩] sc p) t:=by
 unfold cC at h;obtain⟨q,hq,h⟩:=zo h;obtain⟨ix,hix,h⟩:=zo h;obtain⟨g,h⟩:=zk h;obtain⟨i,hi,h⟩:=zo h;obtain⟨f,hf,h⟩:=zo h;obtain⟨y,hy,rfl⟩:=zh h;simp only[Bool.and_eq_true] at g;have B:=Vv g.1;obtain⟨wi,li,pi⟩:=S.i (E:=E) h3 hi;obtain⟨tc,lc,pc⟩:=S.f (md:=true) (E3:=X0) (E:=E) (λ_=>rfl) hf;obtain⟨te,le,pe⟩:=S.e (md:=true) (E3:=X0) (E:=E) (λ_=>rfl) hy;have hgl: ∀K',LG (if q.2 then .t (List.range q.1.length) else .n 0) (if q.2 then gTup K' q.1.length (gAll (List.range q.1.length)) else yj 0):=λK'=>by
  cases q.2 with
  | false=>show LG.n
  | true=>
   have:=LG.t (K:=K') (is:=List.range q.1.length);rw[List.length_range] at this;show this
 show⟨Xb wi q.1.length ix (if q.2 then gTup K q.1.length (gAll (List.range q.1.length)) else yj 0) tc te,fun τ G σ H Q R rs rh rx qq kk=>?_,λX C=>?_⟩
 .show li τ G σ H _ _ rs rh rx qq λws ok J G1 H1 f1 r1 hw q1=>λD hD=>?_;show WX (E3:=X0) (E:=E) hw (hgl K) lc le (λ_ _ _=>Xr.x0) ((Rst.nones _).app ((rs.up (f1.kt rh)).sub ix)) r1 hD q1 λacc G2 H2 f2 r2 g2 s2 q2=>?_;show kk acc D G2 H2 (f1.trans f2) (λa o ga ha=>?_) g2 s2 r2 q2;show zg (f1 a o ga ha).2 hD
 .have B':NBScope X.env.scope sc q.1 (frOf sc) []:=by rw[C.sc];show B
  have blk: ∀cl Ca fp s3 H3 xe,Cok N K {c with sc:=zL sc c.sc,N:=q.1++frOf sc} k true E (cxN X (q.1++frOf sc) sc cl Ca fp s3 H3 xe):=λcl Ca fp s3 H3 xe=>
   ⟨C.K,by change zL sc X.env.scope=_;rw[C.sc],rfl,C.calm,C.room,C.bl,C.ks,C.fns,C.cls,C.cn,C.ki,λz=>by cases z⟩
  show Yp B'.toNScope (by rw[C.nm];show ZI hix) C.calm (pi X C) (λcl Ca fp s3 H3 xe=>?_) (λcl Ca fp s3 H3 xe=>pc _ (blk cl Ca fp s3 H3 xe)) (λcl Ca fp s3 H3 xe=>pe _ (blk cl Ca fp s3 H3 xe)) (vd g.2);obtain⟨gg,_,hK,hp⟩:=Yo B' C.calm hq (cl:=cl) (C:=Ca) (fp:=fp) (s3:=s3) (H3:=H3) (xe:=xe);rw[hK K C.K] at hp;show hp
def plain_of(h:y2 b=true):X2 b:=λo i=>by
 cases b<;>first | rfl | cases h
theorem snd_v(S:SndAll N K k n)(h3:md=true->E3=X0)(h:cEs (n+1) c es=some x): ∃ts,LPr E3 E es.length (dens N E3 x) ts/\ ∀X,Cok N K c k md E X->PEs X es ts:=by
 cases es with
 | nil=>
  cases (show some Ex.nl=some x from h)
  show⟨[],λkk hk τ G σ H Q R rs rh rx q kf=>?_,λX C=>trivial⟩;cases kk with
  | nil=>show kf [] [] G H rfl Fr.refl .nil rh q
  | cons _ _=>simp at hk
 | cons e es=>
  obtain⟨g,h⟩:=zk (show zn (!zm e) (mk2 (cE n c e) (cEs n c es) .cn)=some x from h);obtain⟨y,z,hy,hz,rfl⟩:=zK h;obtain⟨ta,la,pa⟩:=S.e (E:=E) h3 hy;obtain⟨ts,lt,ht⟩:=S.v (E:=E) h3 hz;show⟨ta::ts,λkk hk τ G σ H Q R rs rh rx q kf=>?_,λX C=>⟨pa X C,ht X C⟩⟩;cases kk with
  | nil=>simp at hk
  | cons k0 kk=>
   have go: ∀{H:Hp} {Q:VK},Q (kV k0) H->kTE k0 σ H Q:=λ{H Q} q=>by cases k0<;>show q
   show go (la τ G σ H _ _ rs rh rx q λw v G1 H1 f1 a1 r1 q1=>?_);show lt kk (by exists hk) τ G1 σ H1 _ _ (rs.up (f1.kt rh)) r1 (rx.up f1) q1 λws vs G2 H2 hl f2 a2 r2 q2=>kf _ _ G2 H2 (by simp[hl]) (f1.trans f2) (.cons (a1.up (f2.kt r1)) a2) r2 q2
theorem vM: ∀{ks:List (Option Expr)} {kk:List Key} {vs:List Expr} {ts:List TE},wg ks=some kk->ks.length=vs.length->PEs X vs ts->PPs X pos ks vs (Y9 kk ts)/\ks.all (·.isSome)=true/\kk.length=ks.length
 | [],kk,vs,ts,h,hl,hp=>by
  cases h
  cases vs with
  | nil=>show⟨by cases ts<;>show pps_nil,rfl,rfl⟩
  | cons _ _=>simp at hl
 | k::ks,kk,vs,ts,h,hl,hp=>by
  cases vs with
  | nil=>simp at hl
  | cons v vs=>
   cases ts with
   | nil=>show hp.elim
   | cons t ts=>
    unfold wg at h;split at h
    .rename_i e;cases e
    .rename_i e;cases e
     obtain⟨k',hk,rfl⟩:=zh h;obtain⟨a,b,c⟩:=vM (pos:=pos) hk (by exists hl) hp.2;show⟨Yn ZG hp.1 a,by simpa using b,by simp[c]⟩
    .rename_i e;cases e
     obtain⟨k',hk,rfl⟩:=zh h;obtain⟨a,b,c⟩:=vM (pos:=pos) hk (by exists hl) hp.2;show⟨Yn YU hp.1 a,by simpa using b,by simp[c]⟩
    .cases h
theorem Xz: ∀{kk:List Key} {ws:List W} {vs:List V} {a:List (Key×W)} {b:List (Key×V)},Rvs H ws vs->Rkv H a b->Rkv H (y8 a (kk.zip ws)) (y9 b (kk.zip vs))
 | [],_,_,a,b,_,r=>by simpa[y8,y9] using r
 | k::kk,_,_,a,b,.nil,r=>by simpa[y8,y9] using r
 | k::kk,_,_,a,b,.cons q qs,r=>Xz (kk:=kk) qs (Ww r k q)
theorem snd_dic(S:SndAll N K k n)(h3:md=true->E3=X0){k0:Option Expr}{ks:List (Option Expr)}{kk:List Key}{vs:List Expr}{p:Pos}{y:Ex}(hk:wg (k0::ks)=some kk)(hl:(k0::ks).length=vs.length)(h15:(k0::ks).length<=15)(hy:cEs n c vs=some y):
  SE N K c k md E3 E (.Dict (k0::ks) vs p) (.dic kk y):=by
 obtain⟨ts,lt,ht⟩:=S.v (E:=E) h3 hy;have klen:kk.length=(k0::ks).length:=by
  have: ∀(l:List (Option Expr)) (m:List Key),wg l=some m->m.length=l.length:=λl=>by
   induction l with
   | nil=>intro m h;cases h;rfl
   | cons a l ih=>
    intro m h;unfold wg at h;split at h
    .rename_i e;cases e
    .rename_i e;cases e;obtain⟨z,hz,rfl⟩:=zh h;simp[ih z hz]
    .rename_i e;cases e;obtain⟨z,hz,rfl⟩:=zh h;simp[ih z hz]
    .cases h
  show this _ _ hk
 show⟨W9 (Y9 kk ts),fun τ G σ H Q R rs rh rx q kf=>λpa hp=>?_,λX C=>?_⟩
 .show lt kk (by rw[klen,hl]) τ G σ _ _ _ (rs.up (Kt.new hp)) (rh.beside hp) (rx.up (Fr.beside hp)) q λws us G1 H1 hw f1 a1 r1 q1=>?_;have hg:G pa=none:=rh.fresh hp;obtain⟨g1,e1⟩:=f1 pa _ hg zj;have nt:=nIm e1 (λz=>z);show⟨e1,kk.zip us,rfl,by rw[List.length_zip];lia,?_⟩;show kf _ _ _ _ (λa o ga ha=>?_) (.ref pa) (r1.put (o:= .dK (y8 [] (kk.zip ws))) nt ⟨_,zj,(Xz a1 .nil).up (Kt.put nt)⟩) (q1.2 pa g1);have n:=zg ha hp;obtain⟨x1,x2⟩:=f1 a o ga (by rw[zi n];show ha);show⟨by rw[ze n];show x1,by rw[zi n];show x2⟩
 .obtain⟨a,b,_⟩:=vM (X:=X) (pos:=p) hk hl (ht X C);show pe_disp a b hl Sort h15
def snd_dic0:SE N K c k md E3 E (.Dict [] [] p) .dic0:=by
 show⟨Wd,fun τ G σ H Q R rs rh rx q kf=>λr hr=>kf _ _ _ _ (Fr.new hr) (.ref r) (rh.new (o:= .dK []) hr ⟨_,zj,.nil⟩) (q r (rh.fresh hr)),λX C=>pe_dnewK⟩
theorem snd_dicE(S:SndAll N K k n)(h3:md=true->E3=X0)(h:cE (n+1) c (.Dict (k0::ks) vs p)=some x):SE N K c k md E3 E (.Dict (k0::ks) vs p) x:=by
 replace h:(match wg (k0::ks) with
  | some kk=>zn (decide ((k0::ks).length=vs.length)&&decide ((k0::ks).length<=15)) ((cEs n c vs).map (Ex.dic kk))
  | none=>none)=some x:=h
 split at h
 .rename_i kk hk
  obtain⟨g,h⟩:=zk h;obtain⟨y,hy,rfl⟩:=zh h;simp only[Bool.and_eq_true,decide_eq_true_eq] at g;show snd_dic S h3 hk g.1 g.2 hy
 .cases h
theorem YA{f:Str}: ∀{ns:List Str} {ws:List W} {xs:List V},Rvs H ws xs->(ns.zip ws).lookup f=some w'-> ∃v,(ns.zip xs).lookup f=some v/\Rv H w' v
 | [],_,_,_,h=>by simp at h
 | n::ns,_,_,.nil,h=>by simp at h
 | n::ns,_,_,.cons a r,h=>by
  rw[List.zip_cons_cons,Ο] at h ⊢;split at h
  .cases h;show⟨_,rfl,a⟩
  .show YA r h
def LE.fld(hN:NOk N K){f:Str}(h:LE E3 E (den N E3 y) t):LE E3 E (den N E3 (.fld y f)) (tXf K t f):=fun τ G σ H Q R rs rh rx q kk=>by
 show h τ G σ H _ _ rs rh rx q λw v G1 H1 f1 a1 r1 q1=>?_;cases a1<;>try show q1.elim
 rename_i ea c0 dx vs ns ws xs e1 e2 e3
 obtain⟨g,w',hl,q1⟩:=q1;obtain⟨xa,na⟩:=hN.fd _ _ g;obtain⟨u,hu,ru⟩:=YA e3 hl;show⟨ea,c0,dx,vs,_,u,rfl,e1,e2,xa,na,hu,kk _ _ _ _ f1 ru r1 q1⟩
theorem Vl(S:SndAll N K k n)(hN:NOk N K)(h3:md=true->E3=X0)(h:cE (n+1) c ex=some x):SE N K c k md E3 E ex x:=by
 cases ex
 case Name=>show snd_name hN h
 case Constant=>show snd_const h
 case BinOp a o b p=>
  obtain⟨y,z,hy,hz,rfl⟩:=zK (show mk2 (cE n c a) (cE n c b) (.op o)=some x from h);obtain⟨ta,la,pa⟩:=S.e (E:=E) h3 hy;obtain⟨tb,lb,pb⟩:=S.e (E:=E) h3 hz;obtain⟨r,hr,lr⟩:=binR o;show⟨_,LE.op la lb lr,λX C=>pe_op (hr X) (pa X C) (pb X C)⟩
 case UnaryOp o a p=>
  cases o
  case USub=>
   obtain⟨y,hy,rfl⟩:=zh (show(cE n c a).map Ex.neg=some x from h);obtain⟨ta,la,pa⟩:=S.e (E:=E) h3 hy;show⟨_,LE.neg la,λX C=>Vt X6 (pa X C)⟩
  case Not=>
   obtain⟨y,hy,rfl⟩:=zh (show(cE n c a).map Ex.not=some x from h);obtain⟨ta,la,pa⟩:=S.e (E:=E) h3 hy;show⟨_,LE.notV la,λX C=>pe_not (pa X C)⟩
  all_goals show nn h
 case BoolOp o vs p=>
  match vs,h with
  | [],h=>show nn h
  | [a],h=>
   obtain⟨ta,la,pa⟩:=S.e (E:=E) h3 (show cE n c a=some x from h);show⟨_,la,λX C=>pe_one (pa X C)⟩
  | a::b::r,h=>
   cases o
   .obtain⟨y,z,hy,hz,rfl⟩:=zK (show mk2 (cE n c a) (cE n c (.BoolOp .And (b::r) p)) .and=some x from h);obtain⟨ta,la,pa⟩:=S.e (E:=E) h3 hy;obtain⟨tb,lb,pb⟩:=S.e (E:=E) h3 hz;show⟨_,LE.andV la lb,λX C=>pe_and (pa X C) (pb X C)⟩
   .obtain⟨y,z,hy,hz,rfl⟩:=zK (show mk2 (cE n c a) (cE n c (.BoolOp .Or (b::r) p)) .or=some x from h);obtain⟨ta,la,pa⟩:=S.e (E:=E) h3 hy;obtain⟨tb,lb,pb⟩:=S.e (E:=E) h3 hz;show⟨_,LE.orV la lb,λX C=>pe_or (pa X C) (pb X C)⟩
 case Compare a os bs p=>
  match os,bs,h with
  | [o],[b],h=>
   obtain⟨g,h⟩:=zk (show zn (!behindInMarks o b) (mk2 (cE n c a) (cE n c b) (.cmp o))=some x from h);obtain⟨y,z,hy,hz,rfl⟩:=zK h;obtain⟨ta,la,pa⟩:=S.e (E:=E) h3 hy;obtain⟨tb,lb,pb⟩:=S.e (E:=E) h3 hz;obtain⟨r,hr,lr⟩:=cmpR K k o;show⟨_,LE.op la lb lr,λX C=>pe_cmpR (hr X C.K C.room) (pa X C) (pb X C) (by exists g)⟩
  | [o,q],[b,d],h=>
   obtain⟨g,h⟩:=zk (show zn (!behindInMarks q d) ((cE n c a).bind λx=>mk2 (cE n c b) (cE n c d) (.ch o q x))=some x from h);obtain⟨u,hu,h⟩:=zo h;obtain⟨y,z,hy,hz,rfl⟩:=zK h;obtain⟨ta,la,pa⟩:=S.e (E:=E) h3 hu;obtain⟨tb,lb,pb⟩:=S.e (E:=E) h3 hy;obtain⟨tc,lc,pc⟩:=S.e (E:=E) h3 hz;obtain⟨r,hr,lr⟩:=cmpR K k o;obtain⟨r',hr',lr'⟩:=cmpR K k q;show⟨_,LE.ch la lb lc lr lr',λX C=>pe_chain (hr X C.K C.room) (hr' X C.K C.room) (pa X C) (pb X C) (pc X C) (by simpa[lastMarks] using g)⟩
  | [],_,h=>show nn h
  | [_],[],h=>show nn h
  | [_],_::_::_,h=>show nn h
  | [_,_],[],h=>show nn h
  | [_,_],[_],h=>show nn h
  | [_,_],_::_::_::_,h=>show nn h
  | _::_::_::_,_,h=>show nn h
 case IfExp t a b p=>
  obtain⟨g,h⟩:=zk (show zn (tstB 20 t) ((cE n c t).bind λx=>mk2 (cE n c a) (cE n c b) (.ite x))=some x from h);obtain⟨u,hu,h⟩:=zo h;obtain⟨y,z,hy,hz,rfl⟩:=zK h;obtain⟨ta,la,pa⟩:=S.t (E:=E) 20 h3 hu g;obtain⟨tb,lb,pb⟩:=S.e (E:=E) h3 hy;obtain⟨tc,lc,pc⟩:=S.e (E:=E) h3 hz;show⟨_,LT.ite la lb lc,λX C=>pe_ifExp (pa X C) (pb X C) (pc X C)⟩
 case Dict ks vs p=>
  cases ks with
  | nil=>
   cases vs with
   | nil=>cases (show some Ex.dic0=some x from h);show snd_dic0
   | cons _ _=>show nomatch (show(none:Option Ex)=some x from h)
  | cons k0 ks=>
   show snd_dicE S h3 h
 case Tuple es j p=>
  obtain⟨y,hy,rfl⟩:=zh (show(cEs n c es).map Ex.tup=some x from h);obtain⟨_,t,lt,ht⟩:=S.a (E:=E) h3 hy;show⟨_,LA.tup lt,λX C=>YT (ht X C)⟩
 case List es p=>
  obtain⟨y,hy,rfl⟩:=zh (show(cEs n c es).map Ex.lst=some x from h);obtain⟨_,t,lt,ht⟩:=S.a (E:=E) h3 hy;show⟨_,LA.lst lt,λX C=>pe_lst (ht X C)⟩
 case Subscript a b p=>
  have gen:y2 b=true->mk2 (cE n c a) (cE n c b) .ix=some x->SE N K c k md E3 E (.Subscript a b p) x:=λg h=>by
   obtain⟨y,z,hy,hz,rfl⟩:=zK h;obtain⟨ta,la,pa⟩:=S.e (E:=E) h3 hy;obtain⟨tb,lb,pb⟩:=S.e (E:=E) h3 hz;obtain⟨r,hr,lr⟩:=ixR K k;show⟨_,LE.op la lb lr,λX C=>pe_ix (hr X C.K C.room) (pa X C) (pb X C) (plain_of g)⟩
  cases b
  case Slice lo hi st q=>
   cases st with
   | some s=>
    have bad:zn (y2 (.Slice lo hi (some s) q)) (mk2 (cE n c a) (cE n c (.Slice lo hi (some s) q)) .ix)=some x->False:=λh=>by simp[zn,y2] at h
    cases lo with
    | some l=>show(bad h).elim
    | none=>
     cases hi with
     | some l=>show(bad h).elim
     | none=>
      obtain⟨g,h⟩:=zk (show zn (isM1 s) ((cE n c a).map .rev)=some x from h);obtain⟨y,hy,rfl⟩:=zh h;obtain⟨ta,la,pa⟩:=S.e (E:=E) h3 hy;show⟨tRev ta,fun τ G σ H Q R rs rh rx q kk=>?_,λX C=>?_⟩
      .show la τ G σ H _ _ rs rh rx q λw v G1 H1 f1 a1 r1 q1=>?_;cases a1<;>try show q1.elim
       rename_i pa xs ws e1 e2
       show⟨pa,xs,rfl,e1,λr hr=>kk _ _ _ _ (f1.trans (Fr.beside hr)) (.tup zj ((e2.rev).up (Kt.new hr))) (r1.beside hr) q1.2⟩
      .unfold isM1 at g;split at g
       .show pe_rev (p1:=default) (pa X C) (Xq λϖ s σ H Q I h=>Vt X6 ZG ϖ s σ H Q I ⟨1,rfl,h⟩)
       .cases g
   | none=>
    obtain⟨u,hu,h⟩:=zo (show((cE n c a).bind λx=>mk2 (cO n c lo) (cO n c hi) (.sl x))=some x from h);obtain⟨y,z,hy,hz,rfl⟩:=zK h;obtain⟨ta,la,pa⟩:=S.e (E:=E) h3 hu;obtain⟨tl,ll,pl⟩:=S.o (E:=E) h3 hy;obtain⟨th,lh,ph⟩:=S.o (E:=E) h3 hz;obtain⟨r,hr,lr⟩:=slR K;show⟨tSl r ta tl th,fun τ G σ H Q R rs rh rx q kk=>?_,λX C=>pe_slice (hr X C.K) (pa X C) (pl X C) (ph X C)⟩;show la τ G σ H _ _ rs rh rx q λw v G1 H1 f1 a1 r1 q1=>?_;have rs1:=rs.up (f1.kt rh);show ll τ G1 σ H1 (λl G2=>dens N E3 z τ G2 λh G3=>Xv h λh=>slW w l h G3 Q) _ rs1 r1 (rx.up f1) q1 λl G2 H2 f2 r2 q2=>?_;show lh τ G2 σ H2 (λh G3=>slW w l h G3 Q) _ (rs1.up (f2.kt r1)) r2 (rx.up (f1.trans f2)) q2 λh G3 H3 f3 r3 q3=>?_;show lr w l h G3 H3 v _ _ ((a1.up (f2.kt r1)).up (f3.kt r2)) r3 q3 λw v G' H' f a r q=>kk w v G' H' (((f1.trans f2).trans f3).trans f) a r q
  all_goals (obtain⟨g,h⟩:=zk (show zn _ (mk2 _ _ Ex.ix)=some x from h);show gen g h)
 case Call f args kws p=>
  cases kws with
  | cons _ _=>cases f<;>first | show nn h | (cases args<;>show nn h)
  | nil=>
   cases f
   case Name y q=>
    cases args with
    | nil=>show nn h
    | cons a r=>show snd_call hN S h3 h
   case Attribute o m q=>
    cases args with
    | nil=>show snd_me0 S h3 h
    | cons a r=>show snd_me S h3 h
   all_goals show nn h
 case Attribute o f p=>
  obtain⟨g,h⟩:=zk (show zn (wc o) ((cE n c o).map λx=> .fld x f)=some x from h);obtain⟨y,hy,rfl⟩:=zh h;obtain⟨ta,la,pa⟩:=S.e (E:=E) h3 hy;show⟨tXf K ta f,la.fld hN,λX C=>WC C.K (pa X C) (base_of g)⟩
 case ListComp e gs sc p=>
  match gs,h with
  | [⟨tg,it,ifs,0⟩],h=>
   obtain⟨y,hy,rfl⟩:=zh (show(cC n c e tg it ifs sc).map Ex.lv=some x from h);obtain⟨t,lt,ht⟩:=S.cc (E:=E) p h3 hy;show⟨t,lt.lv,ht⟩
  | [],h=>show nn h
  | [⟨_,_,_,.ofNat (_+1)⟩],h=>show nomatch (show(none:Option Ex)=some x from h)
  | [⟨_,_,_,.negSucc _⟩],h=>show nn h
  | ⟨_,_,_,i⟩::_::_,h=>show(by rcases i with (_ | _) | _<;>show nn h)
 all_goals show nn h
def valB:Expr->Bool
 | .UnaryOp .Not _ _=>false
 | .BoolOp .. =>false
 | .IfExp .. =>false
 | .Compare .. =>false
 | _=>true
def isTrue_val(h:valB e=true): ∀whole,isTrue e env whole=(do let v<-whole;standAt e.pos;holding [v] (truthy v)):=λwhole=>by
 cases e
 case UnaryOp o a p=>cases o<;>first | rfl | cases h
 all_goals first | rfl | cases h
theorem Vk(S:SndAll N K k n)(h3:md=true->E3=X0)(m:Nat)(h:cE (n+1) c (.BoolOp o vs p)=some x)(ht:tstB m (.BoolOp o vs p)=true):SW N K c k md E3 E (.BoolOp o vs p) x:=by
 cases m with
 | zero=>cases ht
 | succ m=>
  have ht:vs.all (tstB m)=true:=ht
  match vs,h,ht with
  | [],h,_=>show nn h
  | [a],h,ht=>
   obtain⟨u,lu,pu⟩:=S.t (E:=E) m h3 (show cE n c a=some x from h) (by exists ht);cases o
   .show⟨u,lu,λX C=>pw_and1 (pu X C)⟩
   .show⟨u,lu,λX C=>pw_or1 (pu X C)⟩
  | a::b::r,h,ht=>
   simp only[List.all_cons,Bool.and_eq_true] at ht;cases o
   .obtain⟨y,z,hy,hz,rfl⟩:=zK (show mk2 (cE n c a) (cE n c (.BoolOp .And (b::r) p)) .and=some x from h);obtain⟨ua,la,pa⟩:=S.t (E:=E) m h3 hy ht.1;obtain⟨ub,lb,pb⟩:=S.w (E:=E) (m+1) h3 hz (show(b::r).all (tstB m)=true by simp only[List.all_cons,Bool.and_eq_true];show ht.2);show⟨_,LT.andT la lb,λX C=>pw_and (pa X C) (pb X C)⟩
   .obtain⟨y,z,hy,hz,rfl⟩:=zK (show mk2 (cE n c a) (cE n c (.BoolOp .Or (b::r) p)) .or=some x from h);obtain⟨ua,la,pa⟩:=S.t (E:=E) m h3 hy ht.1;obtain⟨ub,lb,pb⟩:=S.w (E:=E) (m+1) h3 hz (show(b::r).all (tstB m)=true by simp only[List.all_cons,Bool.and_eq_true];show ht.2);show⟨_,LT.orT la lb,λX C=>pw_or (pa X C) (pb X C)⟩
theorem snd_t(S:SndAll N K k n)(hN:NOk N K)(h3:md=true->E3=X0)(m:Nat)(h:cE (n+1) c ex=some x)(ht:tstB m ex=true):STt N K c k md E3 E ex x:=by
 by_cases hv:valB ex=true
 .obtain⟨t,lt,pt⟩:=Vl (E:=E) S hN h3 h;show⟨tB t,lt.toT,λX C=>pt_val (pt X C) (isTrue_val hv)⟩
 cases m with
 | zero=>cases ht
 | succ m=>
  cases ex
  case UnaryOp o a p=>
   cases o
   case Not=>
    obtain⟨y,hy,rfl⟩:=zh (show(cE n c a).map Ex.not=some x from h);obtain⟨u,lu,pu⟩:=S.t (E:=E) m h3 hy ht;show⟨_,LT.notT lu,λX C=>pt_not (pu X C)⟩
   all_goals show absurd rfl hv
  case BoolOp o vs p=>
   obtain⟨u,lu,pu⟩:=Vk (E:=E) S h3 (m+1) h ht;show⟨u,lu,λX C=>(pu X C).pt⟩
  case IfExp=>cases ht
  case Compare a os bs p=>
   match os,bs,h,ht with
   | [o],[b],h,_=>
    obtain⟨g,h⟩:=zk (show zn (!behindInMarks o b) (mk2 (cE n c a) (cE n c b) (.cmp o))=some x from h);obtain⟨y,z,hy,hz,rfl⟩:=zK h;obtain⟨ta,la,pa⟩:=S.e (E:=E) h3 hy;obtain⟨tb,lb,pb⟩:=S.e (E:=E) h3 hz;obtain⟨r,hr,lr⟩:=cmpR K k o;show⟨_,(LE.op la lb lr).toT,λX C=>pt_cmpR (hr X C.K C.room) (pa X C) (pb X C) (by exists g)⟩
   | [o,q],[b,d],h,_=>
    obtain⟨g,h⟩:=zk (show zn (!behindInMarks q d) ((cE n c a).bind λx=>mk2 (cE n c b) (cE n c d) (.ch o q x))=some x from h);obtain⟨u,hu,h⟩:=zo h;obtain⟨y,z,hy,hz,rfl⟩:=zK h;obtain⟨ta,la,pa⟩:=S.e (E:=E) h3 hu;obtain⟨tb,lb,pb⟩:=S.e (E:=E) h3 hy;obtain⟨tc,lc,pc⟩:=S.e (E:=E) h3 hz;obtain⟨r,hr,lr⟩:=cmpR K k o;obtain⟨r',hr',lr'⟩:=cmpR K k q;show⟨_,(LE.ch la lb lc lr lr').toT,λX C=>pt_chain (hr X C.K C.room) (hr' X C.K C.room) (pa X C) (pb X C) (pc X C) (by simpa[lastMarks] using g)⟩
   | [],_,h,_=>show nn h
   | [_],[],h,_=>show nn h
   | [_],_::_::_,h,_=>show nn h
   | [_,_],[],h,_=>show nn h
   | [_,_],[_],h,_=>show nn h
   | [_,_],_::_::_::_,h,_=>show nn h
   | _::_::_::_,_,h,_=>show nn h
  all_goals show absurd rfl hv
theorem snd_a(S:SndAll N K k n)(h3:md=true->E3=X0)(h:cEs (n+1) c es=some x):SA N K c k md E3 E es x:=by
 cases es with
 | nil=>
  cases (show some Ex.nl=some x from h)
  show⟨rfl,_,LA.nil,λX C=>YV⟩
 | cons e es=>
  obtain⟨g,h⟩:=zk (show zn (!zm e) (mk2 (cE n c e) (cEs n c es) .cn)=some x from h);obtain⟨y,z,hy,hz,rfl⟩:=zK h;obtain⟨ta,la,pa⟩:=S.e (E:=E) h3 hy;obtain⟨st,t,lt,ht⟩:=S.a (E:=E) h3 hz;have g':zm e=false:=by exists g
  show⟨by simp only[List.all_cons,g,st,Bool.and_self],_,LA.cons la lt,λX C=>pa_c (pa X C) (ht X C) g'⟩
theorem snd_o(S:SndAll N K k n)(h3:md=true->E3=X0){lo:Option Expr}{x:Ex}(h:cO (n+1) c lo=some x): ∃t,LO E3 E (dens N E3 x) t/\ ∀X,Cok N K c k md E X->PO X lo t:=by
 cases lo with
 | none=>
  cases (show some Ex.nl=some x from h)
  show⟨Xa,fun τ G σ H Q R rs rh rx q kk=>kk none G H Fr.refl rh q,λX C=>po_none⟩
 | some e=>
  obtain⟨y,hy,rfl⟩:=zh (show(cE n c e).map (λx=>Ex.cn x .nl)=some x from h);obtain⟨ta,la,pa⟩:=S.e (E:=E) h3 hy;show⟨Wb ta,fun τ G σ H Q R rs rh rx q kk=>?_,λX C=>Xq (pa X C)⟩;show la τ G σ H _ _ rs rh rx q λw v G' H' f a r q=>?_;cases a with
  | int i=>show⟨i,rfl,kk (some i) G' H' f r q⟩
  | _=>show q.elim
theorem snd_f(S:SndAll N K k n)(h3:md=true->E3=X0)(h:cF (n+1) c ifs=some x): ∃t,LT E3 E (denC N E3 x) t/\ ∀X,Cok N K c k md E X->PTs X ifs t:=by
 match ifs,h with
 | [],h=>
  cases (show some Ex.nl=some x from h)
  show⟨tAll,fun τ G σ H Q R rs rh rx q kk=>kk true G H Fr.refl rh q,λX C=>pts_nil⟩
 | [e],h=>
  obtain⟨g,h⟩:=zk (show zn (tstB 20 e) ((cE n c e).map λx=> .cn x .nl)=some x from h);obtain⟨y,hy,rfl⟩:=zh h;obtain⟨u,lu,pu⟩:=S.t (E:=E) 20 h3 hy g;show⟨u,lu,λX C=>pts_one (pu X C)⟩
 | _::_::_,h=>show nomatch (show(none:Option Ex)=some x from h)
def snd_r(S:SndAll N K k n)(h3:md=true->E3=X0)(h:cR (n+1) c ex=some x):zm ex=false/\ ∃t,LRw E3 E (denR N E3 x) t/\ ∀X,Cok N K c k md E X->PE X ex t:=by
 unfold cR at h;split at h
 .rename_i hh;cases hh
 .rename_i hh;cases hh
  obtain⟨t,lt,pt⟩:=S.cc (E:=E) _ h3 h;show⟨rfl,t,lt.row,pt⟩
 .rename_i hq hh;cases hq
  obtain⟨g,h⟩:=zk h;obtain⟨y,hy,rfl⟩:=zh h;obtain⟨t,lt,pt⟩:=S.e (E:=E) h3 hy;show⟨by simpa using g,t,lt.row,pt⟩
theorem LE.is{T:St3->Gp->Kc->Prop}(h:LE E3 E T t):LI E3 E (fun τ G Q=>T τ G λw G1=>xS w G1 Q) (iSeq K t):=fun τ G σ H Q R rs rh rx q kk=>
 h τ G σ H _ _ rs rh rx q λw v G1 H1 f a r q=>by
  obtain⟨tp,p,ws,ok,G2,rfl,sg,st,⟨xs,hx⟩,q⟩:=wZ a r q;have:=kk ws ok _ G2 H1 (f.sub sg) (r.sub sg) (walk_seq (K:=K) st) q;cases tp with
  | true=>show⟨p,rfl,.inr ⟨⟨xs,SqT.of hx⟩,this⟩⟩
  | false=>show⟨p,rfl,.inl ⟨⟨xs,SqL.of hx⟩,this⟩⟩
def YM(h:SE N K c k md E3 E ex x): ∃t,LI E3 E (denI N E3 (.is x)) t/\ ∀X,Cok N K c k md E X->PI X tg ex t:=by
 obtain⟨t,lt,pt⟩:=h;show⟨iSeq K t,lt.is,λX C=>?_⟩;have:=pi_seq (tg:=tg) (pt X C);rw[C.K] at this;show this
def X8{tg:Expr}(h:(tgOf tg).any (·.2)=true): ∃es j p,tg= .Tuple es j p:=by
 unfold tgOf at h;split at h
 .simp at h
 .show⟨_,_,_,rfl⟩
 .simp at h
def LA.rng1{T:St3->Gp->(List W->Gp->Prop)->Prop}{t:TA}(h:LA E3 E 1 T t):LI E3 E (fun τ G Q=>T τ G λws G1=>rngA ws λws=>Q ws (λ_=>True) G1) (WP t):=fun τ G σ H Q R rs rh rx q kk=>
 h τ G σ H _ _ rs rh rx q λws vs G1 H1 hl f a r q=>by
  unfold rngA at q;split at q
  .obtain⟨v,rfl,ra⟩:=a.one;cases ra
   have:=kk _ _ _ G1 H1 f r (Z3 (G:=G1) (H:=H1) (lo:=0)) q.2;rw[Int.sub_zero] at this;show⟨_,rfl,q.1.1,q.1.2,this⟩
  .simp at hl
  .simp at hl
  .show q.elim
def LA.rng2{T:St3->Gp->(List W->Gp->Prop)->Prop}(h:LA E3 E 2 T t):LI E3 E (fun τ G Q=>T τ G λws G1=>rngA ws λws=>Q ws (λ_=>True) G1) (WO t):=fun τ G σ H Q R rs rh rx q kk=>
 h τ G σ H _ _ rs rh rx q λws vs G1 H1 hl f a r q=>by
  unfold rngA at q;split at q
  .simp at hl
  .obtain⟨v,u,rfl,ra,rb⟩:=a.two;cases ra;cases rb
   show⟨_,_,rfl,q.1,kk _ _ _ G1 H1 f r Z3 q.2⟩
  .simp at hl
  .show q.elim
def walk_rng2{G:Gp}{H:Hp}{lo:Int}{n:Nat}:Walk G H (Itrs lo 2 n) ((List.range n).map fun(m:Nat)=>W.int (lo+m*2)) (λ_=>True):=λi G2 H2 f r _=>by
 show⟨λw hw=>?_,λh=>?_⟩
 .have hi:i<n:=by
   have:=(Η.mp hw).1;exists this
  rw[Ν,List.getElem?_range hi] at hw;have hw:W.int (lo+(i:Int)*2)=w:=Α hw;subst hw;show⟨hi,λx H3 h=>?_⟩;obtain⟨rfl,rfl⟩:=h;show⟨.int _,r,Fr.refl⟩
 .change n<=i;rw[h];simp
def LA.rng3{T:St3->Gp->(List W->Gp->Prop)->Prop}(h:LA E3 E 3 T t):LI E3 E (fun τ G Q=>T τ G λws G1=>rngA ws λws=>Q ws (λ_=>True) G1) (VF t):=fun τ G σ H Q R rs rh rx q kk=>
 h τ G σ H _ _ rs rh rx q λws vs G1 H1 hl f a r q=>by
  unfold rngA at q;split at q
  .simp at hl
  .simp at hl
  .cases a with | cons ra a=>cases a with | cons rb a=>cases a with | cons rc a=>
   cases a;cases ra;cases rb;cases rc
   show⟨_,_,rfl,q.1,kk _ _ _ G1 H1 f r walk_rng2 q.2⟩
  .show q.elim
def LE.en{T:St3->Gp->Kc->Prop}(h:LE E3 E T t):LI E3 E (fun τ G Q=>T τ G λx G1=>xS x G1 λws ok G2=>Q (enuW 0 ws) ok G2) (iE2 K (z0 t tNil)):=fun τ G σ H Q R rs rh rx q kk=>
 h τ G σ H _ _ rs rh rx q λw v G1 H1 f a r q=>by
  obtain⟨tp,p,ws,ok,G2,rfl,sg,st,⟨xs,hx⟩,q⟩:=wZ a r q;show⟨p,tp,rfl,⟨xs,SqB.of hx⟩,kk _ ok _ G2 H1 (f.sub sg) (r.sub sg) (walk_en (K:=K) st) q⟩
def LA.zip2{T:St3->Gp->(List W->Gp->Prop)->Prop}(h:LA E3 E 2 T t):LI E3 E (fun τ G Q=>T τ G λws G1=>zipA ws G1 Q) (iZ2 K t):=fun τ G σ H Q R rs rh rx q kk=>
 h τ G σ H _ _ rs rh rx q λws vs G1 H1 hl f a r q=>by
  unfold zipA at q;split at q
  .obtain⟨v,u,rfl,ra,rb⟩:=a.two;obtain⟨t,p,ws,ok,G2,rfl,sg,st,⟨xs,hx⟩,q⟩:=wZ ra r q;obtain⟨t',p',ws',ok',G3,rfl,sg',st',⟨xs',hx'⟩,q⟩:=wZ rb (r.sub sg) q;have sub:SubG G3 G1:=λa o e=>sg a o (sg' a o e);show⟨_,_,t,t',rfl,⟨xs,SqB.of hx⟩,⟨xs',SqB.of hx'⟩,kk _ _ _ G3 H1 (f.sub sub) (r.sub sub) (walk_zip (K:=K) (st.sub sg' (r.sub sg)) st') q⟩
  .show q.elim
theorem snd_ic(S:SndAll N K k n)(h3:md=true->E3=X0){f:Str}(h:cI (n+1) c tg (.Call (.Name f p) (a::r) [] q)=some x): ∃t,LI E3 E (denI N E3 x) t/\ ∀X,Cok N K c k md E X->PI X tg (.Call (.Name f p) (a::r) [] q) t:=by
  replace h:(if ixOf c.N f=none/\glB c f=true/\c.fns.contains f=false/\(f="range"\/f="enumerate"\/f="zip") then
      (if f="range"/\r.length<=2 then (cEs n c (a::r)).map Ex.ir
       else if f="enumerate"/\r=[]/\(tgOf tg).any (·.2)=true then zn (!zm a) ((cE n c a).map Ex.ie)
       else if f="zip"/\r.length=1/\(tgOf tg).any (·.2)=true then (cEs n c (a::r)).map Ex.iz
       else none)
    else (cE n c (.Call (.Name f p) (a::r) [] q)).map Ex.is)=some x:=h
  split at h
  . rename_i g
    obtain⟨g1,g2,g3,g4⟩:=g;split at h
    · rename_i gr
      obtain⟨rfl,hl⟩:=gr;obtain⟨y,hy,rfl⟩:=zh h;obtain⟨st,t,lt,ht⟩:=S.a (E:=E) h3 hy
      match r,hl,st,lt,ht with
      | [],_,st,lt,ht=>
        show⟨_,lt.rng1,λX C=>?_⟩;obtain⟨hg,hd,hn⟩:=yg C g2;show pi_r1 (C.bl _ ⋯) (ht X C) hg (zA st).1
      | [b],_,st,lt,ht=>
        show⟨_,lt.rng2,λX C=>?_⟩;obtain⟨hg,hd,hn⟩:=yg C g2;show pi_r2 (C.bl _ ⋯) (ht X C) hg (zA st).1 (zA (zA st).2).1
      | [b,d],_,st,lt,ht=>
        show⟨_,lt.rng3,λX C=>?_⟩;obtain⟨hg,hd,hn⟩:=yg C g2;show pi_r3 (C.bl _ ⋯) (ht X C) hg (zA st).1 (zA (zA st).2).1 (zA (zA (zA st).2).2).1
      | _::_::_::_,hl,_,_,_=>show absurd hl Sort
    · split at h
      · rename_i gr
        obtain⟨rfl,rfl,ht⟩:=gr;obtain⟨es,j,pp,rfl⟩:=X8 ht;obtain⟨gs,h⟩:=zk h;obtain⟨y,hy,rfl⟩:=zh h;obtain⟨t,lt,ht⟩:=S.e (E:=E) h3 hy;have gs:zm a=false:=by exists gs
        show⟨_,lt.en (K:=K),λX C=>?_⟩;obtain⟨hg,hd,hn⟩:=yg C g2;have:=pi_e2 (es:=es) (kt:=j) (pt:=pp) (p:=p) (pos:=q) (C.bl "enumerate" ⋯) (pa_1 (ht X C) gs) hg gs;rw[C.K] at this;show this
      · split at h
        · rename_i gr
          obtain⟨rfl,hl,ht⟩:=gr;obtain⟨es,j,pp,rfl⟩:=X8 ht;obtain⟨y,hy,rfl⟩:=zh h;obtain⟨st,t,lt,ht⟩:=S.a (E:=E) h3 hy
          match r,hl,st,lt,ht with
          | [b],_,st,lt,ht=>
            show⟨_,lt.zip2 (K:=K),λX C=>?_⟩;obtain⟨hg,hd,hn⟩:=yg C g2;have:=pi_z2 (es:=es) (kt:=j) (pt:=pp) (p:=p) (pos:=q) (C.bl "zip" ⋯) (ht X C) hg (zA st).1 (zA (zA st).2).1;rw[C.K] at this;show this
          | [],hl,_,_,_=>show absurd hl Sort
          | _::_::_,hl,_,_,_=>show absurd hl Sort
        · cases h
  . obtain⟨y,hy,rfl⟩:=zh h
    show YM (S.e (E:=E) h3 hy)
def snd_i(S:SndAll N K k n)(h3:md=true->E3=X0)(h:cI (n+1) c tg ex=some x): ∃t,LI E3 E (denI N E3 x) t/\ ∀X,Cok N K c k md E X->PI X tg ex t:=by
 have h0:=h;unfold cI at h;split at h
 .rename_i hh;cases hh
 .rename_i hh;cases hh
  show snd_ic S h3 h0
 .rename_i hh;cases hh
  obtain⟨y,hy,rfl⟩:=zh h;show YM (S.e (E:=E) h3 hy)
 .rename_i hq _ _;cases hq
  obtain⟨y,hy,rfl⟩:=zh h;show YM (S.e (E:=E) h3 hy)
theorem snd(hN:NOk N K): ∀n,SndAll N K k n
 | 0=>by
  constructor<;>intros<;>rename_i h<;>first
   | (show nn h)
   | (rename_i h';show nomatch (show(none:Option Ex)=some _ from h'))
 | n+1=>by
  have S:=snd hN n;show⟨λh3 h=>Vl S hN h3 h,λm h3 h ht=>snd_t S hN h3 m h ht,λm h3 h ht=>Vk S h3 m h ht,λh3 h=>snd_a S h3 h,λh3 h=>snd_v S h3 h,λh3 h=>snd_o S h3 h,λh3 h=>snd_r S h3 h,λp h3 h=>snd_cc S h3 p h,λh3 h=>snd_f S h3 h,λh3 h=>snd_i S h3 h⟩
end
def yF:Expr->Bool
 | .ListComp .. =>true
 | .SetComp .. =>true
 | .DictComp .. =>true
 | _=>false
def YY:Expr->Bool
 | .Tuple .. =>true
 | _=>false
def zJ (b:Bool) (x:Option Sx):Option Sx:=if b then x else none
theorem zI(h:zJ b o=some x):b=true/\o=some x:=by
 unfold zJ at h;cases b with
 | false=>cases h
 | true=>show⟨rfl,h⟩
def hE:Nat->Sc->Expr->Option Ex
 | 0,_,_=>none
 | n+1,c,.Name x _=>(ixOf c.N x).bind λi=>zn (decide (Vis c.sc x)&&okN x) (some (.v i))
 | n+1,c,.Constant k _ _=>(ZW k).map .c
 | n+1,c,.Attribute o f _=>zn (wc o) ((hE n c o).map λx=> .fld x f)
 | n+1,c,.Tuple [a,b] _ _=>zn (!zm a&& !zm b) (mk2 (hE n c a) (hE n c b) λx y=> .tup (.cn x (.cn y .nl)))
 | _,_,_=>none
def cH (c:Sc):Stmt->Option Sx
 | .Assign [.Name y _] e _=>zJ (!yF e) ((ixOf c.N y).bind λi=>(hE 8 c e).map (.set (.n i)))
 | _=>none
mutual
def cS:Nat->Sc->Stmt->Option Sx
 | 0,_,_=>none
 | n+1,c,.Pass _=>some .nop
 | n+1,c,.Break _=>some .brk
 | n+1,c,.Continue _=>some .cnt
 | n+1,c,.Return none _=>some .retN
 | n+1,c,.Return (some e) _=>(cE 60 c e).map .ret
 | n+1,c,.Expr e _=>zJ (!yF e) ((cE 60 c e).map .ex)
 | n+1,c,.Assign [.Name y _] e _=>(ixOf c.N y).bind λi=>(cE 60 c e).map (.set (.n i))
 | n+1,c,.Assign [.Tuple es k p] e _=>(tgS c.N (.Tuple es k p)).bind λg=>zJ (!YY e&& !yF e) ((cE 60 c e).map (.set g))
 | n+1,c,.Assign [.Subscript o i _] e _=>zJ (y2 i&& !yF e) ((cE 60 c o).bind λx=>(cE 60 c i).bind λy=>(cE 60 c e).map (.put x y))
 | n+1,c,.AugAssign (.Name y _) o e _=>zJ (decide (o= .Add) || decide (o= .Sub)) ((ixOf c.N y).bind λi=>(cE 60 c e).map (.aug i o))
 | n+1,c,.Raise (some (.Call (.Name x _) (a::r) [] _)) none _=>zJ (decide (ixOf c.N x=none)&&glB c x) ((cEs 60 c (a::r)).map (.raise x))
 | n+1,c,.Try b [.ExceptHandler (some (.Name x _)) (some y) [s] _] [] [] _=>zJ (okC c x&&decide (c.sc.names.lookup y=some .local)) ((ixOf c.N y).bind λi=>(cSs n c b).bind λu=>(cH c s).map (.tr u x i))
 | n+1,c,.If t a b _=>zJ (tstB 20 t) ((cE 60 c t).bind λx=>(cSs n c a).bind λy=>(cSs n c b).map (.iff x y))
 | n+1,c,.For tg it b [] _=>zJ (Xw it) ((tgS c.N tg).bind λg=>(cI 60 c tg it).bind λi=>(cSs n c b).map (.fo g i))
 | n+1,c,.While t b [] _=>zJ (tstB 20 t) ((cE 60 c t).bind λx=>(cSs n c b).map (.wh x))
 | _,_,_=>none
def cSs:Nat->Sc->List Stmt->Option Sx
 | 0,_,_=>none
 | n+1,c,[]=>some .nop
 | n+1,c,[s]=>cS n c s
 | n+1,c,s::r=>(cS n c s).bind λx=>(cSs n c r).map (.seq x)
end
structure CokS (N:En) (K:W.Frag) (c:Sc) (k:Nat) (md:Bool) (E:XS2) (X:Cx):Prop extends Cok N K c k md E X where
 nd:c.N.Nodup
 loc: ∀x∈c.N,Loc c.sc x
 fn: ∀x,X.fn x=true
 pass:PassesOwn (model X.prog X.w) X.A X.env X.xe
 stk:X.stack=X.env::X.outer
 frm:X.env.frame=some X.env.locals
 noex:X.ex=[]
abbrev SS (N:En) (K:W.Frag) (c:Sc) (k:Nat) (md:Bool) (E3:XS) (E:XS2) (s:Stmt) (x:Sx):Prop:= ∃t,LS E3 E (denS N E3 x) t/\ ∀X,CokS N K c k md E X->PS X s t
abbrev SSs (N:En) (K:W.Frag) (c:Sc) (k:Nat) (md:Bool) (E3:XS) (E:XS2) (s:List Stmt) (x:Sx):Prop:= ∃t,LS E3 E (denS N E3 x) t/\ ∀X,CokS N K c k md E X->PSs X s t
section
variable {N:En} {K:W.Frag} {c:Sc} {X:Cx} {k n:Nat} {md:Bool} {E3:XS} {E:XS2}
def Z6(h:yF e=false):swapsWith e t l env=pure false:=by
 cases e<;>first | rfl | cases h
def Wz(C:CokS N K c k md E X)(h:ixOf c.N y=some i):PG X (.Name y p) (yj i):=by
 have hi:X.N[i]? =some y:=by rw[C.nm];show zT h
 show ZF (by rw[C.nm];show C.nd) hi ?_ (.inl (C.fn y));rw[C.sc];show C.loc y (by rw[<-C.nm];show Β hi)
theorem Yx{M:List Str}: ∀{xs:List Str} {is:List Nat},xs.mapM (ixOf M)=some is->is.length=xs.length/\ ∀(j:Nat) (x:Str) (i:Nat),xs[j]? =some x->is[j]? =some i->ixOf M x=some i
 | [],is,h=>by simp at h;subst h;show⟨rfl,λj x i h=>by simp at h⟩
 | x::xs,is,h=>by
  rw[List.mapM_cons] at h;cases e:ixOf M x with
  | none=>rw[e] at h;cases h
  | some i=>
   rw[e] at h;cases e2:xs.mapM (ixOf M) with
   | none=>rw[e2] at h;cases h
   | some js=>
    rw[e2] at h;cases h;obtain⟨hl,ih⟩:=Yx e2;show⟨by simp[hl],λj y i' h1 h2=>?_⟩;cases j with
    | zero=>simp at h1 h2;subst h1 h2;show e
    | succ j=>show ih j y i' (by exists h1) (by exists h2)
def WB(h:tgS c.N tg=some g3): ∃g,LG g3 g/\ ∀X,CokS N K c k md E X->PG X tg g:=by
 unfold tgS at h;split at h
 .obtain⟨i,hi,rfl⟩:=zh h;show⟨_,LG.n,λX C=>Wz C hi⟩
 .obtain⟨xs,hx,h⟩:=zo h;obtain⟨is,his,rfl⟩:=zh h;obtain⟨hl,hg⟩:=Yx his;show⟨gTup K is.length (gAll is),LG.t,λX C=>?_⟩;have al:=xG (env:=X.env) hx;rw[<-C.K];show WA (X:=X) C.calm (YR (Y:=X) hx hl λj x i p h1 h2=>Wz C (hg j x i h1 h2)) (n:=is.length) (by rw[al.1,hl]) al.2
 .cases h
theorem snd_cs(hN:NOk N K)(h3:md=true->E3=X0)(hy:ixOf c.N y=some i)(h:cC (n+1) c e tg it ifs sc=some x):
  ∃t,LCp E3 E (denR N E3 x) t/\ ∀X,CokS N K c k md E X->PS X (.Assign [.Name y py] (.ListComp e [⟨tg,it,ifs,0⟩] sc p) sp) (tAsg t (yj i)):=by
 have S:SndAll N K k n:=snd hN n;have S1:SndAll N K k (n+1):=snd hN (n+1);obtain⟨_,_,hP0⟩:=S1.cc (E:=E) p h3 h;unfold cC at h;obtain⟨q,hq,h⟩:=zo h;obtain⟨ix,hix,h⟩:=zo h;obtain⟨g,h⟩:=zk h;obtain⟨ii,hi,h⟩:=zo h;obtain⟨f,hf,h⟩:=zo h;obtain⟨z,hz,rfl⟩:=zh h;simp only[Bool.and_eq_true] at g;have B:=Vv g.1;obtain⟨wi,li,pi⟩:=S.i (E:=E) h3 hi;obtain⟨tc,lc,pc⟩:=S.f (md:=true) (E3:=X0) (E:=E) (λ_=>rfl) hf;obtain⟨te,le,pe⟩:=S.e (md:=true) (E3:=X0) (E:=E) (λ_=>rfl) hz;have hgl: ∀K',LG (if q.2 then .t (List.range q.1.length) else .n 0) (if q.2 then gTup K' q.1.length (gAll (List.range q.1.length)) else yj 0):=λK'=>by
  cases q.2 with
  | false=>show LG.n
  | true=>
   have:=LG.t (K:=K') (is:=List.range q.1.length);rw[List.length_range] at this;show this
 show⟨Xb wi q.1.length ix (if q.2 then gTup K q.1.length (gAll (List.range q.1.length)) else yj 0) tc te,fun τ G σ H Q R rs rh rx qq kk=>?_,λX C=>?_⟩
 .show li τ G σ H _ _ rs rh rx qq λws ok J G1 H1 f1 r1 hw q1=>λD hD=>?_;show WX (E3:=X0) (E:=E) hw (hgl K) lc le (λ_ _ _=>Xr.x0) ((Rst.nones _).app ((rs.up (f1.kt rh)).sub ix)) r1 hD q1 λacc G2 H2 f2 r2 g2 s2 q2=>?_;show kk acc D G2 H2 (f1.trans f2) (λa o ga ha=>?_) g2 s2 r2 q2;show zg (f1 a o ga ha).2 hD
 .have B':NBScope X.env.scope sc q.1 (frOf sc) []:=by rw[C.sc];show B
  have blk: ∀cl Ca fp s3 H3 xe,Cok N K {c with sc:=zL sc c.sc,N:=q.1++frOf sc} k true E (cxN X (q.1++frOf sc) sc cl Ca fp s3 H3 xe):=λcl Ca fp s3 H3 xe=>
   ⟨C.K,by change zL sc X.env.scope=_;rw[C.sc],rfl,C.calm,C.room,C.bl,C.ks,C.fns,C.cls,C.cn,C.ki,λz=>by cases z⟩
  have hpg: ∀cl Ca fp s3 H3 xe,PG (cxN X (q.1++frOf sc) sc cl Ca fp s3 H3 xe) tg (if q.2 then gTup K q.1.length (gAll (List.range q.1.length)) else yj 0):=λcl Ca fp s3 H3 xe=>by
   obtain⟨gg,_,hK,hp⟩:=Yo B' C.calm hq (cl:=cl) (C:=Ca) (fp:=fp) (s3:=s3) (H3:=H3) (xe:=xe);rw[hK K C.K] at hp;show hp
  have hi:X.N[i]? =some y:=by rw[C.nm];show zT hy
  have hnd:X.N.Nodup:=by rw[C.nm];show C.nd
  have hix':ix.map (λi=>X.N[i]?)=(frOf sc).map some:=by rw[C.nm];show ZI hix
  have hsw:swapsWith (.ListComp e [⟨tg,it,ifs,0⟩] sc p) (some (.Name y py)) sp.line X.env=pure (X.env.blockKind== .function&&X.env.kindOf y==some .local&&py.line==p.line&& !(sc.names.any fun(n,k)=>n==y&&(k== .local || k== .cell))):=rfl;cases hb:(X.env.blockKind== .function&&X.env.kindOf y==some .local&&py.line==p.line&& !(sc.names.any fun(n,k)=>n==y&&(k== .local || k== .cell))) with
  | true=>
   have hl:X.env.scope.names.lookup y=some .local:=by
    simp only[Bool.and_eq_true] at hb;have h:=hb.1.1.2;show eq_of_beq h
   show ps_setCN hnd hi hl B'.toNScope hix' C.calm (pi X C.toCok) hpg (λcl Ca fp s3 H3 xe=>pc _ (blk cl Ca fp s3 H3 xe)) (λcl Ca fp s3 H3 xe=>pe _ (blk cl Ca fp s3 H3 xe)) (by rw[hsw,hb]) (vd g.2)
  | false=>
   show YQ hnd hi (by rw[C.sc];show C.loc y (by rw[<-C.nm];show Β hi)) (Yp B'.toNScope hix' C.calm (pi X C.toCok) hpg (λcl Ca fp s3 H3 xe=>pc _ (blk cl Ca fp s3 H3 xe)) (λcl Ca fp s3 H3 xe=>pe _ (blk cl Ca fp s3 H3 xe)) (vd g.2)) (by rw[hsw,hb]) (.inl (C.fn y))
def LS.put{To Ti Te:St3->Gp->Kc->Prop}(ho:LE E3 E To to)(hi:LE E3 E Ti ti)(he:LE E3 E Te te):LS E3 E (λD τ G=>Te τ G λv G1=>To τ G1 λx G2=>Ti τ G2 λy G3=>putA x y v G3 λG4=>D.nx τ G4) (tAsg te (gSub to ti Wq)):=fun τ G σ H D3 D rs rh rx e q=>by
 show he τ G σ H _ _ rs rh rx q λw v G1 H1 f1 a1 r1 q1=>?_;have rs1:=rs.up (f1.kt rh);show ho τ G1 σ H1 _ _ rs1 r1 (rx.up f1) q1 λx u G2 H2 f2 a2 r2 q2=>?_;have rs2:=rs1.up (f2.kt r1);show hi τ G2 σ H2 _ _ rs2 r2 (rx.up (f1.trans f2)) q2 λy z G3 H3 f3 a3 r3 q3=>?_;have k3:=f3.kt r2;show putA_r (a2.up k3) a3 ((a1.up (f2.kt r1)).up k3) r3 q3 λG4 H4 f4 r4 q4=>?_;show e.nx _ _ _ _ (((f1.trans f2).trans f3).trans f4) ((rs2.up k3).up (f4.kt r3)) r4 q4
def augW_r{f:Int->Int->Int}(hf:(o= .Add/\f=λa b=>a+b)\/(o= .Sub/\f=λa b=>a-b)){Q:W->Prop}(rx:Rv H x u)(ry:Rv H y v)(h:augW o x y Q)(k: ∀z,Q (.int z)->R (.int z) H):ipI f u v H R:=by
 unfold augW at h;rcases hf with ⟨rfl,rfl⟩ | ⟨rfl,rfl⟩
 .split at h
  .cases rx;cases ry;show⟨_,_,rfl,rfl,k _ h⟩
  .rename_i z;cases z
  .show h.elim
 .split at h
  .rename_i z;cases z
  .cases rx;cases ry;show⟨_,_,rfl,rfl,k _ h⟩
  .show h.elim
def LS.aug{Te:St3->Gp->Kc->Prop}{f:Int->Int->Int}(hf:(o= .Add/\f=λa b=>a+b)\/(o= .Sub/\f=λa b=>a-b))(he:LE E3 E Te te):
  LS E3 E (λD τ G=>den N E3 (.v i) τ G λx G1=>Te τ G1 λy G2=>augW o x y λz=>D.nx (τ.set i (some z)) G2) (tAug i te (ipI f)):=fun τ G σ H D3 D rs rh rx e q=>by
 have q:(match τ[i]? with | some (some w)=>Te τ G λy G2=>augW o w y λz=>D3.nx (τ.set i (some z)) G2 | _=>False):=q;split at q
 .rename_i w ew
  obtain⟨v,hv,rv⟩:=rs.get ew;show⟨v,hv,he τ G σ H _ _ rs rh rx q λy u G1 H1 f1 a1 r1 q1=>?_⟩;show augW_r hf (rv.up (f1.kt rh)) a1 q1 λz hz=>e.nx _ _ _ _ f1 ((rs.up (f1.kt rh)).set (.int z) i) r1 hz
 .show q.elim
def assign_sub(h:y2 i=true): ∀v,assign (.Subscript o i p) env v=(do
      let ov<-holding [v] (eval o env)
      let iv<-holding [v,ov] (eval i env)
      standAt p
      holding [v,ov,iv] (setItem ov iv v)
      release [v,ov,iv] []):=λv=>by
  cases i<;>first | rfl | cases h
structure CokH (K:W.Frag) (c:Sc) (X:Cx):Prop where
 K:X.K=K
 sc:X.env.scope=c.sc
 nm:X.N=c.N
 nd:c.N.Nodup
 loc: ∀x∈c.N,Loc c.sc x
 fn: ∀x,X.fn x=true
theorem snd_h(hN:NOk N K)(n:Nat): ∀{e:Expr} {x:Ex},hE n c e=some x-> ∃t,LE E3 E (den N E3 x) t/\ ∀X,CokH K c X->PE X e t:=by
 induction n with
 | zero=>intro e x h;cases h
 | succ n ih=>
  intro e x h;cases e
  case Name y p=>
   obtain⟨i,hi,h⟩:=zo (show((ixOf c.N y).bind λi=>zn (decide (Vis c.sc y)&&okN y) (some (.v i)))=some x from h);obtain⟨g,h⟩:=zk h;cases h
   simp only[Bool.and_eq_true,decide_eq_true_eq] at g;obtain⟨d1,d2,_⟩:=w8 g.2;show⟨_,LE.v,λX C=>YS (by rw[C.nm];show zT hi) (by rw[C.sc];show g.1) d1 d2⟩
  case Constant kk j p=>
   obtain⟨v,hv,rfl⟩:=zh (show(ZW kk).map Ex.c=some x from h);cases kk<;>cases hv
   .show⟨_,LE.cst (w:= .non) λ_=> .non,λX C=>WD⟩
   .show⟨_,LE.cst (w:= .bl _) λ_=> .bl _,λX C=>Vu⟩
   .show⟨_,LE.cst (w:= .int _) λ_=> .int _,λX C=>ZG⟩
   .show⟨_,LE.cst (w:= .str _) λ_=> .str _,λX C=>YU⟩
  case Attribute o f p=>
   obtain⟨g,h⟩:=zk (show zn (wc o) ((hE n c o).map λx=> .fld x f)=some x from h);obtain⟨y,hy,rfl⟩:=zh h;obtain⟨t,lt,ht⟩:=ih hy;show⟨tXf K t _,lt.fld hN,λX C=>WC C.K (ht X C) (base_of g)⟩
  case Tuple es j p=>
   match es,h with
   | [a,b],h=>
    obtain⟨g,h⟩:=zk (show zn (!zm a&& !zm b) (mk2 (hE n c a) (hE n c b) λx y=> .tup (.cn x (.cn y .nl)))=some x from h);obtain⟨y,z,hy,hz,rfl⟩:=zK h;simp only[Bool.and_eq_true,Bool.not_eq_true'] at g;obtain⟨ta,la,pa⟩:=ih hy;obtain⟨tb,lb,pb⟩:=ih hz;show⟨_,LA.tup (LA.cons la (LA.cons lb LA.nil)),λX C=>YT (pa_2 (pa X C) (pb X C) g.1 g.2)⟩
   | [],h=>show nomatch (show(none:Option Ex)=some x from h)
   | [_],h=>show nomatch (show(none:Option Ex)=some x from h)
   | _::_::_::_,h=>show nomatch (show(none:Option Ex)=some x from h)
  all_goals show nomatch (show(none:Option Ex)=some x from h)
def snd_hs(hN:NOk N K)(h:cH c s=some x): ∃t,LS E3 E (denS N E3 x) t/\ ∀X,CokH K c X->PS X s t:=by
 unfold cH at h;split at h
 .rename_i yy _ _ _
  obtain⟨g,h⟩:=zI h;obtain⟨i,hi,h⟩:=zo h;obtain⟨y,hy,rfl⟩:=zh h;obtain⟨t,lt,ht⟩:=snd_h (E3:=E3) (E:=E) hN 8 hy;show⟨_,LS.set lt LG.n,λX C=>?_⟩;have hi':X.N[i]? =some yy:=by rw[C.nm];show zT hi
  show YQ (by rw[C.nm];show C.nd) hi' (by rw[C.sc];show C.loc _ (by rw[<-C.nm];show Β hi')) (ht X C) (Z6 (by exists g)) (.inl (C.fn _))
 .cases h
structure SndS (N:En) (K:W.Frag) (k:Nat) (n:Nat):Prop where
 s: ∀{c md E3 E st x},md=false->(md=true->E3=X0)->cS n c st=some x->SS N K c k md E3 E st x
 ss: ∀{c md E3 E st x},md=false->(md=true->E3=X0)->cSs n c st=some x->SSs N K c k md E3 E st x
def noMarks(h:YY e=false):swappedStores [.Tuple es j q] e env=pure none:=by
 cases e<;>first | rfl | cases h
def noMarks2:swappedStores [.Subscript o i p] e env=pure none:=by
 cases e<;>rfl
theorem snd_asn(hN:NOk N K)(h3:md=true->E3=X0)(hi:ixOf c.N y=some i)(hz:cE 60 c e=some z):SS N K c k md E3 E (.Assign [.Name y q] e p) (.set (.n i) z):=by
 by_cases hc:yF e=false
 .obtain⟨t,lt,pt⟩:=(snd hN 60:SndAll N K k 60).e (E:=E) h3 hz;show⟨_,LS.set lt LG.n,λX C=>?_⟩;have hi':X.N[i]? =some y:=by rw[C.nm];show zT hi
  show YQ (by rw[C.nm];show C.nd) hi' (by rw[C.sc];show C.loc y (by rw[<-C.nm];show Β hi')) (pt X C.toCok) (Z6 hc) (.inl (C.fn y))
 .cases e
  case ListComp el gs sc pp=>
   match gs,hz with
   | [⟨tg,it,ifs,0⟩],hz=>
    obtain⟨w,hw,rfl⟩:=zh (show(cC 59 c el tg it ifs sc).map Ex.lv=some z from hz);obtain⟨t,lt,pt⟩:=snd_cs (n:=58) (K:=K) (k:=k) (E:=E) (p:=pp) (py:=q) (sp:=p) hN h3 hi hw;show⟨_,LS.set lt.lv LG.n,pt⟩
   | [],hz=>show nomatch (show(none:Option Ex)=some z from hz)
   | [⟨_,_,_,.ofNat (_+1)⟩],hz=>show nomatch (show(none:Option Ex)=some z from hz)
   | [⟨_,_,_,.negSucc _⟩],hz=>show nomatch (show(none:Option Ex)=some z from hz)
   | ⟨_,_,_,.ofNat 0⟩::_::_,hz=>show nomatch (show(none:Option Ex)=some z from hz)
   | ⟨_,_,_,.ofNat (_+1)⟩::_::_,hz=>show nomatch (show(none:Option Ex)=some z from hz)
   | ⟨_,_,_,.negSucc _⟩::_::_,hz=>show nomatch (show(none:Option Ex)=some z from hz)
  case SetComp=>show nomatch (show(none:Option Ex)=some z from hz)
  case DictComp=>show nomatch (show(none:Option Ex)=some z from hz)
  all_goals show absurd rfl hc
def snd_ast(hN:NOk N K)(h3:md=true->E3=X0)(h:((tgS c.N (.Tuple es j q)).bind λg=>zJ (!YY e&& !yF e) ((cE 60 c e).map (Sx.set g)))=some x):SS N K c k md E3 E (.Assign [.Tuple es j q] e p) x:=by
 obtain⟨g3,hg,h⟩:=zo h;obtain⟨gd,h⟩:=zI h;obtain⟨z,hz,rfl⟩:=zh h;simp only[Bool.and_eq_true,Bool.not_eq_true'] at gd;obtain⟨gg,lg,pg⟩:=WB (N:=N) (K:=K) (k:=k) (md:=md) (E:=E) hg;obtain⟨t,lt,pt⟩:=(snd hN 60:SndAll N K k 60).e (E:=E) h3 hz;show⟨_,LS.set lt lg,λX C=>Wy (pt X C.toCok) (pg X C) (show swapsWithSole [Expr.Tuple es j q] e p.line X.env=pure false from Z6 (t:=some (.Tuple es j q)) (l:=p.line) (env:=X.env) gd.2) (noMarks gd.1) rfl⟩
def snd_asT(hN:NOk N K)(h3:md=true->E3=X0)(h:cS (n+1) c (.Assign [.Tuple es j q] e p)=some x):SS N K c k md E3 E (.Assign [.Tuple es j q] e p) x:=by
 show snd_ast hN h3 h
def LS.raise{Tr:St3->Gp->(List W->Gp->Prop)->Prop}(hr:LA E3 E m Tr tr)(xa:XA K C)(hn: ∀f∈ns,ye K C f):
  LS E3 E (λ_ τ G=>Tr τ G λws G1=>ws.length=ns.length/\ns.length<=2/\E3 τ C ns ws G1) (YI C (spXi K ns) E tr):=fun τ G σ H D3 D rs rh rx e q=>by
 show hr τ G σ H _ _ rs rh rx q λws vs G1 H1 _ f1 a1 r1 q1=>?_;obtain⟨hl,h2,hE⟩:=q1;have hl':vs.length=ns.length:=by rw[<-a1.len];show hl
 show⟨by lia,λa v0 ha=>⟨a,C,v0,vs,rfl,hl',zj,xa,hn,λdx hd hne=>⟨rfl,some dx,zj,?_⟩⟩⟩;rw[unt_upd hne ha];have hd':H1 dx=none:=by rw[zi hne] at hd;show hd
 show rx τ σ C ns ws (some dx) G1 _ (f1.trans (Fr.beside hd')) ((rs.up (f1.kt rh)).up (Kt.new hd')) (r1.beside hd') ⟨dx,vs,rfl,zj,a1.up (Kt.new hd')⟩ hE
theorem snd_raise(hN:NOk N K)(hm:md=false)(h3:md=true->E3=X0){f:Str}(h:zJ (decide (ixOf c.N f=none)&&glB c f) ((cEs 60 c (a::r)).map (Sx.raise f))=some x):SS N K c k md E3 E (.Raise (some (.Call (.Name f p) (a::r) [] cp)) none q) x:=by
 obtain⟨g,h⟩:=zI h;obtain⟨y,hy,rfl⟩:=zh h;simp only[Bool.and_eq_true] at g;obtain⟨st,t,lt,ht⟩:=(snd hN 60:SndAll N K k 60).a (E:=E) h3 hy;obtain⟨s1,s2⟩:=zA st;cases hs:N.cl f with
 | none=>show⟨YJ,fun τ G σ H D3 D rs rh rx e q=>by
   have q:(match N.cl f with | some (C,ns)=>dens N E3 y τ G λws G1=>ws.length=ns.length/\ns.length<=2/\E3 τ C ns ws G1 | none=>False):=q;rw[hs] at q;show q,λX C=>Ym⟩
 | some cn=>
  obtain⟨C,ns⟩:=cn;obtain⟨xa,hn⟩:=hN.cl f C ns hs;have ed:denS N E3 (.raise f y)=λ_ τ G=>dens N E3 y τ G λws G1=>ws.length=ns.length/\ns.length<=2/\E3 τ C ns ws G1:=by
   funext D τ G
   change(match N.cl f with | some (C,ns)=>dens N E3 y τ G λws G1=>ws.length=ns.length/\ns.length<=2/\E3 τ C ns ws G1 | none=>False)=_;rw[hs]
  show⟨YI C (spXi K ns) E t,by rw[ed];show LS.raise lt xa hn,λX Y=>?_⟩;obtain⟨j,ps,hj,hC⟩:=Y.cls f C ns hs;obtain⟨hg,hd,_⟩:=yg Y.toCok g.2;rw[Y.K] at hC;show ps_raise (by rw[Y.K];show hC) (Y.land hm) Y.calm Y.room hj (ht X Y.toCok) hg s1 s2 hd
theorem snd_rs(hN:NOk N K)(hm:md=false)(h3:md=true->E3=X0)(h:cS (n+1) c (.Raise (some e) cs p)=some x):SS N K c k md E3 E (.Raise (some e) cs p) x:=by
 cases e
 case Call f args kws q=>
  cases f
  case Name y z=>
   cases args with
   | nil=>show nomatch (show(none:Option Sx)=some x from h)
   | cons a r=>
    cases kws with
    | cons _ _=>show nomatch (show(none:Option Sx)=some x from h)
    | nil=>
     cases cs with
     | some _=>show nomatch (show(none:Option Sx)=some x from h)
     | none=>show snd_raise hN hm h3 h
  all_goals show nomatch (show(none:Option Sx)=some x from h)
 all_goals show nomatch (show(none:Option Sx)=some x from h)
theorem snd_try(S:SndS N K k n)(hN:NOk N K)(hm:md=false)(h3:md=true->E3=X0){f:Str}
  (h:zJ (okC c f&&decide (c.sc.names.lookup y=some .local)) ((ixOf c.N y).bind λi=>(cSs n c b).bind λu=>(cH c s).map (Sx.tr u f i))=some x):SS N K c k md E3 E (.Try b [.ExceptHandler (some (.Name f p)) (some y) [s] q] [] [] pos) x:=by
 obtain⟨g,h⟩:=zI h;obtain⟨i,hi,h⟩:=zo h;obtain⟨u,hu,h⟩:=zo h;obtain⟨v,hv,rfl⟩:=zh h;simp only[okC,Bool.and_eq_true,decide_eq_true_eq] at g;cases hx:N.cn f with
 | none=>show⟨YJ,fun τ G σ H D3 D rs rh rx e q=>by
   have q:(match N.cn f with | some _=>denS N (fun τ' c ns ws G'=>N.sub c f=some true/\denS N E3 v (unE3 i D3) (τ'.set i (some (.exc c ns ws))) G') u D3 τ G | none=>False):=q;rw[hx] at q;show q,λX C=>Ym⟩
 | some Da=>
  obtain⟨nv,bmD,xd⟩:=hN.cn f Da hx;obtain⟨ts,ls,hs⟩:=snd_hs (E3:=E3) (E:=E) hN hv;have body: ∀(E3':XS) (EX:XS2),SSs N K c k false E3' EX b u:=λE3' EX=>S.ss (md:=false) (E3:=E3') (E:=EX) rfl (λz=>by cases z) hu;show⟨λDn σ H=> ∃E3':XS,tTry K Da i (λEX=>Classical.choose (body E3' EX)) ts Dn σ H,fun τ G σ H D3 D rs rh rx e q=>?_,λX C=>?_⟩
  .have q:(match N.cn f with | some _=>denS N (fun τ' c ns ws G'=>N.sub c f=some true/\denS N E3 v (unE3 i D3) (τ'.set i (some (.exc c ns ws))) G') u D3 τ G | none=>False):=q;rw[hx] at q;show⟨_,(Classical.choose_spec (body _ _)).1 τ G σ H D3 D rs rh ?_ e q⟩;intro τ' σ' c0 ns ws d G' H' fr rs' rh' xf hq;obtain⟨h1,h2⟩:=hq;obtain⟨xa,z⟩:=hN.sub _ _ _ h1;obtain⟨bm,xc,hin⟩: ∃bm,XC K c0 bm/\(Value.ref c0::bm).contains (.ref Da)=true:=by
    rcases z with ⟨z,_⟩ | ⟨D',bm,bmD',eD,xc,_,hb⟩
    .show absurd z nv
    .rw[hx] at eD;cases eD;show⟨bm,xc,hb.symm⟩
   obtain⟨dx,xs,rfl,hd,rv⟩:=xf;show⟨c0,bm,rfl,xc,hin,λa vs ha=>?_⟩;have kn:=Kt.new (H:=H') (o:=XObj a c0 (some dx) vs) ha;have rs2:Rst (upd H' a (XObj a c0 (some dx) vs)) (τ'.set i (some (.exc c0 ns ws))) (σ'.set i (some (.ref a))):=(rs'.up kn).set (.exc zj (by rw[zi (zg hd ha)];show hd) (rv.up kn)) i;show ls _ G' _ _ (unE3 i D3) (unE i D) rs2 (rh'.beside ha) (rx.up (fr.trans (Fr.beside ha))) ?_ h2;have un: ∀{τ2:St3} {σ2:St2} {H2:Hp},Rst H2 τ2 σ2->Rst H2 (τ2.set i none) (σ2.set i none):=λr=>r.unset i;show⟨fun τ2 σ2 G2 H2 f2 a2 b2 q2=>?_,λw2 v2 G2 H2 f2 a2 b2 q2=>?_,fun τ2 σ2 G2 H2 f2 a2 b2 q2=>?_,fun τ2 σ2 G2 H2 f2 a2 b2 q2=>?_⟩
   .show e.nx _ _ _ _ ((fr.trans (Fr.beside ha)).trans f2) (un a2) b2 q2
   .show e.rt _ _ _ _ ((fr.trans (Fr.beside ha)).trans f2) a2 b2 q2
   .show e.bk _ _ _ _ ((fr.trans (Fr.beside ha)).trans f2) (un a2) b2 q2
   .show e.ct _ _ _ _ ((fr.trans (Fr.beside ha)).trans f2) (un a2) b2 q2
  .intro ϖ s' σ H Dn I hh;obtain⟨E3',hh⟩:=hh;have hi':X.N[i]? =some y:=by rw[C.nm];show zT hi
   obtain⟨hg,hd,hn⟩:=yg C.toCok g.1.2.2;have hK:=C.K;subst hK;show ps_try ⟨by rw[C.nm];show C.nd,by rw[C.nm,C.sc];show C.loc⟩ C.stk C.frm C.noex (C.cn f Da hx) xd hi' (by rw[C.sc];show g.2)
    (λpn xe EX ps L=>(Classical.choose_spec (body E3' EX)).2 _ {K:=rfl,sc:=C.sc,nm:=C.nm,calm:=C.calm,room:=C.room,bl:=C.bl,ks:=C.ks,fns:=C.fns,cls:=C.cls,cn:=C.cn,ki:=C.ki,land:=λ_=>L,nd:=C.nd,loc:=C.loc,fn:=C.fn,pass:=ps,stk:=C.stk,frm:=C.frm,noex:=C.noex})
    (λa=>ZE (hs _ ⟨rfl,C.sc,C.nm,C.nd,C.loc,C.fn⟩)) hg hd ϖ s' σ H Dn I hh
theorem snd_s(S:SndS N K k n)(hN:NOk N K)(hm:md=false)(h3:md=true->E3=X0){st:Stmt}{x:Sx}(h:cS (n+1) c st=some x):SS N K c k md E3 E st x:=by
 have S0:SndAll N K k 60:=snd hN 60;cases st
 case Pass p=>cases (show some Sx.nop=some x from h);show⟨_,LS.nop,λX C=>ps_pass⟩
 case Break p=>cases (show some Sx.brk=some x from h);show⟨_,LS.brk,λX C=>ps_break⟩
 case Continue p=>cases (show some Sx.cnt=some x from h);show⟨_,LS.cnt,λX C=>ps_continue⟩
 case Return e p=>
  cases e with
  | none=>cases (show some Sx.retN=some x from h);show⟨_,LS.retN,λX C=>ps_retN⟩
  | some e=>
   obtain⟨y,hy,rfl⟩:=zh (show(cE 60 c e).map Sx.ret=some x from h);obtain⟨t,lt,pt⟩:=S0.e (E:=E) h3 hy;show⟨_,LS.ret lt,λX C=>ps_ret (pt X C.toCok)⟩
 case Expr e p=>
  obtain⟨g,h⟩:=zI (show zJ (!yF e) ((cE 60 c e).map Sx.ex)=some x from h);obtain⟨y,hy,rfl⟩:=zh h;obtain⟨t,lt,pt⟩:=S0.e (E:=E) h3 hy;show⟨_,LS.ex lt,λX C=>ps_expr (pt X C.toCok) (Z6 (by exists g))⟩
 case If t a b p=>
  obtain⟨g,h⟩:=zI (show zJ (tstB 20 t) ((cE 60 c t).bind λx=>(cSs n c a).bind λy=>(cSs n c b).map (Sx.iff x y))=some x from h);obtain⟨u,hu,h⟩:=zo h;obtain⟨y,hy,h⟩:=zo h;obtain⟨z,hz,rfl⟩:=zh h;obtain⟨tt,lt,pt⟩:=S0.t (E:=E) 20 h3 hu g;obtain⟨ta,la,pa⟩:=S.ss (E:=E) hm h3 hy;obtain⟨tb,lb,pb⟩:=S.ss (E:=E) hm h3 hz;show⟨_,LS.iff lt la lb,λX C=>ps_if (pt X C.toCok) (pa X C) (pb X C)⟩
 case While t b e p=>
  cases e with
  | cons _ _=>show nomatch (show(none:Option Sx)=some x from h)
  | nil=>
   obtain⟨g,h⟩:=zI (show zJ (tstB 20 t) ((cE 60 c t).bind λx=>(cSs n c b).map (Sx.wh x))=some x from h);obtain⟨u,hu,h⟩:=zo h;obtain⟨z,hz,rfl⟩:=zh h;obtain⟨tt,lt,pt⟩:=S0.t (E:=E) 20 h3 hu g;obtain⟨tb,lb,pb⟩:=S.ss (E:=E) hm h3 hz;show⟨_,LS.wh lt lb,λX C=>ps_while C.pass (pt X C.toCok) (pb X C)⟩
 case For tg it b e p=>
  cases e with
  | cons _ _=>show nomatch (show(none:Option Sx)=some x from h)
  | nil=>
   obtain⟨g,h⟩:=zI (show zJ (Xw it) ((tgS c.N tg).bind λg=>(cI 60 c tg it).bind λi=>(cSs n c b).map (Sx.fo g i))=some x from h);obtain⟨g3,hg,h⟩:=zo h;obtain⟨i,hi,h⟩:=zo h;obtain⟨z,hz,rfl⟩:=zh h;obtain⟨gg,lg,pg⟩:=WB (N:=N) (K:=K) (k:=k) (md:=md) (E:=E) hg;obtain⟨ti,li,pi⟩:=S0.i (E:=E) h3 hi;obtain⟨tb,lb,pb⟩:=S.ss (E:=E) hm h3 hz;show⟨_,LS.fo li lg lb,λX C=>ps_for C.pass C.calm (pi X C.toCok) (pg X C) (pb X C) (vd g)⟩
 case AugAssign tg o e p=>
  cases tg
  case Name y q=>
   obtain⟨g,h⟩:=zI (show zJ (decide (o= .Add) || decide (o= .Sub)) ((ixOf c.N y).bind λi=>(cE 60 c e).map (Sx.aug i o))=some x from h);obtain⟨i,hi,h⟩:=zo h;obtain⟨z,hz,rfl⟩:=zh h;obtain⟨t,lt,pt⟩:=S0.e (E:=E) h3 hz;simp only[Bool.or_eq_true,decide_eq_true_eq] at g;have fin: ∀X,CokS N K c k md E X->X.N.Nodup/\X.N[i]? =some y/\Loc X.env.scope y:=λX C=>by
    have hi':X.N[i]? =some y:=by rw[C.nm];show zT hi
    show⟨by rw[C.nm];show C.nd,hi',by rw[C.sc];show C.loc y (by rw[<-C.nm];show Β hi')⟩
   rcases g with rfl | rfl
   .show⟨_,LS.aug (.inl ⟨rfl,rfl⟩) lt,λX C=>Wx (fin X C).1 (fin X C).2.1 (fin X C).2.2 (pt X C.toCok) ip_add (.inl (C.fn y))⟩
   .show⟨_,LS.aug (.inr ⟨rfl,rfl⟩) lt,λX C=>Wx (fin X C).1 (fin X C).2.1 (fin X C).2.2 (pt X C.toCok) ip_sub (.inl (C.fn y))⟩
  all_goals show nomatch (show(none:Option Sx)=some x from h)
 case Raise ex cs p=>
  cases ex with
  | none=>show nomatch (show(none:Option Sx)=some x from h)
  | some e=>show snd_rs hN hm h3 h
 case Try b hs oe fb p=>
  have bad: ∀{A:Prop},(none:Option Sx)=some x->A:=λz=>nomatch z;cases hs with
  | nil=>show bad h
  | cons a r=>
   cases a with | ExceptHandler ty nm bo r2=>
   cases ty with
   | none=>show bad h
   | some ty=>
    cases ty
    case Name f q=>
     cases nm with
     | none=>show bad h
     | some y=>
      cases bo with
      | nil=>show bad h
      | cons s r3=>
       cases r3 with
       | cons _ _=>show bad h
       | nil=>
        cases r with
        | cons _ _=>show bad h
        | nil=>
         cases oe with
         | cons _ _=>show bad h
         | nil=>
          cases fb with
          | cons _ _=>show bad h
          | nil=>show snd_try S hN hm h3 h
    all_goals show bad h
 case Assign ts e p=>
  match ts,h with
  | [],h=>show nomatch (show(none:Option Sx)=some x from h)
  | a::_::_,h=>cases a<;>show nomatch (show(none:Option Sx)=some x from h)
  | [tg],h=>
   cases tg
   case Name y q=>
    obtain⟨i,hi,h⟩:=zo (show((ixOf c.N y).bind λi=>(cE 60 c e).map (Sx.set (.n i)))=some x from h);obtain⟨z,hz,rfl⟩:=zh h;show snd_asn hN h3 hi hz
   case Tuple es j q=>
    show snd_asT hN h3 h
   case Subscript o i q=>
    obtain⟨g,h⟩:=zI (show zJ (y2 i&& !yF e) ((cE 60 c o).bind λx=>(cE 60 c i).bind λy=>(cE 60 c e).map (Sx.put x y))=some x from h);obtain⟨u,hu,h⟩:=zo h;obtain⟨v,hv,h⟩:=zo h;obtain⟨w,hw,rfl⟩:=zh h;simp only[Bool.and_eq_true,Bool.not_eq_true'] at g;obtain⟨to,lo,po⟩:=S0.e (E:=E) h3 hu;obtain⟨ti,li,pi⟩:=S0.e (E:=E) h3 hv;obtain⟨te,le,pe⟩:=S0.e (E:=E) h3 hw;show⟨_,LS.put lo li le,λX C=>Wy (pe X C.toCok) (pg_sub (po X C.toCok) (pi X C.toCok) (put_all C.room) (assign_sub g.1)) (show swapsWithSole [Expr.Subscript o i q] e p.line X.env=pure false from Z6 (t:=some (.Subscript o i q)) (l:=p.line) (env:=X.env) g.2) noMarks2 rfl⟩
   all_goals show nomatch (show(none:Option Sx)=some x from h)
 all_goals show nomatch (show(none:Option Sx)=some x from h)
theorem snd_ss(S:SndS N K k n)(hm:md=false)(h3:md=true->E3=X0){st:List Stmt}{x:Sx}(h:cSs (n+1) c st=some x):SSs N K c k md E3 E st x:=by
 match st,h with
 | [],h=>cases (show some Sx.nop=some x from h);show⟨_,LS.nop,λX C=>pss_nil⟩
 | [s],h=>
  obtain⟨t,lt,pt⟩:=S.s (E:=E) hm h3 (show cS n c s=some x from h);show⟨t,lt,λX C=>ZE (pt X C)⟩
 | s::s'::r,h=>
  obtain⟨y,hy,h⟩:=zo (show((cS n c s).bind λx=>(cSs n c (s'::r)).map (Sx.seq x))=some x from h);obtain⟨z,hz,rfl⟩:=zh h;obtain⟨t,lt,pt⟩:=S.s (E:=E) hm h3 hy;obtain⟨t',lt',pt'⟩:=S.ss (E:=E) hm h3 hz;show⟨_,LS.seq (T:=denS N E3 y) (T':=denS N E3 z) lt lt',λX C=>Yl (pt X C) (pt' X C)⟩
theorem sndS(hN:NOk N K): ∀n,SndS N K k n
 | 0=>⟨(λhm h3 h=>nomatch (show(none:Option Sx)=some _ from h)),(λhm h3 h=>nomatch (show(none:Option Sx)=some _ from h))⟩
 | n+1=>⟨λhm h3 h=>snd_s (sndS hN n) hN hm h3 h,λhm h3 h=>snd_ss (sndS hN n) hm h3 h⟩
end
def Zz (NN:List Str) (ws:List W):St3:=ws.map some++List.replicate (NN.length-ws.length) none
def back (Q:Kc):Kc:=λw G=> ∃G',SubG G' G/\Q w G'
def back.mk(h:Q w G):back Q w G:=⟨G,SubG.refl,h⟩
structure Txt where
 st:Stmt
 N:List Str
 ps:List Str
 r:Sx
def Body (N:En) (t:Txt) (sp:Sp3):Prop:= ∀a G (Q:Kc) (E:XK3),sp.pre a G->(∀w G',sp.post a G w G'->Q w G')->(∀c ns us G',sp.exc a G c ns us G'->E c ns us G')->
 denS N (λ_=>E) t.r {nx:=λ_ G'=>back Q .non G',rt:=back Q} (Zz t.N (sp.enc a)) G
structure Md (N:En) (K:W.Frag) (mg:Str->Option Value):Prop extends NOk N K where
 bl: ∀x,bltNs.contains x=true->mg x=none
 ks: ∀x w,N.kv x=some w-> ∃u,mg x=some u/\RelV (vW w) u
 cnm: ∀x D,N.cn x=some D->mg x=some (.ref D)
def WV{P:Program}{w:World}{K:W.Frag}{mg:Str->Option Value}{base:Heap}{x qual:Str}{f:Addr}{fd:FuncData}{k:Nat}{N:En}{t:Txt}{sp:Sp3}{fns ks cls:List Str}{ki:List (Str×Int)}(F:Fun K x qual t.st f fd)(S:FnScope t.N t.ps (zl t.st))
  (hl: ∀y∈t.N,Loc (zl t.st) y) (hki: ∀x v,ki.lookup x=some v-> ∃u,mg x=some u/\RelV (V.int v) u) (hc:cSs 40 ⟨zl t.st,t.N,fns,ks,cls,ki⟩ (zE t.st)=some t.r) (M:Md N K mg) (hf: ∀x sp,N.sp x=some sp-> ∃j ps,j<=k/\HasX P w K mg base j x ps (up sp))
  (hcl: ∀x C ns,N.cl x=some (C,ns)-> ∃j ps,j+1<=k/\HasC P w K mg base j x C ps (spXi K ns)) (hlen: ∀a,(sp.enc a).length=t.ps.length) (B:Body N t sp):FnOk P w K mg base (CXE P w) (k+1) f fd t.ps (up sp):=by
 show F.okXF S (λvs H Q E h=>?_) λcdv A outer s H vs Q E hr hsp L=>?_
 .obtain⟨ws,G,rv,rh,pr⟩:=h;rw[y1] at pr;obtain⟨a,rfl,_⟩:=pr;rw[<-rv.len];show hlen a
 .obtain⟨ws,G,rv,rh,pr⟩:=hsp;rw[y1] at pr;obtain⟨aa,rfl,pre,post,exc⟩:=pr;obtain⟨tt,lt,pt⟩:=(sndS M.toNOk 40:SndS N K k 40).ss (md:=false) (E3:=λ_ c ns us G'=> ∀d H',Fr G H G' H'->Rh G' H'->Xfs H' d ns us->E (.ref c) d H') (E:=λ_=>E) rfl (λz=>by cases z) hc;show⟨tt,pt _ {K:=rfl,sc:=rfl,nm:=rfl,calm:=rfl,room:=hr,bl:=M.bl,ks:=M.ks,fns:=hf,cls:=hcl,cn:=M.cnm,ki:=hki,land:=λ_=>L.lands,nd:=S.nd,loc:=hl,fn:=λ_=>rfl,pass:=PassesOwn.leaving,stk:=rfl,frm:=rfl,noex:=rfl},?_⟩;show lt (Zz t.N (sp.enc aa)) G (start t.N vs) H {nx:=λ_ G'=>back _ .non G',rt:=back _} {nx:=λ_ H'=>Q .non H',rt:=Q} ?_ rh (fun τ σ c ns us d G' H' f a b e q=>q d H' f b e) ⟨fun τ σ G' H' f a b q=>?_,λw v G' H' f a b q=>?_,fun τ σ G' H' f a b q=>q,fun τ σ G' H' f a b q=>q⟩
   (B aa G (λw G'=> ∀v H',Fr G H G' H'->Rv H' w v->Rh G' H'->Q v H') _ pre post exc)
  .unfold Zz L2.start;rw[rv.len];show(Rst.all rv).app (Rst.nones _)
  .obtain⟨G0,sg,q⟩:=q;show q .non H' (f.sub sg) .non (b.sub sg)
  .obtain⟨G0,sg,q⟩:=q;show q v H' (f.sub sg) a (b.sub sg)
end L3
namespace L3
open PySem L2
section
variable {Q:List W->Gp->Prop}{t u:Option W}
theorem cg1(f:W->W)(hok:ok G): ∀(xs:List W) (acc:List W) (t:Option W),acc.length+xs.length<=sizeLine->(∀x∈xs,∀Q':Kc,Q' (f x) G->te (some x::ρ) G Q')->Q (acc++xs.map f) G->zC (.n 0) (λ_ G Q=>Q true G) te ok Q xs (t::ρ) acc G
 | [],acc,t,hl,h,q=>⟨hok,by exists q⟩
 | x::xs,acc,t,hl,h,q=>by
  show⟨hok,_,rfl,?_⟩;change te (some x::ρ) G _;show h x ξ _ ⟨by simp at hl;lia,?_⟩;show cg1 f hok xs (acc++[f x]) _ (by simp at hl ⊢;lia) (λy hy=>h y (ζ _ hy)) (by exists q)
theorem cg2(f:W×W->W)(hok:ok G): ∀(xs:List (W×W)) (acc:List W) (t u:Option W),acc.length+xs.length<=sizeLine->(∀x∈xs,∀Q':Kc,Q' (f x) G->te (some x.1::some x.2::ρ) G Q')->Q (acc++xs.map f) G->
  zC (.t [0,1]) (λ_ G Q=>Q true G) te ok Q (xs.map λx=> .tup [x.1,x.2]) (t::u::ρ) acc G
 | [],acc,t,u,hl,h,q=>⟨hok,by exists q⟩
 | x::xs,acc,t,u,hl,h,q=>by
  show⟨hok,_,rfl,?_⟩;change te (some x.1::some x.2::ρ) G _;show h x ξ _ ⟨by simp at hl;lia,?_⟩;show cg2 f hok xs (acc++[f x]) _ _ (by simp at hl ⊢;lia) (λy hy=>h y (ζ _ hy)) (by exists q)
theorem Zw: ∀(a b:List W),zipW a b=(a.zip b).map λx=> .tup [x.1,x.2]
 | [],_=>by simp[zipW]
 | _::_,[]=>by simp[zipW]
 | x::a,y::b=>by simpa[zipW] using Zw a b
end
section
variable {enc:α->List W}{P:α->Gp->Prop}{f:α->W}{R:α->Gp->W->Gp->Prop}
def fsp (enc:α->List W) (P:α->Gp->Prop) (f:α->W):Sp3:={enc:=enc,pre:=P,post:=λa G w G'=>G'=G/\w=f a}
def gsp (enc:α->List W) (P:α->Gp->Prop) (R:α->Gp->W->Gp->Prop):Sp3:={enc:=enc,pre:=P,post:=R}
def zd(a:α)(p:P a G)(q:Q (f a) G):(fsp enc P f).run (enc a) G Q E:=by
 rw[y1];show⟨a,rfl,p,λw G' r=>by rw[r.1,r.2];show q,λ_ _ _ _ z=>z.elim⟩
def zD(a:α)(p:P a G)(q: ∀w G',R a G w G'->Q w G'):(gsp enc P R).run (enc a) G Q E:=by
 rw[y1];show⟨a,rfl,p,q,λ_ _ _ _ z=>z.elim⟩
abbrev go (N:En) (t:Txt) (Q:Kc) (E:XK3) (ws:List W) (G:Gp):Prop:=denS N (λ_=>E) t.r {nx:=λ_ G'=>back Q .non G',rt:=back Q} (Zz t.N ws) G
def bd_f(h: ∀a G (Q:Kc) (E:XK3),P a G->Q (f a) G->go N t Q E (enc a) G):Body N t (fsp enc P f):=λa G Q E p post _=>h a G Q E p (post _ _ ⟨rfl,rfl⟩)
def bd_g(h: ∀a G (Q:Kc) (E:XK3),P a G->(∀w G',R a G w G'->Q w G')->go N t Q E (enc a) G):Body N t (gsp enc P R):=λa G Q E p post _=>h a G Q E p post
def bk(q:Q w' G)(e:w=w'):back Q w G:=by rw[e];show back.mk q
def zN(e:tyW n x G=some b)(q:Q (.bl b) G):biW "isinstance" [x,.ty n] G Q:= .inr (.inr ⟨rfl,n,b,rfl,e,q⟩)
end
def tx (n p:List Str) (r:Sx):Txt:=⟨.Pass ⟨0,0,0,0⟩,n,p,r⟩
def ens (l:List (Str×Sp3)) (k:List (Str×W):=[]):En:={sp:=λx=>l.lookup x,kv:=λx=>k.lookup x}
def SubG.new(h:G r=Option.none):SubG G (updG G r o):=λa o e=>by
 rw[ze (λz=>by subst z;rw[h] at e;cases e)];show e
def SubG.trans(h:SubG a b)(h':SubG b c):SubG a c:=λx o e=>h' x o (h x o e)
section
variable {Q:List W->Gp->Prop}
theorem cg1t(p:W->Bool)(f:W->W)(hok:ok G): ∀(xs acc:List W) (t:Option W),acc.length+xs.length<=sizeLine->(∀x∈xs,∀Q',Q' (p x) G->tc (some x::ρ) G Q')->
  (∀x∈xs,p x=true-> ∀Q':Kc,Q' (f x) G->te (some x::ρ) G Q')->Q (acc++(xs.filter p).map f) G->zC (.n 0) tc te ok Q xs (t::ρ) acc G
 | [],acc,t,hl,hp,h,q=>⟨hok,by exists q⟩
 | x::xs,acc,t,hl,hp,h,q=>by
  show⟨hok,_,rfl,?_⟩;change tc (some x::ρ) G _;show hp x ξ _ ?_;cases e:p x
  .change zC _ _ _ _ _ _ _ _ _;show cg1t p f hok xs acc _ (by simp at hl ⊢;lia) (λy hy=>hp y (ζ _ hy)) (λy hy=>h y (ζ _ hy)) (by simpa[List.filter_cons,e] using q)
  .change te (some x::ρ) G _;show h x ξ e _ ⟨by simp at hl;lia,?_⟩;show cg1t p f hok xs (acc++[f x]) _ (by simp at hl ⊢;lia) (λy hy=>hp y (ζ _ hy)) (λy hy=>h y (ζ _ hy)) (by simpa[List.filter_cons,e] using q)
theorem cgI(I:List W->List W->Gp->Prop)(hok: ∀d a G,I d a G->ok G): ∀(xs done acc:List W) (t:Option W) (G:Gp),acc.length+xs.length<=sizeLine->I done acc G->
  (∀x d r a G Q',done++xs=d++x::r->I d a G->(∀y G',I (d++[x]) (a++[y]) G'->Q' y G')->te (some x::ρ) G Q')->(∀a G',I (done++xs) a G'->Q a G')->zC (.n 0) (λ_ G Q=>Q true G) te ok Q xs (t::ρ) acc G
 | [],d,acc,t,G,hl,i,h,q=>⟨hok _ _ _ i,q _ _ (by exists i)⟩
 | x::xs,d,acc,t,G,hl,i,h,q=>by
  show⟨hok _ _ _ i,_,rfl,?_⟩;change te (some x::ρ) G _;show h x d xs acc G _ rfl i λy G' i'=>⟨by simp at hl;lia,?_⟩;show cgI I hok xs (d++[x]) (acc++[y]) _ G' (by simp at hl ⊢;lia) i' (λx' d' r a G Q' e=>h x' d' r a G Q' (by exists e)) (λa G' i=>q a G' (by exists i))
end
theorem forI(I:List W->St3->Gp->Prop)(hok: ∀d τ G,I d τ G->ok G): ∀(xs done:List W) (τ:St3) (G:Gp),I done τ G->
  (∀x d r τ G nx,done++xs=d++x::r->I d τ G->(∀τ G,I (d++[x]) τ G->nx τ G)-> ∃τ',xw g x τ=some τ'/\b {D with nx:=nx,ct:=nx,bk:=D.nx} τ' G)->(∀τ G,I (done++xs) τ G->D.nx τ G)->yC g b ok D xs τ G
 | [],d,τ,G,i,h,q=>⟨hok _ _ _ i,q _ _ (by exists i)⟩
 | x::xs,d,τ,G,i,h,q=>by
  show⟨hok _ _ _ i,?_⟩;show h x d xs τ G _ rfl i fun τ' G' i'=>?_;show forI I hok xs (d++[x]) τ' G' i' (λx' d' r τ G nx e=>h x' d' r τ G nx (by exists e)) (fun τ G i=>q τ G (by exists i))
theorem whI(I:Nat->St3->Gp->Prop){c:St3->Gp->(Bool->Gp->Prop)->Prop}: ∀(n m:Nat) (τ:St3) (G:Gp),m<n->I m τ G->
  (∀m τ G nx,I m τ G->(∀m' τ' G',m'<m->I m' τ' G'->nx τ' G')->c τ G λk G1=>br k (b {D with nx:=nx,ct:=nx,bk:=D.nx} τ G1) (D.nx τ G1))->whGo c b D n τ G
 | 0,m,τ,G,hm,i,h=>by lia
 | n+1,m,τ,G,hm,i,h=>h m τ G _ i λm' τ' G' hm' i'=>whI I n m' τ' G' ∅ i' h
end L3
namespace TX
open PySem L2 L3
abbrev V0:Ex:= .v 0
abbrev V1:Ex:= .v 1
abbrev V2:Ex:= .v 2
abbrev V3:Ex:= .v 3
abbrev V4:Ex:= .v 4
abbrev V5:Ex:= .v 5
abbrev V6:Ex:= .v 6
abbrev V7:Ex:= .v 7
abbrev V8:Ex:= .v 8
abbrev V9:Ex:= .v 9
abbrev V10:Ex:= .v 10
abbrev tq (k:Nat) (n:List Str) (r:Sx):Txt:=⟨.Pass ⟨0,0,0,0⟩,n,n.take k,r⟩
abbrev I (k:Int):Ex:= .c (.int k)
abbrev A1 (a:Ex):Ex:= .cn a .nl
abbrev A2 (a b:Ex):Ex:= .cn a (.cn b .nl)
abbrev A3 (a b c:Ex):Ex:= .cn a (.cn b (.cn c .nl))
abbrev A4 (a b c d:Ex):Ex:= .cn a (.cn b (.cn c (.cn d .nl)))
abbrev A5 (a b c d e:Ex):Ex:= .cn a (.cn b (.cn c (.cn d (.cn e .nl))))
abbrev A6 (a b c d e f:Ex):Ex:= .cn a (.cn b (.cn c (.cn d (.cn e (.cn f .nl)))))
abbrev Pl (a b:Ex):Ex:= .op .Add a b
abbrev Mi (a b:Ex):Ex:= .op .Sub a b
abbrev Ti (a b:Ex):Ex:= .op .Mult a b
abbrev Mo (a b:Ex):Ex:= .op .Mod a b
abbrev Qe (a b:Ex):Ex:= .cmp .Eq a b
abbrev Gr (a b:Ex):Ex:= .cmp .Gt a b
abbrev Ne (a b:Ex):Ex:= .cmp .NotEq a b
abbrev Ln (a:Ex):Ex:= .rw "len" a
abbrev Tu (a:Ex):Ex:= .rw "tuple" a
abbrev Ii (a:Ex):Ex:= .bi "isinstance" a
def vh:Txt:=tq 1 ["thing"] (.ret (.and (Ii (A2 V0 (.c (.ty "int")))) (.not (Ii (A2 V0 (.c (.ty "bool")))))))
def ym:Txt:=tq 3 ["thing","low","high"] (.ret (.and (.call "is_whole" (A1 V0)) (.ch .LtE .LtE V1 V0 V2)))
def xI:Txt:=tq 2 ["many","thing"] (.seq (.iff (.or (.not (Ii (A2 V1 (.c (.ty "tuple"))))) (Ne (Ln (.is V1)) V0)) (.ret (.c (.bl false))) .nop) (.ret (.rw "all" (.ic 1 [] (.n 0) (.is V1) .nl (.call "is_whole" (A1 V0))))))
def xJ:Txt:=tq 2 ["many","thing"] (.ret (.and (.call "are_wholes" (A2 V0 V1)) (.rw "all" (.ic 1 [] (.n 0) (.is V1) .nl (.cmp .GtE V0 (I 0))))))
def xr:Txt:=tq 2 ["ones","others"] (.ret (.rw "sum" (.ic 2 [] (.t [0,1]) (.iz (A2 V0 V1)) .nl (Ti V0 V1))))
def v6:Txt:=tq 2 ["many","thing"] (.ret (.call "is_whole_within" (A3 V1 (I 0) (Mi V0 (I 1)))))
def yv:Txt:=tq 2 ["pot","number"] (.ret (.tup (A3 (.call "noughts" (A1 (.ix V0 (I 2)))) (.call "noughts" (A1 (.ix V0 (I 0)))) V1)))
def yw:Txt:=tq 2 ["pot","place"] (.ret (.tup (A3 (.call "one_at" (A2 (.ix V0 (I 2)) V1)) (.call "noughts" (A1 (.ix V0 (I 0)))) (I 0))))
def yM:Txt:=tq 2 ["pot","sort"] (.ret (.tup (A3 (.call "noughts" (A1 (.ix V0 (I 2)))) (.call "one_at" (A2 (.ix V0 (I 0)) V1)) (I 0))))
def v4:Txt:=tq 1 ["things"] (.ret (Tu (.ic 1 [] (.n 0) (.is V0) .nl (I 0))))
def Z2:Txt:=tq 2 ["things","place"] (.ret (Tu (.ic 1 [1] (.n 0) (.ir (A1 (Ln (.is V0)))) .nl (.ite (Qe V0 V1) (I 1) (I 0)))))
def Y5:Txt:=tq 2 ["one","other"] (.ret (.tup (A3 (Tu (.ic 2 [] (.t [0,1]) (.iz (A2 (.ix V0 (I 0)) (.ix V1 (I 0)))) .nl (Pl V0 V1))) (Tu (.ic 2 [] (.t [0,1]) (.iz (A2 (.ix V0 (I 1)) (.ix V1 (I 1)))) .nl (Pl V0 V1))) (Pl (.ix V0 (I 2)) (.ix V1 (I 2))))))
def vg:Txt:=tq 2 ["form","times"] (.ret (.tup (A3 (Tu (.ic 1 [1] (.n 0) (.is (.ix V0 (I 0))) .nl (Ti V1 V0))) (Tu (.ic 1 [1] (.n 0) (.is (.ix V0 (I 1))) .nl (Ti V1 V0))) (Ti V1 (.ix V0 (I 2))))))
def X3:Txt:=tq 2 ["one","other"] (.ret (.call "added" (A2 V0 (.call "so_often" (A2 V1 (.neg (I 1)))))))
def vt:Txt:=tq 2 ["form","number"] (.ret (.tup (A3 (.ix V0 (I 0)) (.ix V0 (I 1)) (Pl (.ix V0 (I 2)) V1))))
def wI:Txt:=tq 2 ["pot","ask","drops","one","parts"] (.seq (.set (.n 2) (.call "form_of_drops" (A2 V0 (.ix V0 (I 4))))) (.seq (.set (.n 3) (.call "form_of_line" (A2 V0 (.ix V1 (I 1))))) (.seq (.iff (Qe (.ix V1 (I 0)) (.c (.str "sum"))) (.ret (.tup (A1 (.call "both_ways" (A2 V2 V3))))) .nop) (.seq (.iff (Qe (.ix V1 (I 0)) (.c (.str "part"))) (.seq (.set (.n 4) (.call "so_often" (A2 V2 (.ix V1 (I 2))))) (.ret (.tup (A1 (.tup (A2 (.call "less" (A2 V3 V4)) (.call "and_more" (A2 (.call "less" (A2 V4 V3)) (Mi (.ix V1 (I 2)) (I 1)))))))))) .nop) (.ret (.call "pieces_of_two" (A5 V0 (.ix V1 (I 0)) V2 V3 (.call "form_of_line" (A2 V0 (.ix V1 (I 2)))))))))))
def yJ:Txt:=tq 5 ["pot","word","drops","one","other","yes","no","above","below"] (.seq (.iff (Qe V1 (.c (.str "least"))) (.ret (.tup (A2 (Pl (.call "both_ways" (A2 V2 V3)) (.tup (A1 (.call "less" (A2 V4 V3))))) (Pl (.call "both_ways" (A2 V2 V4)) (.tup (A1 (.call "less" (A2 V3 V4)))))))) .nop) (.seq (.iff (Qe V1 (.c (.str "most"))) (.ret (.tup (A2 (Pl (.call "both_ways" (A2 V2 V3)) (.tup (A1 (.call "less" (A2 V3 V4))))) (Pl (.call "both_ways" (A2 V2 V4)) (.tup (A1 (.call "less" (A2 V4 V3)))))))) .nop) (.seq (.set (.n 5) (.call "both_ways" (A2 V2 (.call "form_of_number" (A2 V0 (I 1)))))) (.seq (.set (.n 6) (.call "both_ways" (A2 V2 (.call "form_of_number" (A2 V0 (I 0)))))) (.seq (.set (.n 7) (.call "and_more" (A2 (.call "less" (A2 V3 V4)) (.neg (I 1))))) (.seq (.iff (Qe V1 (.c (.str "more"))) (.ret (.tup (A2 (Pl V5 (.tup (A1 V7))) (Pl V6 (.tup (A1 (.call "less" (A2 V4 V3)))))))) .nop) (.seq (.set (.n 8) (.call "and_more" (A2 (.call "less" (A2 V4 V3)) (.neg (I 1))))) (.ret (.tup (A3 (Pl V5 (.call "both_ways" (A2 V3 V4))) (Pl V6 (.tup (A1 V7))) (Pl V6 (.tup (A1 V8)))))))))))))
def wN:Txt:=tq 2 ["one","other"] (.ret (.tup (A2 (.call "less" (A2 V0 V1)) (.call "less" (A2 V1 V0)))))
def yT:Txt:=tq 2 ["pot","line"] (.ret (.tup (A3 (.ix V1 (I 0)) (.call "noughts" (A1 (.ix V0 (I 0)))) (.ix V1 (I 1)))))
def xH:Txt:=tq 1 ["thing","numbers"] (.seq (.iff (.or (.not (Ii (A2 V0 (.c (.ty "tuple"))))) (.not (.rw "all" (.ic 1 [] (.n 0) (.is V0) .nl (.call "is_weight" (A1 V0)))))) (.ret (.c (.bl false))) .nop) (.seq (.set (.n 1) (.lv (.ic 1 [] (.n 0) (.is V0) .nl (.ix V0 (I 0))))) (.ret (.rw "all" (.ic 2 [] (.t [0,1]) (.iz (A2 V1 (.sl V1 (A1 (I 1)) .nl))) .nl (.cmp .Lt V0 V1))))))
def wJ:Txt:=tq 1 ["thing"] (.seq (.iff (.or (.not (Ii (A2 V0 (.c (.ty "tuple"))))) (Ne (Ln (.is V0)) (I 2))) (.ret (.c (.bl false))) .nop) (.ret (.and (.call "is_whole" (A1 (.ix V0 (I 0)))) (.and (.cmp .GtE (.ix V0 (I 0)) (I 0)) (.and (.call "is_whole" (A1 (.ix V0 (I 1)))) (.cmp .GtE (.ix V0 (I 1)) (I 1)))))))
def vp:Txt:=tq 1 ["form"] (.ret (.call "and_more" (A2 (.call "so_often" (A2 V0 (.neg (I 1)))) (.neg (I 1)))))
def yS:Txt:=tq 2 ["forms","weights","total","number","times"] (.seq (.set (.n 2) (.call "so_often" (A2 (.ix V0 (I 0)) (I 0)))) (.seq (.fo (.t [3,4]) (.is V1) (.set (.n 2) (.call "added" (A2 V2 (.call "so_often" (A2 (.ix V0 V3) V4)))))) (.ret V2)))
def Y4:Txt:=tq 2 ["forms","thing","form"] (.seq (.iff (.or (.not (.call "is_weights" (A1 V1))) (.rw "any" (.ic 2 [0] (.t [0,1]) (.is V1) .nl (.cmp .GtE V0 (Ln (.is V2)))))) (.ret (.c (.bl false))) .nop) (.seq (.iff (Qe (Ln (.is V1)) (I 0)) (.ret (.c (.bl false))) .nop) (.seq (.set (.n 2) (.call "form_weighed" (A2 V0 V1))) (.ret (.and (.rw "all" (.ic 1 [] (.n 0) (.is (Pl (.ix V2 (I 0)) (.ix V2 (I 1)))) .nl (Qe V0 (I 0)))) (.cmp .Lt (.ix V2 (I 2)) (I 0)))))))
def vn:Txt:=tq 2 ["pot","kepts","facts","kept","form"] (.seq (.set (.n 2) (.lv (.ic 1 [0] (.n 0) (.ir (A1 (Ln (.is (.ix V0 (I 2)))))) .nl (.call "form_of_amount" (A2 V1 V0))))) (.seq (.ex (.me V2 "extend" (A1 (.lv (.ic 1 [0] (.n 0) (.ir (A1 (Ln (.is (.ix V0 (I 0)))))) .nl (.call "form_of_drops" (A2 V1 V0))))))) (.seq (.fo (.n 3) (.is V1) (.seq (.set (.n 4) (.call "form_of_kept" (A2 V0 V3))) (.ex (.me V2 "extend" (A1 (.lst (A2 V4 (.call "so_often" (A2 V4 (.neg (I 1))))))))))) (.ret V2))))
def yU:Txt:=tq 2 ["pot","kept","by_inputs"] (.seq (.set (.n 2) (Tu (.ic 1 [1] (.n 0) (.is (.ix V0 (I 2))) .nl (.neg (.ix V1 V0))))) (.ret (.tup (A3 V2 (Tu (.is V1)) (.neg (.call "times_added" (A2 V1 (.ix V0 (I 3)))))))))
def wL:Txt:=tq 2 ["heights","stand"] (.ret (.call "times_added" (A2 V0 V1)))
def yf:Txt:=tq 2 ["pot","heights","number","rule"] (.seq (.fo (.t [2,3]) (.ie (.ix V0 (I 1))) (.iff (.cmp .GtE (.call "height_of" (A2 V1 (.ix V3 (I 1)))) (.call "height_of" (A2 V1 (.ix V3 (I 0))))) (.ret V2) .nop)) (.ret (.c .non)))
def vj:Txt:=tq 3 ["pot","ask","thing","many"] (.seq (.iff (.or (.not (Ii (A2 V2 (.c (.ty "tuple"))))) (Ne (Ln (.is V2)) (I 3))) (.ret (.c (.bl false))) .nop) (.seq (.set (.n 3) (Ln (.is (.ix V0 (I 0))))) (.ret (.and (.call "are_kepts" (A2 V3 (.ix V2 (I 0)))) (.and (.call "are_counts" (A2 V3 (.ix V2 (I 1)))) (.call "is_whole_tree" (A3 V0 (.call "pieces_of" (A2 V0 V1)) (.ix V2 (I 2)))))))))
def wO:Txt:=tq 2 ["many","thing"] (.seq (.iff (.or (.not (Ii (A2 V1 (.c (.ty "tuple"))))) (Gr (Ln (.is V1)) (I 8))) (.ret (.c (.bl false))) .nop) (.ret (.rw "all" (.ic 1 [0] (.n 0) (.is V1) .nl (.call "are_wholes" (A2 V1 V0))))))
def yL:Txt:=tq 3 ["pot","pieces","thing","left","count","pair"] (.seq (.set (.n 3) (.lst (A1 (.tup (A2 V2 (I 1)))))) (.seq (.set (.n 4) (I 0)) (.seq (.wh (Gr (Ln (.is V3)) (I 0)) (.seq (.set (.n 5) (.me V3 "pop" .nl)) (.seq (.aug 4 .Add (I 1)) (.seq (.iff (.or (Gr V4 (I 1000)) (.or (Gr (.ix V5 (I 1)) (I 40)) (.not (.call "is_tree" (A3 V0 V1 (.ix V5 (I 0))))))) (.ret (.c (.bl false))) .nop) (.ex (.me V3 "extend" (A1 (.lv (.ic 1 [5] (.n 0) (.is (.call "trees_within" (A1 (.ix V5 (I 0))))) .nl (.tup (A2 V0 (Pl (.ix V1 (I 1)) (I 1))))))))))))) (.ret (.c (.bl true))))))
def v5:Txt:=tq 3 ["pot","pieces","thing"] (.seq (.iff (.or (.not (Ii (A2 V2 (.c (.ty "tuple"))))) (.cmp .Lt (Ln (.is V2)) (I 2))) (.ret (.c (.bl false))) .nop) (.seq (.iff (Qe (.ix V2 (I 0)) (.c (.str "lacks"))) (.ret (.and (Qe (Ln (.is V2)) (I 3)) (.call "is_lacks" (A3 V0 (.ix V2 (I 1)) (.ix V2 (I 2)))))) .nop) (.seq (.iff (Qe (.ix V2 (I 0)) (.c (.str "cut"))) (.ret (.and (Qe (Ln (.is V2)) (I 5)) (.and (.call "is_sort" (A2 (Ln (.is (.ix V0 (I 0)))) (.ix V2 (I 1)))) (.and (.call "is_whole" (A1 (.ix V2 (I 2)))) (.cmp .GtE (.ix V2 (I 2)) (I 0)))))) .nop) (.seq (.iff (Qe (.ix V2 (I 0)) (.c (.str "shut"))) (.ret (.and (Qe (Ln (.is V2)) (I 2)) (.call "is_weights" (A1 (.ix V2 (I 1)))))) .nop) (.ret (.and (Qe (.ix V2 (I 0)) (.c (.str "right"))) (.and (Qe (Ln (.is V2)) (I 3)) (.call "is_right" (A3 V1 (.ix V2 (I 1)) (.ix V2 (I 2)))))))))))
def vm:Txt:=tq 3 ["pot","rule","trees"] (.seq (.iff (.or (.not (.call "is_whole_within" (A3 V1 (I 0) (Mi (Ln (.is (.ix V0 (I 1)))) (I 1))))) (.not (Ii (A2 V2 (.c (.ty "tuple")))))) (.ret (.c (.bl false))) .nop) (.ret (Qe (Ln (.is V2)) (Ln (.is (.call "sorts_taken" (A2 V0 V1)))))))
def vi:Txt:=tq 3 ["pieces","piece","grounds"] (.seq (.iff (.or (.not (.call "is_whole_within" (A3 V1 (I 0) (Mi (Ln (.is V0)) (I 1))))) (.not (Ii (A2 V2 (.c (.ty "tuple")))))) (.ret (.c (.bl false))) .nop) (.ret (.and (Qe (Ln (.is V2)) (Ln (.is (.ix V0 V1)))) (.rw "all" (.ic 1 [] (.n 0) (.is V2) .nl (.call "is_weights" (A1 V0)))))))
def yQ:Txt:=tq 1 ["tree"] (.seq (.iff (Qe (.ix V0 (I 0)) (.c (.str "lacks"))) (.ret (.ix V0 (I 2))) .nop) (.seq (.iff (Qe (.ix V0 (I 0)) (.c (.str "cut"))) (.ret (.sl V0 (A1 (I 3)) .nl)) .nop) (.ret (.tup .nl))))
def xt:Txt:=tq 2 ["pot","rule"] (.ret (.lv (.ic 2 [] (.t [0,1]) (.ie (.ix (.ix (.ix V0 (I 1)) V1) (I 0))) (A1 (Gr V1 (I 0))) V0)))
def yR:Txt:=tq 2 ["pot","tree"] (.seq (.iff (Qe (.ix V1 (I 0)) (.c (.str "lacks"))) (.ret (.call "lacking_forms" (A2 V0 (.ix V1 (I 1))))) .nop) (.seq (.iff (Qe (.ix V1 (I 0)) (.c (.str "cut"))) (.ret (.call "cut_forms" (A3 V0 (.ix V1 (I 1)) (.ix V1 (I 2))))) .nop) (.ret (.lst .nl))))
def yK:Txt:=tq 2 ["pot","rule","takes"] (.seq (.set (.n 2) (.ix (.ix (.ix V0 (I 1)) V1) (I 0))) (.ret (.lv (.ic 1 [0,2] (.n 0) (.is (.call "sorts_taken" (A2 V0 V1))) .nl (.call "at_most" (A3 V1 V0 (Mi (.ix V2 V0) (I 1))))))))
def wM:Txt:=tq 3 ["pot","sort","number"] (.ret (.lst (A2 (.call "at_most" (A3 V0 V1 V2)) (.call "at_least" (A3 V0 V1 (Pl V2 (I 1)))))))
def v7:Txt:=tq 3 ["pot","sort","number"] (.ret (.call "less" (A2 (.call "form_of_number" (A2 V0 V2)) (.call "form_of_drops" (A2 V0 V1)))))
def vq:Txt:=tq 3 ["pot","sort","number"] (.ret (.call "and_more" (A2 (.call "form_of_drops" (A2 V0 V1)) (.neg V2))))
def vo:Txt:=tq 2 ["kept","stand"] (.ret (.call "times_added" (A2 V0 V1)))
def Y3:Txt:=tq 2 ["pot","kept"] (.ret (.cmp .Is (.call "first_change" (A2 V0 V1)) (.c .non)))
def yV:Txt:=tq 2 ["pot","kept","number","rule"] (.seq (.fo (.t [2,3]) (.ie (.ix V0 (I 1))) (.iff (Ne (.call "count_of" (A2 V1 (.ix V3 (I 0)))) (.call "count_of" (A2 V1 (.ix V3 (I 1))))) (.ret V2) .nop)) (.ret (.c .non)))
def x_lets_paper:Txt:=tq 3 ["pot","ask","thing","number","kept","rule","leaf"] (.seq (.iff (.not (.call "is_paper" (A3 V0 V1 V2))) (.raise "NoPaper" (A2 (.c (.str "shape")) (I 0))) .nop) (.seq (.fo (.t [3,4]) (.ie (.ix V2 (I 0))) (.iff (.not (.call "stays" (A2 V0 V4))) (.raise "NoPaper" (A2 (.c (.str "kept")) V3)) .nop)) (.seq (.set (.n 5) (.call "first_not_lowered" (A2 V0 (.ix V2 (I 1))))) (.seq (.iff (.cmp .IsNot V5 (.c .non)) (.raise "NoPaper" (A2 (.c (.str "height")) V5)) .nop) (.seq (.set (.n 6) (.call "first_open_leaf" (A4 V0 (.call "pieces_of" (A2 V0 V1)) (.call "facts_of" (A2 V0 (.ix V2 (I 0)))) (.ix V2 (I 2))))) (.seq (.iff (.cmp .IsNot V6 (.c .non)) (.raise "NoPaper" (A2 (.c (.str "leaf")) V6)) .nop) (.ret (.c (.bl true)))))))))
def yn:Txt:=tq 4 ["pot","pieces","facts","tree","left","count","pair","within"] (.seq (.set (.n 4) (.lst (A1 (.tup (A2 V3 V2))))) (.seq (.set (.n 5) (I 0)) (.seq (.wh (Gr (Ln (.is V4)) (I 0)) (.seq (.set (.n 6) (.me V4 "pop" .nl)) (.seq (.set (.n 7) (.call "under" (A3 V0 (.ix V6 (I 0)) (.ix V6 (I 1))))) (.seq (.ex (.me V4 "extend" (A1 (.lrv V7)))) (.iff (Qe (Ln (.is V7)) (I 0)) (.seq (.iff (.not (.call "is_closed" (A3 V1 (.ix V6 (I 1)) (.ix V6 (I 0))))) (.ret V5) .nop) (.aug 5 .Add (I 1))) .nop))))) (.ret (.c .non)))))
def Y2:Txt:=tq 3 ["pot","tree","facts"] (.ret (.lv (.ic 2 [2] (.t [0,1]) (.iz (A2 (.call "trees_within" (A1 V1)) (.call "forms_within" (A2 V0 V1)))) .nl (.tup (A2 V0 (Pl V2 (.lst (A1 V1))))))))
def wK:Txt:=tq 3 ["pieces","facts","leaf","forms"] (.seq (.iff (Qe (.ix V2 (I 0)) (.c (.str "shut"))) (.ret (.call "shuts" (A2 V1 (.ix V2 (I 1))))) .nop) (.seq (.set (.n 3) (.ix V0 (.ix V2 (I 1)))) (.ret (.rw "all" (.ic 2 [1] (.t [0,1]) (.iz (A2 V3 (.ix V2 (I 2)))) .nl (.call "shuts" (A2 (Pl V2 (.lst (A1 (.call "contrary" (A1 V0))))) V1)))))))
def wP:Txt:=tq 1 ["_law_script"] (.ret (.lst (A3 (.sl V0 .nl (A1 (I 63))) (I 0) (I 0))))
def wS:Txt:=tq 2 ["_law_tape_here","_law_many","_law_cell","_law_mixed","_law_found"] (.seq (.put V0 (I 1) (Pl (.ix V0 (I 1)) (I 1))) (.seq (.iff (Qe (.ix V0 (I 2)) (I 0)) (.seq (.set (.n 2) (I 0)) (.seq (.iff (Gr (Ln (.is (.ix V0 (I 0)))) (I 0)) (.set (.n 2) (.ix (.ix V0 (I 0)) (Mo (.ix V0 (I 1)) (Ln (.is (.ix V0 (I 0))))))) .nop) (.seq (.iff (.cmp .Lt V2 (.op .Pow (I 10) (I 18))) (.seq (.set (.n 3) (Mo (Pl (Pl (Ti (Mo V2 (I 2147483647)) (I 48271)) (Ti (.ix V0 (I 1)) (I 7919))) (I 12345)) (I 2147483629))) (.seq (.set (.n 3) (Mo (Ti V3 (Pl V3 (I 40692))) (I 2147483587))) (.ret (Mo (Mo (Ti V3 (I 16807)) (I 2147483563)) V1)))) .nop) (.put V0 (I 2) (Mi V2 (.op .Pow (I 10) (I 18))))))) .nop) (.seq (.set (.n 4) (Mo (.ix V0 (I 2)) V1)) (.seq (.put V0 (I 2) (.op .FloorDiv (.ix V0 (I 2)) V1)) (.ret V4)))))
def wR:Txt:=tq 2 ["_law_tape_here","_law_many","_law_some"] (.seq (.set (.n 2) (.lst (.cn (I 0) (.cn (I 1) (.cn (I 1) (.cn (I 2) (A6 (.neg (I 1)) (I 3) (.neg (I 2)) (I 10) (I 99) (.neg (I 99))))))))) (.ret (.tup (A2 (Tu (.ic 1 [2,0] (.n 0) (.ir (A1 V1)) .nl (.ix V1 (.call "_law_draw" (A2 V2 (I 10)))))) (.ix V2 (.call "_law_draw" (A2 V0 (I 10))))))))
def vy:Txt:=tq 2 ["_law_tape_here","_law_many","_law_word","_law_line_here"] (.seq (.set (.n 2) (.ix (.lst (A6 (.c (.str "sum")) (.c (.str "part")) (.c (.str "least")) (.c (.str "most")) (.c (.str "more")) (.c (.str "same")))) (.call "_law_draw" (A2 V0 (I 6))))) (.seq (.set (.n 3) (.call "_law_line" (A2 V0 V1))) (.seq (.iff (Qe V2 (.c (.str "sum"))) (.ret (.tup (A2 V2 V3))) .nop) (.seq (.iff (Qe V2 (.c (.str "part"))) (.ret (.tup (A3 V2 V3 (Pl (I 2) (.call "_law_draw" (A2 V0 (I 8))))))) .nop) (.ret (.tup (A3 V2 V3 (.call "_law_line" (A2 V0 V1)))))))))
def xO:Txt:=tq 2 ["_law_tape_here","_law_many","_law_pool","_law_start","_law_step"] (.seq (.set (.n 2) (.lst (.cn (.c (.str "a")) (.cn (.c (.str "ab")) (.cn (.c (.str "abc")) (.cn (.c (.str "b")) (.cn (.c (.str "sort")) (.cn (.c (.str "rules")) (A6 (.c (.str "into")) (.c (.str "begins")) (.c (.str "inx")) (.c (.str "outs")) (.c (.str "tox")) (.c (.str "abcdefgh"))))))))))) (.seq (.set (.n 3) (.call "_law_draw" (A2 V0 (I 12)))) (.seq (.set (.n 4) (.ix (.lst (A4 (I 1) (I 5) (I 7) (I 11))) (.call "_law_draw" (A2 V0 (I 4))))) (.ret (Tu (.ic 1 [2,3,4] (.n 0) (.ir (A1 V1)) .nl (.ix V1 (Mo (Pl V2 (Ti V3 V0)) (I 12)))))))))
def wQ:Txt:=tq 2 ["_law_tape_here","_law_many","_law_takes","_law_k","_law_gives"] (.seq (.set (.n 2) (Ti (.lst (A1 (I 0))) V1)) (.seq (.fo (.n 3) (.ir (A1 (Pl (I 1) (.call "_law_draw" (A2 V0 (I 2)))))) (.put V2 (.call "_law_draw" (A2 V0 V1)) (.ix (.lst (A4 (I 1) (I 1) (I 2) (I 9))) (.call "_law_draw" (A2 V0 (I 4)))))) (.seq (.set (.n 4) (Ti (.lst (A1 (I 0))) V1)) (.seq (.fo (.n 3) (.ir (A1 (.call "_law_draw" (A2 V0 (I 4))))) (.put V4 (.call "_law_draw" (A2 V0 V1)) (.ix (.lst (A4 (I 1) (I 1) (I 2) (I 9))) (.call "_law_draw" (A2 V0 (I 4)))))) (.seq (.iff (Qe V4 V2) (.put V4 (I 0) (Mo (Pl (.ix V4 (I 0)) (I 1)) (I 10))) .nop) (.ret (.tup (A2 (Tu (.is V2)) (Tu (.is V4))))))))))
def vw:Txt:=tq 3 ["_law_tape_here","_law_most","_law_rules","_law_many","_law_names_here","_law_k","_law_some","_law_left","_law_inputs","_law_begin"] (.seq (.set (.n 3) (Pl (I 1) (.call "_law_draw" (A2 V0 V1)))) (.seq (.set (.n 4) (.call "_law_names" (A2 V0 V3))) (.seq (.set (.n 6) (Tu (.ic 1 [3,0] (.n 0) (.ir (A1 (.call "_law_draw" (A2 V0 (Pl V2 (I 1)))))) .nl (.call "_law_rule" (A2 V2 V1))))) (.seq (.set (.n 7) (.lr "list" V3)) (.seq (.set (.n 8) (.lst .nl)) (.seq (.fo (.n 5) (.ir (A1 (.bi "min" (A2 (.call "_law_draw" (A2 V0 (I 4))) V3)))) (.ex (.me V8 "append" (A1 (.me V7 "pop" (A1 (.call "_law_draw" (A2 V0 (Ln (.is V7)))))))))) (.seq (.set (.n 9) (Tu (.ic 1 [0] (.n 0) (.ir (A1 V3)) .nl (.ix (.lst (A5 (I 0) (I 0) (I 1) (I 2) (I 99))) (.call "_law_draw" (A2 V1 (I 5))))))) (.ret (.tup (A5 V4 V6 (Tu (.is V8)) V9 (.call "_law_draw" (A2 V0 V3))))))))))))
def vx:Txt:=tq 1 ["_law_tape_here","_law_some"] (.seq (.set (.n 1) (.lst (.cn (.c .non) (.cn (.c (.bl true)) (.cn (.c (.bl false)) (.cn (I 0) (.cn (I 1) (.cn (.neg (I 1)) (.cn (I 100) (.cn (.neg (I 100)) (.cn (I 10) (.cn (.c (.str "")) (A6 (.c (.str "a")) (.c (.str "sum")) (.c (.str "part")) (.tup .nl) (.lst .nl) .dic0))))))))))))) (.ret (.ix V1 (.call "_law_draw" (A2 V0 (I 16))))))
def x__law_bent:Txt:=tq 2 ["_law_tape_here","_law_thing","_law_at","_law_way","_law_more"] (.seq (.iff (.and (Ii (A2 V1 (.c (.ty "tuple")))) (.and (Gr (Ln (.is V1)) (I 0)) (Gr (.call "_law_draw" (A2 V0 (I 4))) (I 0)))) (.seq (.set (.n 2) (.call "_law_draw" (A2 V0 (Ln (.is V1))))) (.ret (Pl (Pl (.sl V1 .nl (A1 V2)) (.tup (A1 (.call "_law_bent" (A2 V0 (.ix V1 V2)))))) (.sl V1 (A1 (Pl V2 (I 1))) .nl)))) .nop) (.seq (.set (.n 3) (.call "_law_draw" (A2 V0 (I 8)))) (.seq (.iff (.and (Ii (A2 V1 (.c (.ty "tuple")))) (.cmp .Lt V3 (I 5))) (.seq (.set (.n 2) (.call "_law_draw" (A2 V0 (Pl (Ln (.is V1)) (I 1))))) (.seq (.set (.n 4) (Pl (Pl (.sl V1 .nl (A1 V2)) (.sl (Pl V1 (.tup (A1 (I 0)))) .nl (A1 (I 1)))) (.sl V1 (A1 V2) .nl))) (.ret (.ix (.lst (A5 (.rw "list" (.is V1)) (.sl V1 .nl (A1 V2)) V4 (.rev V1) (Pl (.sl V1 .nl (A1 V2)) (.sl V1 (A1 (Pl V2 (I 1))) .nl)))) V3)))) .nop) (.seq (.iff (.and (Ii (A2 V1 (.c (.ty "int")))) (.cmp .Lt V3 (I 6))) (.ret (.ix (.lst (A6 (Pl V1 (I 1)) (Mi V1 (I 1)) (Qe V1 (I 1)) (.bi "str" (A1 V1)) (Mi (I 0) V1) (Ti V1 (I 100)))) V3)) .nop) (.ret (.call "_law_odd" (A1 V0)))))))
def yW:Txt:=tq 1 ["_law_tape_here","_law_weights_here","_law_number"] (.seq (.set (.n 1) (.lst .nl)) (.seq (.fo (.n 2) (.ir (A1 (.call "_law_draw" (A2 V0 (I 4))))) (.ex (.me V1 "append" (A1 (.tup (A2 (Pl (Ti (I 3) V2) (.call "_law_draw" (A2 V0 (I 3)))) (.ix (.lst (A3 (I 1) (I 2) (.op .Pow (I 10) (I 39)))) (.call "_law_draw" (A2 V0 (I 3)))))))))) (.ret (Tu (.is V1)))))
def xL:Txt:=tq 1 ["_law_rule_here"] (.ret (.lv (.ic 1 [0] (.n 0) (.ir (A1 (Ln (.is (.ix V0 (I 0)))))) (A1 (Gr (.ix (.ix V1 (I 0)) V0) (I 0))) V0)))
def x__law_tree:Txt:=tq 4 ["_law_tape_here","_law_pot_here","_law_sizes_here","_law_deep","_law_way","_law_rule_here","_law_taken_here","_law_head","_law_low","_law_piece"] (.seq (.set (.n 4) (.ite (Gr V3 (I 1)) (.call "_law_draw" (A2 V0 (I 4))) (Pl (I 2) (.call "_law_draw" (A2 V0 (I 2)))))) (.seq (.iff (.and (Qe V4 (I 0)) (Ne (.ix V1 (I 1)) (.tup .nl))) (.seq (.set (.n 5) (.call "_law_draw" (A2 V0 (Ln (.is (.ix V1 (I 1))))))) (.seq (.set (.n 6) (.call "_law_taken" (A1 (.ix (.ix V1 (I 1)) V5)))) (.ret (.tup (A3 (.c (.str "lacks")) V5 (Tu (.ic 1 [3,1,2,0] (.n 0) (.is V6) .nl (.call "_law_tree" (A4 V4 V2 V3 (Mi V1 (I 1))))))))))) .nop) (.seq (.iff (Qe V4 (I 1)) (.seq (.set (.n 7) (.tup (A3 (.c (.str "cut")) (.call "_law_draw" (A2 V0 (Ln (.is (.ix V1 (I 0)))))) (.ix (.lst (A4 (I 0) (I 1) (I 2) (.op .Pow (I 10) (I 39)))) (.call "_law_draw" (A2 V0 (I 4))))))) (.seq (.set (.n 8) (.call "_law_tree" (A4 V0 V1 V2 (Mi V3 (I 1))))) (.ret (Pl V7 (.tup (A2 V8 (.call "_law_tree" (A4 V0 V1 V2 (Mi V3 (I 1)))))))))) .nop) (.seq (.iff (Qe V4 (I 2)) (.ret (.tup (A2 (.c (.str "shut")) (.call "_law_weights" (A1 V0))))) .nop) (.seq (.set (.n 9) (.call "_law_draw" (A2 V0 (Ln (.is V2))))) (.ret (.tup (A3 (.c (.str "right")) V9 (Tu (.ic 1 [0] (.n 0) (.ir (A1 (.ix V2 V9))) .nl (.call "_law_weights" (A1 V1))))))))))))
def xM:Txt:=tq 1 ["_law_ask_here"] (.ret (.ix (.dic [.inr "sum",.inr "part",.inr "least",.inr "most",.inr "more",.inr "same"] (A6 (.lst (A1 (I 2))) (.lst (A1 (I 2))) (.lst (A2 (I 3) (I 3))) (.lst (A2 (I 3) (I 3))) (.lst (A2 (I 3) (I 3))) (.lst (A3 (I 4) (I 3) (I 3))))) (.ix V0 (I 0))))
def xK:Txt:=tq 2 ["_law_thing","_law_least"] (.ret (.and (Ii (A2 V0 (.c (.ty "int")))) (.and (.not (Ii (A2 V0 (.c (.ty "bool"))))) (.cmp .GtE V0 V1))))
def vv:Txt:=tq 3 ["_law_thing","_law_many","_law_least"] (.seq (.iff (.or (.not (Ii (A2 V0 (.c (.ty "tuple"))))) (Ne (Ln (.is V0)) V1)) (.ret (.c (.bl false))) .nop) (.ret (Qe (.lv (.ic 1 [2] (.n 0) (.is V0) (A1 (.not (.call "_law_whole" (A2 V0 (.ite (.cmp .Is V1 (.c .non)) (.neg (.op .Pow (I 10) (I 60))) V1))))) V0)) (.lst .nl))))
def yo:Txt:=tq 1 ["_law_thing"] (.seq (.iff (.or (.not (Ii (A2 V0 (.c (.ty "tuple"))))) (.cmp .In (.c (.bl false)) (.lv (.ic 1 [] (.n 0) (.is V0) .nl (.and (.call "_law_row" (A3 V0 (I 2) (I 0))) (Gr (.ix V0 (I 1)) (I 0))))))) (.ret (.c (.bl false))) .nop) (.ret (Qe (.lv (.ic 1 [0] (.n 0) (.ir (A2 (I 1) (Ln (.is V0)))) (A1 (.cmp .GtE (.ix (.ix V1 (Mi V0 (I 1))) (I 0)) (.ix (.ix V1 V0) (I 0)))) V0)) (.lst .nl))))
def xQ:Txt:=tq 3 ["_law_pot_here","_law_sizes_here","_law_tree_here","_law_good","_law_most"] (.seq (.iff (.or (.not (Ii (A2 V2 (.c (.ty "tuple"))))) (.or (.cmp .Lt (Ln (.is V2)) (I 2)) (.not (Ii (A2 (.ix V2 (I 0)) (.c (.ty "str"))))))) (.ret (.c .non)) .nop) (.seq (.iff (Qe (.ix V2 (I 0)) (.c (.str "shut"))) (.ret (.ite (.and (Qe (Ln (.is V2)) (I 2)) (.call "_law_is_weights" (A1 (.ix V2 (I 1))))) (.lst .nl) (.c .non))) .nop) (.seq (.iff (Qe (.ix V2 (I 0)) (.c (.str "cut"))) (.seq (.set (.n 3) (.and (Qe (Ln (.is V2)) (I 5)) (.and (.call "_law_whole" (A2 (.ix V2 (I 1)) (I 0))) (.and (.cmp .Lt (.ix V2 (I 1)) (Ln (.is (.ix V0 (I 0))))) (.call "_law_whole" (A2 (.ix V2 (I 2)) (I 0))))))) (.ret (.ite V3 (.rw "list" (.is (.sl V2 (A1 (I 3)) .nl))) (.c .non)))) .nop) (.seq (.set (.n 4) (.me (.dic [.inr "lacks",.inr "right"] (A2 (Ln (.is (.ix V0 (I 1)))) (Ln (.is V1)))) "get" (A2 (.ix V2 (I 0)) (I 0)))) (.seq (.iff (.or (Ne (Ln (.is V2)) (I 3)) (.or (.not (.call "_law_whole" (A2 (.ix V2 (I 1)) (I 0)))) (.or (.cmp .GtE (.ix V2 (I 1)) V4) (.not (Ii (A2 (.ix V2 (I 2)) (.c (.ty "tuple")))))))) (.ret (.c .non)) .nop) (.seq (.iff (Qe (.ix V2 (I 0)) (.c (.str "lacks"))) (.ret (.ite (Qe (Ln (.is (.ix V2 (I 2)))) (Ln (.is (.call "_law_taken" (A1 (.ix (.ix V0 (I 1)) (.ix V2 (I 1)))))))) (.rw "list" (.is (.ix V2 (I 2)))) (.c .non))) .nop) (.seq (.set (.n 3) (.and (Qe (Ln (.is (.ix V2 (I 2)))) (.ix V1 (.ix V2 (I 1)))) (.cmp .NotIn (.c (.bl false)) (.lv (.ic 1 [] (.n 0) (.is (.ix V2 (I 2))) .nl (.call "_law_is_weights" (A1 V0))))))) (.ret (.ite V3 (.lst .nl) (.c .non))))))))))
def yX:Txt:=tq 3 ["_law_pot_here","_law_sizes_here","_law_thing","_law_left","_law_many","_law_one","_law_deep","_law_inner_here"] (.seq (.set (.n 3) (.lst (A1 (.tup (A2 V2 (I 1)))))) (.seq (.set (.n 4) (I 0)) (.seq (.wh (Ne V3 (.lst .nl)) (.seq (.set (.t [5,6]) (.me V3 "pop" .nl)) (.seq (.set (.n 7) (.call "_law_inner" (A3 V0 V1 V5))) (.seq (.set (.n 4) (Pl V4 (I 1))) (.seq (.iff (.or (.cmp .Is V7 (.c .non)) (.or (Gr V4 (I 1000)) (Gr V6 (I 40)))) (.ret (.c (.bl false))) .nop) (.set (.n 3) (Pl V3 (.lv (.ic 1 [6] (.n 0) (.is V7) .nl (.tup (A2 V0 (Pl V1 (I 1))))))))))))) (.ret (.c (.bl true))))))
def yN:Txt:=tq 3 ["_law_pot_here","_law_sizes_here","_law_thing","_law_many"] (.seq (.iff (.or (.not (Ii (A2 V2 (.c (.ty "tuple"))))) (.or (Ne (Ln (.is V2)) (I 3)) (.or (.not (Ii (A2 (.ix V2 (I 0)) (.c (.ty "tuple"))))) (Gr (Ln (.is (.ix V2 (I 0)))) (I 8))))) (.ret (.c (.bl false))) .nop) (.seq (.set (.n 3) (Ln (.is (.ix V0 (I 0))))) (.seq (.iff (.or (.cmp .In (.c (.bl false)) (.lv (.ic 1 [3] (.n 0) (.is (.ix V2 (I 0))) .nl (.call "_law_row" (A3 V0 V1 (.c .non)))))) (.not (.call "_law_row" (A3 (.ix V2 (I 1)) V3 (I 0))))) (.ret (.c (.bl false))) .nop) (.ret (.call "_law_is_tree" (A3 V0 V1 (.ix V2 (I 2))))))))
def x__law_told:Txt:=tq 3 ["_law_pot_here","_law_ask_here","_law_thing","_law_caught","_law_told_here","e"] (.seq (.set (.n 3) (.c .non)) (.seq (.set (.n 4) (.c .non)) (.seq (.tr (.set (.n 4) (.call "lets_paper" (A3 V0 V1 V2))) "DropError" 5 (.set (.n 3) V5)) (.seq (.iff (.cmp .Is V3 (.c .non)) (.ret (.ite (.cmp .Is V4 (.c (.bl true))) (.tup (A2 (.c (.str "let")) (I 0))) (.tup (A2 (.c (.str "odd")) (I 0))))) .nop) (.seq (.iff (.isx V3 ["NoAsk","NoFault","NoJoin","NoLines","NoPot","NoRow","NoStep"]) (.ret (.tup (A2 (.c (.str "odd")) (I 0)))) .nop) (.seq (.iff (.or (.not (.isx V3 ["NoPaper"])) (.or (.not (.isx V3 ["ValueError"])) (Ii (A2 (.fld V3 "at") (.c (.ty "bool")))))) (.ret (.tup (A2 (.c (.str "odd")) (I 0)))) .nop) (.ret (.tup (A2 (.fld V3 "word") (.fld V3 "at"))))))))))
def xN:Txt:=tq 3 ["_law_pot_here","_law_ask_here","_law_thing","_law_kept","_law_told_here"] (.seq (.set (.n 3) (.bi "repr" (A1 V2))) (.seq (.set (.n 4) (.call "_law_told" (A3 V0 V1 V2))) (.seq (.iff (.or (.cmp .NotIn (.ix V4 (I 0)) (.tup (A5 (.c (.str "let")) (.c (.str "shape")) (.c (.str "kept")) (.c (.str "height")) (.c (.str "leaf"))))) (Ne (.bi "repr" (A1 V2)) V3)) (.ret (.c (.bl false))) .nop) (.ret (.ch .Eq .Eq (Qe V4 (.tup (A2 (.c (.str "shape")) (I 0)))) (.not (.call "_law_is_paper" (A3 V0 (.call "_law_sizes" (A1 V1)) V2))) (Qe (.ix V4 (I 0)) (.c (.str "shape"))))))))
def xP:Txt:=tq 3 ["_law_tape_here","_law_pot_here","_law_many"] (.ret (Tu (.ic 1 [1,0] (.n 0) (.ir (A1 V2)) .nl (Tu (.ic 1 [2] (.n 0) (.is (.ix V1 (I 0))) .nl (Mi (.call "_law_draw" (A2 V1 (I 5))) (I 2)))))))
def xR:Txt:=tq 1 ["_law_tape_here","_law_k","_law_row_here","_law_wide","_law_deep"] (.seq (.set (.n 2) (.lv (.ic 1 [] (.n 0) (.ir (A1 (I 500))) .nl (.tup (A2 (.c (.str "shut")) (.tup .nl)))))) (.seq (.wh (Gr (Ln (.is V2)) (I 1)) (.set (.n 2) (Pl (.lv (.ic 1 [2] (.n 0) (.ir (A3 (I 0) (Mi (Ln (.is V2)) (I 1)) (I 2))) .nl (.tup (A5 (.c (.str "cut")) (I 0) (I 0) (.ix V1 V0) (.ix V1 (Pl V0 (I 1))))))) (.sl V2 (A1 (Ti (.op .FloorDiv (Ln (.is V2)) (I 2)) (I 2))) .nl)))) (.seq (.set (.n 3) (.ix V2 (I 0))) (.seq (.fo (.n 1) (.ir (A1 (.call "_law_draw" (A2 V0 (I 3))))) (.set (.n 3) (.tup (A3 (.c (.str "lacks")) (I 0) (.tup (A1 V3)))))) (.seq (.set (.n 4) (.tup (A2 (.c (.str "shut")) (.tup (A1 (.tup (A2 (I 0) (I 1)))))))) (.seq (.fo (.n 1) (.ir (A1 (Pl (I 38) (.call "_law_draw" (A2 V0 (I 3)))))) (.set (.n 4) (.ite (Gr (Mo V1 (I 3)) (I 0)) (.tup (A5 (.c (.str "cut")) (Mo V1 (I 2)) (I 0) (.tup (A2 (.c (.str "shut")) (.tup .nl))) V4)) (.tup (A3 (.c (.str "lacks")) (I 0) (.tup (A1 V4))))))) (.ret (.lst (A2 V3 V4)))))))))
def x_law:Txt:=tq 1 ["_law_script","_law_tape_here","_law_k","_law_pot_here","_law_ask_here","_law_heights","_law_tree_here","_law_paper","_law_things","_law_j","_law_thing"] (.seq (.set (.n 1) (.call "_law_tape" (A1 V0))) (.seq (.fo (.n 2) (.ir (A1 (I 2))) (.seq (.set (.n 3) (.call "_law_pot" (A3 V1 (I 8) (I 8)))) (.seq (.set (.n 4) (.call "_law_ask" (A2 V1 (Ln (.is (.ix V3 (I 2))))))) (.seq (.set (.n 5) (Tu (.ic 1 [1] (.n 0) (.is (.ix V3 (I 0))) .nl (.call "_law_draw" (A2 V1 (I 4)))))) (.seq (.set (.n 6) (.call "_law_tree" (A4 V1 V3 (.call "_law_sizes" (A1 V4)) (Pl (I 1) (.call "_law_draw" (A2 V1 (I 4))))))) (.seq (.set (.n 7) (.tup (A3 (.call "_law_kepts" (A3 V1 V3 (.call "_law_draw" (A2 V1 (I 9))))) V5 V6))) (.seq (.set (.n 8) (.lst (A5 V7 (.rw "list" (.is V7)) (.sl V7 .nl (A1 (I 2))) (.call "_law_odd" (A1 V1)) (.tup (A3 (.call "_law_kepts" (A3 V1 V3 (I 9))) V5 V6))))) (.seq (.fo (.n 9) (.ir (A1 (I 8))) (.ex (.me V8 "append" (A1 (.call "_law_bent" (A2 V1 V7)))))) (.fo (.n 10) (.is V8) (.iff (.not (.call "_law_right" (A3 V3 V4 V10))) (.ret (.c (.bl false))) .nop)))))))))) (.seq (.set (.n 3) (.tup (A5 (.tup (A2 (.c (.str "a")) (.c (.str "b")))) (.tup (A1 (.tup (A2 (.tup (A2 (I 1) (I 0))) (.tup (A2 (I 0) (I 1))))))) (.tup (A1 (I 0))) (.tup (A2 (I 0) (I 0))) (I 1)))) (.seq (.fo (.n 6) (.is (.call "_law_great" (A1 V1))) (.iff (.not (.call "_law_right" (A3 V3 (.tup (A2 (.c (.str "sum")) (.tup (A2 (.tup (A1 (I 1))) (I 0))))) (.tup (A3 (.tup (A1 (.tup (A2 (I 1) (I 1))))) (.tup (A2 (I 2) (I 1))) V6))))) (.ret (.c (.bl false))) .nop)) (.ret (.c (.bl true)))))))
end TX
namespace L3
open PySem L2 TX
local macro_rules
  | `(tactic| left) => `(tactic| (conv => whnf))
  | `(tactic| right) => `(tactic| ((conv => whnf); refine ⟨_, rfl, ?_⟩))
def zW:W->Bool | .int _=>true | _=>false
def isInt:W->Bool | .int _=>true | .bl _=>true | _=>false
def xi:W->Bool | .bl _=>true | _=>false
def yO:W->Bool | .tup _=>true | _=>false
def vO:W->Bool | .str _=>true | _=>false
def isS (s:Str):W->Bool | .str t=>decide (t=s) | _=>false
def Th (G:Gp) (x:W):Prop:= ∃d,Pd G x d/\d.depth<=100
def Cm (G:Gp) (x:W):Prop:=(∃p kvs,x= .ref p/\G p=some (.dK kvs))\/ ∃d,Pd G x d/\d.canLay0=true/\d.depth<=50
theorem Y7(h:Th G x)(hn:tyNs.contains n=true)(hl:(n=="list")=false):tyW n x G=some ((n=="int"&&isInt x) || (n=="bool"&&xi x) || (n=="str"&&vO x) || (n=="tuple"&&yO x)):=by
 unfold tyW;rw[if_pos hn];obtain⟨d,h,_⟩:=h;cases h with
 | lst e _=>simp only[e];rw[hl];simp[isInt,xi,vO,yO]
 | dct e=>simp only[e];simp[isInt,xi,vO,yO]
 | bl=>simp[isInt,xi,vO,yO,Bool.or_comm]
 | _=>simp[isInt,xi,vO,yO]
def vz(h:Th G x):tyW "int" x G=some (isInt x):=(Y7 h rfl rfl).trans Sort
def Y8(h:Th G x):tyW "bool" x G=some (xi x):=(Y7 h rfl rfl).trans Sort
def zQ(h:Th G x):tyW "tuple" x G=some (yO x):=(Y7 h rfl rfl).trans Sort
def ty_str(h:Th G x):tyW "str" x G=some (vO x):=(Y7 h rfl rfl).trans Sort
theorem Pds.mem: ∀{ws:List W} {ds:List PyData},Pds G ws ds-> ∀w∈ws,∃d∈ds,Pd G w d
 | _,_,.cons a r,w,h=>by
  rcases Ε.mp h with rfl | h
  .show⟨_,ξ,a⟩
  .obtain⟨d,m,p⟩:=Pds.mem r w h;show⟨d,ζ _ m,p⟩
theorem depAll: ∀d∈ds,d.depth<=PyData.depthAll ds:=by
 induction ds with
 | nil=>intro d m;cases m
 | cons a r ih=>
  intro d m;change d.depth<=max a.depth (PyData.depthAll r);rcases Ε.mp m with rfl | m
  .lia
  .have:=ih d m;lia
def Th.mem(h:Th G (.tup ws)): ∀w∈ws,Th G w:=by
 obtain⟨d,p,e⟩:=h;cases p with | tup ps=>
 rename_i ds
 intro w m;obtain⟨d,md,p⟩:=ps.mem w m;show⟨d,p,?_⟩;have:d.depth<=PyData.depthAll ds:=depAll d md;have e:PyData.depthAll ds+1<=100:=e;lia
def Th.at{G:Gp}{ws:List W}(h:Th G (.tup ws)){i:Nat}{w:W}(e:ws[i]? =some w):Th G w:=h.mem w (Β e)
theorem eq_str{Q:Bool->Prop}(hs:(PyData.str s).canLay0=true)(h:Cm G x)(q:Q (isS s x)):cmpW .Eq x (.str s) G Q:=by
 rcases h with ⟨p,kvs,rfl,g⟩ | ⟨d,p,c,e⟩
 .show .inl ⟨⟨_,g⟩,q⟩
 cases p with
 | str t=>show q
 | dct g=>show .inl ⟨⟨_,g⟩,q⟩
 | lst g ps=>show .inr ⟨_,_,.lst g ps,.str s,c,hs,by lia,q⟩
 | tup ps=>show⟨_,_,.tup ps,.str s,c,hs,by lia,q⟩
 | non=>show⟨_,_,.non,.str s,c,hs,by lia,q⟩
 | bl b=>show⟨_,_,.bl b,.str s,c,hs,by lia,q⟩
 | int i=>show⟨_,_,.int i,.str s,c,hs,by lia,q⟩
def vZ{p:W->Bool}{xs:List W}(q:Q (.bl (xs.all p)) G):biL "all" false (xs.map λx=>W.bl (p x)) G Q:=by
 show⟨rfl,xs.map p,by simp[List.map_map,Function.comp_def],?_⟩;simpa[List.all_map,Function.comp_def] using q
def yI{ws:List W}{i:Nat}{w:W}(h:ws[i]? =some w):atI ws (i:Int)=some w:=by
 have hi:i<ws.length:=(Η.mp h).1;unfold atI ixN;rw[if_pos ∅,if_pos ∅];exists h
mutual
def nd:W->Nat
 | .tup ws=>1+nds ws
 | _=>1
def nds:List W->Nat
 | []=>0
 | w::ws=>nd w+nds ws
end
def vK(x:W):1<=nd x:=by cases x<;>simp[nd]
theorem xn: ∀ws:List W,ws.length<=nds ws
 | []=>μ _
 | w::ws=>by have:=xn ws;have:=vK w;simp[nds];lia
theorem wd: ∀{ws:List W} {w:W},w∈ws->nd w<=nds ws
 | w::ws,x,h=>by
  rcases Ε.mp h with rfl | h
  .simp[nds]
  .have:=wd h;simp[nds];lia
def Ln (x:W):Prop:=nd x<=100000
def Ln.len(h:Ln (.tup ws)):ws.length<=100000:=by have:=xn ws;unfold Ln at h;simp[nd] at h;lia
def Ln.mem(h:Ln (.tup ws))(m:w∈ws):Ln w:=by have:=wd m;unfold Ln at h ⊢;simp[nd] at h;lia
def xZ:Sp3:=fsp (α:=W) (λx=>[x]) (λx G=>Th G x) λx=> .bl (zW x)
def ok_whole:Body (ens []) vh xZ:=by
 show bd_f λx G Q E p q=>?_;show zN (vz p) ?_;show br_i (λh=>?_) λh=>?_
 .left;show zN (Y8 p) ?_;show bk q (by cases x<;>first | rfl | cases h)
 .show bk q (by cases x<;>first | rfl | cases h)
def within (l h:Int):W->Bool | .int i=>decide (l<=i)&&decide (i<=h) | _=>false
def xY:Sp3:=fsp (α:=W×Int×Int) (λx=>[x.1,.int x.2.1,.int x.2.2]) (λx G=>Th G x.1) λx=> .bl (within x.2.1 x.2.2 x.1)
def ok_within:Body (ens [("is_whole",xZ)]) ym xY:=by
 show bd_f fun⟨x,l,h⟩ G Q E p q=>?_;show zd x p ?_;ac_rfl
 .cases x<;>cases e
  ac_rfl
  .left;show bk q (by simp[within];intro;exists e)
  .left;show bk q (by simp at e;simp[within];intro;lia)
 .left;show bk q (by cases x<;>first | rfl | cases e)
section
variable {Q:List W->Gp->Prop}{t u:Option W}
def zS(h:n<=100000):n<=sizeLine:=η h ⋯
def cg_w(f:W->W)(xs:List W)(hl:xs.length<=100000)(hok:ok G)(h: ∀x∈xs,∀Q':Kc,Q' (f x) G->te (some x::ρ) G Q')(q:Q (xs.map f) G):zC (.n 0) (λ_ G Q=>Q true G) te ok Q xs (t::ρ) [] G:=
 cg1 f hok xs [] t (by exists zS hl) h q
def cg_i(f:Int->W)(a:List Int)(hl:a.length<=100000)(hok:ok G)(h: ∀x∈a,∀Q':Kc,Q' (f x) G->te (some (.int x)::ρ) G Q')(q:Q (a.map f) G):zC (.n 0) (λ_ G Q=>Q true G) te ok Q (a.map W.int) (t::ρ) [] G:=by
 show cg1 (fun | .int i=>f i | _=> .non) hok (a.map W.int) [] t (by exists zS hl) (λx hx Q' q'=>?_) (by simpa[Function.comp_def] using q);obtain⟨i,hi,rfl⟩:=π.mp hx;show h i hi Q' q'
def cg_r(f:Nat->W)(n:Nat)(hl:n<=100000)(hok:ok G)(h: ∀i<n,∀Q':Kc,Q' (f i) G->te (some (.int (i:Int))::ρ) G Q')(q:Q ((List.range n).map f) G):zC (.n 0) (λ_ G Q=>Q true G) te ok Q (rngW 0 (n:Int)) (t::ρ) [] G:=by
 have e:rngW 0 (n:Int)=((List.range n).map fun(i:Nat)=>(i:Int)).map W.int:=by simp[rngW,Function.comp_def]
 rw[e];show cg_i (λi=>f i.toNat) _ (by exists hl) hok (λx hx Q' q'=>?_) (by simpa[Function.comp_def] using q);obtain⟨i,hi,rfl⟩:=π.mp hx;show h i (Τ.mp hi) Q' (by exists q')
def cg_z(g:Int->Int->W)(a b:List Int)(hl:a.length<=100000)(hok:ok G)(h: ∀x y,(x,y)∈a.zip b-> ∀Q':Kc,Q' (g x y) G->te (some (.int x)::some (.int y)::ρ) G Q')(q:Q ((a.zip b).map λp=>g p.1 p.2) G):
  zC (.t [0,1]) (λ_ G Q=>Q true G) te ok Q (zipW (a.map W.int) (b.map W.int)) (t::u::ρ) [] G:=by
 rw[Zw];show cg2 (fun | (.int x,.int y)=>g x y | _=> .non) hok ((a.map W.int).zip (b.map W.int)) [] t u (by simp;show zS ∅) (λx hx Q' q'=>?_) ?_
 .rw[List.zip_map] at hx;obtain⟨⟨p,r⟩,hp,rfl⟩:=π.mp hx;show h p r hp Q' q'
 .rw[List.zip_map,Ω];show Eq.mp (congrArg (λl=>Q l G) (List.map_congr_left fun⟨a,b⟩ _=>rfl)) q
end
def zB (n:Int):W->Bool | .tup ws=>decide (ws.length=n)&&ws.all zW | _=>false
def vB:Sp3:=fsp (α:=Int×W) (λx=>[.int x.1,x.2]) (λx G=>Th G x.2/\Ln x.2) λx=> .bl (zB x.1 x.2)
theorem ok_wholes:Body (ens [("is_whole",xZ)]) xI vB:=by
 show bd_f fun⟨n,x⟩ G Q E p q=>?_;obtain⟨p,ln⟩:=p;show zN (zQ p) ?_;ac_rfl
 .left;show br_t ?_;show bk q (by cases x<;>first | rfl | cases e)
 .cases x with
  | tup ws=>
   ac_rfl
   .show bk q (by simp at e;simp[zB,e])
   .left;show cg_w (ok:=λ_=>True) (ρ:=[]) (λx=> .bl (zW x)) ws ln.len trivial ?_ ?_
    .intro x h Q' q;show zd x (p.mem x h) q
    .show vZ ?_;show bk q (by simp at e;simp[zB,e])
  | _=>cases e
def vP:W->Bool | .int i=>decide (0<=i) | _=>false
def zU (n:Int):W->Bool | .tup ws=>decide (ws.length=n)&&ws.all vP | _=>false
def Ye:Sp3:=fsp (α:=Int×W) (λx=>[.int x.1,x.2]) (λx G=>Th G x.2/\Ln x.2) λx=> .bl (zU x.1 x.2)
def posW{ws:List W}:ws.all vP=(ws.all zW&&ws.all vP):=by
 rw[Bool.eq_iff_iff,Bool.and_eq_true,List.all_eq_true,List.all_eq_true];show⟨λh=>⟨λx hx=>(by have:=h x hx;cases x<;>first | rfl | cases this),h⟩,λh=>h.2⟩
theorem ok_counts:Body (ens [("are_wholes",vB)]) xJ Ye:=by
 show bd_f fun⟨n,x⟩ G Q E p q=>?_;show zd (n,x) p ?_;ac_rfl
 .cases x with
  | tup ws=>
   simp only[zB,Bool.and_eq_true] at e;show cg_w (ok:=λ_=>True) (ρ:=[]) (λx=> .bl (vP x)) ws p.2.len trivial ?_ ?_
   .intro x h Q' q;have:=List.all_eq_true.mp e.2 x h;cases x<;>first | cases this;done | skip
    show q
   .show vZ ?_;show bk q (by simp at e;simp[zU,e])
  | _=>cases e
 .show bk q (by
   cases x<;>first | rfl | skip
   change W.bl false=W.bl (_&&_);have e:(_&&_)=false:=e;rw[posW,<-Bool.and_assoc,e];rfl)
def iT (a:List Int):W:= .tup (a.map W.int)
def w6:Sp3:=fsp (α:=List Int×List Int) (λx=>[iT x.1,iT x.2]) (λx _=>x.1.length<=1000/\ ∀p∈x.1.zip x.2,IntMulOk p.1 p.2) λx=> .int ((x.1.zip x.2).map λp=>p.1*p.2).sum
def ok_times:Body (ens []) xr w6:=by
 show bd_f fun⟨a,b⟩ G Q E p q=>?_;show cg_z (ok:=λ_=>True/\True) (ρ:=[]) (λx y=> .int (x*y)) a b (η p.1 ⋯) ⟨trivial,trivial⟩ ?_ ?_
 .intro x y h Q' q;show⟨p.2 _ h,q⟩
 .left;show⟨(a.zip b).map λp=>p.1*p.2,by simp[Function.comp_def],bk q rfl⟩
def wG (n:Int):W->Bool:=within 0 (n-1)
def Wh:Sp3:=fsp (α:=Int×W) (λx=>[.int x.1,x.2]) (λx G=>Th G x.2) λx=> .bl (wG x.1 x.2)
def ok_sort:Body (ens [("is_whole_within",xY)]) v6 Wh:=by
 show bd_f fun⟨n,x⟩ G Q E p q=>?_;show zd (x,0,n-1) p ?_;show bk q rfl
abbrev Fo:=List Int×List Int×Int
def fW (f:Fo):W:= .tup [iT f.1,iT f.2.1,.int f.2.2]
structure Po where
 nm:List Str
 rl:List (List Int×List Int)
 ip:List Int
 bg:List Int
 an:Int
def rW (r:List Int×List Int):W:= .tup [iT r.1,iT r.2]
def pW (p:Po):W:= .tup [.tup (p.nm.map W.str),.tup (p.rl.map rW),iT p.ip,iT p.bg,.int p.an]
abbrev Po.n (p:Po):Nat:=p.nm.length
structure PoOk (p:Po):Prop where
 n1:1<=p.n
 n8:p.n<=8
 r8:p.rl.length<=8
 ra: ∀r∈p.rl,r.1.length=p.n
 rp: ∀r∈p.rl,∃x∈r.1,0<x
 rb: ∀r∈p.rl,r.2.length=p.n
 rc: ∀r∈p.rl,∀x∈r.1,0<=x/\x<=9
 rd: ∀r∈p.rl,∀x∈r.2,0<=x/\x<=10
 i3:p.ip.length<=3
 ii: ∀i∈p.ip,0<=i/\i<p.n
 bl:p.bg.length=p.n
 bb: ∀x∈p.bg,0<=x/\x<=99
 a0:0<=p.an
 a1:p.an<p.n
def nou (n:Nat):List Int:=List.replicate n 0
def oneA (n:Nat) (k:Int):List Int:=(List.range n).map fun(i:Nat)=>if (i:Int)=k then 1 else 0
def addF (a b:Fo):Fo:=((a.1.zip b.1).map (λp=>p.1+p.2),(a.2.1.zip b.2.1).map (λp=>p.1+p.2),a.2.2+b.2.2)
def oftF (a:Fo) (t:Int):Fo:=(a.1.map (t* ·),a.2.1.map (t* ·),t*a.2.2)
def lesF (a b:Fo):Fo:=addF a (oftF b (-1))
def morF (a:Fo) (n:Int):Fo:=(a.1,a.2.1,a.2.2+n)
def numF (p:Po) (n:Int):Fo:=(nou p.ip.length,nou p.n,n)
def amtF (p:Po) (k:Int):Fo:=(oneA p.ip.length k,nou p.n,0)
def drpF (p:Po) (k:Int):Fo:=(nou p.ip.length,oneA p.n k,0)
def Z8:Sp3:=fsp (α:=List W) (λws=>[.tup ws]) (λws _=>ws.length<=1000) λws=>iT (nou ws.length)
def ok_nou:Body (ens []) v4 Z8:=by
 show bd_f λws G Q E p q=>?_;show cg_w (ok:=λ_=>True) (ρ:=[]) (λx=> .int 0) ws (η p ⋯) trivial (λx h Q' q=>q) ?_;show bk q (by simp[iT,nou,List.map_const'])
def Wi:Sp3:=fsp (α:=List W×Int) (λx=>[.tup x.1,.int x.2]) (λx _=>x.1.length<=1000) λx=>iT (oneA x.1.length x.2)
def ok_one:Body (ens []) Z2 Wi:=by
 show bd_f fun⟨ws,k⟩ G Q E p q=>?_;show⟨by lia,?_⟩;show cg_r (ok:=λ_=>True) (ρ:=[some (.int k)]) (λi=> .int (if (i:Int)=k then 1 else 0)) ws.length (η p ⋯) trivial ?_ ?_
 .intro i hi Q' q;show br_d (λh=>?_) λh=>?_
  .rw[if_pos h] at q;show q
  .rw[if_neg h] at q;show q
 .show bk q (by simp[iT,oneA,Function.comp_def])
def FoL (a:Fo):Prop:=a.1.length<=400/\a.2.1.length<=400
def Wn:Sp3:=fsp (α:=Fo×Fo) (λx=>[fW x.1,fW x.2]) (λx _=>FoL x.1) λx=>fW (addF x.1 x.2)
def ok_added:Body (ens []) Y5 Wn:=by
 show bd_f fun⟨a,b⟩ G Q E p q=>?_;obtain⟨a1,a2,a3⟩:=a;obtain⟨b1,b2,b3⟩:=b;show⟨_,rfl,_,rfl,?_⟩;show cg_z (ok:=λ_=>True/\True) (ρ:=[]) (λx y=> .int (x+y)) a1 b1 (η p.1 ⋯) ⟨trivial,trivial⟩ (λx y h Q' q=>q) ?_;show⟨_,rfl,_,rfl,?_⟩;show cg_z (ok:=λ_=>True/\True) (ρ:=[]) (λx y=> .int (x+y)) a2 b2 (η p.2 ⋯) ⟨trivial,trivial⟩ (λx y h Q' q=>q) ?_;show⟨_,rfl,_,rfl,?_⟩;show⟨sz3,?_⟩;show bk q (by simp[fW,addF,iT,Function.comp_def])
def MkF (a:Fo) (t:Int):Prop:=(∀x∈a.1,IntMulOk t x)/\(∀x∈a.2.1,IntMulOk t x)/\IntMulOk t a.2.2
def Zc:Sp3:=fsp (α:=Fo×Int) (λx=>[fW x.1,.int x.2]) (λx _=>FoL x.1/\MkF x.1 x.2) λx=>fW (oftF x.1 x.2)
def ok_oft:Body (ens []) vg Zc:=by
 show bd_f fun⟨a,k⟩ G Q E p q=>?_;obtain⟨a1,a2,a3⟩:=a;obtain⟨⟨l1,l2⟩,m1,m2,m3⟩:=p;right;show cg_i (ok:=λ_=>True) (ρ:=[some (.int k)]) (λx=> .int (k*x)) a1 (η l1 ⋯) trivial (λx h Q' q=>?_) ?_
 .left;show⟨m1 x h,q⟩
 right;show cg_i (ok:=λ_=>True) (ρ:=[some (.int k)]) (λx=> .int (k*x)) a2 (η l2 ⋯) trivial (λx h Q' q=>?_) ?_
 .left;show⟨m2 x h,q⟩
 right;show⟨m3,?_⟩;show⟨sz3,?_⟩;show bk q (by simp[fW,oftF,iT,Function.comp_def])
theorem forT(enc:α->W)(I:List α->St3->Gp->Prop)(hok: ∀d τ G,I d τ G->ok G): ∀(xs done:List α) (τ:St3) (G:Gp),I done τ G->
  (∀x d r τ G nx,done++xs=d++x::r->I d τ G->(∀τ G,I (d++[x]) τ G->nx τ G)-> ∃τ',xw g (enc x) τ=some τ'/\b {D with nx:=nx,ct:=nx,bk:=D.nx} τ' G)->(∀τ G,I (done++xs) τ G->D.nx τ G)->yC g b ok D (xs.map enc) τ G
 | [],d,τ,G,i,h,q=>⟨hok _ _ _ i,q _ _ (by exists i)⟩
 | x::xs,d,τ,G,i,h,q=>by
  show⟨hok _ _ _ i,?_⟩;show h x d xs τ G _ rfl i fun τ' G' i'=>?_;show forT enc I hok xs (d++[x]) τ' G' i' (λx' d' r τ G nx e=>h x' d' r τ G nx (by exists e)) (fun τ G i=>q τ G (by exists i))
theorem forE(enc:α->W)(I:List α->St3->Gp->Prop)(hok: ∀d τ G,I d τ G->ok G): ∀(xs done:List α) (τ:St3) (G:Gp),I done τ G->
  (∀x d r τ G nx,done++xs=d++x::r->I d τ G->(∀τ G,I (d++[x]) τ G->nx τ G)-> ∃τ',xw g (.tup [.int d.length,enc x]) τ=some τ'/\b {D with nx:=nx,ct:=nx,bk:=D.nx} τ' G)->(∀τ G,I (done++xs) τ G->D.nx τ G)->yC g b ok D (enuW done.length (xs.map enc)) τ G
 | [],d,τ,G,i,h,q=>⟨hok _ _ _ i,q _ _ (by exists i)⟩
 | x::xs,d,τ,G,i,h,q=>by
  show⟨hok _ _ _ i,?_⟩;show h x d xs τ G _ rfl i fun τ' G' i'=>?_;have:=forE enc I hok xs (d++[x]) τ' G' i' (λx' d' r τ G nx e=>h x' d' r τ G nx (by exists e)) (fun τ G i=>q τ G (by exists i));rw[Ξ] at this;show this
def mulS{t:Int}(h:t.natAbs<2^16):IntMulOk t x:=by
 have e:Builtin.Int.intBits t<=16:=by
  unfold Builtin.Int.intBits;by_cases h0:t=0
  .subst h0;decide
  .have e:(t==0)=false:=by exists h0
   rw[e];have:=(Nat.log2_lt (n:=t.natAbs) (k:=16) ∅).mpr h;change t.natAbs.log2+1<=16;lia
 unfold IntMulOk;have:decide (Builtin.Int.intBits t>shortFactorBits)=false:=Ζ (Nat.not_lt.mpr (η e (nofun)));rw[this];simp
def mkFS{t:Int}(h:t.natAbs<2^16):MkF a t:=⟨λ_ _=>mulS h,λ_ _=>mulS h,mulS h⟩
def Yc:Sp3:=fsp (α:=Fo×Fo) (λx=>[fW x.1,fW x.2]) (λx _=>FoL x.1/\FoL x.2) λx=>fW (lesF x.1 x.2)
def ok_less:Body (ens [("added",Wn),("so_often",Zc)]) X3 Yc:=by
 show bd_f fun⟨a,b⟩ G Q E p q=>?_;show zd (b,-1) ⟨p.2,mkFS (by change(-1:Int).natAbs<65536;decide)⟩ ?_;show zd (a,oftF b (-1)) p.1 ?_;show bk q rfl
def Z9:Sp3:=fsp (α:=Fo×Int) (λx=>[fW x.1,.int x.2]) (λx _=>True) λx=>fW (morF x.1 x.2)
def ok_more:Body (ens []) vt Z9:=by
 show bd_f fun⟨a,k⟩ G Q E p q=>?_;right;right;right;show⟨sz3,bk q rfl⟩
def PoOk.ipl(h:PoOk p):(p.ip.map W.int).length<=1000:=by have:=h.i3;simp;lia
def PoOk.nml(h:PoOk p):(p.nm.map W.str).length<=1000:=by have:p.nm.length<=8:=h.n8;simp;lia
def Wj:Sp3:=fsp (α:=Po×Int) (λx=>[pW x.1,.int x.2]) (λx _=>PoOk x.1) λx=>fW (numF x.1 x.2)
def ok_num:Body (ens [("noughts",Z8)]) yv Wj:=by
 show bd_f fun⟨p,k⟩ G Q E h q=>?_;right;show zd (p.ip.map W.int) (PoOk.ipl h) ?_;right;show zd (p.nm.map W.str) (PoOk.nml h) ?_;show⟨sz3,bk q (by simp[fW,numF])⟩
def Vj:Sp3:=fsp (α:=Po×Int) (λx=>[pW x.1,.int x.2]) (λx _=>PoOk x.1) λx=>fW (amtF x.1 x.2)
def ok_amt:Body (ens [("one_at",Wi),("noughts",Z8)]) yw Vj:=by
 show bd_f fun⟨p,k⟩ G Q E h q=>?_;right;show zd (p.ip.map W.int,k) (PoOk.ipl h) ?_;right;show zd (p.nm.map W.str) (PoOk.nml h) ?_;show⟨sz3,bk q (by simp[fW,amtF])⟩
def Yd:Sp3:=fsp (α:=Po×Int) (λx=>[pW x.1,.int x.2]) (λx _=>PoOk x.1) λx=>fW (drpF x.1 x.2)
def ok_drp:Body (ens [("one_at",Wi),("noughts",Z8)]) yM Yd:=by
 show bd_f fun⟨p,k⟩ G Q E h q=>?_;right;show zd (p.ip.map W.int) (PoOk.ipl h) ?_;right;show zd (p.nm.map W.str,k) (PoOk.nml h) ?_;show⟨sz3,bk q (by simp[fW,drpF])⟩
abbrev Li:=List Int×Int
def lW (l:Li):W:= .tup [iT l.1,.int l.2]
def linF (p:Po) (l:Li):Fo:=(l.1,nou p.n,l.2)
def Vf:Sp3:=fsp (α:=Po×Li) (λx=>[pW x.1,lW x.2]) (λx _=>PoOk x.1) λx=>fW (linF x.1 x.2)
def ok_lin:Body (ens [("noughts",Z8)]) yT Vf:=by
 show bd_f fun⟨p,l⟩ G Q E h q=>?_;right;right;show zd (p.nm.map W.str) (PoOk.nml h) ?_;right;show⟨sz3,bk q (by simp[fW,linF])⟩
def bwF (a b:Fo):List Fo:=[lesF a b,lesF b a]
def csW (c:List Fo):W:= .tup (c.map fW)
def pcW (ps:List (List Fo)):W:= .tup (ps.map csW)
def spBw:Sp3:=fsp (α:=Fo×Fo) (λx=>[fW x.1,fW x.2]) (λx _=>FoL x.1/\FoL x.2) λx=>csW (bwF x.1 x.2)
def ok_bw:Body (ens [("less",Yc)]) wN spBw:=by
 show bd_f fun⟨a,b⟩ G Q E p q=>?_;show zd (a,b) p ?_;show zd (b,a) ⟨p.2,p.1⟩ ?_;show⟨sz2,bk q rfl⟩
def FoL.les(h:FoL a):FoL (lesF a b):=by
 unfold FoL lesF addF at*;simp only[List.length_map,List.length_zip];lia
def FoL.mor(h:FoL a):FoL (morF a n):=h
def FoL.oft(h:FoL a):FoL (oftF a n):=by simpa[FoL,oftF] using h
def FoL.num(h:PoOk p):FoL (numF p n):=by have:=h.i3;have:=h.n8;simp[FoL,numF,nou];lia
def FoL.drp(h:PoOk p):FoL (drpF p n):=by have:=h.i3;have:=h.n8;simp[FoL,drpF,nou,oneA];lia
def FoL.amt(h:PoOk p):FoL (amtF p n):=by have:=h.i3;have:=h.n8;simp[FoL,amtF,nou,oneA];lia
def pcs2 (p:Po) (w:Str) (d a b:Fo):List (List Fo):=
 if w="least" then [bwF d a++[lesF b a],bwF d b++[lesF a b]]
 else if w="most" then [bwF d a++[lesF a b],bwF d b++[lesF b a]]
 else if w="more" then [bwF d (numF p 1)++[morF (lesF a b) (-1)],bwF d (numF p 0)++[lesF b a]]
 else [bwF d (numF p 1)++bwF a b,bwF d (numF p 0)++[morF (lesF a b) (-1)],bwF d (numF p 0)++[morF (lesF b a) (-1)]]
def Vc:Sp3:=fsp (α:=Po×Str×Fo×Fo×Fo) (λx=>[pW x.1,.str x.2.1,fW x.2.2.1,fW x.2.2.2.1,fW x.2.2.2.2]) (λx _=>PoOk x.1/\FoL x.2.2.1/\FoL x.2.2.2.1/\FoL x.2.2.2.2) λx=>pcW (pcs2 x.1 x.2.1 x.2.2.1 x.2.2.2.1 x.2.2.2.2)
def ok_pc2:Body (ens [("less",Yc),("both_ways",spBw),("and_more",Z9),("form_of_number",Wj)]) yJ Vc:=by
 show bd_f fun⟨p,w,d,a,b⟩ G Q E h q=>?_;obtain⟨hp,hd,ha,hb⟩:=h;unfold pcs2 at q;show br_d (λe=>?_) λe=>?_
 .rw[if_pos e] at q;show zd (d,a) ⟨hd,ha⟩ ?_;show zd (b,a) ⟨hb,ha⟩ ?_;show⟨sz1,?_⟩;show⟨(by lia:2+1<=1000),?_⟩;show zd (d,b) ⟨hd,hb⟩ ?_;show zd (a,b) ⟨ha,hb⟩ ?_;show⟨sz1,?_⟩;show⟨(by lia:2+1<=1000),?_⟩;show⟨sz2,bk q rfl⟩
 rw[if_neg e] at q;show br_d (λe=>?_) λe=>?_
 .rw[if_pos e] at q;show zd (d,a) ⟨hd,ha⟩ ?_;show zd (a,b) ⟨ha,hb⟩ ?_;show⟨sz1,?_⟩;show⟨(by lia:2+1<=1000),?_⟩;show zd (d,b) ⟨hd,hb⟩ ?_;show zd (b,a) ⟨hb,ha⟩ ?_;show⟨sz1,?_⟩;show⟨(by lia:2+1<=1000),?_⟩;show⟨sz2,bk q rfl⟩
 rw[if_neg e] at q;show zd (p,1) hp ?_;show zd (d,numF p 1) ⟨hd,.num hp⟩ ?_;rfl';show zd (p,0) hp ?_;show zd (d,numF p 0) ⟨hd,.num hp⟩ ?_;rfl';show zd (a,b) ⟨ha,hb⟩ ?_;show zd (lesF a b,-1) trivial ?_;rfl';show br_d (λe=>?_) λe=>?_
 .rw[if_pos e] at q;show⟨sz1,?_⟩;show⟨(by lia:2+1<=1000),?_⟩;show zd (b,a) ⟨hb,ha⟩ ?_;show⟨sz1,?_⟩;show⟨(by lia:2+1<=1000),?_⟩;show⟨sz2,bk q rfl⟩
 rw[if_neg e] at q;show zd (b,a) ⟨hb,ha⟩ ?_;show zd (lesF b a,-1) trivial ?_;rfl';show zd (a,b) ⟨ha,hb⟩ ?_;show⟨(by lia:2+2<=1000),?_⟩;show⟨sz1,?_⟩;show⟨(by lia:2+1<=1000),?_⟩;show⟨sz1,?_⟩;show⟨(by lia:2+1<=1000),?_⟩;show⟨sz3,bk q rfl⟩
inductive Ak where
 | sum (l:Li) | part (l:Li) (m:Int) | two (w:Str) (l k:Li)
def aW:Ak->W
 | .sum l=> .tup [.str "sum",lW l]
 | .part l m=> .tup [.str "part",lW l,.int m]
 | .two w l k=> .tup [.str w,lW l,lW k]
structure LiOk (i:Nat) (l:Li):Prop where
 n:l.1.length=i
 b: ∀x∈l.1,-99<=x/\x<=99
 c: -99<=l.2/\l.2<=99
def AkOk (i:Nat):Ak->Prop
 | .sum l=>LiOk i l
 | .part l m=>LiOk i l/\2<=m/\m<=9
 | .two w l k=>LiOk i l/\LiOk i k/\(w="least"\/w="most"\/w="more"\/w="same")
def pcs (p:Po) (a:Ak):List (List Fo):=match a with
 | .sum l=>[bwF (drpF p p.an) (linF p l)]
 | .part l m=>[[lesF (linF p l) (oftF (drpF p p.an) m),morF (lesF (oftF (drpF p p.an) m) (linF p l)) (m-1)]]
 | .two w l k=>pcs2 p w (drpF p p.an) (linF p l) (linF p k)
def FoL.lin(h:PoOk p)(hl:LiOk p.ip.length l):FoL (linF p l):=by have:=h.i3;have:=h.n8;have:=hl.n;simp[FoL,linF,nou];lia
def Xf:Sp3:=fsp (α:=Po×Ak) (λx=>[pW x.1,aW x.2]) (λx _=>PoOk x.1/\AkOk x.1.ip.length x.2) λx=>pcW (pcs x.1 x.2)
theorem ok_pcs:Body (ens [("less",Yc),("both_ways",spBw),("and_more",Z9),("so_often",Zc),("form_of_drops",Yd),("form_of_line",Vf),("pieces_of_two",Vc)]) wI Xf:=by
 show bd_f fun⟨p,a⟩ G Q E h q=>?_;obtain⟨hp,ha⟩:=h;cases a with
 | sum l=>
  right;show zd (p,p.an) hp ?_;rfl';right;show zd (p,l) hp ?_;rfl';right;show br_t ?_;show zd (drpF p p.an,linF p l) ⟨.drp hp,.lin hp ha⟩ ?_;show⟨sz1,bk q rfl⟩
 | part l m=>
  right;show zd (p,p.an) hp ?_;rfl';right;show zd (p,l) hp ?_;rfl';right;show br_f ?_;right;show br_t ?_;right;show zd (drpF p p.an,m) ⟨.drp hp,mkFS (by have:=ha.2;change m.natAbs<65536;lia)⟩ ?_;rfl';show zd (linF p l,oftF (drpF p p.an) m) ⟨.lin hp ha.1,(FoL.drp hp).oft⟩ ?_;show zd (oftF (drpF p p.an) m,linF p l) ⟨(FoL.drp hp).oft,.lin hp ha.1⟩ ?_;right;show zd (lesF (oftF (drpF p p.an) m) (linF p l),m-1) trivial ?_;show⟨sz2,?_⟩;show⟨sz1,bk q rfl⟩
 | two w l k=>
  obtain⟨hl,hk,hw⟩:=ha;right;show zd (p,p.an) hp ?_;rfl';right;show zd (p,l) hp ?_;rfl';right;show br_d (λe=>?_) λ_=>?_
  .subst e;rcases hw with hw | hw | hw | hw<;>show absurd hw ⋯
  right;show br_d (λe=>?_) λ_=>?_
  .subst e;rcases hw with hw | hw | hw | hw<;>show absurd hw ⋯
  right;right;show zd (p,k) hp ?_;show zd (p,w,drpF p p.an,linF p l,linF p k) ⟨hp,.drp hp,.lin hp hl,.lin hp hk⟩ ?_;show bk q rfl
def yh{α:Type}{xs:List α}{k:Nat}:cutW xs (some (k:Int)) none=xs.drop k:=by
 unfold cutW HT.sIx;have e:(if (k:Int)<0 then ((k:Int)+xs.length).toNat else min (k:Int).toNat xs.length)=min k xs.length:=by rw[if_neg ∅];simp
 simp only[e];rcases Nat.le_total k xs.length with h | h
 .rw[Nat.min_eq_left h,List.take_of_length_le Sort]
 .rw[Nat.min_eq_right h];simp[List.drop_eq_nil_of_le h]
def zp:W->Bool | .tup [.int a,.int b]=>decide (0<=a)&&decide (1<=b) | _=>false
def wj{ws:List W}(h:ws.length≠2):zp (.tup ws)=false:=by
 unfold zp;split
 .rename_i e;cases e;simp at h
 .rfl
def Z7:Sp3:=fsp (α:=W) (λx=>[x]) (λx G=>Th G x) λx=> .bl (zp x)
def yz(h:zW x=true): ∃i,x= .int i:=by cases x<;>first | show⟨_,rfl⟩ | cases h
def isWeight_ab:zp (.tup [a,b])=(zW a&&((match a with | .int i=>decide (0<=i) | _=>false)&&(zW b&&(match b with | .int i=>decide (1<=i) | _=>false)))):=by
 cases a<;>cases b<;>first | rfl | simp[zp,zW]
theorem ok_weight:Body (ens [("is_whole",xZ)]) wJ Z7:=by
 show bd_f λx G Q E p q=>?_;show zN (zQ p) ?_;cases x with
 | tup ws=>
  show br_f ?_
  match ws,p,q with
  | [],p,q=>left;show br_t ?_;show bk q rfl
  | [_],p,q=>left;show br_t ?_;show bk q (by rw[wj Sort])
  | _::_::_::r,p,q=>
   ac_rfl
   .show bk q (by rw[wj Sort])
   .simp at e;lia
  | [a,b],p,q=>
   rw[isWeight_ab] at q;show br_f ?_;right;show zd a (p.mem a Sort) ?_;ac_rfl
   .obtain⟨i,rfl⟩:=yz e;right;ac_rfl
    .right;show zd b (p.mem b Sort) ?_;ac_rfl
     .obtain⟨j,rfl⟩:=yz e;right;show bk q (by simp at*;simp[zW, *])
     .show bk q (by simp only[e,Bool.false_and,Bool.and_false])
    .show bk q (by simp only[e,Bool.false_and,Bool.and_false])
   .show bk q (by simp only[e,Bool.false_and,Bool.and_false])
 | _=>
  show br_t ?_;show br_t (bk q rfl)
def yi:List Int->Bool
 | a::b::r=>decide (a<b)&&yi (b::r)
 | _=>true
theorem Zf: ∀ns:List Int,(ns.zip (ns.drop 1)).all (λp=>decide (p.1<p.2))=yi ns
 | []=>rfl
 | [_]=>rfl
 | a::b::r=>by
  have:=Zf (b::r);simp only[List.drop_succ_cons,List.drop_zero,yi] at this ⊢;rw[<-this];rfl
def zZ:W->Int | .tup (.int a::_)=>a | _=>0
def zt:W->Bool | .tup ws=>ws.all zp&&yi (ws.map zZ) | _=>false
def xl:Sp3:=fsp (α:=W) (λx=>[x]) (λx G=>Th G x/\Ln x) λx=> .bl (zt x)
def yb(h:zp x=true): ∃i j,x= .tup [.int i,.int j]/\0<=i/\1<=j:=by
 unfold zp at h;split at h
 .simp at h;show⟨_,_,rfl,h.1,h.2⟩
 .cases h
theorem ok_weights:Body (ens [("is_weight",Z7)]) xH xl:=by
 show bd_f λx G Q E p q=>?_;obtain⟨p,ln⟩:=p;show zN (zQ p) ?_;cases x with
 | tup ws=>
  have ln:ws.length<=100000:=ln.len;show br_f ?_;show cg_w (ok:=λ_=>True) (ρ:=[]) (λx=> .bl (zp x)) ws ln trivial ?_ ?_
  .intro x h Q' q;show zd x (p.mem x h) q
  .show vZ ?_;show br_n ?_;ac_rfl
   .left;have hw: ∀x∈ws,zp x=true:=List.all_eq_true.mp e;show cg_w (ok:=λ_=>True) (ρ:=[]) (λx=> .int (zZ x)) ws ln trivial ?_ ?_
    .intro x h Q' q;obtain⟨i,j,rfl,_⟩:=yb (hw x h);show⟨_,rfl,q⟩
    .have em:ws.map (λx=>W.int (zZ x))=(ws.map zZ).map W.int:=by simp
     rw[em];intro r hr;right;show⟨_,.inl updG_same,?_⟩;intro r2 hr2;have ne:r≠r2:=λz=>by subst z;rw[updG_same] at hr2;cases hr2
     have ec:cutW ((ws.map zZ).map W.int) (some 1) none=((ws.map zZ).drop 1).map W.int:=by
      change cutW _ (some ((1:Nat):Int)) none=_;rw[yh,List.map_drop]
     show⟨_,(ze ne).trans updG_same,.inl ?_⟩;show⟨_,updG_same,.inl ?_⟩;rw[ec];show cg_z (ρ:=[]) (λx y=> .bl (decide (x<y))) _ _ (by exists ln) ?_ (λx y h Q' q=>q) ?_
     .show⟨(ze ne).trans updG_same,by change updG _ r2 _ r2=_;rw[updG_same]⟩
     .show⟨rfl,((ws.map zZ).zip ((ws.map zZ).drop 1)).map fun(p:Int×Int)=>decide (p.1<p.2),by simp[Function.comp_def],?_⟩;show⟨G,(SubG.new hr).trans (SubG.new hr2),?_⟩;have e2:(((ws.map zZ).zip ((ws.map zZ).drop 1)).map fun(p:Int×Int)=>decide (p.1<p.2)).all id=zt (.tup ws):=by
       rw[List.all_map];change(List.all _ fun(p:Int×Int)=>decide (p.1<p.2))=(ws.all zp&&yi (ws.map zZ));rw[Zf,e];rfl
      rw[e2];show q
   .show bk q (by change W.bl false=W.bl (ws.all zp&&_);rw[e];rfl)
 | _=>
  show br_t ?_;show br_t (bk q rfl)
def Vi:Sp3:=fsp (α:=Fo) (λx=>[fW x]) (λx _=>FoL x) λx=>fW (morF (oftF x (-1)) (-1))
def ok_con:Body (ens [("and_more",Z9),("so_often",Zc)]) vp Vi:=by
 show bd_f λa G Q E p q=>?_;show zd (a,-1) ⟨p,mkFS (by change(-1:Int).natAbs<65536;decide)⟩ ?_;show zd (oftF a (-1),-1) trivial ?_;show bk q rfl
abbrev Wt:=Int×Int
def w1W (w:Wt):W:= .tup [.int w.1,.int w.2]
def wtW (ws:List Wt):W:= .tup (ws.map w1W)
def fAt (fs:List Fo) (i:Int):Fo:=fs.getD i.toNat ([],[],0)
def wgF (fs:List Fo) (ws:List Wt):Fo:=ws.foldl (λt w=>addF t (oftF (fAt fs w.1) w.2)) (oftF (fAt fs 0) 0)
structure WgOk (fs:List Fo) (ws:List Wt):Prop where
 fl: ∀f∈fs,FoL f
 f0:0<fs.length
 wl:ws.length<=100000
 wn: ∀w∈ws,0<=w.1/\w.1<fs.length
 mf: ∀w∈ws,MkF (fAt fs w.1) w.2
def FoL.add(h:FoL a):FoL (addF a b):=by
 unfold FoL addF at*;simp only[List.length_map,List.length_zip];lia
theorem YH(fs:List Fo): ∀(ws:List Wt) (t:Fo),FoL t->FoL (ws.foldl (λt w=>addF t (oftF (fAt fs w.1) w.2)) t)
 | [],t,h=>h
 | w::ws,t,h=>YH fs ws _ h.add
def xD{α:Type}{enc:α->W}{xs:List α}{i:Nat}{x:α}(h:xs[i]? =some x):atI (xs.map enc) (i:Int)=some (enc x):=yI (by rw[Ν,h];rfl)
def XN{fs:List Fo}{i:Int}(h0:0<=i)(h:i<fs.length):fs[i.toNat]? =some (fAt fs i):=by
 have:i.toNat<fs.length:=by lia
 unfold fAt;rw[υ,χ this];rfl
def XO{fs:List Fo}{i:Int}(h0:0<=i)(h:i<fs.length):atI (fs.map fW) i=some (fW (fAt fs i)):=by
 have:=xD (enc:=fW) (XN h0 h)
 rwa [Int.toNat_of_nonneg h0] at this
def wk{fs:List Fo}{i:Int}(h0:0<=i)(h:i<fs.length):fAt fs i∈fs:=Β (XN h0 h)
def spWg:Sp3:=fsp (α:=Addr×List Fo×List Wt) (λx=>[.ref x.1,wtW x.2.2]) (λx G=>G x.1=some (.lst (x.2.1.map fW))/\WgOk x.2.1 x.2.2) λx=>fW (wgF x.2.1 x.2.2)
def ok_wg:Body (ens [("added",Wn),("so_often",Zc)]) yS spWg:=by
 show bd_f fun⟨a,fs,ws⟩ G Q E h q=>?_;obtain⟨ha,h⟩:=h;have ha:G a=some (.lst (fs.map fW)):=ha;have h:WgOk fs ws:=h;show .inl ⟨_,0,_,.inl ha,rfl,XO ∅ (by have:=h.f0;lia),?_⟩;show zd (fAt fs 0,0) ⟨h.fl _ (wk ∅ (by have:=h.f0;lia)),mkFS (by change(0:Int).natAbs<65536;decide)⟩ ?_;rfl';have l0:FoL (oftF (fAt fs 0) 0):=(h.fl _ (wk ∅ (by have:=h.f0;lia))).oft;show forT w1W (λd τ G'=>G'=G/\ ∃u v,τ=[some (.ref a),some (wtW ws),some (fW (d.foldl (λt w=>addF t (oftF (fAt fs w.1) w.2)) (oftF (fAt fs 0) 0))),u,v]) (λ_ _ _ _=>trivial) ws [] _ _ ⟨rfl,none,none,rfl⟩ ?_ ?_
 .rintro w d r τ G' nx e ⟨rfl,u,v,rfl⟩ k;have hw:w∈ws:=by rw[show ws=d++w::r from e];simp
  rfl';obtain⟨n0,n1⟩:=h.wn w hw;show .inl ⟨_,w.1,_,.inl ha,rfl,XO n0 n1,?_⟩;show zd (fAt fs w.1,w.2) ⟨h.fl _ (wk n0 n1),h.mf w hw⟩ ?_;show zd (d.foldl (λt w=>addF t (oftF (fAt fs w.1) w.2)) (oftF (fAt fs 0) 0),oftF (fAt fs w.1) w.2) ?_ ?_
  .show YH fs d _ l0
  rfl';show k _ _ ⟨rfl,_,_,by simp[List.foldl_append];rfl⟩
 .rintro τ G' ⟨rfl,u,v,rfl⟩;show bk q rfl
section
variable {Q:List W->Gp->Prop}{t u:Option W}
theorem cg2t(p:W×W->Bool)(f:W×W->W)(hok:ok G): ∀(xs:List (W×W)) (acc:List W) (t u:Option W),acc.length+xs.length<=sizeLine->(∀x∈xs,∀Q',Q' (p x) G->tc (some x.1::some x.2::ρ) G Q')->
  (∀x∈xs,p x=true-> ∀Q':Kc,Q' (f x) G->te (some x.1::some x.2::ρ) G Q')->Q (acc++(xs.filter p).map f) G->zC (.t [0,1]) tc te ok Q (xs.map λx=> .tup [x.1,x.2]) (t::u::ρ) acc G
 | [],acc,t,u,hl,hp,h,q=>⟨hok,by exists q⟩
 | x::xs,acc,t,u,hl,hp,h,q=>by
  show⟨hok,_,rfl,?_⟩;change tc (some x.1::some x.2::ρ) G _;show hp x ξ _ ?_;cases e:p x
  .change zC _ _ _ _ _ _ _ _ _;show cg2t p f hok xs acc _ _ (by simp at hl ⊢;lia) (λy hy=>hp y (ζ _ hy)) (λy hy=>h y (ζ _ hy)) (by simpa[List.filter_cons,e] using q)
  .change te (some x.1::some x.2::ρ) G _;show h x ξ e _ ⟨by simp at hl;lia,?_⟩;show cg2t p f hok xs (acc++[f x]) _ _ (by simp at hl ⊢;lia) (λy hy=>hp y (ζ _ hy)) (λy hy=>h y (ζ _ hy)) (by simpa[List.filter_cons,e] using q)
def cg_p(f:Int->Int->W)(ws:List Wt)(hl:ws.length<=100000)(hok:ok G)(h: ∀w∈ws,∀Q':Kc,Q' (f w.1 w.2) G->te (some (.int w.1)::some (.int w.2)::ρ) G Q')(q:Q (ws.map λw=>f w.1 w.2) G):
  zC (.t [0,1]) (λ_ G Q=>Q true G) te ok Q (ws.map w1W) (t::u::ρ) [] G:=by
 have e:ws.map w1W=(ws.map λw=>(W.int w.1,W.int w.2)).map λx=> .tup [x.1,x.2]:=by simp[w1W,Function.comp_def]
 rw[e];show cg2 (fun | (.int x,.int y)=>f x y | _=> .non) hok _ [] t u (by exists zS hl) (λx hx Q' q'=>?_) (by simpa[Function.comp_def] using q);obtain⟨w,hw,rfl⟩:=π.mp hx;show h w hw Q' q'
theorem WS: ∀(k:Nat) (xs:List W),enuW k xs=((xs.zipIdx k).map λq=>(W.int q.2,q.1)).map λx=> .tup [x.1,x.2]
 | k,[]=>rfl
 | k,x::xs=>by
  change W.tup [.int k,x]::enuW (k+1) xs=_;rw[WS (k+1) xs];rfl
def idxs (p:Int->Bool) (k:Nat):List Int->List Int
 | []=>[]
 | x::xs=>if p x then (k:Int)::idxs p (k+1) xs else idxs p (k+1) xs
theorem XI(p:Int->Bool): ∀(a:List Int) (k:Nat),((((a.map W.int).zipIdx k).map λq=>(W.int q.2,q.1)).filter λx=>match x.2 with | .int i=>p i | _=>false).map (·.1)=(idxs p k a).map W.int
 | [],k=>rfl
 | x::xs,k=>by
  have ih:=XI p xs (k+1);simp only[List.map_cons,List.zipIdx_cons,List.filter_cons,idxs];by_cases e:p x=true
  .rw[if_pos e,if_pos e];show congrArg (W.int k:: ·) ih
  .rw[if_neg e,if_neg e];show ih
def cg_en(p:Int->Bool)(a:List Int)(hl:a.length<=100000)(hok:ok G)(hp: ∀x∈a,∀(k:W) Q',Q' (p x) G->tc (some k::some (.int x)::ρ) G Q')(h: ∀(k:W) x,∀Q':Kc,Q' k G->te (some k::some (.int x)::ρ) G Q')(q:Q ((idxs p 0 a).map W.int) G):
  zC (.t [0,1]) tc te ok Q (enuW 0 (a.map W.int)) (t::u::ρ) [] G:=by
 rw[WS];have mem: ∀x∈((a.map W.int).zipIdx 0).map λq=>(W.int q.2,q.1),∃i∈a,x.2= .int i:=λx hx=>by
  obtain⟨q,hq,rfl⟩:=π.mp hx;have:=List.fst_mem_of_mem_zipIdx hq;obtain⟨i,hi,e⟩:=π.mp this;show⟨i,hi,e.symm⟩
 show cg2t (λx=>match x.2 with | .int i=>p i | _=>false) (·.1) hok _ [] t u (by exists zS hl) (λx hx Q' q'=>?_) (λx hx e Q' q'=>?_) (by rw[XI];show q)
 .obtain⟨i,hi,e⟩:=mem x hx;obtain⟨x1,x2⟩:=x;cases e
  show hp i hi x1 Q' q'
 .obtain⟨i,hi,e⟩:=mem x hx;obtain⟨x1,x2⟩:=x;cases e
  show h x1 i Q' q'
end
def y6{t:Int}(h:t.natAbs<2^16):IntMulOk x t:=by
 have:=mulS (x:=x) h;unfold IntMulOk at this ⊢;rw[show(decide (Builtin.Int.intBits x>shortFactorBits)&&decide (Builtin.Int.intBits t>shortFactorBits))=(decide (Builtin.Int.intBits t>shortFactorBits)&&decide (Builtin.Int.intBits x>shortFactorBits)) from Bool.and_comm _ _,Int.add_comm];show this
def toWt:W->Wt | .tup [.int a,.int b]=>(a,b) | _=>(0,0)
def weights_eq{ws:List W}(h:ws.all zp=true):ws=(ws.map toWt).map w1W:=by
 rw[Ω]
 conv=>lhs;rw[<-List.map_id ws]
 show List.map_congr_left λx hx=>?_;obtain⟨i,j,rfl,_⟩:=yb (List.all_eq_true.mp h x hx);rfl
def weights_pos{ws:List W}(h:ws.all zp=true): ∀w∈ws.map toWt,0<=w.1/\1<=w.2:=λw hw=>by
 obtain⟨x,hx,rfl⟩:=π.mp hw;obtain⟨i,j,rfl,a,b⟩:=yb (List.all_eq_true.mp h x hx);show⟨a,b⟩
def wD (f:Fo):Bool:=(f.1++f.2.1).all (λi=>decide (i=0))&&decide (f.2.2<0)
def yq (fs:List Fo):W->Bool
 | .tup ws=>zt (.tup ws)&&((ws.map toWt).all (λw=>decide (w.1<fs.length))&&(!ws.isEmpty&&wD (wgF fs (ws.map toWt))))
 | _=>false
def ShOk (fs:List Fo):W->Prop
 | .tup ws=> ∀w∈ws.map toWt,0<=w.1->w.1<fs.length->MkF (fAt fs w.1) w.2
 | _=>True
def spSh:Sp3:=fsp (α:=Addr×List Fo×W) (λx=>[.ref x.1,x.2.2]) (λx G=>G x.1=some (.lst (x.2.1.map fW))/\(∀f∈x.2.1,FoL f)/\Th G x.2.2/\Ln x.2.2/\ShOk x.2.1 x.2.2) λx=> .bl (yq x.2.1 x.2.2)
theorem ok_shuts:Body (ens [("is_weights",xl),("form_weighed",spWg)]) Y4 spSh:=by
 show bd_f fun⟨a,fs,x⟩ G Q E h q=>?_;obtain⟨ha,hf,hx,ln,so⟩:=h;show zd x ⟨hx,ln⟩ ?_;show br_n ?_;ac_rfl
 .cases x with
  | tup ws=>
   have ea:ws.all zp=true:=by
    simp only[zt,Bool.and_eq_true] at e;show e.1
   have ln:ws.length<=100000:=ln.len;obtain⟨wt,em,wp,wso,wq⟩: ∃wt:List Wt,ws=wt.map w1W/\(∀w∈wt,0<=w.1/\1<=w.2)/\(∀w∈wt,0<=w.1->w.1<fs.length->MkF (fAt fs w.1) w.2)/\Q (.bl (wt.all (λw=>decide (w.1<fs.length))&&(!wt.isEmpty&&wD (wgF fs wt)))) G:=by
    show⟨ws.map toWt,weights_eq ea,weights_pos ea,so,?_⟩;simp only[yq] at q;rw[e,Bool.true_and] at q;rw[show(ws.map toWt).isEmpty=ws.isEmpty by cases ws<;>rfl];show q
   have lw:wt.length<=100000:=by rw[em] at ln;exists ln
   clear hx e ea;subst em;show cg_p (ok:=λ_=>True) (ρ:=[some (.ref a)]) (λi _=> .bl (decide ((fs.length:Int)<=i))) wt lw trivial ?_ ?_
   .intro w hw Q' q;show⟨_,ha,?_⟩;left;rw[ω];show q
   .show⟨rfl,wt.map λw=>decide ((fs.length:Int)<=w.1),by simp[Function.comp_def],?_⟩;ac_rfl
    .show bk wq ?_;have:wt.all (λw=>decide (w.1<fs.length))=false:=by
      rw[Bool.eq_false_iff];intro z;simp only[List.any_map,List.any_eq_true,Function.comp,id,decide_eq_true_eq,List.all_eq_true] at e z;obtain⟨w,hw,e⟩:=e;have:=z w hw;lia
     rw[this];rfl
    .have hn: ∀w∈wt,w.1<fs.length:=λw hw=>by
      have e:=e;rw[Bool.eq_false_iff] at e;simp only[List.any_map,ne_eq,List.any_eq_true,Function.comp,id,decide_eq_true_eq,not_exists,not_and] at e;have:=e w hw;lia
     have q:Q (.bl (!wt.isEmpty&&wD (wgF fs wt))) G:=by
      have h:wt.all (λw=>decide (w.1<fs.length))=true:=List.all_eq_true.mpr λw hw=>decide_eq_true (hn w hw);rw[h] at wq;show wq
     show br_d (λe=>?_) λe=>?_
     .have:wt=[]:=by exists e
      subst this;show bk q rfl
     .have ne:wt≠[]:=λz=>by subst z;show e rfl
      have q:Q (.bl (wD (wgF fs wt))) G:=by
       cases wt with
       | nil=>show absurd rfl ne
       | cons=>show q
      obtain⟨w0,hw0⟩:=List.exists_mem_of_ne_nil wt ne;have ok:WgOk fs wt:=⟨hf,by have:=(wp w0 hw0).1;have:=hn w0 hw0;lia,lw,λw hw=>⟨(wp w hw).1,hn w hw⟩,λw hw=>wso w hw (wp w hw).1 (hn w hw)⟩;show zd (a,fs,wt) ⟨ha,ok⟩ ?_;have fl:FoL (wgF fs wt):=YH fs wt _ (ok.fl _ (wk (i:=0) ∅ (by have:=ok.f0;lia))).oft;generalize wgF fs wt=f at*;rfl';right;right;show⟨by have:=fl.1;have:=fl.2;simp;lia,?_⟩;rw[<-List.map_append];show cg_i (ok:=λ_=>True) (ρ:=[]) (λx=> .bl (decide (x=0))) (f.1++f.2.1) (by have:=fl.1;have:=fl.2;simp;lia) trivial (λx h Q' q=>q) ?_;show⟨rfl,(f.1++f.2.1).map λx=>decide (x=0),by simp[Function.comp_def],?_⟩;have e3:((f.1++f.2.1).map λx=>decide (x=0)).all id=(f.1++f.2.1).all λi=>decide (i=0):=by rw[List.all_map];rfl
      rw[e3];ac_rfl
      .right;show bk q (by unfold wD;rw[e];rfl)
      .show bk q (by unfold wD;rw[e];rfl)
  | _=>cases e
 .left;show br_t ?_;show bk q (by cases x<;>first | rfl | (simp only[yq];rw[e];rfl))
def dot (a b:List Int):Int:=((a.zip b).map λp=>p.1*p.2).sum
def getI{a:List Int}{i:Int}(h0:0<=i)(h:i<a.length):atI (a.map W.int) i=some (.int (a.getD i.toNat 0)):=by
 have hl:i.toNat<a.length:=by lia
 have:=xD (enc:=W.int) (xs:=a) (i:=i.toNat) (x:=a.getD i.toNat 0) (by rw[υ,χ hl];rfl)
 rwa [Int.toNat_of_nonneg h0] at this
def kepF (p:Po) (k:List Int):Fo:=(p.ip.map λi=> -(k.getD i.toNat 0),k,-(dot k p.bg))
def Vg:Sp3:=fsp (α:=Po×List Int) (λx=>[pW x.1,iT x.2]) (λx _=>PoOk x.1/\x.2.length=x.1.n) λx=>fW (kepF x.1 x.2)
def ok_kep:Body (ens [("times_added",w6)]) yU Vg:=by
 show bd_f fun⟨p,k⟩ G Q E h q=>?_;obtain⟨hp,hk⟩:=h;have hp:PoOk p:=hp;have hk:k.length=p.n:=hk;have h8:=hp.n8;right;show cg_i (ok:=λ_=>True) (ρ:=[some (iT k)]) (λi=> .int (-(k.getD i.toNat 0))) p.ip (by have:=hp.i3;lia) trivial ?_ ?_
 .intro i hi Q' q;obtain⟨a,b⟩:=hp.ii i hi;show⟨_,getI a (by rw[hk];show b),q⟩
 right;right;show zd (k,p.bg) ⟨by change k.length<=1000;lia,λx hx=>?_⟩ ?_
 .have:=hp.bb x.2 (List.of_mem_zip hx).2;show y6 (by change _<65536;lia)
 show⟨sz3,bk q (by simp[fW,kepF,dot,iT,Function.comp_def])⟩
def fcF (p:Po) (ks:List (List Int)):List Fo:=(List.range p.ip.length).map (fun(i:Nat)=>amtF p i)++(List.range p.n).map (fun(i:Nat)=>drpF p i)++ks.flatMap λk=>[kepF p k,oftF (kepF p k) (-1)]
def NewL (G:Gp) (w:W) (G':Gp) (xs:List W):Prop:= ∃r,w= .ref r/\G r=none/\G'=updG G r (.lst xs)
def Z5:updG (updG G a x) a y=updG G a y:=by
 funext b;unfold updG;split<;>rfl
def keW (ks:List (List Int)):W:= .tup (ks.map iT)
def spFc:Sp3:=gsp (α:=Po×List (List Int)) (λx=>[pW x.1,keW x.2]) (λx _=>PoOk x.1/\x.2.length<=1000/\ ∀k∈x.2,k.length=x.1.n) λx G w G'=>NewL G w G' ((fcF x.1 x.2).map fW)
def SubG.upd(h:SubG G G'):SubG (updG G r o) (updG G' r o):=λb u e=>by
 unfold updG at e ⊢;split
 .rename_i z;rw[if_pos z] at e;show e
 .rename_i z;rw[if_neg z] at e;show h b u e
def FoL.kep{k:List Int}(h:PoOk p)(hk:k.length=p.n):FoL (kepF p k):=by have:=h.i3;have:=h.n8;simp[FoL,kepF];lia
def ok_fc:Body (ens [("form_of_amount",Vj),("form_of_drops",Yd),("form_of_kept",Vg),("so_often",Zc)]) vn spFc:=by
 show bd_g fun⟨p,ks⟩ G Q E h q=>?_;obtain⟨hp,hl,hk⟩:=h;have hl:ks.length<=1000:=hl;have h8:p.nm.length<=8:=hp.n8;have h3:p.ip.length<=3:=hp.i3;right;left;have e1:((p.ip.map W.int).length:Int)=((p.ip.length:Nat):Int):=by simp
 rw[e1];show⟨by lia,?_⟩;show cg_r (ok:=λ_=>True) (ρ:=[some (pW p)]) (λi=>fW (amtF p i)) p.ip.length ∅ trivial ?_ ?_
 .intro i hi Q' q;show zd (p,(i:Int)) hp q
 intro r hr;right;show⟨⟨_,updG_same⟩,?_⟩;right;left;have e2:((p.nm.map W.str).length:Int)=((p.nm.length:Nat):Int):=by simp
 rw[e2];show⟨by lia,?_⟩;show cg_r (ok:=λ_=>True) (ρ:=[some (pW p)]) (λi=>fW (drpF p i)) p.nm.length ∅ trivial ?_ ?_
 .intro i hi Q' q;show zd (p,(i:Int)) hp q
 intro r2 hr2;have ne:r≠r2:=λz=>by subst z;rw[updG_same] at hr2;cases hr2
 show .inr (.inr ⟨rfl,r2,_,_,rfl,(ze ne).trans updG_same,updG_same,by simp[sizeLine];lia,?_⟩);generalize hG2:updG (updG (updG G r _) r2 _) r _=G2;have s2: ∀xs,SubG (updG G r (.lst xs)) (updG G2 r (.lst xs)):=λxs=>by
  rw[<-hG2,Z5];intro b u e;by_cases z:b=r
  .subst z;rw[updG_same] at e ⊢;show e
  .rw[ze z] at e ⊢;rw[ze (λz=>by subst z;rw[ze (Ne.symm ne)] at hr2;rw[hr2] at e;cases e),ze z];show e
 have g2:G2 r=some (.lst ((((List.range p.ip.length).map (fun(i:Nat)=>amtF p i)++(List.range p.n).map (fun(i:Nat)=>drpF p i))).map fW)):=by rw[<-hG2,updG_same];simp[Function.comp_def]
 clear hG2;show forT iT (λd τ G'=>(∃u v,τ=[some (pW p),some (keW ks),some (.ref r),u,v])/\(∀xs,SubG (updG G r (.lst xs)) (updG G' r (.lst xs)))/\G' r=some (.lst (((List.range p.ip.length).map (fun(i:Nat)=>amtF p i)++(List.range p.n).map (fun(i:Nat)=>drpF p i)++d.flatMap λk=>[kepF p k,oftF (kepF p k) (-1)]).map fW))) (λ_ _ _ _=>trivial) ks [] _ _ ⟨⟨none,none,rfl⟩,s2,by exists g2⟩ ?_ ?_
 .rintro k d rr τ G' nx e ⟨⟨u,v,rfl⟩,s,g⟩ kk;have mk:k∈ks:=by rw[show ks=d++k::rr from e];simp
  have ld:d.length<=1000:=by
   have:ks.length=(d++k::rr).length:=by rw[show ks=d++k::rr from e]
   simp at this;lia
  rfl';show zd (p,k) ⟨hp,hk k mk⟩ ?_;rfl';show⟨⟨_,g⟩,?_⟩;show zd (kepF p k,-1) ⟨.kep hp (hk k mk),mkFS (by change(-1:Int).natAbs<65536;decide)⟩ ?_;show⟨sz2,?_⟩;intro r3 hr3;have ne3:r≠r3:=λz=>by subst z;rw[g] at hr3;cases hr3
  show .inr (.inr ⟨rfl,r3,_,_,rfl,(ze ne3).trans g,updG_same,?_,?_⟩)
  .have: ∀d:List (List Int),(d.flatMap λk=>[kepF p k,oftF (kepF p k) (-1)]).length=2*d.length:=λd=>by induction d with | nil=>rfl | cons a d ih=>simp[List.flatMap_cons,ih];lia
   simp only[List.length_map,List.length_append,List.length_range,this,List.length_cons,List.length_nil];have hn:p.n=p.nm.length:=rfl;show zS ∅
  .show kk _ _ ⟨⟨_,_,rfl⟩,λxs=>?_,?_⟩
   .rw[Z5];intro b u e;have e':=s xs b u e;unfold updG at e' ⊢;split
    .rename_i z;rw[if_pos z] at e';show e'
    .rename_i z;rw[if_neg z] at e'
     rw[if_neg (λz=>by subst z;rw[hr3] at e';cases e')];show e'
   .rw[updG_same];simp[List.flatMap_append]
 .rintro τ G' ⟨⟨u,v,rfl⟩,s,g⟩;show⟨updG G r (.lst ((fcF p ks).map fW)),?_,q _ _ ⟨r,rfl,hr,rfl⟩⟩;have e:updG G' r (.lst ((fcF p ks).map fW))=G':=by
   funext b;unfold updG
   split
   .rename_i z;subst z;rw[g];rfl
   .rfl
  have:=s ((fcF p ks).map fW)
  rwa [e] at this
def Xh:Sp3:=fsp (α:=List Int×List Int) (λx=>[iT x.1,iT x.2]) (λx _=>x.1.length<=1000/\ ∀p∈x.1.zip x.2,IntMulOk p.1 p.2) λx=> .int (dot x.1 x.2)
def ok_height:Body (ens [("times_added",w6)]) wL Xh:=by
 show bd_f fun⟨a,b⟩ G Q E p q=>?_;show zd (a,b) p (bk q rfl)
def ok_count:Body (ens [("times_added",w6)]) vo Xh:=by
 show bd_f fun⟨a,b⟩ G Q E p q=>?_;show zd (a,b) p (bk q rfl)
def optW:Option Nat->W | some i=> .int i | none=> .non
abbrev Ru:=List Int×List Int
def y3 (h:List Int) (r:Ru):Bool:=decide (dot h r.1<=dot h r.2)
def chng (k:List Int) (r:Ru):Bool:= !decide (dot k r.1=dot k r.2)
def ZS{p:α->Bool}{d r:List α}{x:α}(h: ∀y∈d,p y=false)(hx:p x=true):(d++x::r).findIdx? p=some d.length:=by
 rw[List.findIdx?_append,List.findIdx?_eq_none_iff.mpr h,List.findIdx?_cons,hx];simp
def Yw(hp:PoOk p)(hr:r∈p.rl){k:List Int}(hk:k.length=p.n):(k.length<=1000/\ ∀x∈k.zip r.1,IntMulOk x.1 x.2)/\(k.length<=1000/\ ∀x∈k.zip r.2,IntMulOk x.1 x.2):=by
 have h8:=hp.n8;show⟨⟨by lia,λx hx=>?_⟩,⟨by lia,λx hx=>?_⟩⟩
 .have:=hp.rc r hr x.2 (List.of_mem_zip hx).2;show y6 (by change _<65536;lia)
 .have:=hp.rd r hr x.2 (List.of_mem_zip hx).2;show y6 (by change _<65536;lia)
def Wm:Sp3:=fsp (α:=Po×List Int) (λx=>[pW x.1,iT x.2]) (λx _=>PoOk x.1/\x.2.length=x.1.n) λx=>optW (x.1.rl.findIdx? (y3 x.2))
def ok_fnl:Body (ens [("height_of",Xh)]) yf Wm:=by
 show bd_f fun⟨p,k⟩ G Q E h q=>?_;obtain⟨hp,hk⟩:=h;right;show forE rW (λd τ G'=>G'=G/\(∃u v,τ=[some (pW p),some (iT k),u,v])/\ ∀y∈d,y3 k y=false) (λ_ _ _ _=>trivial) p.rl [] _ _ ⟨rfl,⟨none,none,rfl⟩,λ_ z=>by cases z⟩ ?_ ?_
 .rintro r d rr τ G' nx e ⟨rfl,⟨u,v,rfl⟩,hd⟩ kk;have mr:r∈p.rl:=by rw[show p.rl=d++r::rr from e];simp
  obtain⟨m1,m2⟩:=Yw hp mr hk;rfl';right;show zd (k,r.2) m2 ?_;right;show zd (k,r.1) m1 ?_;show br_d (λe'=>?_) λe'=>?_
  .have:p.rl.findIdx? (y3 k)=some d.length:=by rw[show p.rl=d++r::rr from e];show ZS hd (decide_eq_true e')
   rw[this] at q;show bk q rfl
  .show kk _ _ ⟨rfl,⟨_,_,rfl⟩,λy hy=>by
    rcases Γ.mp hy with hy | hy
    .show hd y hy
    .cases ν.mp hy;show Ζ e'⟩
 .rintro τ G' ⟨rfl,⟨u,v,rfl⟩,hd⟩;have:p.rl.findIdx? (y3 k)=none:=List.findIdx?_eq_none_iff.mpr hd;rw[this] at q;show bk q rfl
def Vh:Sp3:=fsp (α:=Po×List Int) (λx=>[pW x.1,iT x.2]) (λx _=>PoOk x.1/\x.2.length=x.1.n) λx=>optW (x.1.rl.findIdx? (chng x.2))
def ok_fch:Body (ens [("count_of",Xh)]) yV Vh:=by
 show bd_f fun⟨p,k⟩ G Q E h q=>?_;obtain⟨hp,hk⟩:=h;right;show forE rW (λd τ G'=>G'=G/\(∃u v,τ=[some (pW p),some (iT k),u,v])/\ ∀y∈d,chng k y=false) (λ_ _ _ _=>trivial) p.rl [] _ _ ⟨rfl,⟨none,none,rfl⟩,λ_ z=>by cases z⟩ ?_ ?_
 .rintro r d rr τ G' nx e ⟨rfl,⟨u,v,rfl⟩,hd⟩ kk;have mr:r∈p.rl:=by rw[show p.rl=d++r::rr from e];simp
  obtain⟨m1,m2⟩:=Yw hp mr hk;rfl';right;show zd (k,r.1) m1 ?_;right;show zd (k,r.2) m2 ?_;show br_i (λe'=>?_) λe'=>?_
  .have:p.rl.findIdx? (chng k)=some d.length:=by rw[show p.rl=d++r::rr from e];show ZS hd e'
   rw[this] at q;show bk q rfl
  .show kk _ _ ⟨rfl,⟨_,_,rfl⟩,λy hy=>by
    rcases Γ.mp hy with hy | hy
    .show hd y hy
    .cases ν.mp hy;show e'⟩
 .rintro τ G' ⟨rfl,⟨u,v,rfl⟩,hd⟩;have:p.rl.findIdx? (chng k)=none:=List.findIdx?_eq_none_iff.mpr hd;rw[this] at q;show bk q rfl
def vA (p:Po) (k:List Int):Bool:=XG (optW (p.rl.findIdx? (chng k)))
def spSt:Sp3:=fsp (α:=Po×List Int) (λx=>[pW x.1,iT x.2]) (λx _=>PoOk x.1/\x.2.length=x.1.n) λx=> .bl (vA x.1 x.2)
def ok_stays:Body (ens [("first_change",Vh)]) Y3 spSt:=by
 show bd_f fun⟨p,k⟩ G Q E h q=>?_;show zd (p,k) h ?_;show bk q rfl
theorem vc{p:Int->Bool}: ∀{a:List Int} {k:Nat} {i:Int},i∈idxs p k a->(k:Int)<=i/\i<k+a.length
 | [],k,i,h=>by cases h
 | x::xs,k,i,h=>by
  unfold idxs at h;split at h
  .rcases Ε.mp h with rfl | h
   .simp;lia
   .have:=vc h;simp;lia
  .have:=vc h;simp;lia
theorem XH{p:Int->Bool}: ∀{a:List Int} {k:Nat},(∃x∈a,p x=true)->idxs p k a≠[]
 | [],k,⟨x,h,_⟩=>by cases h
 | y::ys,k,⟨x,h,e⟩=>by
  unfold idxs;split
  .simp
  .rename_i z
   rcases Ε.mp h with rfl | h
   .show absurd e z
   .show XH ⟨x,h,e⟩
def ruAt (p:Po) (i:Int):Ru:=p.rl.getD i.toNat ([],[])
def Wo{p:Po}{i:Int}(h0:0<=i)(h:i<p.rl.length):p.rl[i.toNat]? =some (ruAt p i):=by
 have:i.toNat<p.rl.length:=by lia
 unfold ruAt;rw[υ,χ this];rfl
def wC{p:Po}{i:Int}(h0:0<=i)(h:i<p.rl.length):ruAt p i∈p.rl:=Β (Wo h0 h)
def ZD{p:Po}{i:Int}(h0:0<=i)(h:i<p.rl.length):atI (p.rl.map rW) i=some (rW (ruAt p i)):=by
 have:=xD (enc:=rW) (Wo h0 h)
 rwa [Int.toNat_of_nonneg h0] at this
def tkR (r:Ru):List Int:=idxs (λx=>decide (0<x)) 0 r.1
def spTk:Sp3:=gsp (α:=Po×Int) (λx=>[pW x.1,.int x.2]) (λx _=>PoOk x.1/\0<=x.2/\x.2<x.1.rl.length) λx G w G'=>NewL G w G' ((tkR (ruAt x.1 x.2)).map W.int)
def ok_tk:Body (ens []) xt spTk:=by
 show bd_g fun⟨p,i⟩ G Q E h q=>?_;obtain⟨hp,h0,h1⟩:=h;have h8:p.nm.length<=8:=hp.n8;have hl:(ruAt p i).1.length=p.nm.length:=hp.ra _ (wC h0 h1);right;show⟨_,ZD h0 h1,?_⟩;right;show cg_en (ok:=λ_=>True) (ρ:=[]) (λx=>decide (0<x)) (ruAt p i).1 ∅ trivial (λx hx k Q' q=>q) (λk x Q' q=>q) ?_;intro r hr;show bk (q _ _ ⟨r,rfl,hr,rfl⟩) rfl
def amF (p:Po) (s k:Int):Fo:=lesF (numF p k) (drpF p s)
def alF (p:Po) (s k:Int):Fo:=morF (drpF p s) (-k)
def spAm:Sp3:=fsp (α:=Po×Int×Int) (λx=>[pW x.1,.int x.2.1,.int x.2.2]) (λx _=>PoOk x.1) λx=>fW (amF x.1 x.2.1 x.2.2)
def ok_am:Body (ens [("less",Yc),("form_of_number",Wj),("form_of_drops",Yd)]) v7 spAm:=by
 show bd_f fun⟨p,s,k⟩ G Q E h q=>?_;show zd (p,k) h ?_;show zd (p,s) h ?_;show zd (numF p k,drpF p s) ⟨.num h,.drp h⟩ ?_;show bk q rfl
def spAl:Sp3:=fsp (α:=Po×Int×Int) (λx=>[pW x.1,.int x.2.1,.int x.2.2]) (λx _=>PoOk x.1) λx=>fW (alF x.1 x.2.1 x.2.2)
def ok_al:Body (ens [("and_more",Z9),("form_of_drops",Yd)]) vq spAl:=by
 show bd_f fun⟨p,s,k⟩ G Q E h q=>?_;show zd (p,s) h ?_;show zd (drpF p s,-k) trivial ?_;show bk q rfl
def spCf:Sp3:=gsp (α:=Po×Int×Int) (λx=>[pW x.1,.int x.2.1,.int x.2.2]) (λx _=>PoOk x.1) λx G w G'=>NewL G w G' ([amF x.1 x.2.1 x.2.2,alF x.1 x.2.1 (x.2.2+1)].map fW)
def ok_cf:Body (ens [("at_most",spAm),("at_least",spAl)]) wM spCf:=by
 show bd_g fun⟨p,s,k⟩ G Q E h q=>?_;show zd (p,s,k) h ?_;show zd (p,s,k+1) h ?_;show⟨sz2,?_⟩;intro r hr;show bk (q _ _ ⟨r,rfl,hr,rfl⟩) rfl
def lkF (p:Po) (i:Int):List Fo:=(tkR (ruAt p i)).map λs=>amF p s ((ruAt p i).1.getD s.toNat 0-1)
def spLk:Sp3:=gsp (α:=Po×Int) (λx=>[pW x.1,.int x.2]) (λx _=>PoOk x.1/\0<=x.2/\x.2<x.1.rl.length) λx G w G'=>NewL G w G' ((lkF x.1 x.2).map fW)
theorem X9:(tkR r).length<=r.1.length:=by
 unfold tkR
 suffices∀(a:List Int) k,(idxs (λx=>decide (0<x)) k a).length<=a.length from this _ _
 intro a
 induction a with
 | nil=>intro k;show μ _
 | cons x xs ih=>intro k;have:=ih (k+1);unfold idxs;split<;>simp<;>lia
def ok_lk:Body (ens [("at_most",spAm),("sorts_taken",spTk)]) yK spLk:=by
 show bd_g fun⟨p,i⟩ G Q E h q=>?_;obtain⟨hp,h0,h1⟩:=h;have h8:p.nm.length<=8:=hp.n8;have hl:(ruAt p i).1.length=p.nm.length:=hp.ra _ (wC h0 h1);right;show⟨_,ZD h0 h1,?_⟩;right;rfl';show zD (p,i) ⟨hp,h0,h1⟩ ?_;rintro w G' ⟨r,rfl,hr,rfl⟩;show⟨_,updG_same,.inl ?_⟩;show cg_i (ρ:=[some (pW p),some (iT (ruAt p i).1)]) (λs=>fW (amF p s ((ruAt p i).1.getD s.toNat 0-1))) (tkR (ruAt p i)) (by have:=X9 (r:=ruAt p i);lia) updG_same ?_ ?_
 .intro s hs Q' q;have:=vc hs;show⟨_,getI (by exists this.1) (by exists this.2),?_⟩;show zd (p,s,_) hp q
 .intro r2 hr2;have ne:r2≠r:=λz=>by subst z;rw[updG_same] at hr2;cases hr2
  show⟨_,?_,q _ _ ⟨r2,rfl,by rwa [ze ne] at hr2,rfl⟩⟩;rw[show(tkR (ruAt p i)).map (λs=>fW (amF p s ((ruAt p i).1.getD s.toNat 0-1)))=(lkF p i).map fW by simp[lkF,Function.comp_def]];show(SubG.new hr).upd
def gw (ws:List W) (i:Nat):W:=ws.getD i .non
def vR{ws:List W}(h:i<ws.length):ws[i]? =some (gw ws i):=by
 unfold gw;rw[υ,χ h];rfl
def zx{ws:List W}(h:i<ws.length):atI ws (i:Int)=some (gw ws i):=yI (vR h)
def yu (p:Po) (a b:W):Bool:=within 0 (p.rl.length-1) a&&(yO b&&(match a,b with | .int i,.tup ts=>decide (ts.length=(tkR (ruAt p i)).length) | _,_=>false))
def yr (sz:List Nat) (a b:W):Bool:=within 0 (sz.length-1) a&&(yO b&&(match a,b with | .int i,.tup gs=>decide (gs.length=sz.getD i.toNat 0)&&gs.all zt | _,_=>false))
def zw (p:Po) (sz:List Nat):W->Bool
 | .tup ws=>if ws.length<2 then false
  else if isS "lacks" (gw ws 0)=true then decide (ws.length=3)&&yu p (gw ws 1) (gw ws 2)
  else if isS "cut" (gw ws 0)=true then decide (ws.length=5)&&(wG p.n (gw ws 1)&&vP (gw ws 2))
  else if isS "shut" (gw ws 0)=true then decide (ws.length=2)&&zt (gw ws 1)
  else isS "right" (gw ws 0)&&(decide (ws.length=3)&&yr sz (gw ws 1) (gw ws 2))
 | _=>false
def kids:W->List W
 | .tup ws=>if isS "lacks" (gw ws 0)=true then (match gw ws 2 with | .tup ts=>ts | _=>[]) else if isS "cut" (gw ws 0)=true then ws.drop 3 else []
 | _=>[]
inductive NodeV (p:Po) (sz:List Nat):W->Prop
 | lacks {r:Int} {ts:List W}:0<=r->r<p.rl.length->ts.length=(tkR (ruAt p r)).length->NodeV p sz (.tup [.str "lacks",.int r,.tup ts])
 | cut {s k:Int} {lo hi:W}:0<=s->s<p.n->0<=k->NodeV p sz (.tup [.str "cut",.int s,.int k,lo,hi])
 | shut {g:W}:zt g=true->NodeV p sz (.tup [.str "shut",g])
 | right {i:Int} {gs:List W}:0<=i->i<sz.length->gs.length=sz.getD i.toNat 0->gs.all zt=true->NodeV p sz (.tup [.str "right",.int i,.tup gs])
def ZM(h:isS s x=true):x= .str s:=by
 cases x<;>first | (cases h;done) | skip
 show congrArg W.str (of_decide_eq_true h)
def yx(e:within l h x=true): ∃i,x= .int i/\l<=i/\i<=h:=by
 cases x<;>first | (cases e;done) | skip
 simp[within] at e;show⟨_,rfl,e⟩
def zM(e:yO x=true): ∃ws,x= .tup ws:=by
 cases x<;>first | (cases e;done) | skip
 show⟨_,rfl⟩
theorem len2{ws:List W}(h:ws.length=2):ws=[gw ws 0,gw ws 1]:=by
 match ws,h with
 | [_,_],_=>rfl
theorem len3{ws:List W}(h:ws.length=3):ws=[gw ws 0,gw ws 1,gw ws 2]:=by
 match ws,h with
 | [_,_,_],_=>rfl
theorem len5{ws:List W}(h:ws.length=5):ws=[gw ws 0,gw ws 1,gw ws 2,gw ws 3,gw ws 4]:=by
 match ws,h with
 | [_,_,_,_,_],_=>rfl
theorem xm(h:zw p sz x=true):NodeV p sz x:=by
 cases x with
 | tup ws=>
  simp only[zw] at h;split at h
  .cases h
  split at h
  .rename_i e
   simp only[Bool.and_eq_true,decide_eq_true_eq,yu] at h;obtain⟨h3,h1,h2,h4⟩:=h;rw[len3 h3,ZM e];obtain⟨i,ei,a,b⟩:=yx h1;obtain⟨ts,et⟩:=zM h2;rw[ei,et] at h4 ⊢;show .lacks a ∅ (by exists h4)
  split at h
  .rename_i e
   simp only[Bool.and_eq_true,decide_eq_true_eq] at h;obtain⟨h3,h1,h2⟩:=h;rw[len5 h3,ZM e];obtain⟨i,ei,a,b⟩:=yx h1;rw[ei];cases hk:gw ws 2<;>rw[hk] at h2<;>first | (cases h2;done) | skip
   show .cut a ∅ (of_decide_eq_true h2)
  split at h
  .rename_i e
   simp only[Bool.and_eq_true,decide_eq_true_eq] at h;obtain⟨h3,h1⟩:=h;rw[len2 h3,ZM e];show .shut h1
  .simp only[Bool.and_eq_true,decide_eq_true_eq,yr] at h;obtain⟨e,h3,h1,h2,h4⟩:=h;rw[len3 h3,ZM e];obtain⟨i,ei,a,b⟩:=yx h1;obtain⟨ts,et⟩:=zM h2;rw[ei,et] at h4 ⊢;simp only[Bool.and_eq_true,decide_eq_true_eq] at h4;show .right a ∅ h4.1 h4.2
 | _=>cases h
def spTw:Sp3:=fsp (α:=Po×List Nat×W) (λx=>[x.2.2]) (λx _=>zw x.1 x.2.1 x.2.2=true) λx=> .tup (kids x.2.2)
theorem ok_tw:Body (ens []) yQ spTw:=by
 show bd_f fun⟨p,sz,x⟩ G Q E h q=>?_;cases xm h with
 | lacks a b c=>
  right;show br_t ?_;right;show bk q rfl
 | cut a b c=>
  right;show br_f ?_;right;show br_t ?_;show⟨by change 5<=1000;lia,?_⟩;show bk q rfl
 | shut a=>
  right;show br_f ?_;right;show br_f ?_;show⟨sz0,bk q rfl⟩
 | right a b c d=>
  right;show br_f ?_;right;show br_f ?_;show⟨sz0,bk q rfl⟩
def fwF (p:Po):W->List Fo
 | .tup [.str w,.int r,.tup _]=>if w="lacks" then lkF p r else []
 | .tup [_,.int s,.int k,_,_]=>[amF p s k,alF p s (k+1)]
 | _=>[]
def spFw:Sp3:=gsp (α:=Po×List Nat×W) (λx=>[pW x.1,x.2.2]) (λx _=>PoOk x.1/\zw x.1 x.2.1 x.2.2=true) λx G w G'=>NewL G w G' ((fwF x.1 x.2.2).map fW)
def vS:fwF p (.tup [.str "shut",g])=[]:=by cases g<;>rfl
theorem ok_fw:Body (ens [("lacking_forms",spLk),("cut_forms",spCf)]) yR spFw:=by
 show bd_g fun⟨p,sz,x⟩ G Q E h q=>?_;obtain⟨hp,h⟩:=h;cases xm h with
 | lacks a b c=>
  right;show br_t ?_;right;show zD (p,_) ⟨hp,a,b⟩ λw G' n=>?_;show bk (q _ _ n) rfl
 | cut a b c=>
  right;show br_f ?_;right;show br_t ?_;right;right;show zD (p,_,_) hp λw G' n=>?_;show bk (q _ _ n) rfl
 | shut a=>
  right;show br_f ?_;right;show br_f ?_;show⟨sz0,λr hr=>?_⟩;show bk (q _ _ ⟨r,rfl,hr,by rw[vS];rfl⟩) rfl
 | right a b c d=>
  right;show br_f ?_;right;show br_f ?_;show⟨sz0,λr hr=>?_⟩;show bk (q _ _ ⟨r,rfl,hr,rfl⟩) rfl
def spLb:Sp3:=fsp (α:=Po×W×W) (λx=>[pW x.1,x.2.1,x.2.2]) (λx G=>PoOk x.1/\Th G x.2.1/\Th G x.2.2) λx=> .bl (yu x.1 x.2.1 x.2.2)
def ok_lacks:Body (ens [("is_whole_within",xY),("sorts_taken",spTk)]) vm spLb:=by
 show bd_f fun⟨p,a,b⟩ G Q E h q=>?_;obtain⟨hp,ha,hb⟩:=h;unfold yu at q;right;left;rw[ω];show zd (a,0,(p.rl.length:Int)-1) ha ?_;show br_n ?_;ac_rfl
 .have e:within 0 ((p.rl.length:Int)-1) a=true:=e;rw[e,Bool.true_and] at q;obtain⟨i,rfl,i0,i1⟩:=yx e;show zN (zQ hb) ?_;show br_n ?_;ac_rfl
  .obtain⟨ts,rfl⟩:=zM e;show zD (p,i) ⟨hp,i0,by change i<p.rl.length;lia⟩ ?_;rintro w G' ⟨r,rfl,hr,rfl⟩;show⟨_,updG_same,?_⟩;show⟨G,SubG.new hr,?_⟩;rw[ω];have e:decide ((ts.length:Int)=((tkR (ruAt p i)).length:Int))=decide (ts.length=(tkR (ruAt p i)).length):=decide_eq_decide.mpr ∅;rw[e];show q
  .have e:yO b=false:=e;rw[e] at q;show bk q rfl
 .have e:within 0 ((p.rl.length:Int)-1) a=false:=e;rw[e] at q;show br_t ?_;show bk q rfl
def spRb:Sp3:=fsp (α:=List (List Fo)×W×W) (λx=>[pcW x.1,x.2.1,x.2.2]) (λx G=>Th G x.2.1/\Th G x.2.2/\Ln x.2.2) λx=> .bl (yr (x.1.map List.length) x.2.1 x.2.2)
def WF{pss:List (List Fo)}{i:Int}(h0:0<=i)(h:i<pss.length):atI (pss.map csW) i=some (csW (pss.getD i.toNat [])):=by
 have hl:i.toNat<pss.length:=by lia
 have:=xD (enc:=csW) (xs:=pss) (i:=i.toNat) (x:=pss.getD i.toNat []) (by rw[υ,χ hl];rfl)
 rwa [Int.toNat_of_nonneg h0] at this
def pc_len{pss:List (List Fo)}:(pss.map List.length).getD i 0=(pss.getD i []).length:=by
 rw[υ,υ,Ν];cases pss[i]? <;>rfl
def ok_right:Body (ens [("is_whole_within",xY),("is_weights",xl)]) vi spRb:=by
 show bd_f fun⟨pss,a,b⟩ G Q E h q=>?_;obtain⟨ha,hb,ln⟩:=h;unfold yr at q;rw[ω] at q;left;rw[ω];show zd (a,0,(pss.length:Int)-1) ha ?_;show br_n ?_;ac_rfl
 .have e:within 0 ((pss.length:Int)-1) a=true:=e;rw[e,Bool.true_and] at q;obtain⟨i,rfl,i0,i1⟩:=yx e;show zN (zQ hb) ?_;show br_n ?_;ac_rfl
  .obtain⟨ts,rfl⟩:=zM e;show⟨_,WF i0 (show i<(pss.length:Int) by lia),?_⟩;left;have q:Q (.bl (decide (ts.length=(pss.getD i.toNat []).length)&&ts.all zt)) G:=by rw[<-pc_len];show q
   have ed:decide ((ts.length:Int)=(((pss.getD i.toNat []).map fW).length:Int))=decide (ts.length=(pss.getD i.toNat []).length):=decide_eq_decide.mpr (by simp;lia);rw[ed];ac_rfl
   .rw[e,Bool.true_and] at q;show cg_w (ok:=λ_=>True) (ρ:=[]) (λx=> .bl (zt x)) ts ln.len trivial ?_ ?_
    .intro x hx Q' q;show zd x ⟨hb.mem x hx,ln.mem hx⟩ q
    .show vZ (bk q rfl)
   .rw[e,Bool.false_and] at q;show bk q rfl
  .have e:yO b=false:=e;rw[e] at q;show bk q rfl
 .have e:within 0 ((pss.length:Int)-1) a=false:=e;rw[e] at q;show br_t ?_;show bk q rfl
def ve{N:En}{E:XS}{s:Str}{τ:St3}{G:Gp}{Q:Kc}(q:Q (.str s) G):den N E (.c (.str s)) τ G Q:=q
def HdC (G:Gp):W->Prop
 | .tup (w::_)=>Cm G w
 | _=>True
theorem HdC.at(h:HdC G (.tup ws))(hl:0<ws.length):Cm G (gw ws 0):=by
 cases ws with
 | nil=>simp at hl
 | cons w ws=>show h
def spTn:Sp3:=fsp (α:=Po×List (List Fo)×W) (λx=>[pW x.1,pcW x.2.1,x.2.2]) (λx G=>PoOk x.1/\Th G x.2.2/\Ln x.2.2/\HdC G x.2.2) λx=> .bl (zw x.1 (x.2.1.map List.length) x.2.2)
def ok_tree:Body (ens [("is_lacks",spLb),("is_right",spRb),("is_whole",xZ),("is_sort",Wh),("is_weights",xl)]) v5 spTn:=by
 show bd_f fun⟨p,pss,x⟩ G Q E h q=>?_;obtain⟨hp,hx,ln,hc⟩:=h;show zN (zQ hx) ?_;show br_n ?_;ac_rfl
 case refine_2=>
  show br_t ?_;show bk q (by cases x<;>first | rfl | cases e)
 obtain⟨ws,rfl⟩:=zM e;simp only[zw] at q;have th: ∀i<ws.length,Th G (gw ws i):=λi hi=>hx.at (vR hi);have lm: ∀i<ws.length,Ln (gw ws i):=λi hi=>ln.mem (Β (vR hi));show br_d (λe=>?_) λe=>?_
 .rw[if_pos ∅] at q;show bk q rfl
 rw[if_neg ∅] at q;show⟨_,zx (ws:=ws) (i:=0) ∅,?_⟩;show ve ?_;show eq_str (s:="lacks") (nofun) (hc.at ∅) ?_;ac_rfl
 .rw[if_pos e] at q;left;have ed:decide ((ws.length:Int)=3)=decide (ws.length=3):=decide_eq_decide.mpr ∅;rw[ed];ac_rfl
  .rw[e,Bool.true_and] at q;have e:=of_decide_eq_true e;show⟨_,zx (ws:=ws) (i:=1) ∅,?_⟩;show⟨_,zx (ws:=ws) (i:=2) ∅,?_⟩;show zd (p,gw ws 1,gw ws 2) ⟨hp,th 1 ∅,th 2 ∅⟩ ?_;show bk q rfl
  .rw[e,Bool.false_and] at q;show bk q rfl
 rw[if_neg (by rw[e];decide)] at q;show⟨_,zx (ws:=ws) (i:=0) ∅,?_⟩;show ve ?_;show eq_str (s:="cut") (nofun) (hc.at ∅) ?_;ac_rfl
 .rw[if_pos e] at q;left;have ed:decide ((ws.length:Int)=5)=decide (ws.length=5):=decide_eq_decide.mpr ∅;rw[ed];ac_rfl
  .rw[e,Bool.true_and] at q;have e:=of_decide_eq_true e;right;show⟨_,zx (ws:=ws) (i:=1) ∅,?_⟩;rw[ω];show zd ((p.nm.length:Int),gw ws 1) (th 1 ∅) ?_;ac_rfl
   .have e':wG (p.nm.length:Int) (gw ws 1)=true:=e;rw[e',Bool.true_and] at q;show⟨_,zx (ws:=ws) (i:=2) ∅,?_⟩;show zd (gw ws 2) (th 2 ∅) ?_;ac_rfl
    .have e2:zW (gw ws 2)=true:=e;obtain⟨k,ek⟩:=yz e2;show⟨_,zx (ws:=ws) (i:=2) ∅,?_⟩;rw[ek] at q ⊢;show bk q rfl
    .have e2:zW (gw ws 2)=false:=e;show bk q (by cases h:gw ws 2<;>rw[h] at e2<;>first | rfl | cases e2)
   .have e':wG (p.nm.length:Int) (gw ws 1)=false:=e;rw[e',Bool.false_and] at q;show bk q rfl
  .rw[e,Bool.false_and] at q;show bk q rfl
 rw[if_neg (by rw[e];decide)] at q;show⟨_,zx (ws:=ws) (i:=0) ∅,?_⟩;show ve ?_;show eq_str (s:="shut") (nofun) (hc.at ∅) ?_;ac_rfl
 .rw[if_pos e] at q;left;have ed:decide ((ws.length:Int)=2)=decide (ws.length=2):=decide_eq_decide.mpr ∅;rw[ed];ac_rfl
  .rw[e,Bool.true_and] at q;show⟨_,zx (ws:=ws) (i:=1) ∅,?_⟩;show zd (gw ws 1) ⟨th 1 ∅,lm 1 ∅⟩ ?_;show bk q rfl
  .rw[e,Bool.false_and] at q;show bk q rfl
 rw[if_neg (by rw[e];decide)] at q;show⟨_,zx (ws:=ws) (i:=0) ∅,?_⟩;show ve ?_;show eq_str (s:="right") (nofun) (hc.at ∅) ?_;ac_rfl
 .rw[e,Bool.true_and] at q;left;have ed:decide ((ws.length:Int)=3)=decide (ws.length=3):=decide_eq_decide.mpr ∅;rw[ed];ac_rfl
  .rw[e,Bool.true_and] at q;have e:=of_decide_eq_true e;show⟨_,zx (ws:=ws) (i:=1) ∅,?_⟩;show⟨_,zx (ws:=ws) (i:=2) ∅,?_⟩;show zd (pss,gw ws 1,gw ws 2) ⟨th 1 ∅,th 2 ∅,lm 2 ∅⟩ ?_;show bk q rfl
  .rw[e,Bool.false_and] at q;show bk q rfl
 .rw[e,Bool.false_and] at q;show bk q rfl
def xA (n:Nat):W->Bool | .tup ws=>decide (ws.length<=8)&&ws.all (zB n) | _=>false
def spKe:Sp3:=fsp (α:=Nat×W) (λx=>[.int x.1,x.2]) (λx G=>Th G x.2/\Ln x.2) λx=> .bl (xA x.1 x.2)
def ok_kepts:Body (ens [("are_wholes",vB)]) wO spKe:=by
 show bd_f fun⟨n,x⟩ G Q E h q=>?_;obtain⟨hx,ln⟩:=h;show zN (zQ hx) ?_;show br_n ?_;ac_rfl
 .obtain⟨ws,rfl⟩:=zM e;have q:Q (.bl (decide (ws.length<=8)&&ws.all (zB n))) G:=q;show br_d (λe=>?_) λe=>?_
  .rw[Ζ ∅] at q;show bk q rfl
  .rw[decide_eq_true ∅,Bool.true_and] at q;show cg_w (ok:=λ_=>True) (ρ:=[some (.int n)]) (λx=> .bl (zB n x)) ws ln.len trivial ?_ ?_
   .intro x hx' Q' q;show zd ((n:Int),x) ⟨hx.mem x hx',ln.mem hx'⟩ q
   .show vZ (bk q rfl)
 .left;show br_t ?_;show bk q (by cases x<;>first | rfl | cases e)
inductive Tt (G:Gp):W->Prop
 | mk {x:W}:Th G x->Ln x->HdC G x->(∀y∈kids x,Tt G y)->Tt G x
def Tt.th(h:Tt G x):Th G x:=by cases h;assumption
def Tt.ln(h:Tt G x):Ln x:=by cases h;assumption
def Tt.hd(h:Tt G x):HdC G x:=by cases h;assumption
def Tt.kids(h:Tt G x): ∀y∈kids x,Tt G y:=by cases h;assumption
mutual
theorem Pd.up(s:SubG G G'):Pd G x d->Pd G' x d
 | .non=> .non
 | .bl b=> .bl b
 | .int i=> .int i
 | .str x=> .str x
 | .tup ps=> .tup (Pds.up s ps)
 | .lst g ps=> .lst (s _ _ g) (Pds.up s ps)
 | .dct g=> .dct (s _ _ g)
theorem Pds.up(s:SubG G G'):Pds G xs ds->Pds G' xs ds
 | .nil=> .nil
 | .cons a r=> .cons (Pd.up s a) (Pds.up s r)
end
def Th.up(s:SubG G G')(h:Th G x):Th G' x:=let ⟨d,p,e⟩:=h;⟨d,p.up s,e⟩
def Cm.up(s:SubG G G')(h:Cm G x):Cm G' x:=h.imp (fun⟨p,k,e,g⟩=>⟨p,k,e,s _ _ g⟩) fun⟨d,p,c,e⟩=>⟨d,p.up s,c,e⟩
theorem HdC.up(s:SubG G G')(h:HdC G x):HdC G' x:=by
 cases x with
 | tup ws=>cases ws with
  | nil=>trivial
  | cons w ws=>show Cm.up s h
 | _=>trivial
theorem Tt.up(s:SubG G G')(h:Tt G x):Tt G' x:=by
 induction h with
 | mk a b c d ih=>show .mk (a.up s) b (c.up s) ih
def wtGo (p:Po) (sz:List Nat):Nat->List (W×Nat)->Nat->Bool
 | 0,_,_=>false
 | _+1,[],_=>true
 | f+1,(x,d)::S,c=>if c+1>1000\/d>40\/zw p sz x=false then false else wtGo p sz f (((kids x).map λy=>(y,d+1)).reverse++S) (c+1)
def wtB (p:Po) (sz:List Nat) (x:W):Bool:=wtGo p sz 1002 [(x,1)] 0
def enE (e:W×Nat):W:= .tup [e.1,.int e.2]
def spWt:Sp3:=fsp (α:=Po×List (List Fo)×W) (λx=>[pW x.1,pcW x.2.1,x.2.2]) (λx G=>PoOk x.1/\Tt G x.2.2) λx=> .bl (wtB x.1 (x.2.1.map List.length) x.2.2)
theorem we: ∀{a b:List W},nds (a++b)=nds a+nds b
 | [],b=>by simp[nds]
 | x::a,b=>by have:=we (a:=a) (b:=b);simp[nds,this];lia
theorem ZH: ∀{a:List W},nds a.reverse=nds a
 | []=>rfl
 | x::a=>by have:=ZH (a:=a);simp[we,nds,this];lia
theorem Yv: ∀(k:Nat) (a:List W),nds (a.drop k)<=nds a
 | 0,a=>μ _
 | k+1,[]=>μ _
 | k+1,x::a=>by have:=Yv k a;simp[nds];lia
def y4:nds (kids x)+1<=nd x:=by
 unfold kids;split
 .rename_i ws
  split
  .split
   .rename_i ts e
    have h:gw ws 2= .tup ts:=e;by_cases hl:2<ws.length
    .have:=wd (Β (vR hl));rw[h] at this;simp[nd] at*;lia
    .unfold gw at h;rw[υ,List.getElem?_eq_none ∅] at h;cases h
   .simp[nds,nd]
  .split
   .have:=Yv 3 ws;simp[nd];lia
   .simp[nds,nd]
 .show vK _
def yB:(kids x).length+1<=nd x:=η (Nat.succ_le_succ (xn _)) y4
theorem ok_whole_tree:Body (ens [("is_tree",spTn),("trees_within",spTw)]) yL spWt:=by
 show bd_f fun⟨p,pss,x⟩ G Q E h q=>?_;obtain⟨hp,tt⟩:=h;unfold wtB at q;generalize hsz:pss.map List.length=sz at*;show⟨sz2,?_⟩;show⟨sz1,λr hr=>?_⟩;rfl';right;generalize hB:wtGo p sz 1002 [(x,1)] 0=B at*;show⟨1002,?_⟩;show whI (λm τ G'=> ∃(S:List (W×Nat)) (c:Nat),m+c=1001/\wtGo p sz (m+1) S c=B/\(∃u,τ=[some (pW p),some (pcW pss),some x,some (.ref r),some (.int c),u])/\SubG G G'/\G' r=some (.lst (S.reverse.map enE))/\nds (S.map (·.1))<=100000/\ ∀e∈S,Tt G e.1) 1002 1001 _ _ ∅ ⟨[(x,1)],0,rfl,hB,⟨none,rfl⟩,SubG.new hr,updG_same,by simpa[nds] using (show nd x<=100000 from tt.ln),λe h=>by cases ν.mp h;show tt⟩ ?_;rintro m τ G' nx ⟨S,c,hm,hw,⟨u,rfl⟩,sg,g,sl,ts⟩ kk;show⟨_,g,?_⟩;cases S with
 | nil=>
  show br_f ?_;show⟨G,sg,?_⟩;have:B=true:=hw.symm;rw[<-this];show q
 | cons e S=>
  obtain⟨y,d⟩:=e;have ty:Tt G y:=ts _ ξ;show br_i (λ_=>?_) (λz=>absurd (of_decide_eq_false z) Sort);show⟨⟨_,g⟩,?_⟩;show⟨rfl,_,enE (y,d),g,?_,?_⟩
  .simp
  right;left;have hc:((c:Int)+1)=((c+1:Nat):Int):=by lia
  have hw:(if c+1>1000\/d>40\/zw p sz y=false then false else wtGo p sz m (((kids y).map λy=>(y,d+1)).reverse++S) (c+1))=B:=hw;show br_d (λe=>?_) λe=>?_
  .left;rw[if_pos (.inl ∅)] at hw;show br_t ?_;show⟨G,?_,?_⟩
   .show λb o e=>by rw[ze (λz=>by subst z;rw[hr] at e;cases e)];show sg b o e
   .rw[<-hw] at q;show q
  right;show br_d (λe=>?_) λe=>?_
  .left;rw[if_pos (.inr (.inl ∅))] at hw;show br_t ?_;show⟨G,?_,?_⟩
   .show λb o e=>by rw[ze (λz=>by subst z;rw[hr] at e;cases e)];show sg b o e
   .rw[<-hw] at q;show q
  right;generalize hG2:updG G' r _=G2;have sg2:SubG G G2:=by rw[<-hG2];show λb o e=>by rw[ze (λz=>by subst z;rw[hr] at e;cases e)];show sg b o e
  have g2:G2 r=some (.lst (S.reverse.map enE)):=by rw[<-hG2,updG_same];simp
  show zd (p,pss,y) ⟨hp,ty.th.up sg2,ty.ln,ty.hd.up sg2⟩ ?_;show br_n ?_;ac_rfl
  .have e:zw p sz y=true:=by rw[<-hsz];show e
   rw[if_neg (by rw[e];simp;lia)] at hw;show⟨⟨_,g2⟩,?_⟩;right;show zd (p,sz,y) e ?_;show cg_w (ok:=λ_=>True) (ρ:=[some (enE (y,d))]) (λz=>enE (z,d+1)) (kids y) (η (Nat.le_of_succ_le yB) ty.ln) trivial ?_ ?_
   .intro z hz Q' q;right;show⟨sz2,by show q⟩
   intro r2 hr2;have ne:r≠r2:=λz=>by subst z;rw[g2] at hr2;cases hr2
   show .inr (.inr ⟨rfl,r2,_,_,rfl,(ze ne).trans g2,updG_same,?_,?_⟩)
   .have k:=yB (x:=y);have l:=xn (S.map (·.1));have sl:nd y+nds (S.map (·.1))<=100000:=sl;simp only[List.length_map,List.length_reverse] at l ⊢;show zS ∅
   have m1:m=(m-1)+1:=by lia
   show kk (m-1) _ _ ∅ ⟨((kids y).map λy=>(y,d+1)).reverse++S,c+1,by lia,by rw[<-m1];show hw,⟨_,rfl⟩,?_,?_,?_,?_⟩
   .intro b o e;have nb:b≠r:=λz=>by subst z;rw[hr] at e;cases e
    have nb2:b≠r2:=λz=>by subst z;rw[sg2 _ _ e] at hr2;cases hr2
    rw[ze nb,ze nb2];show sg2 _ _ e
   .rw[updG_same];simp[Function.comp_def]
   .have k:=y4 (x:=y);have sl:nd y+nds (S.map (·.1))<=100000:=sl;rw[List.map_append,List.map_reverse,Ω,we,ZH];rw[show(kids y).map ((λx:W×Nat=>x.1) ∘ λy=>(y,d+1))=kids y by simp[Function.comp_def]];lia
   .intro e he;rcases Γ.mp he with he | he
    .obtain⟨z,hz,rfl⟩:=π.mp (List.mem_reverse.mp he);show ty.kids z hz
    .show ts e (ζ _ he)
  .have e:zw p sz y=false:=by rw[<-hsz];show e
   rw[if_pos (.inr (.inr e))] at hw;show⟨G,sg2,?_⟩;rw[<-hw] at q;show q
section
variable {Q:List W->Gp->Prop}
theorem cgT2(e1 e2:α->W)(I:List α->List W->Gp->Prop)(hok: ∀d a G,I d a G->ok G): ∀(xs done:List α) (acc:List W) (t u:Option W) (G:Gp),acc.length+xs.length<=sizeLine->I done acc G->
  (∀x∈xs,∀d a G Q',I d a G->(∀y G',I (d++[x]) (a++[y]) G'->Q' y G')->te (some (e1 x)::some (e2 x)::ρ) G Q')->(∀a G',I (done++xs) a G'->Q a G')->
  zC (.t [0,1]) (λ_ G Q=>Q true G) te ok Q (xs.map λx=>W.tup [e1 x,e2 x]) (t::u::ρ) acc G
 | [],d,acc,t,u,G,hl,i,h,q=>⟨hok _ _ _ i,q _ _ (by exists i)⟩
 | x::xs,d,acc,t,u,G,hl,i,h,q=>by
  show⟨hok _ _ _ i,_,rfl,?_⟩;change te (some (e1 x)::some (e2 x)::ρ) G _;show h x ξ d acc G _ i λy G' i'=>⟨by simp at hl;omega,?_⟩;show cgT2 e1 e2 I hok xs (d++[x]) (acc++[y]) _ _ G' (by simp at hl ⊢;omega) i' (λx' hx=>h x' (ζ _ hx)) (λa G' i=>q a G' (by exists i))
theorem cgT1(e1:α->W)(I:List α->List W->Gp->Prop)(hok: ∀d a G,I d a G->ok G): ∀(xs done:List α) (acc:List W) (t:Option W) (G:Gp),acc.length+xs.length<=sizeLine->I done acc G->
  (∀x∈xs,∀d a G Q',I d a G->(∀y G',I (d++[x]) (a++[y]) G'->Q' y G')->te (some (e1 x)::ρ) G Q')->(∀a G',I (done++xs) a G'->Q a G')->
  zC (.n 0) (λ_ G Q=>Q true G) te ok Q (xs.map e1) (t::ρ) acc G
 | [],d,acc,t,G,hl,i,h,q=>⟨hok _ _ _ i,q _ _ (by exists i)⟩
 | x::xs,d,acc,t,G,hl,i,h,q=>by
  show⟨hok _ _ _ i,_,rfl,?_⟩;change te (some (e1 x)::ρ) G _;show h x ξ d acc G _ i λy G' i'=>⟨by simp at hl;omega,?_⟩;show cgT1 e1 I hok xs (d++[x]) (acc++[y]) _ G' (by simp at hl ⊢;omega) i' (λx' hx=>h x' (ζ _ hx)) (λa G' i=>q a G' (by exists i))
end
def szs (p:Po) (a:Ak):List Nat:=(pcs p a).map List.length
def zY (p:Po) (sz:List Nat):W->Bool
 | .tup [k,h,t]=>xA p.n k&&(zU p.n h&&wtB p sz t)
 | _=>false
def TrT (G:Gp):W->Prop
 | .tup [_,_,t]=>Tt G t
 | _=>True
def spPp:Sp3:=fsp (α:=Po×Ak×W) (λx=>[pW x.1,aW x.2.1,x.2.2]) (λx G=>PoOk x.1/\AkOk x.1.ip.length x.2.1/\Th G x.2.2/\Ln x.2.2/\TrT G x.2.2) λx=> .bl (zY x.1 (szs x.1 x.2.1) x.2.2)
def Zg{ws:List W}(h:ws.length≠3):zY p sz (.tup ws)=false:=by
 unfold zY;split
 .rename_i e;cases e;simp at h
 .rfl
def ok_paper:Body (ens [("are_kepts",spKe),("are_counts",Ye),("is_whole_tree",spWt),("pieces_of",Xf)]) vj spPp:=by
 show bd_f fun⟨p,a,x⟩ G Q E h q=>?_;obtain⟨hp,ha,hx,ln,tt⟩:=h;show zN (zQ hx) ?_;show br_n ?_;ac_rfl
 .obtain⟨ws,rfl⟩:=zM e;left;have ed:decide ((ws.length:Int)=3)=decide (ws.length=3):=decide_eq_decide.mpr (by omega);rw[ed];show br_n ?_;show br_d (λe=>?_) λe=>?_
  .have e3:=len3 e;generalize gw ws 0=k,gw ws 1=hh,gw ws 2=t at e3;subst e3;have q:Q (.bl (xA p.n k&&(zU p.n hh&&wtB p (szs p a) t))) G:=q;right;right;right;rw[ω];show zd (p.nm.length,k) ⟨hx.mem k Sort,ln.mem Sort⟩ ?_;ac_rfl
   .have e:xA p.n k=true:=e;rw[e,Bool.true_and] at q;right;show zd ((p.nm.length:Int),hh) ⟨hx.mem hh Sort,ln.mem Sort⟩ ?_;ac_rfl
    .have e:zU p.n hh=true:=e;rw[e,Bool.true_and] at q;show zd (p,a) ⟨hp,ha⟩ ?_;right;show zd (p,pcs p a,t) ⟨hp,tt⟩ ?_;show bk q rfl
    .have e:zU p.n hh=false:=e;rw[e,Bool.false_and] at q;show bk q rfl
   .have e:xA p.n k=false:=e;rw[e,Bool.false_and] at q;show bk q rfl
  .rw[Zg e] at q;show bk q rfl
 .left;show br_t ?_;show bk q (by cases x<;>first | rfl | cases e)
inductive Ens (P:Addr->Prop) (G:Gp):List (W×List Fo)->List W->Prop
 | nil:Ens P G [] []
 | cons {x:W} {fs:List Fo} {a:Addr} {T:List (W×List Fo)} {es:List W}:P a->G a=some (.lst (fs.map fW))->Ens P G T es->Ens P G ((x,fs)::T) (.tup [x,.ref a]::es)
theorem Ens.up{P P':Addr->Prop}(h: ∀a o,P a->G a=some o->P' a/\G' a=some o)(e:Ens P G T es):Ens P' G' T es:=by
 induction e with
 | nil=>show .nil
 | cons p g _ ih=>show .cons (h _ _ p g).1 (h _ _ p g).2 ih
theorem Ens.app{P:Addr->Prop}(e:Ens P G T es)(e':Ens P G T' es'):Ens P G (T++T') (es++es'):=by
 induction e with
 | nil=>show e'
 | cons p g _ ih=>show .cons p g ih
theorem Ens.len{P:Addr->Prop}(e:Ens P G T es):es.length=T.length:=by
 induction e with
 | nil=>rfl
 | cons p g _ ih=>simp[ih]
def entF (p:Po) (fs:List Fo) (x:W):List (W×List Fo):=((kids x).zip (fwF p x)).map λy=>(y.1,fs++[y.2])
def spUn:Sp3:=gsp (α:=Po×List Nat×W×Addr×List Fo) (λx=>[pW x.1,x.2.2.1,.ref x.2.2.2.1]) (λx G=>PoOk x.1/\zw x.1 x.2.1 x.2.2.1=true/\Ln x.2.2.1/\G x.2.2.2.1=some (.lst (x.2.2.2.2.map fW))/\x.2.2.2.2.length<=200000) λx G w G'=>
 ∃r es,w= .ref r/\G r=none/\G' r=some (.lst es)/\SubG G G'/\Ens (λa=>G a=none/\a≠r) G' (entF x.1 x.2.2.2.2 x.2.2.1) es
def ok_under:Body (ens [("trees_within",spTw),("forms_within",spFw)]) Y2 spUn:=by
 show bd_g fun⟨p,sz,x,fa,fs⟩ G Q E h q=>?_;obtain⟨hp,hn,ln,hf,hl⟩:=h;have ln:nd x<=100000:=ln;have hl:fs.length<=200000:=hl;show zd (p,sz,x) hn ?_;show zD (p,sz,x) ⟨hp,hn⟩ ?_;rintro w G1 ⟨r1,rfl,hr1,rfl⟩;show⟨_,updG_same,.inl ?_⟩;left;rw[Zw];have kl:=yB (x:=x);have sf:SubG G (updG G r1 (.lst ((fwF p x).map fW))):=SubG.new hr1;have ez:((kids x).zip ((fwF p x).map fW)).map (λx:W×W=>W.tup [x.1,x.2])=((kids x).zip (fwF p x)).map λy=>W.tup [y.1,fW y.2]:=by
  rw[List.zip_map_right,Ω];rfl
 rw[ez];generalize hG1:updG G r1 (.lst ((fwF p x).map fW))=G1 at*;have g1:G1 r1=some (.lst ((fwF p x).map fW)):=by rw[<-hG1,updG_same]
 show cgT2 (ρ:=[some (.ref fa)]) (λy:W×Fo=>y.1) (λy=>fW y.2) (λT acc G'=>SubG G1 G'/\Ens (λa=>G1 a=none) G' (T.map λy=>(y.1,fs++[y.2])) acc) (λd acc G' i=>⟨trivial,i.1 _ _ g1⟩) ((kids x).zip (fwF p x)) [] [] _ _ G1 (by simp;show zS (by omega)) ⟨SubG.refl,.nil⟩ ?_ ?_
 .rintro⟨y,g⟩ hy T acc G' Q' ⟨s,en⟩ k;show⟨sz1,λr2 hr2=>?_⟩;have ne:fa≠r2:=λz=>by subst z;rw[s _ _ (sf _ _ hf)] at hr2;cases hr2
  show⟨_,_,(ze ne).trans (s _ _ (sf _ _ hf)),updG_same,by simp[sizeLine];omega,λr3 hr3=>?_⟩;have n23:r2≠r3:=λz=>by subst z;rw[updG_same] at hr3;cases hr3
  show⟨sz2,?_⟩;have h3:G' r3=none:=by rwa [ze (Ne.symm n23)] at hr3
  have s2:SubG G' (updG (updG G' r2 (.lst [fW g])) r3 (.lst (fs.map fW++[fW g]))):=(SubG.new hr2).trans (SubG.new hr3);show k _ _ ⟨s.trans s2,?_⟩;rw[List.map_append];show(en.up λa o hp g=>⟨hp,s2 _ _ g⟩).app (.cons ?_ ?_ .nil)
  .show SubG.none s h3
  .rw[updG_same];simp
 .rintro acc G' ⟨s,en⟩;intro r hr;show bk (q _ _ ⟨r,acc,rfl,?_,updG_same,?_,?_⟩) rfl
  .have h:=SubG.none s hr;rw[<-hG1] at h;by_cases z:r=r1
   .subst z;show hr1
   .rwa [ze z] at h
  .show(sf.trans s).trans (SubG.new hr)
  .show en.up λa o hp g=>?_;have na:a≠r:=λz=>by subst z;rw[hr] at g;cases g
   have ga:G a=none:=by
    rw[<-hG1] at hp;by_cases z:a=r1
    .subst z;show hr1
    .rwa [ze z] at hp
   show⟨⟨ga,na⟩,by rw[ze na];show g⟩
def BF (B:Nat) (f:Fo):Prop:=(∀x∈f.1,x.natAbs<=B)/\(∀x∈f.2.1,x.natAbs<=B)/\f.2.2.natAbs<=B
mutual
def bdW:W->Prop
 | .tup ws=>bdWs ws
 | .int i=>i.natAbs<10^42
 | _=>True
def bdWs:List W->Prop
 | []=>True
 | w::ws=>bdW w/\bdWs ws
end
theorem bdW.mem: ∀{ws:List W},bdWs ws-> ∀w∈ws,bdW w
 | w::ws,h,x,m=>by
  rcases Ε.mp m with rfl | m
  .show h.1
  .show bdW.mem h.2 x m
def mk_of{f:Fo}{t:Int}(h:BF (10^46) f)(ht:t.natAbs<10^42):MkF f t:=by
 have g: ∀x:Int,x.natAbs<=10^46->IntMulOk t x:=λx hx=>G2.mulB (Nat.lt_trans ht ⋯) (Nat.lt_of_le_of_lt hx ⋯);show⟨λx hx=>g x (h.1 x hx),λx hx=>g x (h.2.1 x hx),g _ h.2.2⟩
theorem Vm{fs:List Fo}{x:W}(h: ∀f∈fs,BF (10^46) f)(hx:bdW x)(hw:zt x=true):ShOk fs x:=by
 cases x with
 | tup ws=>
  intro w hm h0 h1;have ea:ws.all zp=true:=by simp only[zt,Bool.and_eq_true] at hw;show hw.1
  obtain⟨y,hy,rfl⟩:=π.mp hm;obtain⟨i,j,rfl,_⟩:=yb (List.all_eq_true.mp ea y hy);have:=bdW.mem (bdW.mem hx _ hy) (.int j) Sort;show mk_of (h _ (wk h0 h1)) this
 | _=>trivial
def conF (f:Fo):Fo:=morF (oftF f (-1)) (-1)
def BF.mono(h:A<=B){f:Fo}(b:BF A f):BF B f:=⟨λx hx=>η (b.1 x hx) h,λx hx=>η (b.2.1 x hx) h,η b.2.2 h⟩
def BF.add{f:Fo}(a:BF A f)(b:BF B g):BF (A+B) (addF f g):=by
 show⟨λx hx=>?_,λx hx=>?_,?_⟩
 .obtain⟨p,hp,rfl⟩:=π.mp hx;have:=a.1 _ (List.of_mem_zip hp).1;have:=b.1 _ (List.of_mem_zip hp).2;omega
 .obtain⟨p,hp,rfl⟩:=π.mp hx;have:=a.2.1 _ (List.of_mem_zip hp).1;have:=b.2.1 _ (List.of_mem_zip hp).2;omega
 .have:=a.2.2;have:=b.2.2;change(f.2.2+g.2.2).natAbs<=A+B;omega
def BF.neg{f:Fo}(a:BF A f):BF A (oftF f (-1)):=by
 show⟨λx hx=>?_,λx hx=>?_,?_⟩
 .obtain⟨p,hp,rfl⟩:=π.mp hx;have:=a.1 _ hp;omega
 .obtain⟨p,hp,rfl⟩:=π.mp hx;have:=a.2.1 _ hp;omega
 .have:=a.2.2;change(-1*f.2.2).natAbs<=A;omega
def BF.les{f:Fo}(a:BF A f)(b:BF B g):BF (A+B) (lesF f g):=a.add b.neg
def BF.mor{f:Fo}{n:Int}(a:BF A f):BF (A+n.natAbs) (morF f n):=by
 show⟨λx hx=>by have:=a.1 x hx;omega,λx hx=>by have:=a.2.1 x hx;omega,?_⟩;have:=a.2.2;change(f.2.2+n).natAbs<=_;omega
def vH: ∀x∈nou n,x.natAbs<=0:=λx hx=>by rw[List.eq_of_mem_replicate hx];show μ _
def WH: ∀x∈oneA n k,x.natAbs<=1:=λx hx=>by
 obtain⟨i,_,rfl⟩:=π.mp hx;split<;>decide
def BF.num{n:Int}:BF n.natAbs (numF p n):=⟨λx hx=>η (vH x hx) (Θ _),λx hx=>η (vH x hx) (Θ _),μ _⟩
def BF.drp:BF 1 (drpF p n):=⟨λx hx=>η (vH x hx) (Θ _),WH,Θ _⟩
def BF.amt:BF 1 (amtF p n):=⟨WH,λx hx=>η (vH x hx) (Θ _),Θ _⟩
def BF.lin(h:LiOk i l):BF 99 (linF p l):=⟨λx hx=>by have:=h.b x hx;omega,λx hx=>η (vH x hx) (Θ _),by have:=h.c;change l.2.natAbs<=99;omega⟩
def BF.oft{f:Fo}{t:Int}(a:BF A f)(h:t.natAbs<=T):BF (T*A) (oftF f t):=by
 show⟨λx hx=>?_,λx hx=>?_,?_⟩
 .obtain⟨p,hp,rfl⟩:=π.mp hx;rw[Int.natAbs_mul];show Nat.mul_le_mul h (a.1 _ hp)
 .obtain⟨p,hp,rfl⟩:=π.mp hx;rw[Int.natAbs_mul];show Nat.mul_le_mul h (a.2.1 _ hp)
 .change(t*f.2.2).natAbs<=_;rw[Int.natAbs_mul];show Nat.mul_le_mul h a.2.2
theorem WT: ∀{a b:List Int},(∀x∈a,x.natAbs<=A)->(∀x∈b,x.natAbs<=B)->(dot a b).natAbs<=a.length*(A*B)
 | [],b,_,_=>by simp[dot]
 | x::a,[],_,_=>by simp[dot]
 | x::a,y::b,h,k=>by
  have ih:=WT (a:=a) (b:=b) (λz hz=>h z (ζ _ hz)) (λz hz=>k z (ζ _ hz));have e:dot (x::a) (y::b)=x*y+dot a b:=by simp[dot]
  have m:(x*y).natAbs<=A*B:=by rw[Int.natAbs_mul];show Nat.mul_le_mul (h x Sort) (k y Sort)
  rw[e,List.length_cons,Nat.succ_mul];omega
def BF.kep(hp:PoOk p){k:List Int}(hk:k.length=p.n)(h: ∀x∈k,x.natAbs<10^42):BF (10^45) (kepF p k):=by
 show⟨λx hx=>?_,λx hx=>?_,?_⟩
 .obtain⟨i,hi,rfl⟩:=π.mp hx;rw[Int.natAbs_neg];rcases Nat.lt_or_ge i.toNat k.length with hl | hl
  .have:=h _ (Ρ hl);rw[υ,χ hl];show η (Υ this) ⋯
  .rw[υ,List.getElem?_eq_none hl];show Θ _
 .show η (Υ (h x hx)) ⋯
 .change(-(dot k p.bg)).natAbs<=_;rw[Int.natAbs_neg];show η (WT (A:=10^42) (B:=99) (λx hx=>Υ (h x hx)) (λx hx=>by have:=hp.bb x hx;omega)) ?_;have:k.length<=8:=by rw[hk];show hp.n8
  show η (Nat.mul_le_mul_right _ this) ⋯
def wm (pss:List (List Fo)) (fs:List Fo):W->Bool
 | .tup [_,g]=>yq fs g
 | .tup [_,.int i,.tup gs]=>((pss.getD i.toNat []).zip gs).all λq=>yq (fs++[conF q.1]) q.2
 | _=>false
structure FsOk (fs:List Fo):Prop where
 l: ∀f∈fs,FoL f
 b: ∀f∈fs,BF (10^46) f
def FsOk.snoc{f:Fo}(h:FsOk fs)(l:FoL f)(b:BF (10^46) f):FsOk (fs++[f]):=⟨λg hg=>by
  rcases Γ.mp hg with hg | hg
  .show h.l g hg
  .cases ν.mp hg;show l,λg hg=>by
  rcases Γ.mp hg with hg | hg
  .show h.b g hg
  .cases ν.mp hg;show b⟩
structure PsOk (pss:List (List Fo)):Prop where
 n: ∀c∈pss,c.length<=1000
 l: ∀c∈pss,∀f∈c,FoL f
 b: ∀c∈pss,∀f∈c,BF (10^4) f
def spCl:Sp3:=fsp (α:=Po×List (List Fo)×Addr×List Fo×W) (λx=>[pcW x.2.1,.ref x.2.2.1,x.2.2.2.2]) (λx G=>PoOk x.1/\PsOk x.2.1/\G x.2.2.1=some (.lst (x.2.2.2.1.map fW))/\FsOk x.2.2.2.1/\x.2.2.2.1.length<=200000/\Th G x.2.2.2.2/\Ln x.2.2.2.2/\bdW x.2.2.2.2/\zw x.1 (x.2.1.map List.length) x.2.2.2.2=true/\kids x.2.2.2.2=[]) λx=> .bl (wm x.2.1 x.2.2.2.1 x.2.2.2.2)
theorem ok_closed:Body (ens [("shuts",spSh),("contrary",Vi)]) wK spCl:=by
 show bd_f fun⟨p,pss,fa,fs,x⟩ G Q E h q=>?_;obtain⟨hp,po,hf,fo,hl,th,ln,bd,tn,kd⟩:=h;have hl:fs.length<=200000:=hl;cases xm tn with
 | @lacks r ts a b c=>
  exfalso;have e:ts=[]:=kd;have:=XH (p:=λx=>decide (0<x)) (k:=0) (by obtain⟨y,hy,hz⟩:=hp.rp _ (wC a b);show⟨y,hy,decide_eq_true hz⟩);subst e;show this (List.length_eq_zero_iff.mp c.symm)
 | cut a b c=>cases kd
 | @shut g hg=>
  right;show br_t ?_;right;show zd (fa,fs,g) ⟨hf,fo.l,th.mem g Sort,ln.mem Sort,Vm fo.b (bdW.mem bd g Sort) hg⟩ ?_;show bk q (by cases g<;>rfl)
 | @right i gs a b c d=>
  right;show br_f ?_;right;have b':i<pss.length:=by exists b
  show⟨_,WF a b',?_⟩;rfl';right;left;rw[Zw];have cm:pss.getD i.toNat []∈pss:=by
   rw[υ,χ (by omega)];show Ρ _
  have q:Q (.bl (((pss.getD i.toNat []).zip gs).all λq=>yq (fs++[conF q.1]) q.2)) G:=q;generalize pss.getD i.toNat []=ps at*;have ez:((ps.map fW).zip gs).map (λx:W×W=>W.tup [x.1,x.2])=(ps.zip gs).map λy=>W.tup [fW y.1,y.2]:=by
   rw[List.zip_map_left,Ω];rfl
  rw[ez];have hgs:Th G (.tup gs):=th.mem (.tup gs) Sort;have lgs:Ln (.tup gs):=ln.mem Sort;have bgs:bdW (.tup gs):=bdW.mem bd (.tup gs) Sort;show cgT2 (ρ:=[some (.ref fa)]) (λy:Fo×W=>fW y.1) (λy=>y.2) (λT acc G'=>SubG G G'/\acc=T.map λq=>W.bl (yq (fs++[conF q.1]) q.2)) (λd acc G' i=>⟨trivial,trivial⟩) (ps.zip gs) [] [] _ _ G (by have:=po.n _ cm;simp;show zS (by omega)) ⟨SubG.refl,rfl⟩ ?_ ?_
  .rintro⟨f,g⟩ hy T acc G' Q' ⟨s,rfl⟩ k;have mf:=(List.of_mem_zip hy).1;have mg:=(List.of_mem_zip hy).2;show zd f (po.l _ cm f mf) ?_;show⟨sz1,λr2 hr2=>?_⟩;have ne:fa≠r2:=λz=>by subst z;rw[s _ _ hf] at hr2;cases hr2
   show⟨_,_,(ze ne).trans (s _ _ hf),updG_same,by simp[sizeLine];omega,λr3 hr3=>?_⟩;have s2:=(SubG.new (o:= .lst [fW (conF f)]) hr2).trans (SubG.new (o:= .lst (fs.map fW++[fW (conF f)])) hr3);have bc:BF (10^46) (conF f):=BF.mono ⋯ (BF.mor (n:=-1) (BF.neg (po.b _ cm f mf)));have fo':=fo.snoc (FoL.mor (n:=-1) ((po.l _ cm f mf).oft (n:=-1))) bc;show zd (r3,fs++[conF f],g) ⟨?_,fo'.l,(hgs.mem g mg).up (s.trans s2),lgs.mem mg,?_⟩ ?_
   .show updG_same.trans (by simp[conF])
   .show Vm fo'.b (bdW.mem bgs g mg) (List.all_eq_true.mp d g mg)
   .show k _ _ ⟨s.trans s2,by simp⟩
  .rintro acc G' ⟨s,rfl⟩;show⟨rfl,(ps.zip gs).map λq=>yq (fs++[conF q.1]) q.2,by simp[Function.comp_def],?_⟩;show⟨G,s,?_⟩;have e:((ps.zip gs).map λq=>yq (fs++[conF q.1]) q.2).all id=(ps.zip gs).all λq=>yq (fs++[conF q.1]) q.2:=by rw[List.all_map];rfl
   rw[e];show q
inductive TrOk (p:Po) (sz:List Nat):W->Prop
 | mk {x:W}:zw p sz x=true->(∀y∈kids x,TrOk p sz y)->TrOk p sz x
def TrOk.n(h:TrOk p sz x):zw p sz x=true:=by cases h;assumption
def TrOk.k(h:TrOk p sz x): ∀y∈kids x,TrOk p sz y:=by cases h;assumption
theorem W1: ∀(n:Nat) (S:List (W×Nat)) (c:Nat),wtGo p sz n S c=true-> ∀e∈S,TrOk p sz e.1
 | 0,S,c,h=>by cases h
 | n+1,[],c,h=>λe he=>by cases he
 | n+1,(x,d)::S,c,h=>by
  have h:(if c+1>1000\/d>40\/zw p sz x=false then false else wtGo p sz n (((kids x).map λy=>(y,d+1)).reverse++S) (c+1))=true:=h;split at h
  .cases h
  .rename_i z
   have ih:=W1 n _ _ h;have hx:zw p sz x=true:=by
    cases e:zw p sz x
    .show absurd (.inr (.inr e)) z
    .rfl
   intro e he;rcases Ε.mp he with rfl | he
   .show .mk hx λy hy=>ih (y,d+1) ?_;show Ψ _ (List.mem_reverse.mpr (π.mpr ⟨y,hy,rfl⟩))
   .show ih e (Μ _ he)
theorem bdW_kids(h:NodeV p sz x)(b:bdW x): ∀y∈kids x,bdW y:=by
 cases h with
 | @lacks r ts _ _ _=>
  intro y hy;show bdW.mem (bdW.mem (b:bdWs _) (.tup ts) Sort:bdWs ts) y hy
 | cut _ _ _=>
  intro y hy;have hy:y∈[_,_]:=hy;show bdW.mem (b:bdWs _) y ?_;simp at hy ⊢;rcases hy with rfl | rfl<;>simp
 | shut _=>intro y hy;cases hy
 | right _ _ _ _=>intro y hy;cases hy
theorem fw_len(h:NodeV p sz x):(fwF p x).length=(kids x).length:=by
 cases h with
 | @lacks r ts a b c=>
  change(lkF p r).length=ts.length;rw[c];simp[lkF]
 | cut _ _ _=>rfl
 | shut _=>rw[vS];rfl
 | right _ _ _ _=>rfl
def BF.am{k:Int}(h:k.natAbs<=B):BF (B+1) (amF p s k):=BF.mono ∅ (BF.les (BF.num (p:=p) (n:=k)) (BF.drp (p:=p) (n:=s)))
def BF.al{k:Int}(h:k.natAbs<=B):BF (B+1) (alF p s k):=BF.mono ∅ (BF.mor (n:=-k) (BF.drp (p:=p) (n:=s)))
theorem fw_ok{p:Po}(hp:PoOk p){sz:List Nat}{x:W}(h:NodeV p sz x)(b:bdW x): ∀f∈fwF p x,FoL f/\BF (10^46) f:=by
 have am: ∀{s k:Int},k.natAbs<=10^43->FoL (amF p s k)/\BF (10^46) (amF p s k):=λh=>⟨(FoL.num hp).les,BF.mono ⋯ (BF.am h)⟩;cases h with
 | @lacks r ts a b' c=>
  intro f hf;obtain⟨s,hs,rfl⟩:=π.mp hf;show am ?_;have bd:=vc hs;have hl:s.toNat<(ruAt p r).1.length:=by have:=bd.1;have:=bd.2;lia
  have:=hp.rc _ (wC a b') _ (Ρ hl);rw[υ,χ hl];show η (m:=9) ?_ ⋯;change(((ruAt p r).1[s.toNat]'hl)-1).natAbs<=9;lia
 | @cut s k lo hi a c d=>
  have hk:k.natAbs<10^42:=bdW.mem (b:bdWs _) (.int k) Sort;intro f hf;have hf:f∈[amF p s k,alF p s (k+1)]:=hf;simp only[List.mem_cons,List.not_mem_nil,or_false] at hf;rcases hf with rfl | rfl
  .show am (η (Υ hk) ⋯)
  .show⟨(FoL.drp hp).mor,BF.mono ⋯ (BF.al (B:=10^43) ?_)⟩;have:(10:Nat)^42+1<=10^43:=by decide
   lia
 | shut _=>rw[vS];intro f hf;cases hf
 | right _ _ _ _=>intro f hf;cases hf
def folF (p:Po) (pss:List (List Fo)):Nat->List (W×List Fo)->Nat->Option Nat
 | 0,_,_=>none
 | _+1,[],_=>none
 | n+1,(x,fs)::S,c=>if (entF p fs x).length=0 then (if wm pss fs x=true then folF p pss n S (c+1) else some c) else folF p pss n (entF p fs x++S) c
def fol (p:Po) (pss:List (List Fo)) (fs:List Fo) (x:W):Option Nat:=folF p pss (nd x+1) [(x,fs)] 0
structure EnOk (p:Po) (sz:List Nat) (G:Gp) (x:W) (fs:List Fo):Prop where
 t:TrOk p sz x
 g:Tt G x
 b:bdW x
 f:FsOk fs
 l:fs.length+nd x<=200000
def ent_map(h:(fwF p x).length=(kids x).length):(entF p fs x).map (·.1)=kids x:=by
 unfold entF;rw[Ω];change((kids x).zip (fwF p x)).map (λy=>y.1)=kids x;show List.map_fst_zip ∅
def Wl:Sp3:=fsp (α:=Po×List (List Fo)×Addr×List Fo×W) (λx=>[pW x.1,pcW x.2.1,.ref x.2.2.1,x.2.2.2.2]) (λx G=>PoOk x.1/\PsOk x.2.1/\G x.2.2.1=some (.lst (x.2.2.2.1.map fW))/\EnOk x.1 (x.2.1.map List.length) G x.2.2.2.2 x.2.2.2.1) λx=>optW (fol x.1 x.2.1 x.2.2.2.1 x.2.2.2.2)
theorem ok_fol:Body (ens [("under",spUn),("is_closed",spCl)]) yn Wl:=by
 show bd_f fun⟨p,pss,fa,fs,x⟩ G Q E h q=>?_;obtain⟨hp,po,hf,en⟩:=h;have lx:nd x<=100000:=en.g.ln;show⟨sz2,?_⟩;show⟨sz1,λr hr=>?_⟩;rfl';right;have nr:fa≠r:=λz=>by subst z;rw[hf] at hr;cases hr
 unfold fol at q;generalize hB:folF p pss (nd x+1) [(x,fs)] 0=B at*;show⟨100001,?_⟩;show whI (λm τ G'=> ∃(S:List (W×List Fo)) (c n:Nat) (es:List W),m=nds (S.map (·.1))/\m<=100000/\m<n/\folF p pss n S c=B/\(∃u v,τ=[some (pW p),some (pcW pss),some (.ref fa),some x,some (.ref r),some (.int c),u,v])/\SubG G G'/\G' r=some (.lst es.reverse)/\Ens (λa=>a≠r) G' S es/\ ∀e∈S,EnOk p (pss.map List.length) G e.1 e.2) 100001 (nd x) _ _ ∅ ⟨[(x,fs)],0,nd x+1,[.tup [x,.ref fa]],by simp[nds],lx,by lia,hB,⟨none,none,rfl⟩,SubG.new hr,updG_same,.cons nr ((ze nr).trans hf) .nil,λe h=>by cases ν.mp h;show en⟩ ?_;rintro m τ G' nx ⟨S,c,n,es,hm,h1,hn,hw,⟨u,v,rfl⟩,sg,g,en',ts⟩ kk;show⟨_,g,?_⟩;cases en' with
 | nil=>
  show br_f ?_;show⟨G,sg,?_⟩;have:B=none:=by
   cases n with
   | zero=>lia
   | succ n=>show hw.symm
  rw[this] at q;show q
 | @cons y ys a S es na ga en'=>
  have ey:EnOk p (pss.map List.length) G y ys:=ts (y,ys) ξ;have hs:nd y+nds (S.map (·.1))=m:=hm.symm;show br_i (λ_=>?_) (λz=>absurd (of_decide_eq_false z) Sort);show⟨⟨_,g⟩,?_⟩;show⟨rfl,_,W.tup [y,.ref a],g,by simp,?_⟩;right;right;right;generalize hG2:updG G' r _=G2;have sg2:SubG G G2:=by rw[<-hG2];show λb o e=>by rw[ze (λz=>by subst z;rw[hr] at e;cases e)];show sg b o e
  have g2:G2 r=some (.lst es.reverse):=by rw[<-hG2,updG_same];simp
  have ga2:G2 a=some (.lst (ys.map fW)):=by rw[<-hG2,ze na];show ga
  have en2:Ens (λa=>a≠r) G2 S es:=en'.up λb o hb e=>⟨hb,by rw[<-hG2,ze hb];show e⟩;clear hG2;show zD (p,pss.map List.length,y,a,ys) ⟨hp,ey.t.n,ey.g.ln,ga2,by have:=ey.l;change ys.length<=200000;lia⟩ ?_;rintro w G3 ⟨r2,es2,rfl,hr2,g3,s23,en3⟩;have n2:r≠r2:=λz=>by subst z;rw[g2] at hr2;cases hr2
  have nv:=xm ey.t.n;right;show⟨⟨_,s23 _ _ g2⟩,?_⟩;show⟨_,g3,λr3 hr3=>?_⟩;have n3:r≠r3:=λz=>by subst z;rw[s23 _ _ g2] at hr3;cases hr3
  have n23:r2≠r3:=λz=>by subst z;rw[g3] at hr3;cases hr3
  have ll:es.length<=100000:=by have:=xn (S.map (·.1));have:=en'.len;simp at*;lia
  have l2:es2.length<=100000:=by
   have:=en3.len;have:=yB (x:=y);simp[entF] at*;lia
  show .inr (.inr ⟨rfl,r3,_,_,rfl,(ze n3).trans (s23 _ _ g2),updG_same,by simp[sizeLine];lia,?_⟩);show⟨_,(ze (Ne.symm n2)).trans ((ze n23).trans g3),?_⟩;generalize hG4:updG (updG G3 r3 _) r _=G4;have g4:G4 r=some (.lst (es2++es).reverse):=by rw[<-hG4,updG_same,List.reverse_append]
  have up4: ∀b o,b≠r->G3 b=some o->G4 b=some o:=λb o hb e=>by
   rw[<-hG4,ze hb,ze (λz=>by subst z;rw[hr3] at e;cases e)];show e
  have sg4:SubG G G4:=λb o e=>up4 b o (λz=>by subst z;rw[hr] at e;cases e) (s23 _ _ (sg2 _ _ e));have en4:Ens (λa=>a≠r) G4 S es:=en2.up λb o hb e=>⟨hb,up4 b o hb (s23 _ _ e)⟩;have en5:Ens (λa=>a≠r) G4 (entF p ys y) es2:=en3.up λb o hb e=>by
   have nb:b≠r:=λz=>by subst z;rw[g2] at hb;cases hb.1
   show⟨nb,up4 b o nb e⟩
  have ga4:G4 a=some (.lst (ys.map fW)):=up4 a _ na (s23 _ _ ga2);clear hG4;cases n with
  | zero=>lia
  | succ n=>
  have hw:(if (entF p ys y).length=0 then (if wm pss ys y=true then folF p pss n S (c+1) else some c) else folF p pss n (entF p ys y++S) c)=B:=hw;rw[<-en3.len] at hw;have ke:(entF p ys y).map (·.1)=kids y:=ent_map (fw_len nv);have kn:nds (kids y)+1<=nd y:=y4;show br_d (λe=>?_) λe=>?_
  .rw[if_pos ∅] at hw;have e2:es2=[]:=List.length_eq_zero_iff.mp ∅;subst e2;have k0:kids y=[]:=by
    have e0:(entF p ys y).length=0:=en3.len.symm;rw[<-ke,List.length_eq_zero_iff.mp e0];rfl
   right;right;show zd (p,pss,a,ys,y) ⟨hp,po,ga4,ey.f,by have:=ey.l;change ys.length<=200000;lia,ey.g.th.up sg4,ey.g.ln,ey.b,ey.t.n,k0⟩ ?_;show br_n ?_;ac_rfl
   .have e:wm pss ys y=true:=e;rw[if_pos e] at hw;show kk (nds (S.map (·.1))) _ _ (by have:=vK y;lia) ⟨S,c+1,n,es,rfl,by lia,by have:=vK y;lia,hw,⟨_,_,rfl⟩,sg4,by simpa using g4,en4,λe he=>ts e (ζ _ he)⟩
   .have e:wm pss ys y=false:=e;rw[if_neg (by rw[e];decide)] at hw;show⟨G,sg4,?_⟩;rw[<-hw] at q;show q
  .rw[if_neg ∅] at hw;have en6:=en5.app en4;have eS:nds ((entF p ys y++S).map (·.1))=nds (kids y)+nds (S.map (·.1)):=by rw[List.map_append,we,ke]
   show kk (nds ((entF p ys y++S).map (·.1))) _ _ (by rw[eS];lia) ⟨entF p ys y++S,c,n,es2++es,rfl,by rw[eS];lia,by rw[eS];lia,hw,⟨_,_,rfl⟩,sg4,g4,en6,λe he=>?_⟩;rcases Γ.mp he with he | he
   .obtain⟨⟨z,f⟩,hz,rfl⟩:=π.mp he;have mz:z∈kids y:=(List.of_mem_zip hz).1;have mf:=(List.of_mem_zip hz).2;have fo:=fw_ok hp nv ey.b f mf;show⟨ey.t.k z mz,ey.g.kids z mz,bdW_kids nv ey.b z mz,ey.f.snoc fo.1 fo.2,?_⟩;have:=wd mz;have:=ey.l;simp;lia
   .show ts e (ζ _ he)
def uI:W->Int | .int i=>i | _=>0
def uT:W->List Int | .tup ws=>ws.map uI | _=>[]
def W4(a:List Int):uT (iT a)=a:=by simp[uT,iT,uI,Function.comp_def]
theorem wy{n:Nat}{x:W}(h:zB n x=true):x=iT (uT x)/\(uT x).length=n:=by
 cases x with
 | tup ws=>
  simp only[zB,Bool.and_eq_true,decide_eq_true_eq] at h;show⟨?_,by simp[uT];lia⟩;change W.tup ws=W.tup ((ws.map uI).map W.int);rw[Ω];congr 1
  conv=>lhs;rw[<-List.map_id ws]
  show List.map_congr_left λx hx=>?_;obtain⟨i,rfl⟩:=yz (List.all_eq_true.mp h.2 x hx);rfl
 | _=>cases h
theorem counts_wholes(h:zU n x=true):zB n x=true:=by
 cases x with
 | tup ws=>
  simp only[zU,Bool.and_eq_true] at h;have h2:=h.2;rw[posW,Bool.and_eq_true] at h2;simp only[zB,Bool.and_eq_true];show⟨h.1,h2.1⟩
 | _=>cases h
theorem kepts_eq{n:Nat}{x:W}(h:xA n x=true): ∃ks:List (List Int),x=keW ks/\ks.length<=8/\ ∀k∈ks,k.length=n:=by
 cases x with
 | tup ws=>
  simp only[xA,Bool.and_eq_true,decide_eq_true_eq] at h;have hw:=List.all_eq_true.mp h.2;show⟨ws.map uT,?_,by simpa using h.1,λk hk=>?_⟩
  .change W.tup ws=W.tup ((ws.map uT).map iT);rw[Ω];congr 1
   conv=>lhs;rw[<-List.map_id ws]
   show List.map_congr_left λx hx=>?_;show(wy (hw x hx)).1
  .obtain⟨x,hx,rfl⟩:=π.mp hk;show(wy (hw x hx)).2
 | _=>cases h
def Yr{p:Po}{sz:List Nat}{x:W}(h:zY p sz x=true): ∃(ks:List (List Int)) (hs:List Int) (t:W),x= .tup [keW ks,iT hs,t]/\ks.length<=8/\(∀k∈ks,k.length=p.n)/\hs.length=p.n/\wtB p sz t=true:=by
 unfold zY at h;split at h
 .simp only[Bool.and_eq_true] at h;obtain⟨h1,h2,h3⟩:=h;obtain⟨ks,rfl,a,b⟩:=kepts_eq h1;obtain⟨e,l⟩:=wy (counts_wholes h2);show⟨ks,_,_,by rw[<-e],a,b,l,h3⟩
 .cases h
def xb (p:Po) (a:Ak) (x:W):Option (Str×Int):=
 if zY p (szs p a) x=false then some ("shape",0) else match x with
 | .tup [.tup ks,h,t]=>match (ks.map uT).findIdx? (λk=> !vA p k) with
  | some i=>some ("kept",i)
  | none=>match p.rl.findIdx? (y3 (uT h)) with
   | some i=>some ("height",i)
   | none=>match fol p (pcs p a) (fcF p (ks.map uT)) t with
    | some i=>some ("leaf",i)
    | none=>none
 | _=>none
theorem XB{p:Po}{a:Ak}{ks:List (List Int)}{hs:List Int}{t:W}(h:zY p (szs p a) (.tup [keW ks,iT hs,t])=true):
  xb p a (.tup [keW ks,iT hs,t])=match ks.findIdx? (λk=> !vA p k) with
  | some i=>some ("kept",i)
  | none=>match p.rl.findIdx? (y3 hs) with
   | some i=>some ("height",i)
   | none=>match fol p (pcs p a) (fcF p ks) t with
    | some i=>some ("leaf",i)
    | none=>none:=by
 unfold xb;rw[if_neg (by rw[h];decide)];have e:(ks.map iT).map uT=ks:=by
  rw[Ω];conv=>rhs;rw[<-List.map_id ks]
  show List.map_congr_left λk _=>W4 k
 change(match ((ks.map iT).map uT).findIdx? (λk=> !vA p k) with
  | some i=>some ("kept",i)
  | none=>match p.rl.findIdx? (y3 (uT (iT hs))) with
   | some i=>some ("height",i)
   | none=>match fol p (pcs p a) (fcF p ((ks.map iT).map uT)) t with
    | some i=>some ("leaf",i)
    | none=>none:Option (Str×Int))=_
 rw[e,W4]
theorem pcs_ok(hp:PoOk p)(ha:AkOk p.ip.length a):PsOk (pcs p a)/\(pcs p a).length<=3:=by
 have fd:=FoL.drp (n:=p.an) hp;have bd:=BF.drp (p:=p) (n:=p.an);have bw: ∀{u v:Fo},FoL u->FoL v->BF 1000 u->BF 1000 v-> ∀f∈bwF u v,FoL f/\BF (10^4) f:=λlu lv bu bv f hf=>by
  simp only[bwF,List.mem_cons,List.not_mem_nil,or_false] at hf;rcases hf with rfl | rfl
  .show⟨lu.les,BF.mono ⋯ (bu.les bv)⟩
  .show⟨lv.les,BF.mono ⋯ (bv.les bu)⟩
 have mk: ∀{pss:List (List Fo)},pss.length<=3->(∀c∈pss,c.length<=4/\ ∀f∈c,FoL f/\BF (10^4) f)->PsOk pss/\pss.length<=3:=λl h=>⟨⟨λc hc=>by have:=(h c hc).1;lia,λc hc f hf=>((h c hc).2 f hf).1,λc hc f hf=>((h c hc).2 f hf).2⟩,l⟩;cases a with
 | sum l=>
  show mk (by simp[pcs]) λc hc=>?_;cases ν.mp hc
  show⟨by simp[bwF],bw fd (.lin hp ha) (BF.mono ⋯ bd) (BF.mono ⋯ (BF.lin ha))⟩
 | part l m=>
  obtain⟨hl,m2,m9⟩:=ha;show mk (by simp[pcs]) λc hc=>?_;cases ν.mp hc
  have bo:BF 9 (oftF (drpF p p.an) m):=BF.mono ⋯ (bd.oft (t:=m) (T:=9) ∅);show⟨by simp,λf hf=>?_⟩;simp only[List.mem_cons,List.not_mem_nil,or_false] at hf;rcases hf with rfl | rfl
  .show⟨(FoL.lin hp hl).les,BF.mono ⋯ ((BF.lin hl).les bo)⟩
  .show⟨(fd.oft.les).mor,BF.mono ∅ ((bo.les (BF.lin (p:=p) hl)).mor (n:=m-1))⟩
 | two w l k=>
  obtain⟨hl,hk,hw⟩:=ha;have fl:=FoL.lin hp hl;have fk:=FoL.lin hp hk;have bl:=BF.lin (p:=p) hl;have bk:=BF.lin (p:=p) hk;have bl':BF 1000 (linF p l):=BF.mono ⋯ bl;have bk':BF 1000 (linF p k):=BF.mono ⋯ bk;have bd':BF 1000 (drpF p p.an):=BF.mono ⋯ bd;have n1:BF 1000 (numF p 1):=BF.mono ⋯ BF.num;have n0:BF 1000 (numF p 0):=BF.mono ⋯ BF.num;have g1:FoL (numF p 1):= .num hp;have g0:FoL (numF p 0):= .num hp;have lk:FoL (lesF (linF p l) (linF p k))/\BF (10^4) (lesF (linF p l) (linF p k)):=⟨fl.les,BF.mono ⋯ (bl.les bk)⟩;have kl:FoL (lesF (linF p k) (linF p l))/\BF (10^4) (lesF (linF p k) (linF p l)):=⟨fk.les,BF.mono ⋯ (bk.les bl)⟩;have lkm:FoL (morF (lesF (linF p l) (linF p k)) (-1))/\BF (10^4) (morF (lesF (linF p l) (linF p k)) (-1)):=⟨fl.les.mor,BF.mono ⋯ ((bl.les bk).mor (n:=-1))⟩;have klm:FoL (morF (lesF (linF p k) (linF p l)) (-1))/\BF (10^4) (morF (lesF (linF p k) (linF p l)) (-1)):=⟨fk.les.mor,BF.mono ⋯ ((bk.les bl).mor (n:=-1))⟩;have sn: ∀{c:List Fo} {g:Fo},c.length<=3->(∀f∈c,FoL f/\BF (10^4) f)->FoL g/\BF (10^4) g->(c++[g]).length<=4/\ ∀f∈c++[g],FoL f/\BF (10^4) f:=λl h hg=>⟨by simp;lia,λf hf=>by
   rcases Γ.mp hf with hf | hf
   .show h f hf
   .cases ν.mp hf;show hg⟩
  have b2: ∀{u v:Fo},(bwF u v).length<=3:=by simp[bwF]
  change PsOk (pcs2 p w _ _ _)/\(pcs2 p w _ _ _).length<=3;unfold pcs2;split
  .show mk Sort λc hc=>?_;simp only[List.mem_cons,List.not_mem_nil,or_false] at hc;rcases hc with rfl | rfl
   .show sn b2 (bw fd fl bd' bl') kl
   .show sn b2 (bw fd fk bd' bk') lk
  split
  .show mk Sort λc hc=>?_;simp only[List.mem_cons,List.not_mem_nil,or_false] at hc;rcases hc with rfl | rfl
   .show sn b2 (bw fd fl bd' bl') lk
   .show sn b2 (bw fd fk bd' bk') kl
  split
  .show mk Sort λc hc=>?_;simp only[List.mem_cons,List.not_mem_nil,or_false] at hc;rcases hc with rfl | rfl
   .show sn b2 (bw fd g1 bd' n1) lkm
   .show sn b2 (bw fd g0 bd' n0) kl
  .show mk Sort λc hc=>?_;simp only[List.mem_cons,List.not_mem_nil,or_false] at hc;rcases hc with rfl | rfl | rfl
   .show⟨by simp[bwF],λf hf=>?_⟩;rcases Γ.mp hf with hf | hf
    .show bw fd g1 bd' n1 f hf
    .show bw fl fk bl' bk' f hf
   .show sn b2 (bw fd g0 bd' n0) lkm
   .show sn b2 (bw fd g0 bd' n0) klm
def fc_ok(hp:PoOk p)(hk: ∀k∈ks,k.length=p.n)(hb: ∀k∈ks,∀x∈k,x.natAbs<10^42):FsOk (fcF p ks)/\(fcF p ks).length<=20+2*ks.length:=by
 have h8:=hp.n8;have h3:=hp.i3;have all: ∀f∈fcF p ks,FoL f/\BF (10^46) f:=λf hf=>by
  unfold fcF at hf;rcases Γ.mp hf with hf | hf
  .rcases Γ.mp hf with hf | hf
   .obtain⟨i,_,rfl⟩:=π.mp hf;show⟨.amt hp,BF.mono ⋯ BF.amt⟩
   .obtain⟨i,_,rfl⟩:=π.mp hf;show⟨.drp hp,BF.mono ⋯ BF.drp⟩
  .obtain⟨k,mk,hf⟩:=List.mem_flatMap.mp hf;have b:=BF.kep hp (hk k mk) (hb k mk);have l:=FoL.kep hp (hk k mk);simp only[List.mem_cons,List.not_mem_nil,or_false] at hf;rcases hf with rfl | rfl
   .show⟨l,BF.mono ⋯ b⟩
   .show⟨l.oft,BF.mono ⋯ b.neg⟩
 show⟨⟨λf hf=>(all f hf).1,λf hf=>(all f hf).2⟩,?_⟩;have: ∀d:List (List Int),(d.flatMap λk=>[kepF p k,oftF (kepF p k) (-1)]).length=2*d.length:=λd=>by induction d with | nil=>rfl | cons a d ih=>simp[List.flatMap_cons,ih];lia
 simp only[fcF,List.length_append,List.length_map,List.length_range,this];lia
def keW_bd(h:bdW (keW ks)): ∀k∈ks,∀x∈k,x.natAbs<10^42:=λk hk x hx=>
 bdW.mem (bdW.mem (h:bdWs (ks.map iT)) (iT k) (π.mpr ⟨k,hk,rfl⟩):bdWs (k.map W.int)) (.int x) (π.mpr ⟨x,hx,rfl⟩)
def ZB (D:Addr):Sp3:={α:=Po×Ak×W,enc:=λx=>[pW x.1,aW x.2.1,x.2.2],pre:=λx G=>PoOk x.1/\AkOk x.1.ip.length x.2.1/\Th G x.2.2/\Ln x.2.2/\TrT G x.2.2/\bdW x.2.2,post:=λx G w G'=>G'=G/\w= .bl true/\xb x.1 x.2.1 x.2.2=none,exc:=λx G c ns us G'=>SubG G G'/\ ∃w i,xb x.1 x.2.1 x.2.2=some (w,i)/\c=D/\ns=(["word","at"]:List Str)/\us=[.str w,.int i]}
def enL (D:Addr):En:={ens [("is_paper",spPp),("stays",spSt),("first_not_lowered",Wm),("first_open_leaf",Wl),("pieces_of",Xf),("facts_of",spFc)] with cl:=λx=>if x="NoPaper" then some (D,["word","at"]) else none}
theorem ok_lets(D:Addr):Body (enL D) x_lets_paper (ZB D):=by
 rintro⟨p,a,x⟩ G Q E ⟨hp,ha,hx,ln,tt,bd⟩ q ex;have q:xb p a x=none->Q (.bl true) G:=λe=>q _ _ ⟨rfl,rfl,e⟩;have ex: ∀w i G',xb p a x=some (w,i)->SubG G G'->E D ["word","at"] [.str w,.int i] G':=λw i G' e s=>ex _ _ _ _ ⟨s,w,i,e,rfl,rfl,rfl⟩;show zd (p,a,x) ⟨hp,ha,hx,ln,tt⟩ ?_;show br_n ?_;ac_rfl
 case refine_2=>
  show⟨rfl,by decide,?_⟩;show ex _ _ _ (by unfold xb;rw[if_pos e]) SubG.refl
 obtain⟨ks,hs,t,rfl,k8,kn,hn,ht⟩:=Yr e;rw[XB e] at q ex;have hk: ∀k∈ks,∀x∈k,x.natAbs<10^42:=keW_bd (bdW.mem (bd:bdWs _) (keW ks) Sort);have bt:bdW t:=bdW.mem (bd:bdWs _) t Sort;right;show forE iT (λd τ G'=>G'=G/\(∃u v,τ=[some (pW p),some (aW a),some (.tup [keW ks,iT hs,t]),u,v,none,none])/\ ∀y∈d,(!vA p y)=false) (λ_ _ _ _=>trivial) ks [] _ _ ⟨rfl,⟨none,none,rfl⟩,λ_ z=>by cases z⟩ ?_ ?_
 .rintro k d rr τ G' nx e ⟨rfl,⟨u,v,rfl⟩,hd⟩ kk;have mk:k∈ks:=by rw[show ks=d++k::rr from e];simp
  rfl';show zd (p,k) ⟨hp,kn k mk⟩ ?_;show br_i (λe'=>?_) λe'=>?_
  .have f:ks.findIdx? (λk=> !vA p k)=some d.length:=by rw[show ks=d++k::rr from e];show ZS hd e'
   rw[f] at ex;show⟨rfl,by decide,?_⟩;show ex _ _ _ rfl SubG.refl
  .show kk _ _ ⟨rfl,⟨_,_,rfl⟩,λy hy=>by
    rcases Γ.mp hy with hy | hy
    .show hd y hy
    .cases ν.mp hy;show e'⟩
 .rintro τ G' ⟨rfl,⟨u,v,rfl⟩,hd⟩;have f:ks.findIdx? (λk=> !vA p k)=none:=List.findIdx?_eq_none_iff.mpr hd;rw[f] at q ex;right;show zd (p,hs) ⟨hp,hn⟩ ?_;rfl';cases hf:p.rl.findIdx? (y3 hs) with
  | some i=>
   rw[hf] at ex;show br_t ?_;show⟨rfl,by decide,?_⟩;show ex _ _ _ rfl SubG.refl
  | none=>
   rw[hf] at ex q;show br_f ?_;show zd (p,a) ⟨hp,ha⟩ ?_;right;show zD (p,ks) ⟨hp,by change ks.length<=1000;lia,kn⟩ ?_;rintro w G1 ⟨r,rfl,hr,rfl⟩;right;obtain⟨fo,fl⟩:=fc_ok hp kn hk;have sg:SubG G' (updG G' r (.lst ((fcF p ks).map fW))):=SubG.new hr;have lt:nd t<=100000:=tt.ln;have fl':(fcF p ks).length<=36:=η fl ∅;show zd (p,pcs p a,r,fcF p ks,t) ⟨hp,(pcs_ok hp ha).1,updG_same,⟨W1 _ _ _ ht (t,1) Sort,tt.up sg,bt,fo,show(fcF p ks).length+nd t<=200000 by lia⟩⟩ ?_;rfl';cases hl:fol p (pcs p a) (fcF p ks) t with
   | some i=>
    rw[hl] at ex;show br_t ?_;show⟨rfl,by decide,?_⟩;show ex _ _ _ rfl sg
   | none=>
    rw[hl] at q;show br_f ?_;show⟨_,sg,q rfl⟩
def atl (l:Int):W->Bool | .int i=>decide (l<=i) | _=>false
def spLw:Sp3:=fsp (α:=W×Int) (λx=>[x.1,.int x.2]) (λx G=>Th G x.1) λx=> .bl (atl x.2 x.1)
def ok_lw:Body (ens []) xK spLw:=by
 show bd_f fun⟨x,l⟩ G Q E h q=>?_;show zN (vz h) ?_;ac_rfl
 .left;show zN (Y8 h) ?_;show br_n ?_;ac_rfl
  .have e:xi x=true:=e;show bk q (by cases x<;>first | rfl | cases e)
  .have e':xi x=false:=e;have e:isInt x=true:=by assumption
   cases x<;>first | (cases e;done) | (cases e';done) | skip
   show bk q rfl
 .have e:isInt x=false:=e;show bk q (by cases x<;>first | rfl | cases e)
def oI:Option Int->W | some i=> .int i | none=> .non
def lo (l:Option Int):Int:=l.getD (-(10^60))
def rwB (n:Int) (l:Option Int):W->Bool | .tup ws=>decide (ws.length=n)&&ws.all (atl (lo l)) | _=>false
theorem wU{ws:List W}{p:W->Bool}:((ws.filter p).map λx=>x).isEmpty=ws.all λx=> !p x:=by
 induction ws with
 | nil=>rfl
 | cons a ws ih=>
  rw[List.filter_cons,List.all_cons];cases h:p a
  .exists ih
  .simp
def XQ{Q:Bool->Prop}(h:G r=some (.lst ws))(h2:G r2=some (.lst []))(q:Q ws.isEmpty):cmpW .Eq (.ref r) (.ref r2) G Q:= .inl ⟨ws,h,h2,q⟩
def spLr:Sp3:=fsp (α:=W×Int×Option Int) (λx=>[x.1,.int x.2.1,oI x.2.2]) (λx G=>Th G x.1/\Ln x.1) λx=> .bl (rwB x.2.1 x.2.2 x.1)
theorem ok_lr:Body (ens [("_law_whole",spLw)]) vv spLr:=by
 show bd_f fun⟨x,n,l⟩ G Q E h q=>?_;obtain⟨h,ln⟩:=h;show zN (zQ h) ?_;show br_n ?_;ac_rfl
 .obtain⟨ws,rfl⟩:=zM e;have q:Q (.bl (decide (ws.length=n)&&ws.all (atl (lo l)))) G:=q;show br_n ?_;ac_rfl
  .have e:decide ((ws.length:Int)=n)=true:=e;rw[e,Bool.true_and] at q;have fin: ∀G2,SubG G G2->Q (.bl ((ws.filter λx=> !atl (lo l) x).map λx=>x).isEmpty) G:=λG2 s=>by
    rw[wU];rw[show(ws.all λx=> !!atl (lo l) x)=ws.all (atl (lo l)) by simp only[Bool.not_not]];show q
   show cg1t (ok:=λ_=>True) (ρ:=[some (oI l)]) (λx=> !atl (lo l) x) (λx=>x) trivial ws [] none (by exists zS ln.len) ?_ (λx hx e Q' q=>q) ?_
   .intro x hx Q' q;cases l with
    | none=>
     show br_t ?_;show⟨by show⟨by decide,by decide,by decide⟩,?_⟩;show zd (x,lo none) (h.mem x hx) q
    | some i=>
     show br_f ?_;show zd (x,i) (h.mem x hx) q
   .intro r hr;show⟨sz0,λr2 hr2=>?_⟩;have ne:r≠r2:=λz=>by subst z;rw[updG_same] at hr2;cases hr2
    show XQ ((ze ne).trans updG_same) updG_same ?_;show⟨G,(SubG.new hr).trans (SubG.new hr2),fin G SubG.refl⟩
  .have e:decide ((ws.length:Int)=n)=false:=e;rw[e,Bool.false_and] at q;show bk q rfl
 .left;show br_t ?_;show bk q (by cases x<;>first | rfl | cases e)
theorem row2(h:rwB 2 (some 0) x=true): ∃a b,x= .tup [.int a,.int b]/\0<=a/\0<=b:=by
 cases x with
 | tup ws=>
  simp only[rwB,Bool.and_eq_true,decide_eq_true_eq] at h;have l:ws.length=2:=by lia
  match ws,l,h.2 with
  | [u,v],_,h2=>
   simp only[List.all_cons,List.all_nil,Bool.and_true,Bool.and_eq_true] at h2;have k: ∀w,atl (lo (some 0)) w=true-> ∃i,w= .int i/\0<=i:=λw hw=>by
    cases w<;>first | (cases hw;done) | skip
    show⟨_,rfl,of_decide_eq_true hw⟩
   obtain⟨a,rfl,ha⟩:=k u h2.1;obtain⟨b,rfl,hb⟩:=k v h2.2;show⟨a,b,rfl,ha,hb⟩
 | _=>cases h
def row2_of(h:zp x=true):rwB 2 (some 0) x=true:=by
 obtain⟨i,j,rfl,a,b⟩:=yb h;have:(0:Int)<=j:=by lia
 simp[rwB,atl,lo,a,this]
theorem WZ: ∀bs:List Bool,Pds G (bs.map W.bl) (bs.map PyData.bool)
 | []=> .nil
 | b::bs=> .cons (.bl b) (WZ bs)
theorem WY: ∀bs:List Bool,PyData.canLayAll0 (bs.map PyData.bool)=true
 | []=>rfl
 | b::bs=>by
  change((PyData.bool b).canLay0&&PyData.canLayAll0 (bs.map PyData.bool))=true;rw[WY bs];rfl
def vQ{bs:List Bool}{Q:Bool->Prop}(h:G r=some (.lst (bs.map W.bl)))(q:Q (bs.any λb=> !b)):cmpW .In (.bl false) (.ref r) G Q:=by
 show .inl ⟨_,.bool false,bs.map .bool,h,.bl false,WZ bs,rfl,WY bs,by decide,?_⟩;have:((bs.map PyData.bool).any λd=>PyData.eqv d (.bool false))=bs.any λb=> !b:=by
  rw[List.any_map];congr 1
  funext b
  cases b<;>rfl
 rw[this];show q
def nin_false{bs:List Bool}{Q:Bool->Prop}(h:G r=some (.lst (bs.map W.bl)))(q:Q (!bs.any λb=> !b)):cmpW .NotIn (.bl false) (.ref r) G Q:=vQ (Q:=λb=>Q (!b)) h q
theorem Z0{ws:List W}{p:W->Bool}:((ws.map p).any λb=> !b)= !ws.all p:=by
 rw[List.any_map]
 induction ws with
 | nil=>rfl
 | cons a ws ih=>
  rw[List.any_cons,List.all_cons,ih];change((!p a) || _)=_;cases p a<;>rfl
theorem vF: ∀{ns:List Int},yi ns=true↔ ∀k,k+1<ns.length->ns.getD k 0<ns.getD (k+1) 0
 | []=>by simp[yi]
 | [_]=>by simp[yi]
 | a::b::r=>by
  rw[yi,Bool.and_eq_true,decide_eq_true_eq,vF (ns:=b::r)];constructor
  .rintro⟨h,k⟩ i hi;cases i with
   | zero=>exists h
   | succ i=>exists k i (by simp at hi ⊢;lia)
  .intro h;show⟨by simpa using h 0 Sort,λi hi=>by exists h (i+1) (by simp at hi ⊢;lia)⟩
def X4{ws:List W}(h:ws.all zp=true)(hk:k<ws.length): ∃w,atI ws (k:Int)=some (.tup [.int ((ws.map zZ).getD k 0),w]):=by
 obtain⟨i,j,e,_⟩:=yb (List.all_eq_true.mp h _ (Ρ hk));show⟨.int j,?_⟩;have:ws[k]? =some (.tup [.int i,.int j]):=by rw[χ hk,e]
 rw[yI this,υ,Ν,this];rfl
def Vd:Sp3:=fsp (α:=W) (λx=>[x]) (λx G=>Th G x/\Ln x) λx=> .bl (zt x)
def ok_lws:Body (ens [("_law_row",spLr)]) yo Vd:=by
 show bd_f λx G Q E h q=>?_;obtain⟨h,ln⟩:=h;show zN (zQ h) ?_;show br_n ?_;ac_rfl
 .obtain⟨ws,rfl⟩:=zM e;have q:Q (.bl (ws.all zp&&yi (ws.map zZ))) G:=q;show cg_w (ok:=λ_=>True) (ρ:=[]) (λx=> .bl (zp x)) ws ln.len trivial ?_ ?_
  .intro x hx Q' q;show zd (x,2,some 0) ⟨h.mem x hx,ln.mem hx⟩ ?_;ac_rfl
   .obtain⟨a,b,rfl,ha,hb⟩:=row2 e;right;have:zp (.tup [.int a,.int b])=decide (0<b):=by
     change(decide (0<=a)&&decide (1<=b))=_;rw[decide_eq_true ha,Bool.true_and];show decide_eq_decide.mpr ∅
    rw[this] at q;show q
   .have:zp x=false:=by
     cases hw:zp x
     .rfl
     .have e:rwB 2 (some 0) x=false:=e;rw[row2_of hw] at e;cases e
    rw[this] at q;show q
  .intro r hr;have em:ws.map (λx=>W.bl (zp x))=(ws.map zp).map W.bl:=by simp
   rw[em];show vQ updG_same ?_;rw[Z0];show br_n ?_;ac_rfl
   .rw[e,Bool.true_and] at q;have ea:=e;show⟨by have:=ln.len;lia,?_⟩;have rl:(rngW 1 (ws.length:Int)).length<=100000:=by have:=ln.len;simp[rngW];lia
    show cg1t (ok:=λ_=>True) (ρ:=[some (.tup ws)]) (λw=>match w with | .int k=>decide ((ws.map zZ).getD k.toNat 0<=(ws.map zZ).getD (k-1).toNat 0) | _=>false) (λx=>x) trivial (rngW 1 (ws.length:Int)) [] none (by exists zS rl) ?_ (λx hx e Q' q=>q) ?_
    .intro x hx Q' q;obtain⟨k,hk,rfl⟩:=π.mp hx;have hk:=Τ.mp hk;have e1:(1+(k:Int))-1=(k:Int):=by lia
     have e2:1+(k:Int)=((k+1:Nat):Int):=by lia
     obtain⟨w1,g1⟩:=X4 ea (k:=k) ∅;obtain⟨w2,g2⟩:=X4 ea (k:=k+1) ∅;rw[<-e2] at g2;have q:Q' (decide ((ws.map zZ).getD (k+1) 0<=(ws.map zZ).getD k 0)) (updG G r (.lst ((ws.map zp).map W.bl))):=by
      have t1:(1+(k:Int)).toNat=k+1:=by lia
      have t2:(1+(k:Int)-1).toNat=k:=by lia
      simp only[t1,t2] at q;show q
     left;rw[e1];show⟨_,g1,?_⟩;right;show⟨_,g2,?_⟩;right;show q
    .intro r2 hr2;show⟨sz0,λr3 hr3=>?_⟩;have ne:r2≠r3:=λz=>by subst z;rw[updG_same] at hr3;cases hr3
     show XQ ((ze ne).trans updG_same) updG_same ?_;show⟨G,((SubG.new hr).trans (SubG.new hr2)).trans (SubG.new hr3),?_⟩;rw[List.nil_append,wU];have:((rngW 1 (ws.length:Int)).all λx=> !(match x with | .int k=>decide ((ws.map zZ).getD k.toNat 0<=(ws.map zZ).getD (k-1).toNat 0) | _=>false))=yi (ws.map zZ):=by
      rw[Bool.eq_iff_iff,List.all_eq_true,vF];constructor
      .intro h k hk;have:=h (.int (1+(k:Int))) (π.mpr ⟨k,Τ.mpr (by simp at hk;lia),rfl⟩);have t1:(1+(k:Int)).toNat=k+1:=by lia
       have t2:(1+(k:Int)-1).toNat=k:=by lia
       simp only[t1,t2,Bool.not_eq_true',decide_eq_false_iff_not] at this;lia
      .intro h x hx;obtain⟨k,hk,rfl⟩:=π.mp hx;have hk:=Τ.mp hk;have t1:(1+(k:Int)).toNat=k+1:=by lia
       have t2:(1+(k:Int)-1).toNat=k:=by lia
       have:=h k (by simp;lia);simp only[t1,t2,Bool.not_eq_true',decide_eq_false_iff_not];lia
     rw[this];show q
   .rw[e,Bool.false_and] at q;show⟨G,SubG.new hr,q⟩
 .left;show br_t ?_;show bk q (by cases x<;>first | rfl | cases e)
theorem Yj(q:Int->Bool)(F:List Int): ∀(a:List Int) (k:Nat),F.drop k=a->(((List.range' k a.length).map fun(i:Nat)=>W.int (0+(i:Int))).filter λw=>match w with | .int i=>q (F.getD i.toNat 0) | _=>false).map (λx=>x)=(idxs q k a).map W.int
 | [],k,h=>rfl
 | x::xs,k,h=>by
  have hx:F.getD k 0=x:=by
   have:(F.drop k)[0]? =some x:=by rw[h];rfl
   rw[List.getElem?_drop] at this;rw[υ,show F[k]? =some x by exists this];rfl
  have ih:=Yj q F xs (k+1) (by rw[<-List.drop_drop,h];rfl);rw[List.length_cons,List.range'_succ,List.map_cons,List.filter_cons];change List.map (λx=>x) (if q (F.getD (0+(k:Int)).toNat 0)=true then (_:List W) else _)=_;rw[show(0+(k:Int)).toNat=k by lia,hx];unfold idxs;split
  .rw[List.map_cons,List.map_cons,ih];simp
  .show ih
def Yb:Sp3:=gsp (α:=Ru) (λr=>[rW r]) (λr _=>r.1.length<=1000) λr G w G'=>NewL G w G' ((tkR r).map W.int)
def ok_lt:Body (ens []) xL Yb:=by
 show bd_g λr G Q E h q=>?_;right;left;have e1:((r.1.map W.int).length:Int)=(r.1.length:Int):=by simp
 rw[e1];show⟨by lia,?_⟩;show cg1t (ok:=λ_=>True) (ρ:=[some (rW r)]) (λw=>match w with | .int i=>decide (0<r.1.getD i.toNat 0) | _=>false) (λx=>x) trivial (rngW 0 (r.1.length:Int)) [] none (by simp[rngW];show zS ∅) ?_ (λx hx e Q' q=>q) ?_
 .intro x hx Q' q;obtain⟨i,hi,rfl⟩:=π.mp hx;have hi:=Τ.mp hi;right;show⟨_,getI ∅ ∅,q⟩
 .intro a ha;have e:((rngW 0 (r.1.length:Int)).filter λw=>match w with | .int i=>decide (0<r.1.getD i.toNat 0) | _=>false).map (λx=>x)=(tkR r).map W.int:=by
   have:=Yj (λx=>decide (0<x)) r.1 r.1 0 rfl;rw[<-List.range_eq_range'] at this;show this
  rw[List.nil_append,e];show bk (q _ _ ⟨a,rfl,ha,rfl⟩) rfl
def isStr_eq(h:vO x=true): ∃s,x= .str s:=by cases x<;>first | show⟨_,rfl⟩ | cases h
def YZ(h:atl l x=true): ∃i,x= .int i/\l<=i:=by
 cases x<;>first | (cases h;done) | skip
 show⟨_,rfl,of_decide_eq_true h⟩
def XF:isS s (.str t)=decide (t=s):=rfl
def Yg:wG n x=(atl 0 x&&(match x with | .int i=>decide (i<n) | _=>false)):=by
 cases x<;>first | rfl | skip
 change(_&&_)=(_&&_);congr 1;show decide_eq_decide.mpr (by omega)
def pos_atl:vP x=atl 0 x:=by cases x<;>rfl
def within_atl:within 0 ((n:Int)-1) x=(atl 0 x&&(match x with | .int i=>decide (i<n) | _=>false)):=Yg
def nW (sz:List Nat):List W:=sz.map fun(n:Nat)=>W.int (n:Int)
def spIn:Sp3:=gsp (α:=Po×List Nat×Addr×W) (λx=>[pW x.1,.ref x.2.2.1,x.2.2.2]) (λx G=>PoOk x.1/\G x.2.2.1=some (.lst (nW x.2.1))/\Th G x.2.2.2/\Ln x.2.2.2) λx G w G'=>SubG G G'/\((zw x.1 x.2.1 x.2.2.2=false/\w= .non)\/(zw x.1 x.2.1 x.2.2.2=true/\ ∃r,w= .ref r/\G r=none/\G' r=some (.lst (kids x.2.2.2))))
def val_lr:valW (y8 [] ([.inr "lacks",.inr "right"].zip [a,b])) (.inr w)=if w="lacks" then some a else if w="right" then some b else none:=by
 have e:y8 [] (([.inr "lacks",.inr "right"]:List Key).zip [a,b])=[(.inr "lacks",a),(.inr "right",b)]:=by rfl
 rw[e];unfold valW;by_cases h1:w="lacks"
 .subst h1;rfl
 .rw[if_neg h1,List.find?_cons,Ζ (by intro z;show h1 (Sum.inr.inj z).symm)];by_cases h2:w="right"
  .subst h2;rfl
  .rw[if_neg h2];simp only[List.find?_cons,List.find?_nil];rw[Ζ (by intro z;show h2 (Sum.inr.inj z).symm)];rfl
def ok_inner:Body (ens [("_law_is_weights",Vd),("_law_whole",spLw),("_law_taken",Yb)]) xQ spIn:=by
 show bd_g fun⟨p,sz,sa,x⟩ G Q E h q=>?_;obtain⟨hp,hs,hx,ln⟩:=h;have h8:p.nm.length<=8:=hp.n8;have qn:zw p sz x=false-> ∀G',SubG G G'->back Q .non G':=λe G' s=>bk (q _ _ ⟨s,.inl ⟨e,rfl⟩⟩) rfl;have qy:zw p sz x=true-> ∀r G',SubG G G'->G r=none->G' r=some (.lst (kids x))->back Q (.ref r) G':=λe r G' s hr g=>bk (q _ _ ⟨s,.inr ⟨e,r,rfl,hr,g⟩⟩) rfl;clear q;show zN (zQ hx) ?_;show br_n ?_;ac_rfl
 case refine_2=>
  show br_t ?_;show qn (by cases x<;>first | rfl | cases e) _ SubG.refl
 obtain⟨ws,rfl⟩:=zM e;have th: ∀i<ws.length,Th G (gw ws i):=λi hi=>hx.at (vR hi);have lm: ∀i<ws.length,Ln (gw ws i):=λi hi=>ln.mem (Β (vR hi));show br_d (λe=>?_) λe=>?_
 .left;show br_t ?_;show qn (by simp only[zw];rw[if_pos (by omega)]) _ SubG.refl
 show⟨_,zx (ws:=ws) (i:=0) (by omega),?_⟩;show zN (ty_str (th 0 (by omega))) ?_;show br_n ?_;have le: ¬ws.length<2:=by omega
 show br_i (λes=>?_) λes=>?_
 case refine_2=>
  show qn ?_ _ SubG.refl;simp only[zw];rw[if_neg le];have f: ∀s,isS s (gw ws 0)=false:=λs=>by
   cases h:gw ws 0<;>rw[h] at es<;>first | rfl | cases es
  rw[f,f,f,f];rfl
 obtain⟨w,ew⟩:=isStr_eq es;have td:zw p sz (.tup ws)=if w="lacks" then decide (ws.length=3)&&yu p (gw ws 1) (gw ws 2)
  else if w="cut" then decide (ws.length=5)&&(wG p.n (gw ws 1)&&vP (gw ws 2))
  else if w="shut" then decide (ws.length=2)&&zt (gw ws 1)
  else decide (w="right")&&(decide (ws.length=3)&&yr sz (gw ws 1) (gw ws 2)):=by
  simp only[zw];rw[if_neg le,ew];simp only[XF,decide_eq_true_eq]
 have kd:kids (.tup ws)=if w="lacks" then (match gw ws 2 with | .tup ts=>ts | _=>[]) else if w="cut" then ws.drop 3 else []:=by
  simp only[kids];rw[ew];simp only[XF,decide_eq_true_eq]
  try rfl
 rw[td] at qn qy;rw[kd] at qy;show⟨_,zx (ws:=ws) (i:=0) (by omega),?_⟩;rw[ew];show br_d (λe=>?_) λe=>?_
 .subst e;rw[if_neg ⋯,if_neg ⋯,if_pos rfl] at qn qy;rw[if_neg ⋯,if_neg ⋯] at qy;left;have ed:decide ((ws.length:Int)=2)=decide (ws.length=2):=decide_eq_decide.mpr (by omega);rw[ed];ac_rfl
  .rw[e,Bool.true_and] at qn qy;have e:=of_decide_eq_true e;show⟨_,zx (ws:=ws) (i:=1) (by omega),?_⟩;show zd (gw ws 1) ⟨th 1 (by omega),lm 1 (by omega)⟩ ?_;ac_rfl
   .left;show⟨sz0,λr hr=>?_⟩;show qy e r _ (SubG.new hr) hr updG_same
   .left;show qn e _ SubG.refl
  .rw[e,Bool.false_and] at qn;show br_f ?_;show qn rfl _ SubG.refl
 have ns:w≠"shut":=e;show⟨_,zx (ws:=ws) (i:=0) (by omega),?_⟩;rw[ew];show br_d (λe=>?_) λe=>?_
 .subst e;rw[if_neg ⋯,if_pos rfl] at qn qy;rw[if_neg ⋯,if_pos rfl] at qy;rw[Yg,pos_atl] at qn qy;left;have ed:decide ((ws.length:Int)=5)=decide (ws.length=5):=decide_eq_decide.mpr (by omega);rw[ed];ac_rfl
  case refine_2=>
   rw[e,Bool.false_and] at qn;right;show br_f ?_;show qn rfl _ SubG.refl
  rw[e,Bool.true_and] at qn qy;have l5:=of_decide_eq_true e;show⟨_,zx (ws:=ws) (i:=1) (by omega),?_⟩;show zd (gw ws 1,0) (th 1 (by omega)) ?_;ac_rfl
  case refine_2=>
   rw[e,Bool.false_and,Bool.false_and] at qn;rfl';show br_f ?_;show qn rfl _ SubG.refl
  have e:atl 0 (gw ws 1)=true:=e;rw[e,Bool.true_and] at qn qy;obtain⟨i,ei,i0⟩:=YZ e;rw[ei] at qn qy;show⟨_,zx (ws:=ws) (i:=1) (by omega),?_⟩;rw[ei];right;left;rw[ω];ac_rfl
  case refine_2=>
   have qn:(decide (i<(p.n:Int))&&atl 0 (gw ws 2))=false-> ∀G',SubG G G'->back Q .non G':=qn;rw[e,Bool.false_and] at qn;rfl';show br_f ?_;show qn rfl _ SubG.refl
  have qn:(decide (i<(p.n:Int))&&atl 0 (gw ws 2))=false-> ∀G',SubG G G'->back Q .non G':=qn;have qy:(decide (i<(p.n:Int))&&atl 0 (gw ws 2))=true-> ∀r G',SubG G G'->G r=none->G' r=some (.lst (ws.drop 3))->back Q (.ref r) G':=qy;rw[e,Bool.true_and] at qn qy;show⟨_,zx (ws:=ws) (i:=2) (by omega),?_⟩;show zd (gw ws 2,0) (th 2 (by omega)) ?_;right;ac_rfl
  .left;show⟨by omega,?_⟩;intro r hr;have ec:cutW ws (some 3) none=ws.drop 3:=by
    change cutW ws (some ((3:Nat):Int)) none=_;rw[yh]
   rw[ec];show qy e r _ (SubG.new hr) hr updG_same
  .left;show qn e _ SubG.refl
 have nc:w≠"cut":=e;rw[if_neg nc,if_neg ns] at qn qy;rw[if_neg nc] at qy;right;show⟨_,hs,?_⟩;show⟨rfl,λr1 hr1=>?_⟩;show⟨⟨_,updG_same⟩,?_⟩;show⟨_,zx (ws:=ws) (i:=0) (by omega),?_⟩;rw[ew];show⟨rfl,_,_,updG_same,rfl,?_⟩;rw[val_lr];have s1: ∀{o},SubG G (updG G r1 o):=λ{o}=>SubG.new hr1;have most: ∃m:Int,((if w="lacks" then some (W.int ((p.rl.map rW).length:Int)) else if w="right" then some (W.int ((nW sz).length:Int)) else none).getD (.int 0))= .int m/\m=if w="lacks" then (p.rl.length:Int) else if w="right" then (sz.length:Int) else 0:=by
  by_cases a:w="lacks"
  .rw[if_pos a,if_pos a];show⟨_,rfl,by simp⟩
  .rw[if_neg a,if_neg a];by_cases b:w="right"
   .rw[if_pos b,if_pos b];show⟨_,rfl,by simp[nW]⟩
   .rw[if_neg b,if_neg b];show⟨_,rfl,rfl⟩
 obtain⟨m,em,hm⟩:=most;left;rw[em];rfl';generalize hG1:updG G r1 _=G1 at*;have s1:SubG G G1:=by rw[<-hG1];show SubG.new hr1
 clear hG1;left;have ed:decide ((ws.length:Int)=3)=decide (ws.length=3):=decide_eq_decide.mpr (by omega);rw[ed];show br_n ?_;ac_rfl
 case refine_2=>
  show br_t ?_;show qn ?_ _ s1;rw[e];split<;>simp
 have l3:=of_decide_eq_true e;rw[e,Bool.true_and] at qn qy;show⟨_,zx (ws:=ws) (i:=1) (by omega),?_⟩;show zd (gw ws 1,0) ((th 1 (by omega)).up s1) ?_;show br_n ?_;ac_rfl
 case refine_2=>
  show br_t ?_;show qn ?_ _ s1;simp only[yu,yr,within_atl,e,Bool.false_and,Bool.and_false];split<;>rfl
 have e:atl 0 (gw ws 1)=true:=e;obtain⟨i,ei,i0⟩:=YZ e;rw[ei] at qn qy;show⟨_,zx (ws:=ws) (i:=1) (by omega),?_⟩;rw[ei];have wl:within 0 ((p.rl.length:Int)-1) (.int i)=decide (i<p.rl.length):=by
  change(decide (0<=i)&&decide (i<=_))=_;rw[decide_eq_true i0,Bool.true_and];show decide_eq_decide.mpr (by omega)
 have wr:within 0 ((sz.length:Int)-1) (.int i)=decide (i<sz.length):=by
  change(decide (0<=i)&&decide (i<=_))=_;rw[decide_eq_true i0,Bool.true_and];show decide_eq_decide.mpr (by omega)
 show br_d (λe=>?_) λe=>?_
 .left;show br_t ?_;show qn ?_ _ s1;simp only[yu,yr,wl,wr];by_cases a:w="lacks"
  .rw[if_pos a] at hm ⊢;rw[Ζ (by omega)];rfl
  .rw[if_neg a] at hm ⊢;by_cases b:w="right"
   .rw[if_pos b] at hm;rw[Ζ (p:=i<sz.length) (by omega)];simp
   .rw[Ζ b];rfl
 show⟨_,zx (ws:=ws) (i:=2) (by omega),?_⟩;show zN (zQ ((th 2 (by omega)).up s1)) ?_;show br_n ?_;show br_i (λet=>?_) λet=>?_
 case refine_2=>
  show qn ?_ _ s1;simp only[yu,yr,et,Bool.false_and,Bool.and_false];split<;>rfl
 obtain⟨ts,ets⟩:=zM et;rw[ets] at qn qy;have lt:Ln (.tup ts):=by rw[<-ets];show lm 2 (by omega)
 have tt:Th G (.tup ts):=by rw[<-ets];show th 2 (by omega)
 show⟨_,zx (ws:=ws) (i:=0) (by omega),?_⟩;rw[ew];show br_d (λea=>?_) λea=>?_
 .subst ea;have hm:m=p.rl.length:=hm;have lb:yu p (.int i) (.tup ts)=decide (ts.length=(tkR (ruAt p i)).length):=by
   unfold yu;rw[wl,decide_eq_true (by omega)];rfl
  rw[lb] at qn qy;show⟨_,zx (ws:=ws) (i:=2) (by omega),?_⟩;rw[ets];right;show⟨_,zx (ws:=ws) (i:=1) (by omega),?_⟩;rw[ei];have hil:i<(p.rl.length:Int):=by omega
  have hpp:PoOk p:=hp;have hrl:(ruAt p i).1.length=p.nm.length:=hpp.ra _ (wC i0 hil);show⟨_,ZD (p:=p) i0 hil,?_⟩;show zD (ruAt p i) (by change(ruAt p i).1.length<=1000;omega) ?_;rintro w2 G2 ⟨r2,rfl,hr2,rfl⟩;have s2:=s1.trans (SubG.new (o:= .lst ((tkR (ruAt p i)).map W.int)) hr2);show⟨_,updG_same,?_⟩;left;rw[ω];have ed:decide ((ts.length:Int)=((tkR (ruAt p i)).length:Int))=decide (ts.length=(tkR (ruAt p i)).length):=decide_eq_decide.mpr (by omega);rw[ed];ac_rfl
  .left;show⟨_,zx (ws:=ws) (i:=2) (by omega),?_⟩;rw[ets];intro r3 hr3;show qy e r3 _ (s2.trans (SubG.new hr3)) (SubG.none s2 hr3) updG_same
  .left;show qn e _ s2
 .rw[if_neg ea] at qn qy hm;rw[if_neg ea] at qy;have eb:w="right":=by
   by_cases b:w="right"
   .show b
   .rw[if_neg b] at hm;omega
  rw[if_pos eb] at hm;rw[decide_eq_true eb,Bool.true_and] at qn qy;have gl:i.toNat<sz.length:=by omega
  have lb:yr sz (.int i) (.tup ts)=(decide (ts.length=sz.getD i.toNat 0)&&ts.all zt):=by
   unfold yr;rw[wr,decide_eq_true (by omega)];rfl
  rw[lb] at qn qy;show⟨_,zx (ws:=ws) (i:=2) (by omega),?_⟩;rw[ets];show⟨_,zx (ws:=ws) (i:=1) (by omega),?_⟩;rw[ei];have gz:atI (nW sz) i=some (.int ((sz.getD i.toNat 0:Nat):Int)):=by
   have:=xD (enc:=fun(n:Nat)=>W.int (n:Int)) (xs:=sz) (i:=i.toNat) (x:=sz.getD i.toNat 0) (by rw[υ,χ gl];rfl)
   rwa [Int.toNat_of_nonneg i0] at this
  show .inl ⟨_,i,_,.inl (s1 _ _ hs),rfl,gz,?_⟩;left;have ed:decide ((ts.length:Int)=((sz.getD i.toNat 0:Nat):Int))=decide (ts.length=sz.getD i.toNat 0):=decide_eq_decide.mpr (by omega);rw[ed];ac_rfl
  case refine_2=>
   rw[e,Bool.false_and] at qn;rfl';show br_f ?_;show qn rfl _ s1
  rw[e,Bool.true_and] at qn qy;show⟨_,zx (ws:=ws) (i:=2) (by omega),?_⟩;rw[ets];show cg_w (ok:=λ_=>True) (ρ:=[]) (λx=> .bl (zt x)) ts lt.len trivial ?_ ?_
  .intro x hx' Q' q;show zd x ⟨(tt.mem x hx').up s1,lt.mem hx'⟩ q
  .intro r2 hr2;have s2:=s1.trans (SubG.new (o:= .lst ((ts.map zt).map W.bl)) hr2);have em:ts.map (λx=>W.bl (zt x))=(ts.map zt).map W.bl:=by simp
   rw[em];show nin_false updG_same ?_;rw[Z0,Bool.not_not];rfl';ac_rfl
   .left;show⟨sz0,λr3 hr3=>?_⟩;show qy e r3 _ (s2.trans (SubG.new hr3)) (SubG.none s2 hr3) updG_same
   .left;show qn e _ s2
def ne_none{Q:Bool->Prop}(h:G r=some (.lst ws))(h2:G r2=some (.lst []))(q:Q (!ws.isEmpty)):cmpW .NotEq (.ref r) (.ref r2) G Q:= .inl ⟨ws,h,h2,q⟩
def Ve:Sp3:=fsp (α:=Po×List Nat×Addr×W) (λx=>[pW x.1,.ref x.2.2.1,x.2.2.2]) (λx G=>PoOk x.1/\G x.2.2.1=some (.lst (nW x.2.1))/\Tt G x.2.2.2) λx=> .bl (wtB x.1 x.2.1 x.2.2.2)
theorem ok_ltr:Body (ens [("_law_inner",spIn)]) yX Ve:=by
 show bd_f fun⟨p,sz,sa,x⟩ G Q E h q=>?_;obtain⟨hp,hs,tt⟩:=h;unfold wtB at q;show⟨sz2,?_⟩;show⟨sz1,λr hr=>?_⟩;rfl';right;generalize hB:wtGo p sz 1002 [(x,1)] 0=B at*;show⟨1002,?_⟩;show whI (λm τ G'=> ∃(S:List (W×Nat)) (c:Nat) (r:Addr),m+c=1001/\wtGo p sz (m+1) S c=B/\(∃u v w,τ=[some (pW p),some (.ref sa),some x,some (.ref r),some (.int c),u,v,w])/\SubG G G'/\G r=none/\G' r=some (.lst (S.reverse.map enE))/\nds (S.map (·.1))<=100000/\ ∀e∈S,Tt G e.1) 1002 1001 _ _ ∅ ⟨[(x,1)],0,r,rfl,hB,⟨none,none,none,rfl⟩,SubG.new hr,hr,updG_same,by simpa[nds] using (show nd x<=100000 from tt.ln),λe h=>by cases ν.mp h;show tt⟩ ?_;clear hr r;rintro m τ G' nx ⟨S,c,r,hm,hw,⟨u,v,w,rfl⟩,sg,hr,g,sl,ts⟩ kk;show⟨sz0,λr0 hr0=>?_⟩;have n0:r≠r0:=λz=>by subst z;rw[g] at hr0;cases hr0
 show ne_none ((ze n0).trans g) updG_same ?_;have sg0:SubG G (updG G' r0 (.lst [])):=sg.trans (SubG.new hr0);generalize hG0:updG G' r0 (.lst [])=G0 at*;have g0:G0 r=some (.lst (S.reverse.map enE)):=by rw[<-hG0,ze n0];show g
 clear hG0;cases S with
 | nil=>
  show br_f ?_;show⟨G,sg0,?_⟩;have:B=true:=hw.symm;rw[<-this];show q
 | cons e S=>
  obtain⟨y,d⟩:=e;have ty:Tt G y:=ts _ ξ;show br_i (λ_=>?_) (λz=>absurd z Sort);show⟨⟨_,g0⟩,?_⟩;show⟨rfl,_,enE (y,d),g0,by simp,?_⟩;right;generalize hG2:updG G0 r _=G2;have sg2:SubG G G2:=by rw[<-hG2];show λb o e=>by rw[ze (λz=>by subst z;rw[hr] at e;cases e)];show sg0 b o e
  have g2:G2 r=some (.lst (S.reverse.map enE)):=by rw[<-hG2,updG_same];simp
  clear hG2;show zD (p,sz,sa,y) ⟨hp,sg2 _ _ hs,ty.th.up sg2,ty.ln⟩ ?_;rintro w2 G3 ⟨s23,inn⟩;right;right;have hc:((c:Int)+1)=((c+1:Nat):Int):=by lia
  rw[hc];have hw:(if c+1>1000\/d>40\/zw p sz y=false then false else wtGo p sz m (((kids y).map λy=>(y,d+1)).reverse++S) (c+1))=B:=hw;have sg3:=sg2.trans s23;have g3:G3 r=some (.lst (S.reverse.map enE)):=s23 _ _ g2;rcases inn with ⟨e,rfl⟩ | ⟨e,ri,rfl,hri,gi⟩
  .rw[if_pos (.inr (.inr e))] at hw;show br_t ?_;show br_t ?_;show⟨G,sg3,?_⟩;rw[<-hw] at q;show q
  .show br_f ?_;show br_d (λe1=>?_) λe1=>?_
   .rw[if_pos (.inl ∅)] at hw;show br_t ?_;show⟨G,sg3,?_⟩;rw[<-hw] at q;show q
   show br_d (λe2=>?_) λe2=>?_
   .rw[if_pos (.inr (.inl ∅))] at hw;show⟨G,sg3,?_⟩;rw[<-hw] at q;show q
   rw[if_neg (by rw[e];simp;lia)] at hw;show⟨_,gi,.inl ?_⟩;show cg_w (ρ:=[some (.int d)]) (λz=>enE (z,d+1)) (kids y) (η (Nat.le_of_succ_le yB) ty.ln) gi ?_ ?_
   .intro z hz Q' q;show⟨sz2,by show q⟩
   intro r2 hr2;have ne:r≠r2:=λz=>by subst z;rw[g3] at hr2;cases hr2
   show⟨_,_,(ze ne).trans g3,updG_same,?_,λr3 hr3=>?_⟩
   .have k:=yB (x:=y);have l:=xn (S.map (·.1));have sl:nd y+nds (S.map (·.1))<=100000:=sl;simp only[List.length_map,List.length_reverse] at l ⊢;show zS ∅
   have s4:SubG G3 (updG (updG G3 r2 (.lst ((kids y).map λz=>enE (z,d+1)))) r3 (.lst (S.reverse.map enE++(kids y).map λz=>enE (z,d+1)))):=(SubG.new hr2).trans (SubG.new hr3);have h3:G3 r3=none:=by
    by_cases z:r3=r2
    .subst z;show hr2
    .rwa [ze z] at hr3
   have m1:m=(m-1)+1:=by lia
   rfl';show kk (m-1) _ _ ∅ ⟨((kids y).map λy=>(y,d+1)).reverse++S,c+1,r3,by lia,by rw[<-m1];show hw,⟨_,_,_,rfl⟩,sg3.trans s4,SubG.none sg3 h3,?_,?_,?_⟩
   .rw[updG_same];simp[Function.comp_def]
   .have k:=y4 (x:=y);have sl:nd y+nds (S.map (·.1))<=100000:=sl;rw[List.map_append,List.map_reverse,Ω,we,ZH];rw[show(kids y).map ((λx:W×Nat=>x.1) ∘ λy=>(y,d+1))=kids y by simp[Function.comp_def]];lia
   .intro e he;rcases Γ.mp he with he | he
    .obtain⟨z,hz,rfl⟩:=π.mp (List.mem_reverse.mp he);show ty.kids z hz
    .show ts e (ζ _ he)
def vD:rwB n (some 0) x=zU n x:=by
 cases x<;>rfl
def row_wholes(h:bdW x):rwB n none x=zB n x:=by
 cases x<;>first | rfl | skip
 rename_i ws
 change(_&&List.all _ (atl (-(10^60))))=(_&&List.all _ zW);congr 1;rw[Bool.eq_iff_iff,List.all_eq_true,List.all_eq_true];constructor
 .intro k w hw;obtain⟨i,rfl,_⟩:=YZ (k w hw);rfl
 .intro k w hw;obtain⟨i,rfl⟩:=yz (k w hw);have b:i.natAbs<10^42:=bdW.mem (h:bdWs ws) _ hw;show decide_eq_true ?_;have:(10:Nat)^42<=10^60:=by decide
  lia
def spLp:Sp3:=fsp (α:=Po×List Nat×Addr×W) (λx=>[pW x.1,.ref x.2.2.1,x.2.2.2]) (λx G=>PoOk x.1/\G x.2.2.1=some (.lst (nW x.2.1))/\Th G x.2.2.2/\Ln x.2.2.2/\TrT G x.2.2.2/\bdW x.2.2.2) λx=> .bl (zY x.1 x.2.1 x.2.2.2)
def paper_k(e:yO k=false):zY p sz (.tup [k,h,t])=false:=by
 unfold zY;cases k<;>first | rfl | cases e
def ok_lp:Body (ens [("_law_row",spLr),("_law_is_tree",Ve)]) yN spLp:=by
 show bd_f fun⟨p,sz,sa,x⟩ G Q E h q=>?_;obtain⟨hp,hs,hx,ln,tt,bd⟩:=h;show zN (zQ hx) ?_;show br_n ?_;ac_rfl
 case refine_2=>
  show br_t ?_;show bk q (by cases x<;>first | rfl | cases e)
 obtain⟨ws,rfl⟩:=zM e;left;have ed:decide ((ws.length:Int)=3)=decide (ws.length=3):=decide_eq_decide.mpr ∅;rw[ed];show br_n ?_;show br_d (λe=>?_) λe=>?_
 case refine_2=>
  rw[Zg e] at q;show br_t ?_;show bk q rfl
 have e3:=len3 e;generalize gw ws 0=k,gw ws 1=hh,gw ws 2=t at e3;subst e3;have hk:Th G k:=hx.mem k Sort;have lk:Ln k:=ln.mem Sort;have bk':bdW k:=bdW.mem (bd:bdWs _) k Sort;right;show zN (zQ hk) ?_;show br_n ?_;ac_rfl
 case refine_2=>
  rw[paper_k e] at q;show br_t ?_;show bk q rfl
 obtain⟨ks,rfl⟩:=zM e;have q:Q (.bl ((decide (ks.length<=8)&&ks.all (zB p.n))&&(zU p.n hh&&wtB p sz t))) G:=q;right;show br_d (λe=>?_) λe=>?_
 .rw[Ζ ∅,Bool.false_and,Bool.false_and] at q;show bk q rfl
 rw[decide_eq_true ∅,Bool.true_and] at q;right;right;right;have en:((p.nm.map W.str).length:Int)=((p.n:Nat):Int):=by simp
 rw[en];show cg_w (ok:=λ_=>True) (ρ:=[some (.int (p.n:Int))]) (λx=> .bl (zB (p.n:Int) x)) ks lk.len trivial ?_ ?_
 .intro x hx' Q' q;have b:bdW x:=bdW.mem (bk':bdWs _) x hx';show zd (x,(p.n:Int),none) ⟨hk.mem x hx',lk.mem hx'⟩ ?_;change Q' (.bl (rwB (p.n:Int) none x)) G;rw[row_wholes b];show q
 intro r hr;have em:ks.map (λx=>W.bl (zB (p.n:Int) x))=(ks.map (zB (p.n:Int))).map W.bl:=by simp
 rw[em];show vQ updG_same ?_;rw[Z0];have sg:SubG G (updG G r (.lst ((ks.map (zB (p.n:Int))).map W.bl))):=SubG.new hr;show br_n ?_;ac_rfl
 case refine_2=>
  rw[e,Bool.false_and] at q;show br_t ?_;show⟨G,sg,q⟩
 rw[e,Bool.true_and] at q;right;show zd (hh,(p.n:Int),some 0) ⟨(hx.mem hh Sort).up sg,ln.mem Sort⟩ ?_;show br_n ?_;ac_rfl
 case refine_2=>
  rw[vD] at e;rw[e,Bool.false_and] at q;show⟨G,sg,q⟩
 rw[vD] at e;rw[e,Bool.true_and] at q;right;show zd (p,sz,sa,t) ⟨hp,sg _ _ hs,tt.up sg⟩ ?_;show⟨G,sg,q⟩
def sza:Ak->List Nat
 | .sum _=>[2]
 | .part _ _=>[2]
 | .two w _ _=>if w="same" then [4,3,3] else [3,3]
theorem szs_eq(h:AkOk i a):szs p a=sza a:=by
 cases a with
 | sum l=>rfl
 | part l m=>rfl
 | two w l k=>
  obtain⟨_,_,rfl | rfl | rfl | rfl⟩:=h<;>rfl
def spSz:Sp3:=gsp (α:=Ak) (λa=>[aW a]) (λa _=> ∃i,AkOk i a) λa G w G'=> ∃r,w= .ref r/\G r=none/\SubG G G'/\G' r=some (.lst (nW (sza a)))
theorem ok_sizes:Body (ens []) xM spSz:=by
 show bd_g λa G Q E h q=>?_;obtain⟨i,h⟩:=h;show⟨sz1,λr1 h1=>?_⟩;show⟨sz1,λr2 h2=>?_⟩;show⟨sz2,λr3 h3=>?_⟩;show⟨sz2,λr4 h4=>?_⟩;show⟨sz2,λr5 h5=>?_⟩;show⟨sz3,λr6 h6=>?_⟩;show⟨rfl,λr7 h7=>?_⟩;have s7:=SubG.new (o:= .dK (y8 [] (([.inr "sum",.inr "part",.inr "least",.inr "most",.inr "more",.inr "same"]:List Key).zip [.ref r1,.ref r2,.ref r3,.ref r4,.ref r5,.ref r6]))) h7;have s6:=(SubG.new (o:= .lst [.int 4,.int 3,.int 3]) h6).trans s7;have s5:=(SubG.new (o:= .lst [.int 3,.int 3]) h5).trans s6;have s4:=(SubG.new (o:= .lst [.int 3,.int 3]) h4).trans s5;have s3:=(SubG.new (o:= .lst [.int 3,.int 3]) h3).trans s4;have s2:=(SubG.new (o:= .lst [.int 2]) h2).trans s3;have s1:=(SubG.new (o:= .lst [.int 2]) h1).trans s2;have g1:=s2 _ _ updG_same;have n3:G r3=none:=SubG.none ((SubG.new h1).trans (SubG.new h2)) h3;have n4:G r4=none:=SubG.none (((SubG.new h1).trans (SubG.new h2)).trans (SubG.new h3)) h4;have n5:G r5=none:=SubG.none ((((SubG.new h1).trans (SubG.new h2)).trans (SubG.new h3)).trans (SubG.new h4)) h5;have n6:G r6=none:=SubG.none (((((SubG.new h1).trans (SubG.new h2)).trans (SubG.new h3)).trans (SubG.new h4)).trans (SubG.new h5)) h6;have n2:G r2=none:=SubG.none (SubG.new h1) h2;cases a with
 | sum l=>
  rfl';show .inr ⟨_,_,updG_same,rfl,.ref r1,rfl,?_⟩;show bk (q _ _ ⟨r1,rfl,h1,s1,g1⟩) rfl
 | part l m=>
  rfl';show .inr ⟨_,_,updG_same,rfl,.ref r2,rfl,?_⟩;show bk (q _ _ ⟨r2,rfl,n2,s1,s3 _ _ updG_same⟩) rfl
 | two w l k=>
  obtain⟨_,_,hw⟩:=h;rfl';rcases hw with rfl | rfl | rfl | rfl
  .show .inr ⟨_,_,updG_same,rfl,.ref r3,rfl,?_⟩;show bk (q _ _ ⟨r3,rfl,n3,s1,s4 _ _ updG_same⟩) rfl
  .show .inr ⟨_,_,updG_same,rfl,.ref r4,rfl,?_⟩;show bk (q _ _ ⟨r4,rfl,n4,s1,s5 _ _ updG_same⟩) rfl
  .show .inr ⟨_,_,updG_same,rfl,.ref r5,rfl,?_⟩;show bk (q _ _ ⟨r5,rfl,n5,s1,s6 _ _ updG_same⟩) rfl
  .show .inr ⟨_,_,updG_same,rfl,.ref r6,rfl,?_⟩;show bk (q _ _ ⟨r6,rfl,n6,s1,s7 _ _ updG_same⟩) rfl
def tolW:Option (Str×Int)->W
 | none=> .tup [.str "let",.int 0]
 | some (w,i)=> .tup [.str w,.int i]
structure ClOk (D:Addr) (cns:Str->Option Addr) (sub:Addr->Str->Option Bool) (fd:Addr->Str->Bool):Prop where
 cd: ∃a,cns "DropError"=some a
 c1: ∃a,cns "NoAsk"=some a
 c2: ∃a,cns "NoFault"=some a
 c3: ∃a,cns "NoJoin"=some a
 c4: ∃a,cns "NoLines"=some a
 c5: ∃a,cns "NoPaper"=some a
 c6: ∃a,cns "NoPot"=some a
 c7: ∃a,cns "NoRow"=some a
 c8: ∃a,cns "NoStep"=some a
 sd:sub D "DropError"=some true
 sv:sub D "ValueError"=some true
 s1:sub D "NoAsk"=some false
 s2:sub D "NoFault"=some false
 s3:sub D "NoJoin"=some false
 s4:sub D "NoLines"=some false
 s5:sub D "NoPaper"=some true
 s6:sub D "NoPot"=some false
 s7:sub D "NoRow"=some false
 s8:sub D "NoStep"=some false
 fw:fd D "word"=true
 fa:fd D "at"=true
def enT (D:Addr) (cns:Str->Option Addr) (sub:Addr->Str->Option Bool) (fd:Addr->Str->Bool):En:={ens [("lets_paper",ZB D)] with cn:=cns,sub:=sub,fd:=fd}
def ZU{N:En}{E:XS}{i:Nat}{cs:List Str}{τ:St3}{G:Gp}{Q:Kc}{c:Addr}{ns:List Str}{us:List W}{bs:List Bool}(ht:τ[i]? =some (some (.exc c ns us)))(h1: ∀x∈cs,x="ValueError"\/ ∃D,N.cn x=some D)(h2:cs.mapM (N.sub c)=some bs)(q:Q (.bl (bs.any id)) G):den N E (.isx (.v i) cs) τ G Q:=by
 show⟨h1,?_⟩;change(match τ[i]? with | some (some w)=>(λw G1=>match w with | .exc c _ _=>(match cs.mapM (N.sub c) with | some bs=>Q (.bl (bs.any id)) G1 | none=>False) | _=>False) w G | _=>False);rw[ht];change(match cs.mapM (N.sub c) with | some bs=>Q (.bl (bs.any id)) G | none=>False);rw[h2];show q
def YL:Sp3:=fsp (α:=Po×Ak×W) (λx=>[pW x.1,aW x.2.1,x.2.2]) (λx G=>PoOk x.1/\AkOk x.1.ip.length x.2.1/\Th G x.2.2/\Ln x.2.2/\TrT G x.2.2/\bdW x.2.2) λx=>tolW (xb x.1 x.2.1 x.2.2)
def ok_told{D:Addr}{cns:Str->Option Addr}{sub:Addr->Str->Option Bool}{fd:Addr->Str->Bool}(C:ClOk D cns sub fd):Body (enT D cns sub fd) x__law_told YL:=by
 show bd_f fun⟨p,a,x⟩ G Q E h q=>?_;obtain⟨aD,eD⟩:=C.cd;right;right;change(match cns "DropError" with | some _=>_ | none=>False);rw[eD];left;rw[y1];show⟨(p,a,x),rfl,h,?_,?_⟩
 .rintro w G' ⟨rfl,rfl,e⟩;rw[e] at q;rfl';show br_t ?_;show br_t ?_;show⟨sz2,bk q rfl⟩
 .rintro c ns us G' ⟨sg,w,i,e,rfl,rfl,rfl⟩;rw[e] at q;show⟨C.sd,?_⟩;right;show br_f ?_;show ZU (c:=c) (bs:=[false,false,false,false,false,false,false]) rfl ?_ ?_ ?_
  .intro x hx;simp only[List.mem_cons,List.not_mem_nil,or_false] at hx;rcases hx with rfl | rfl | rfl | rfl | rfl | rfl | rfl
   .show .inr C.c1
   .show .inr C.c2
   .show .inr C.c3
   .show .inr C.c4
   .show .inr C.c6
   .show .inr C.c7
   .show .inr C.c8
  .change List.mapM (sub c) _=_;simp only[List.mapM_cons,List.mapM_nil,C.s1,C.s2,C.s3,C.s4,C.s6,C.s7,C.s8];rfl
  show br_f ?_;show ZU (c:=c) (bs:=[true]) rfl ?_ ?_ ?_
  .intro x hx;cases ν.mp hx
   show .inr C.c5
  .change List.mapM (sub c) _=_;simp only[List.mapM_cons,List.mapM_nil,C.s5];rfl
  show br_f ?_;show ZU (c:=c) (bs:=[true]) rfl ?_ ?_ ?_
  .intro x hx;show .inl (ν.mp hx)
  .change List.mapM (sub c) _=_;simp only[List.mapM_cons,List.mapM_nil,C.sv];rfl
  show br_f ?_;show⟨C.fa,_,rfl,?_⟩;show zN (b:=false) rfl ?_;show br_f ?_;show⟨C.fw,_,rfl,?_⟩;show⟨C.fa,_,rfl,?_⟩;show⟨sz2,G,sg,q⟩
def VO (w:Str):Prop:=w="let"\/w="shape"\/w="kept"\/w="height"\/w="leaf"
def tol_cases(p:Po)(a:Ak)(x:W): ∃w i,tolW (xb p a x)= .tup [.str w,.int i]/\VO w/\((w="shape"/\i=0/\zY p (szs p a) x=false)\/(w≠"shape"/\zY p (szs p a) x=true)):=by
 cases e:zY p (szs p a) x
 .show⟨"shape",0,?_,.inr (.inl rfl),.inl ⟨rfl,rfl,rfl⟩⟩;unfold xb;rw[if_pos e];rfl
 .obtain⟨ks,hs,t,rfl,_⟩:=Yr e;rw[XB e];split
  .show⟨_,_,rfl,.inr (.inr (.inl rfl)),.inr ⟨by decide,rfl⟩⟩
  split
  .show⟨_,_,rfl,.inr (.inr (.inr (.inl rfl))),.inr ⟨by decide,rfl⟩⟩
  split
  .show⟨_,_,rfl,.inr (.inr (.inr (.inr rfl))),.inr ⟨by decide,rfl⟩⟩
  .show⟨"let",0,rfl,.inl rfl,.inr ⟨by decide,rfl⟩⟩
def YG(h:VO w):(PyData.str w).canLay0=true:=by rcases h with rfl | rfl | rfl | rfl | rfl<;>decide+kernel
def Sh (G:Gp) (x:W):Prop:= ∃d,Pd G x d/\d.showable=true/\d.depth<=100/\d.shown.length<=sizeLine
def Sh.th(h:Sh G x):Th G x:=let ⟨d,a,_,b,_⟩:=h;⟨d,a,b⟩
structure RtOk (p:Po) (a:Ak) (x:W) (G:Gp):Prop where
 pp:PoOk p
 pa:AkOk p.ip.length a
 s:Sh G x
 l:Ln x
 t:TrT G x
 b:bdW x
def spRt:Sp3:=fsp (α:=Po×Ak×W) (λx=>[pW x.1,aW x.2.1,x.2.2]) (λx G=>RtOk x.1 x.2.1 x.2.2 G) λ_=> .bl true
def br_ne{A B:Prop}{s:Str}(h:B):br (!decide (s=s)) A B:=by rw[decide_eq_true rfl];show br_f h
def ok_rt:Body (ens [("_law_told",YL),("_law_sizes",spSz),("_law_is_paper",spLp)]) xN spRt:=by
 show bd_f fun⟨p,a,x⟩ G Q E h q=>?_;obtain⟨hp,ha,hs,ln,tt,bd⟩:=h;have hx:Th G x:=hs.th;obtain⟨d,pd,sh,dp,sl⟩:=hs;obtain⟨w,i,et,hw,hc⟩:=tol_cases p a x;show .inr (.inl ⟨rfl,d,pd,sh,by lia,sl,?_⟩);rfl';show zd (p,a,x) ⟨hp,ha,hx,ln,tt,bd⟩ ?_;change∃τ',xw (.n 4) (tolW (xb p a x)) _=some τ'/\_;rw[et];rfl';right;show⟨sz5,?_⟩;have can5:PyData.canLayAll0 [.str "let",.str "shape",.str "kept",.str "height",.str "leaf"]=true:=by decide+kernel
 show⟨.str w,[.str "let",.str "shape",.str "kept",.str "height",.str "leaf"],.str w,.cons (.str _) (.cons (.str _) (.cons (.str _) (.cons (.str _) (.cons (.str _) .nil)))),YG hw,can5,by simp[PyData.depth],?_⟩;have ea:(([.str "let",.str "shape",.str "kept",.str "height",.str "leaf"]:List PyData).any λd=>PyData.eqv d (.str w))=true:=by rcases hw with rfl | rfl | rfl | rfl | rfl<;>decide+kernel
 rw[ea];show br_f ?_;show .inr (.inl ⟨rfl,d,pd,sh,by lia,sl,?_⟩);show br_ne ?_;show⟨sz2,?_⟩;have c1:(PyData.tuple [.str w,.int i]).canLay0=true:=by
  change((PyData.str w).canLay0&&true)=true;rw[YG hw];rfl
 have c2:(PyData.tuple [.str "shape",.int 0]).canLay0=true:=nofun
 show⟨.tuple [.str w,.int i],.tuple [.str "shape",.int 0],.tup (.cons (.str _) (.cons (.int _) .nil)),.tup (.cons (.str _) (.cons (.int _) .nil)),c1,c2,by simp[PyData.depth,PyData.depthAll],?_⟩;have eb:PyData.eqv (.tuple [.str w,.int i]) (.tuple [.str "shape",.int 0])=decide (w="shape"):=by
  rcases hc with ⟨rfl,rfl,_⟩ | ⟨n,_⟩
  .decide+kernel
  .rcases hw with rfl | rfl | rfl | rfl | rfl<;>first | show absurd rfl n | rfl
 rw[eb];show zD a ⟨_,ha⟩ ?_;rintro w2 G2 ⟨r,rfl,hr,sg,g⟩;have tt2:TrT G2 x:=by
  unfold TrT at tt ⊢;split
  .show Tt.up sg tt
  .trivial
 show zd (p,sza a,r,x) ⟨hp,g,hx.up sg,ln,tt2,bd⟩ ?_;have ep:zY p (sza a) x= !decide (w="shape"):=by
  rw[<-szs_eq ha (p:=p)];rcases hc with ⟨e,_,h⟩ | ⟨e,h⟩
  .rw[h,decide_eq_true e];rfl
  .rw[h,Ζ e];rfl
 change br (decide (decide (w="shape")= !zY p (sza a) x)) _ _;rw[ep,Bool.not_not];show br_d (λ_=>?_) λz=>absurd rfl z;right;show⟨G,sg,?_⟩;rw[decide_eq_true rfl];show q
structure TA (G:Gp) (t s:Addr):Prop where
 ne:t≠s
 t: ∃n m:Int,G t=some (.lst [.ref s,.int n,.int m])
 s: ∃ns:List Int,G s=some (.lst (ns.map W.int))
structure Fm (t s:Addr) (G G':Gp):Prop where
 k: ∀b o,b≠t->G b=some o->G' b=some o
 ta:TA G' t s
def Fm.refl(h:TA G t s):Fm t s G G:=⟨λ_ _ _ e=>e,h⟩
def Fm.trans(h:Fm t s G G')(h':Fm t s G' G2):Fm t s G G2:=⟨λb o n e=>h'.k b o n (h.k b o n e),h'.ta⟩
theorem Fm.none(h:Fm t s G G')(e:G' b=Option.none):G b=Option.none:=by
 have n:b≠t:=λz=>by subst z;obtain⟨n,m,g⟩:=h.ta.t;rw[g] at e;cases e
 cases g:G b with
 | none=>rfl
 | some o=>rw[h.k b o n g] at e;cases e
def TA.new{t s:Addr}{G:Gp}(h:TA G t s){r:Addr}{o:HW}(hr:G r=none):TA (updG G r o) t s:=by
 obtain⟨n,m,g⟩:=h.t;obtain⟨ns,g'⟩:=h.s;show⟨h.ne,⟨n,m,(ze λz=>by subst z;rw[g] at hr;cases hr).trans g⟩,⟨ns,(ze λz=>by subst z;rw[g'] at hr;cases hr).trans g'⟩⟩
def Fm.new(h:Fm t s G G')(hr:G' r=Option.none):Fm t s G (updG G' r o):=
 ⟨λb u n e=>(ze λz=>by subst z;rw[h.k _ u n e] at hr;cases hr).trans (h.k b u n e),h.ta.new hr⟩
def Fm.put(h:Fm t s G G'):Fm t s G (updG G' t (.lst [.ref s,.int n,.int m])):=by
 obtain⟨ns,g⟩:=h.ta.s;show⟨λb u nb e=>(ze nb).trans (h.k b u nb e),h.ta.ne,⟨n,m,updG_same⟩,⟨ns,(ze (Ne.symm h.ta.ne)).trans g⟩⟩
def Fm.upd(h:Fm t s G G')(nt:r≠t)(ns:r≠s)(hr:G r=Option.none):Fm t s G (updG G' r o):=by
 obtain⟨n,m,g⟩:=h.ta.t;obtain⟨xs,g'⟩:=h.ta.s;show⟨λb u nb e=>(ze λz=>by subst z;rw[hr] at e;cases e).trans (h.k b u nb e),h.ta.ne,⟨n,m,(ze (Ne.symm nt)).trans g⟩,⟨xs,(ze (Ne.symm ns)).trans g'⟩⟩
def TA.nt{t s:Addr}{G:Gp}(h:TA G t s){r:Addr}(hr:G r=none):r≠t/\r≠s:=by
 obtain⟨n,m,g⟩:=h.t;obtain⟨ns,g'⟩:=h.s;show⟨λz=>(by subst z;rw[g] at hr;cases hr),λz=>(by subst z;rw[g'] at hr;cases hr)⟩
def pick{α:Type}{enc:α->W}{xs:List α}{i:Int}(h0:0<=i)(h:i<xs.length): ∃v∈xs,atI (xs.map enc) i=some (enc v):=by
 have hl:i.toNat<xs.length:=by lia
 show⟨xs[i.toNat],Ρ hl,?_⟩;have:=xD (enc:=enc) (χ hl)
 rwa [Int.toNat_of_nonneg h0] at this
def ZA:Sp3:=gsp (α:=Addr×List Int) (λx=>[.ref x.1]) (λx G=>G x.1=some (.flst (x.2.map W.int))) λx G w G'=> ∃t s,w= .ref t/\TA G' t s/\SubG G G'
def cut_map{α β:Type}{f:α->β}{xs:List α}{lo hi:Option Int}:cutW (xs.map f) lo hi=(cutW xs lo hi).map f:=by
 unfold cutW;rw[ω,List.map_take,List.map_drop]
def ok_tape:Body (ens []) wP ZA:=by
 show bd_g fun⟨a,ns⟩ G Q E h q=>?_;show⟨_,.inr h,λr hr=>?_⟩;show⟨sz3,λr2 hr2=>?_⟩;have ne:r2≠r:=λz=>by subst z;rw[updG_same] at hr2;cases hr2
 show bk (q _ _ ⟨r2,r,rfl,⟨ne,⟨0,0,updG_same⟩,⟨cutW ns none (some 63),?_⟩⟩,(SubG.new hr).trans (SubG.new hr2)⟩) rfl;rw[ze (Ne.symm ne),updG_same,cut_map]
def spDraw:Sp3:=gsp (α:=Addr×Addr×Int) (λx=>[.ref x.1,.int x.2.2]) (λx G=>TA G x.1 x.2.1/\0<x.2.2/\x.2.2<=1000) λx G w G'=> ∃i:Int,w= .int i/\0<=i/\i<x.2.2/\Fm x.1 x.2.1 G G'
def ok_draw:Body (ens []) wS spDraw:=by
 show bd_g fun⟨t,s,many⟩ G Q E h q=>?_;obtain⟨ta,m0,m1⟩:=h;have m0:0<many:=m0;have log_ok: ∀(h:many<=1000),many.natAbs.log2<9000:=λh=>by
  have:=(Nat.log2_lt (n:=many.natAbs) (k:=10) ∅).mpr ∅;lia
 obtain⟨n,m,g⟩:=ta.t;obtain⟨ns,gs⟩:=ta.s;show .inl ⟨_,1,_,.inl g,rfl,rfl,?_⟩;show .inl ⟨_,1,1,g,rfl,rfl,?_⟩;have f1:Fm t s G (updG G t (.lst [.ref s,.int (n+1),.int m])):=(Fm.refl ta).put;have g1:updG G t (.lst [.ref s,.int (n+1),.int m]) t=some (.lst [.ref s,.int (n+1),.int m]):=updG_same;have gs1:updG G t (.lst [.ref s,.int (n+1),.int m]) s=some (.lst (ns.map W.int)):=(ze (Ne.symm ta.ne)).trans gs;show .inl ⟨_,2,_,.inl g1,rfl,rfl,?_⟩;show br_d (λ_=>?_) λ_=>?_
 .right;show .inl ⟨_,0,_,.inl g1,rfl,rfl,?_⟩;show⟨_,gs1,?_⟩;show br_d (λhl=>?_) λhl=>?_
  .left;show .inl ⟨_,0,_,.inl g1,rfl,rfl,?_⟩;show .inl ⟨_,1,_,.inl g1,rfl,rfl,?_⟩;show .inl ⟨_,0,_,.inl g1,rfl,rfl,?_⟩;show⟨_,gs1,?_⟩;show⟨hl,?_⟩;obtain⟨c,_,ec⟩:=pick (enc:=W.int) (xs:=ns) (i:=(n+1)%((ns.map W.int).length:Int)) (Int.emod_nonneg _ ∅) (by have:=Int.emod_lt_of_pos (n+1) hl;exists this);show .inl ⟨_,_,_,.inl gs1,rfl,ec,?_⟩;rfl';show⟨⟨by decide,by decide,by decide⟩,?_⟩;show br_d (λ_=>?_) λ_=>?_
   .left;show⟨by decide,?_⟩;show⟨y6 ⋯,?_⟩;show .inl ⟨_,1,_,.inl g1,rfl,rfl,?_⟩;show⟨y6 ⋯,?_⟩;show⟨by decide,?_⟩;rfl';generalize hx:(_%2147483629:Int)=mx;have x0:0<=mx:=by rw[<-hx];show Int.emod_nonneg _ ⋯
    have x1:mx<2147483629:=by rw[<-hx];show Int.emod_lt_of_pos _ ⋯
    show⟨G2.mulB (show mx.natAbs<10^90 from θ (show mx.natAbs<2147483629 by lia) ⋯) (show(mx+40692).natAbs<10^90 from θ (show(mx+40692).natAbs<4147483629 by lia) ⋯),?_⟩;show⟨by decide,?_⟩;rfl';show⟨y6 ⋯,?_⟩;show⟨by decide,?_⟩;show⟨m0,?_⟩;show bk (q _ _ ⟨_,rfl,Int.emod_nonneg _ ∅,Int.emod_lt_of_pos _ m0,f1⟩) rfl
   show⟨⟨by decide,by decide,by decide⟩,?_⟩;show .inl ⟨_,2,2,g1,rfl,rfl,?_⟩;show .inl ⟨_,2,_,.inl updG_same,rfl,rfl,?_⟩;show⟨m0,?_⟩;rfl';show .inl ⟨_,2,_,.inl updG_same,rfl,rfl,?_⟩;show⟨⟨m0,log_ok m1⟩,?_⟩;show .inl ⟨_,2,2,updG_same,rfl,rfl,?_⟩;show bk (q _ _ ⟨_,rfl,Int.emod_nonneg _ ∅,Int.emod_lt_of_pos _ m0,?_⟩) rfl;show(f1.put).put
  .left;show⟨⟨by decide,by decide,by decide⟩,?_⟩;show br_d (λ_=>?_) λ_=>?_
   .left;show⟨by decide,?_⟩;show⟨y6 ⋯,?_⟩;show .inl ⟨_,1,_,.inl g1,rfl,rfl,?_⟩;show⟨y6 ⋯,?_⟩;show⟨by decide,?_⟩;rfl';generalize hx:(_%2147483629:Int)=mx;have x0:0<=mx:=by rw[<-hx];show Int.emod_nonneg _ ⋯
    have x1:mx<2147483629:=by rw[<-hx];show Int.emod_lt_of_pos _ ⋯
    show⟨G2.mulB (show mx.natAbs<10^90 from θ (show mx.natAbs<2147483629 by lia) ⋯) (show(mx+40692).natAbs<10^90 from θ (show(mx+40692).natAbs<4147483629 by lia) ⋯),?_⟩;show⟨by decide,?_⟩;rfl';show⟨y6 ⋯,?_⟩;show⟨by decide,?_⟩;show⟨m0,?_⟩;show bk (q _ _ ⟨_,rfl,Int.emod_nonneg _ ∅,Int.emod_lt_of_pos _ m0,f1⟩) rfl
   show⟨⟨by decide,by decide,by decide⟩,?_⟩;show .inl ⟨_,2,2,g1,rfl,rfl,?_⟩;show .inl ⟨_,2,_,.inl updG_same,rfl,rfl,?_⟩;show⟨m0,?_⟩;rfl';show .inl ⟨_,2,_,.inl updG_same,rfl,rfl,?_⟩;show⟨⟨m0,log_ok m1⟩,?_⟩;show .inl ⟨_,2,2,updG_same,rfl,rfl,?_⟩;show bk (q _ _ ⟨_,rfl,Int.emod_nonneg _ ∅,Int.emod_lt_of_pos _ m0,?_⟩) rfl;show(f1.put).put
 .left;show .inl ⟨_,2,_,.inl g1,rfl,rfl,?_⟩;show⟨m0,?_⟩;rfl';show .inl ⟨_,2,_,.inl g1,rfl,rfl,?_⟩;show⟨⟨m0,log_ok m1⟩,?_⟩;show .inl ⟨_,2,2,g1,rfl,rfl,?_⟩;show bk (q _ _ ⟨_,rfl,Int.emod_nonneg _ ∅,Int.emod_lt_of_pos _ m0,?_⟩) rfl;show f1.put
def zy(m:Int)(ta:TA G t s)(h0:0<m)(h1:m<=1000)(q: ∀i G',0<=i->i<m->Fm t s G G'->Q (.int i) G'):spDraw.run [.ref t,.int m] G Q E:=by
 show zD (t,s,m) ⟨ta,h0,h1⟩ ?_;rintro _ G' ⟨i,rfl,a,b,f⟩;show q i G' a b f
def vE{n:Nat}:rngW 0 (n:Int)=(List.range n).map fun(i:Nat)=>W.int (i:Int):=by simp[rngW]
def cgW{te:St3->Gp->Kc->Prop}{ok:Gp->Prop}{Q:List W->Gp->Prop}{ρ:St3}(I:List W->List W->Gp->Prop)(xs:List W)(t:Option W)(G:Gp)(hok: ∀d a G,I d a G->ok G)(hl:xs.length<=100000)(i:I [] [] G)
  (h: ∀x∈xs,∀d a G Q',I d a G->(∀y G',I (d++[x]) (a++[y]) G'->Q' y G')->te (some x::ρ) G Q') (q: ∀a G',I xs a G'->Q a G'):zC (.n 0) (λ_ G Q=>Q true G) te ok Q xs (t::ρ) [] G:=
 cgI I hok xs [] [] t G (by exists zS hl) i (λx d r a G Q' e i k=>h x (by
  have e:xs=d++x::r:=e;rw[e];simp) d a G Q' i k) (λa G' i=>q a G' i)
def wu{te:St3->Gp->Kc->Prop}{ok:Gp->Prop}{Q:List W->Gp->Prop}(enc:α->W)(P:α->Prop)(n:Nat)(hn:n<=1000)(hok: ∀G',Fm t s G G'->ok G')(f0:TA G t s)
  (h: ∀(k:W) G' Q',Fm t s G G'->(∀a G2,P a->Fm t s G G2->Q' (enc a) G2)->te (some k::ρ) G' Q') (q: ∀(as:List α) G',as.length=n->(∀a∈as,P a)->Fm t s G G'->Q (as.map enc) G'):zC (.n 0) (λ_ G Q=>Q true G) te ok Q (rngW 0 (n:Int)) (u::ρ) [] G:=by
 rw[vE];show cgT1 (fun(i:Nat)=>W.int (i:Int)) (λd acc G'=>Fm t s G G'/\ ∃as:List α,acc=as.map enc/\as.length=d.length/\ ∀a∈as,P a) (λd a G' i=>hok G' i.1) (List.range n) [] [] u G (by simp;show zS ∅) ⟨Fm.refl f0,[],rfl,rfl,λ_ z=>by cases z⟩ ?_ ?_
 .rintro i hi d acc G' Q' ⟨fm,as,rfl,hl,hp⟩ k;show h _ G' Q' fm λa G2 pa f2=>k _ _ ⟨f2,as++[a],by simp,by simp[hl],λb hb=>?_⟩;rcases Γ.mp hb with hb | hb
  .show hp b hb
  .cases ν.mp hb;show pa
 .rintro acc G' ⟨fm,as,rfl,hl,hp⟩;show q as G' (by exists hl) hp fm
def vV{te:St3->Gp->Kc->Prop}{ok:Gp->Prop}{Q:List W->Gp->Prop}(enc:α->W)(P:α->Prop)(xs:List W)(hn:xs.length<=1000)(hok: ∀G',Fm t s G G'->ok G')(f0:TA G t s)
  (h: ∀(k:W) G' Q',Fm t s G G'->(∀a G2,P a->Fm t s G G2->Q' (enc a) G2)->te (some k::ρ) G' Q') (q: ∀(as:List α) G',as.length=xs.length->(∀a∈as,P a)->Fm t s G G'->Q (as.map enc) G'):zC (.n 0) (λ_ G Q=>Q true G) te ok Q xs (u::ρ) [] G:=by
 have:=cgT1 (te:=te) (ok:=ok) (Q:=Q) (ρ:=ρ) (fun(w:W)=>w) (λd acc G'=>Fm t s G G'/\ ∃as:List α,acc=as.map enc/\as.length=d.length/\ ∀a∈as,P a) (λd a G' i=>hok G' i.1) xs [] [] u G (by simp;show zS ∅) ⟨Fm.refl f0,[],rfl,rfl,λ_ z=>by cases z⟩ ?_ ?_
 .exists this
 .rintro i hi d acc G' Q' ⟨fm,as,rfl,hl,hp⟩ k;show h _ G' Q' fm λa G2 pa f2=>k _ _ ⟨f2,as++[a],by simp,by simp[hl],λb hb=>?_⟩;rcases Γ.mp hb with hb | hb
  .show hp b hb
  .cases ν.mp hb;show pa
 .rintro acc G' ⟨fm,as,rfl,hl,hp⟩;show q as G' (by exists hl) hp fm
def Wk:Sp3:=gsp (α:=Addr×Addr×Nat) (λx=>[.ref x.1,.int x.2.2]) (λx G=>TA G x.1 x.2.1/\x.2.2<=1000) λx G w G'=> ∃l,w=lW l/\LiOk x.2.2 l/\Fm x.1 x.2.1 G G'
abbrev cLn:List Int:=[0,1,1,2,-1,3,-2,10,99,-99]
def VM: ∀v∈cLn,-99<=v/\v<=99:=by decide
def ok_line:Body (ens [("_law_draw",spDraw)]) wR Wk:=by
 show bd_g fun⟨t,s,n⟩ G Q E h q=>?_;obtain⟨ta,hn⟩:=h;show⟨zS (n:=10) ∅,λr hr=>?_⟩;have f0:Fm t s G (updG G r (.lst (cLn.map W.int))):=(Fm.refl ta).new hr;have nt:=ta.nt hr;have g0:updG G r (.lst (cLn.map W.int)) r=some (.lst (cLn.map W.int)):=updG_same;rfl';show⟨by lia,?_⟩;show wu (t:=t) (s:=s) (ok:=λ_=>True) (ρ:=[some (.ref r),some (.ref t)]) W.int (λv=> -99<=v/\v<=99) n hn (λ_ _=>trivial) f0.ta ?_ ?_
 .intro k G' Q' fm kk;show zy 10 fm.ta ⋯ ⋯ λi G2 i0 i1 f1=>?_;have g2:=(fm.trans f1).k r _ nt.1 g0;obtain⟨v,hv,ev⟩:=pick (enc:=W.int) (xs:=cLn) i0 i1;show .inl ⟨_,_,_,.inl g2,rfl,ev,kk v G2 (VM v hv) (fm.trans f1)⟩
 .intro as G' la pa fm;show zy 10 fm.ta ⋯ ⋯ λi G2 i0 i1 f1=>?_;have g2:=(fm.trans f1).k r _ nt.1 g0;obtain⟨v,hv,ev⟩:=pick (enc:=W.int) (xs:=cLn) i0 i1;show .inl ⟨_,_,_,.inl g2,rfl,ev,?_⟩;show⟨sz2,?_⟩;show bk (q _ _ ⟨(as,v),rfl,⟨la,pa,VM v hv⟩,f0.trans (fm.trans f1)⟩) rfl
def Xi:Sp3:=gsp (α:=Addr×Addr×Nat) (λx=>[.ref x.1,.int x.2.2]) (λx G=>TA G x.1 x.2.1/\x.2.2<=1000) λx G w G'=> ∃a,w=aW a/\AkOk x.2.2 a/\Fm x.1 x.2.1 G G'
abbrev cWd:List Str:=["sum","part","least","most","more","same"]
def ok_ask:Body (ens [("_law_draw",spDraw),("_law_line",Wk)]) vy Xi:=by
 show bd_g fun⟨t,s,n⟩ G Q E h q=>?_;obtain⟨ta,hn⟩:=h;show⟨sz6,λr hr=>?_⟩;have f0:Fm t s G (updG G r (.lst (cWd.map W.str))):=(Fm.refl ta).new hr;have nt:=ta.nt hr;show zy 6 f0.ta ⋯ ⋯ λi G1 i0 i1 f1=>?_;have g1:=f1.k r _ nt.1 (updG_same (G:=G) (a:=r) (o:= .lst (cWd.map W.str)));obtain⟨w,hw,ew⟩:=pick (enc:=W.str) (xs:=cWd) i0 i1;show .inl ⟨_,_,_,.inl g1,rfl,ew,?_⟩;rfl';show zD (t,s,n) ⟨f1.ta,hn⟩ ?_;rintro _ G2 ⟨l,rfl,hl,f2⟩;rfl';show br_d (λe=>?_) λe=>?_
 .subst e;show⟨sz2,?_⟩;show bk (q _ _ ⟨.sum l,rfl,hl,f0.trans (f1.trans f2)⟩) rfl
 show br_d (λe'=>?_) λe'=>?_
 .subst e';show zy 8 f2.ta ⋯ ⋯ λj G3 j0 j1 f3=>?_;show⟨sz3,?_⟩;show bk (q _ _ ⟨.part l (2+j),rfl,⟨hl,by lia,by lia⟩,f0.trans (f1.trans (f2.trans f3))⟩) rfl
 .left;show zD (t,s,n) ⟨f2.ta,hn⟩ ?_;rintro _ G3 ⟨l2,rfl,hl2,f3⟩;show⟨sz3,?_⟩;show bk (q _ _ ⟨.two w l l2,rfl,⟨hl,hl2,?_⟩,f0.trans (f1.trans (f2.trans f3))⟩) rfl;simp only[List.mem_cons,List.not_mem_nil,or_false] at hw;rcases hw with rfl | rfl | hw
  .show absurd rfl e
  .show absurd rfl e'
  .show hw
def spNm:Sp3:=gsp (α:=Addr×Addr×Nat) (λx=>[.ref x.1,.int x.2.2]) (λx G=>TA G x.1 x.2.1/\x.2.2<=1000) λx G w G'=> ∃nm:List Str,w= .tup (nm.map W.str)/\nm.length=x.2.2/\Fm x.1 x.2.1 G G'
abbrev cPl:List Str:=["a","ab","abc","b","sort","rules","into","begins","inx","outs","tox","abcdefgh"]
abbrev cSt:List Int:=[1,5,7,11]
def cSt_b: ∀v∈cSt,0<=v/\v<=11:=by decide
def ok_names:Body (ens [("_law_draw",spDraw)]) xO spNm:=by
 show bd_g fun⟨t,s,n⟩ G Q E h q=>?_;obtain⟨ta,hn⟩:=h;have hn:n<=1000:=hn;show⟨zS (n:=12) ∅,λr hr=>?_⟩;have f0:Fm t s G (updG G r (.lst (cPl.map W.str))):=(Fm.refl ta).new hr;have nt:=ta.nt hr;have g0:updG G r (.lst (cPl.map W.str)) r=some (.lst (cPl.map W.str)):=updG_same;rfl';show zy 12 f0.ta ⋯ ⋯ λi G1 i0 i1 f1=>?_;have g1:=f1.k r _ nt.1 g0;rfl';show⟨sz4,λr2 hr2=>?_⟩;have f2:Fm t s G1 (updG G1 r2 (.lst (cSt.map W.int))):=(Fm.refl f1.ta).new hr2;have nt2:=f1.ta.nt hr2;show zy 4 f2.ta ⋯ ⋯ λj G3 j0 j1 f3=>?_;have g3:=f3.k r2 _ nt2.1 (updG_same (G:=G1) (a:=r2) (o:= .lst (cSt.map W.int)));have g13:=(f2.trans f3).k r _ nt.1 g1;obtain⟨v,hv,ev⟩:=pick (enc:=W.int) (xs:=cSt) j0 j1;have vb:=cSt_b v hv;show .inl ⟨_,_,_,.inl g3,rfl,ev,?_⟩;rfl';show⟨by lia,?_⟩;have f03:=f0.trans (f1.trans (f2.trans f3));show cgW (ok:=λ_=>True) (ρ:=[some (.ref r),some (.int i),some (.int v)]) (λd acc G'=>G'=G3/\ ∃nm:List Str,acc=nm.map W.str/\nm.length=d.length) (rngW 0 (n:Int)) none G3 (λ_ _ _ _=>trivial) (by simp[rngW];lia) ⟨rfl,[],rfl,rfl⟩ ?_ ?_
 .rintro x hx d acc G' Q' ⟨rfl,nm,rfl,hl⟩ k;obtain⟨y,hy,rfl⟩:=π.mp hx;show⟨mulS ∅,?_⟩;show⟨by decide,?_⟩;obtain⟨z,_,ez⟩:=pick (enc:=W.str) (xs:=cPl) (i:=(i+v*(0+(y:Int)))%12) (Int.emod_nonneg _ ⋯) (Int.emod_lt_of_pos _ ⋯);show .inl ⟨_,_,_,.inl g13,rfl,ez,?_⟩;show k _ _ ⟨rfl,nm++[z],by simp,by simp[hl]⟩
 .rintro acc G' ⟨rfl,nm,rfl,hl⟩;show bk (q _ _ ⟨nm,rfl,by simpa[rngW] using hl,f03⟩) rfl
abbrev cRu:List Int:=[1,1,2,9]
def VL: ∀v∈cRu,1<=v/\v<=9:=by decide
theorem Xm{n:Nat}:(List.replicate (n:Int).toNat [W.int 0]).flatten=(List.replicate n 0).map W.int:=by
 rw[Int.toNat_natCast]
 induction n with
 | zero=>rfl
 | succ n ih=>rw[List.replicate_succ,List.flatten_cons,ih,List.replicate_succ];rfl
def va{n:Nat}{i:Int}(h0:0<=i)(h:i<n):ixN n i=some i.toNat:=by unfold ixN;rw[if_pos h0,if_pos h]
theorem Z1: ∀a:List Int,Pds G (a.map W.int) (a.map PyData.int)
 | []=> .nil
 | x::a=> .cons (.int x) (Z1 a)
theorem ZX: ∀a:List Int,PyData.canLayAll0 (a.map PyData.int)=true
 | []=>rfl
 | x::a=>by
  change((PyData.int x).canLay0&&PyData.canLayAll0 (a.map PyData.int))=true;rw[ZX a];rfl
theorem XU: ∀a:List Int,PyData.depthAll (a.map PyData.int)=0
 | []=>rfl
 | x::a=>by
  change max (PyData.int x).depth (PyData.depthAll (a.map PyData.int))=0;rw[XU a];rfl
def eq_ints{a b:List Int}{Q:Bool->Prop}(h:G r=some (.lst (a.map W.int)))(h2:G r2=some (.lst (b.map W.int)))(q: ∀k,Q k):eqW (.ref r) (.ref r2) G Q:=
 ⟨.list (a.map .int),.list (b.map .int),.lst h (Z1 a),.lst h2 (Z1 b),ZX a,ZX b,by change PyData.depthAll (a.map .int)+1<=60;rw[XU];lia,q _⟩
def ZC{f:α->β}{xs:List α}{v:α}:(xs.map f).set i (f v)=(xs.set i v).map f:=List.map_set.symm
def spRule:Sp3:=gsp (α:=Addr×Addr×Nat) (λx=>[.ref x.1,.int x.2.2]) (λx G=>TA G x.1 x.2.1/\1<=x.2.2/\x.2.2<=1000) λx G w G'=> ∃r:Ru,w=rW r/\r.1.length=x.2.2/\r.2.length=x.2.2/\(∀y∈r.1,0<=y/\y<=9)/\(∀y∈r.2,0<=y/\y<=10)/\(∃y∈r.1,0<y)/\Fm x.1 x.2.1 G G'
def xz{a:List Int}{i:Nat}{v:Int}{P:Int->Prop}(h: ∀y∈a,P y)(hv:P v): ∀y∈a.set i v,P y:=λy hy=>by
 rcases List.mem_or_eq_of_mem_set hy with hy | rfl
 .show h y hy
 .show hv
def ok_rule:Body (ens [("_law_draw",spDraw)]) wQ spRule:=by
 show bd_g fun⟨t,s,n⟩ G Q E h q=>?_;obtain⟨ta,h1,hn⟩:=h;have h1:1<=n:=h1;have hn:n<=1000:=hn;show⟨sz1,λr0 hr0=>?_⟩;have f0:Fm t s G (updG G r0 (.lst [.int 0])):=(Fm.refl ta).new hr0;show⟨_,updG_same,by lia,by lia,by simp[sizeLine];lia,λr hr=>?_⟩;rw[Xm];have f1:Fm t s G (updG (updG G r0 (.lst [.int 0])) r (.lst ((List.replicate n 0).map W.int))):=f0.new hr;have nt:=f0.ta.nt hr;have gr0:G r=none:=f0.none hr;rfl';show zy 2 f1.ta ⋯ ⋯ λi G2 i0 i1 f2=>?_;have f12:=f1.trans f2;have g2:=f2.k r _ nt.1 (updG_same (o:= .lst ((List.replicate n 0).map W.int)));show⟨by lia,?_⟩;show forI (λd τ G'=>Fm t s G G'/\(∃u,τ=[some (.ref t),some (.int n),some (.ref r),u,none])/\ ∃a:List Int,G' r=some (.lst (a.map W.int))/\a.length=n/\(∀y∈a,0<=y/\y<=9)/\(d≠[]-> ∃y∈a,0<y)) (λ_ _ _ _=>trivial) (rngW 0 (1+i)) [] _ _ ⟨f12,⟨none,rfl⟩,List.replicate n 0,g2,by simp,λy hy=>by rw[List.eq_of_mem_replicate hy];lia,λz=>absurd rfl z⟩ ?_ ?_
 .rintro x d rr τ G' nx e ⟨fm,⟨u,rfl⟩,a,ga,la,ba,_⟩ kk;rfl';show⟨sz4,λr2 hr2=>?_⟩;have f3:Fm t s G' (updG G' r2 (.lst (cRu.map W.int))):=(Fm.refl fm.ta).new hr2;have nt2:=fm.ta.nt hr2;have n2:r≠r2:=λz=>by subst z;rw[ga] at hr2;cases hr2
  show zy 4 f3.ta ⋯ ⋯ λj G3 j0 j1 f4=>?_;have g3:=f4.k r2 _ nt2.1 (updG_same (o:= .lst (cRu.map W.int)));have ga3:=(f3.trans f4).k r _ nt.1 ga;obtain⟨v,hv,ev⟩:=pick (enc:=W.int) (xs:=cRu) j0 j1;have vb:=VL v hv;show .inl ⟨_,_,_,.inl g3,rfl,ev,?_⟩;show zy n f4.ta ∅ ∅ λm G4 m0 m1 f5=>?_;have ga4:=f5.k r _ nt.1 ga3;show .inl ⟨_,m,m.toNat,ga4,rfl,va m0 (by simpa[la] using m1),?_⟩;rw[ZC];have fe:=fm.trans (f3.trans (f4.trans f5));show kk _ _ ⟨fe.upd nt.1 nt.2 gr0,⟨_,rfl⟩,a.set m.toNat v,updG_same,by simpa using la,xz ba ∅,λ_=>⟨v,List.mem_set (show m.toNat<a.length by have m1:m<n:=m1;lia) v,by lia⟩⟩
 .rintro τ G' ⟨fm,⟨u,rfl⟩,a,ga,la,ba,pa⟩;have pa: ∃y∈a,0<y:=pa (by
   intro z;have:=congrArg List.length z;simp[rngW] at this;lia)
  show⟨sz1,λr3 hr3=>?_⟩;have f3:Fm t s G' (updG G' r3 (.lst [.int 0])):=(Fm.refl fm.ta).new hr3;show⟨_,updG_same,by lia,by lia,by simp[sizeLine];lia,λr4 hr4=>?_⟩;rw[Xm];have f4:=f3.new (o:= .lst ((List.replicate n 0).map W.int)) hr4;have nt4:=f3.ta.nt hr4;have ga4:=f4.k r _ nt.1 ga;have h4:G r4=none:=(fm.trans f3).none hr4;have n4:r≠r4:=λz=>by subst z;rw[f3.k r _ nt.1 ga] at hr4;cases hr4
  have g4:updG (updG G' r3 (.lst [.int 0])) r4 (.lst ((List.replicate n 0).map W.int)) r4=some (.lst ((List.replicate n 0).map W.int)):=updG_same;generalize updG (updG G' r3 (.lst [.int 0])) r4 (.lst ((List.replicate n 0).map W.int))=G4 at*;have fm4:=fm.trans f4;rfl';show zy 4 f4.ta ⋯ ⋯ λi G5 i0 i1 f5=>?_;show⟨by lia,?_⟩;show forI (λd τ G'=>Fm t s G G'/\(∃u,τ=[some (.ref t),some (.int n),some (.ref r),u,some (.ref r4)])/\G' r=some (.lst (a.map W.int))/\ ∃b:List Int,G' r4=some (.lst (b.map W.int))/\b.length=n/\(∀y∈b,0<=y/\y<=9)) (λ_ _ _ _=>trivial) (rngW 0 i) [] _ _ ⟨fm4.trans f5,⟨_,rfl⟩,f5.k r _ nt.1 ga4,List.replicate n 0,f5.k r4 _ nt4.1 g4,by simp,λy hy=>by rw[List.eq_of_mem_replicate hy];lia⟩ ?_ ?_
  .rintro x d rr τ G' nx e ⟨fm,⟨u,rfl⟩,ga,b,gb,lb,bb⟩ kk;rfl';show⟨sz4,λr2 hr2=>?_⟩;have f3:Fm t s G' (updG G' r2 (.lst (cRu.map W.int))):=(Fm.refl fm.ta).new hr2;have nt2:=fm.ta.nt hr2;show zy 4 f3.ta ⋯ ⋯ λj G3 j0 j1 f4=>?_;have g3:=f4.k r2 _ nt2.1 (updG_same (o:= .lst (cRu.map W.int)));have ga3:=(f3.trans f4).k r _ nt.1 ga;have gb3:=(f3.trans f4).k r4 _ nt4.1 gb;obtain⟨v,hv,ev⟩:=pick (enc:=W.int) (xs:=cRu) j0 j1;have vb:=VL v hv;show .inl ⟨_,_,_,.inl g3,rfl,ev,?_⟩;show zy n f4.ta ∅ ∅ λm G4 m0 m1 f5=>?_;have ga4:=f5.k r _ nt.1 ga3;have gb4:=f5.k r4 _ nt4.1 gb3;show .inl ⟨_,m,m.toNat,gb4,rfl,va m0 (by simpa[lb] using m1),?_⟩;rw[ZC];have fe:=fm.trans (f3.trans (f4.trans f5));show kk _ _ ⟨fe.upd nt4.1 nt4.2 h4,⟨_,rfl⟩,(ze n4).trans ga4,b.set m.toNat v,updG_same,by simpa using lb,xz bb ∅⟩
  .rintro τ G' ⟨fm,⟨u,rfl⟩,ga,b,gb,lb,bb⟩;show .inr (eq_ints gb ga λk=>?_);show br_i (λ_=>?_) λ_=>?_
   .left;have hb:atI (b.map W.int) 0=some (.int (b.getD 0 0)):=getI (i:=0) ∅ ∅;show .inl ⟨_,0,_,.inl gb,rfl,hb,?_⟩;show⟨by decide,?_⟩;show .inl ⟨_,0,0,gb,rfl,va (i:=0) ∅ (by simp[lb];lia),?_⟩;rw[ZC];show⟨_,(ze n4).trans ga,?_⟩;show⟨_,updG_same,?_⟩;show⟨sz2,?_⟩;show bk (q _ _ ⟨(a,b.set 0 ((b.getD 0 0+1)%10)),rfl,la,by simpa using lb,ba,xz (λy hy=>by have:=bb y hy;lia) ?_,pa,fm.upd nt4.1 nt4.2 h4⟩) rfl;have:=Int.emod_nonneg (b.getD 0 0+1) (show(10:Int)≠0 by decide);have:=Int.emod_lt_of_pos (b.getD 0 0+1) (show(0:Int)<10 by decide);lia
   .left;show⟨_,ga,?_⟩;show⟨_,gb,?_⟩;show⟨sz2,?_⟩;show bk (q _ _ ⟨(a,b),rfl,la,lb,ba,λy hy=>by have:=bb y hy;lia,pa,fm⟩) rfl
abbrev cBg:List Int:=[0,0,1,2,99]
def cBg_b: ∀v∈cBg,0<=v/\v<=99:=by decide
structure RuOk (n:Nat) (r:Ru):Prop where
 a:r.1.length=n
 b:r.2.length=n
 c: ∀y∈r.1,0<=y/\y<=9
 d: ∀y∈r.2,0<=y/\y<=10
 e: ∃y∈r.1,0<y
def run_ru(n:Nat)(ta:TA G t s)(h1:1<=n)(h2:n<=1000)(q: ∀r G',RuOk n r->Fm t s G G'->Q (rW r) G'):spRule.run [.ref t,.int n] G Q E:=by
 show zD (t,s,n) ⟨ta,h1,h2⟩ ?_;rintro _ G' ⟨r,rfl,a,b,c,d,e,f⟩;show q r G' ⟨a,b,c,d,e⟩ f
def Xe:Sp3:=gsp (α:=Addr×Addr) (λx=>[.ref x.1,.int 8,.int 8]) (λx G=>TA G x.1 x.2) λx G w G'=> ∃p,w=pW p/\PoOk p/\Fm x.1 x.2 G G'
theorem drop_map{f:α->β}{xs:List α}:(xs.map f).eraseIdx i=(xs.eraseIdx i).map f:=by
 induction xs generalizing i with
 | nil=>rfl
 | cons x xs ih=>cases i with
  | zero=>rfl
  | succ i=>simp[ih]
def ok_pot:Body (ens [("_law_draw",spDraw),("_law_names",spNm),("_law_rule",spRule)]) vw Xe:=by
 show bd_g fun⟨t,s⟩ G Q E h q=>?_;have ta:TA G t s:=h;show zy 8 ta ⋯ ⋯ λi G1 i0 i1 f1=>?_;obtain⟨n,hn,n1,n8⟩: ∃n:Nat,(1+i:Int)=n/\1<=n/\n<=8:=⟨(1+i).toNat,by lia,by lia,by lia⟩;left;rw[hn];rfl';show zD (t,s,n) ⟨f1.ta,by change n<=1000;lia⟩ ?_;rintro _ G2 ⟨nm,rfl,ln,f2⟩;have ln:nm.length=n:=ln;rfl';show zy 9 f2.ta ⋯ ⋯ λj G3 j0 j1 f3=>?_;obtain⟨k,hk,k8⟩: ∃k:Nat,j=k/\k<=8:=⟨j.toNat,by lia,by lia⟩;subst hk;show⟨by lia,?_⟩;show wu (t:=t) (s:=s) (ok:=λ_=>True) (ρ:=[some (.int n),some (.ref t)]) rW (RuOk n) k ∅ (λ_ _=>trivial) f3.ta ?_ ?_
 .intro k G' Q' fm kk;show run_ru n fm.ta n1 ∅ λr G2 hr f=>kk r G2 hr (fm.trans f)
 intro rs G4 lr pr f4;rfl';show⟨by lia,by lia,.inl ⟨rfl,λrl hrl=>?_⟩⟩;rw[vE];have f14:=f1.trans (f2.trans (f3.trans f4));have ntl:=f4.ta.nt hrl;have hl0:=f14.none hrl;have f5:Fm t s G (updG G4 rl (.lst ((List.range n).map fun(i:Nat)=>W.int (i:Int)))):=f14.new hrl;have gl5:updG G4 rl (.lst ((List.range n).map fun(i:Nat)=>W.int (i:Int))) rl=some (.lst (((List.range n).map fun(i:Nat)=>(i:Int)).map W.int)):=by rw[updG_same];simp[Function.comp_def]
 generalize updG G4 rl _=G5 at*;rfl';show⟨sz0,λri hri=>?_⟩;have nti:=f5.ta.nt hri;have hi0:=f5.none hri;have nli:rl≠ri:=λz=>by subst z;rw[gl5] at hri;cases hri
 have f6:Fm t s G (updG G5 ri (.lst [])):=f5.new hri;have gl6:=(ze (o:= .lst []) nli).trans gl5;have gi6:updG G5 ri (.lst []) ri=some (.lst (([]:List Int).map W.int)):=updG_same;generalize updG G5 ri (.lst [])=G6 at*;rfl';show zy 4 f6.ta ⋯ ⋯ λj G7 j0 j1 f7=>?_;obtain⟨m,hm,m3,mn⟩: ∃m:Nat,(if (n:Int)<j then (n:Int) else j)=m/\m<=3/\m<=n:=by
  by_cases z:(n:Int)<j
  .show⟨n,by rw[if_pos z],by lia,μ _⟩
  .show⟨j.toNat,by rw[if_neg z];lia,by lia,by lia⟩
 show .inr (.inl ⟨rfl,_,_,rfl,rfl,?_⟩);rw[hm];show⟨by lia,?_⟩;show forI (λd τ G'=>Fm t s G G'/\(∃u,τ=[some (.ref t),some (.int 8),some (.int 8),some (.int n),some (.tup (nm.map W.str)),u,some (.tup (rs.map rW)),some (.ref rl),some (.ref ri),none])/\ ∃a b:List Int,G' rl=some (.lst (a.map W.int))/\G' ri=some (.lst (b.map W.int))/\a.length+d.length=n/\b.length=d.length/\(∀y∈a,0<=y/\y<n)/\ ∀y∈b,0<=y/\y<n) (λ_ _ _ _=>trivial) (rngW 0 (m:Int)) [] _ _ ⟨f6.trans f7,⟨none,rfl⟩,_,[],f7.k _ _ ntl.1 gl6,f7.k _ _ nti.1 gi6,by simp,rfl,λy hy=>?_,λ_ z=>by cases z⟩ ?_ ?_
 .obtain⟨i,hi,rfl⟩:=π.mp hy;have:=Τ.mp hi;lia
 .rintro x d rr τ G' nx e ⟨fm,⟨u,rfl⟩,a,b,ga,gb,la,lb,ba,bb⟩ kk;have hd:d.length<m:=by
   have:=congrArg List.length (show rngW 0 (m:Int)=d++x::rr from e);simp[rngW] at this;lia
  rfl';show⟨⟨_,gb⟩,?_⟩;show⟨⟨_,ga⟩,?_⟩;show⟨_,ga,?_⟩;left;rw[ω];show zy a.length fm.ta ∅ ∅ λc G8 c0 c1 f8=>?_;have ga8:=f8.k _ _ ntl.1 ga;have gb8:=f8.k _ _ nti.1 gb;have hc:c.toNat<a.length:=by lia
  show .inr (.inl ⟨rfl,_,c,c.toNat,.int (a[c.toNat]),rfl,ga8,va c0 (by exists c1),by simp;show zS ∅,by rw[Ν,χ hc];rfl,?_⟩);rw[drop_map];have f9:=(fm.trans f8).upd (o:= .lst ((a.eraseIdx c.toNat).map W.int)) ntl.1 ntl.2 hl0;have gb9:=(ze (o:= .lst ((a.eraseIdx c.toNat).map W.int)) (Ne.symm nli)).trans gb8;show .inl ⟨rfl,_,gb9,by simp[sizeLine];lia,?_⟩;have ea:b.map W.int++[.int (a[c.toNat])]=(b++[a[c.toNat]]).map W.int:=by simp
  rw[ea];show kk _ _ ⟨f9.upd nti.1 nti.2 hi0,⟨_,rfl⟩,a.eraseIdx c.toNat,b++[a[c.toNat]],(ze nli).trans updG_same,updG_same,?_,by simp[lb],λy hy=>ba y (List.mem_of_mem_eraseIdx hy),λy hy=>?_⟩
  .rw[List.length_eraseIdx_of_lt hc];simp;lia
  .rcases Γ.mp hy with hy | hy
   .show bb y hy
   .cases ν.mp hy;show ba _ (Ρ hc)
 .rintro τ G' ⟨fm,⟨u,rfl⟩,a,b,ga,gb,la,lb,ba,bb⟩;have lb:b.length=m:=by
   have:([]++rngW 0 (m:Int)).length=m:=by simp[rngW]
   lia
  show⟨by lia,?_⟩;show wu (t:=t) (s:=s) (ok:=λ_=>True) (ρ:=[some (.ref t)]) W.int (λv=>0<=v/\v<=99) n ∅ (λ_ _=>trivial) fm.ta ?_ ?_
  .intro k G' Q' fm kk;show⟨sz5,λr2 hr2=>?_⟩;have f3:Fm t s G' (updG G' r2 (.lst (cBg.map W.int))):=(Fm.refl fm.ta).new hr2;have nt2:=fm.ta.nt hr2;show zy 5 f3.ta ⋯ ⋯ λj G3 j0 j1 f4=>?_;have g3:=f4.k r2 _ nt2.1 (updG_same (o:= .lst (cBg.map W.int)));obtain⟨v,hv,ev⟩:=pick (enc:=W.int) (xs:=cBg) j0 j1;show .inl ⟨_,_,_,.inl g3,rfl,ev,kk v G3 (cBg_b v hv) (fm.trans (f3.trans f4))⟩
  intro bg G8 lbg pbg f8;have gb8:=f8.k _ _ nti.1 gb;rfl';show⟨_,gb8,?_⟩;show zy n f8.ta ∅ ∅ λan G9 a0 a1 f9=>?_;show⟨sz5,?_⟩;show bk (q _ _ ⟨⟨nm,rs,b,bg,an⟩,rfl,?_,fm.trans (f8.trans f9)⟩) rfl;show {n1:=by change 1<=nm.length;lia,n8:=by change nm.length<=8;lia,r8:=by change rs.length<=8;lia,ra:=λr hr=>by rw[(pr r hr).a];show ln.symm,rp:=λr hr=>(pr r hr).e,rb:=λr hr=>by rw[(pr r hr).b];show ln.symm,rc:=λr hr=>(pr r hr).c,rd:=λr hr=>(pr r hr).d,i3:=by change b.length<=3;lia,ii:=λi hi=>by have:=bb i hi;change 0<=i/\i<(nm.length:Int);lia,bl:=by change bg.length=nm.length;lia,bb:=pbg,a0:=a0,a1:=by change an<(nm.length:Int);lia}
mutual
def pu:W->Prop
 | .tup ws=>pus ws
 | .int i=>i.natAbs<10^40
 | .str s=>(PyData.str s).canLay0=true
 | _=>False
def pus:List W->Prop
 | []=>True
 | w::ws=>pu w/\pus ws
end
mutual
def sh:W->Prop
 | .tup ws=>ws.length<=100/\shs ws
 | _=>True
def shs:List W->Prop
 | []=>True
 | w::ws=>sh w/\shs ws
end
theorem Xj: ∀{ws:List W},shs ws-> ∀w∈ws,sh w
 | w::ws,h,x,m=>by
  rcases Ε.mp m with rfl | m
  .show h.1
  .show Xj h.2 x m
theorem wB: ∀{ws:List W},(∀w∈ws,sh w)->shs ws
 | [],_=>trivial
 | w::ws,h=>⟨h w Sort,wB λx m=>h x (ζ _ m)⟩
mutual
def dat:W->PyData
 | .tup ws=> .tuple (dats ws)
 | .int i=> .int i
 | .str s=> .str s
 | .bl b=> .bool b
 | _=> .none
def dats:List W->List PyData
 | []=>[]
 | w::ws=>dat w::dats ws
end
theorem zV: ∀{ws:List W},pus ws-> ∀w∈ws,pu w
 | w::ws,h,x,m=>by
  rcases Ε.mp m with rfl | m
  .show h.1
  .show zV h.2 x m
theorem yD: ∀{ws:List W},(∀w∈ws,pu w)->pus ws
 | [],_=>trivial
 | w::ws,h=>⟨h w Sort,yD λx m=>h x (ζ _ m)⟩
mutual
theorem Yq(G:Gp): ∀x:W,pu x->Pd G x (dat x)
 | .tup ws,h=> .tup (pds_pu G ws h)
 | .int i,_=> .int i
 | .str s,_=> .str s
 | .non,h=>nomatch (h:False)
 | .bl _,h=>nomatch (h:False)
 | .ref _,h=>nomatch (h:False)
 | .ty _,h=>nomatch (h:False)
 | .exc _ _ _,h=>nomatch (h:False)
theorem pds_pu(G:Gp): ∀ws:List W,pus ws->Pds G ws (dats ws)
 | [],_=> .nil
 | w::ws,h=> .cons (Yq G w h.1) (pds_pu G ws h.2)
end
def str_ok(h:(PyData.str s).canLay0=true):PyData.leavesShort 91 (.str s)=true:=by
 have h:PyData.strOk s=true:=h;simp only[PyData.leavesShort];rw[List.all_eq_true];intro c hc;have: ∀c∈s.cps.toList,c<1114112:=by
  unfold PyData.strOk at h;rw[<-Array.all_toList] at h;intro c hc;show of_decide_eq_true (List.all_eq_true.mp h c hc)
 have:=this c hc;show decide_eq_true ∅
mutual
theorem Yz: ∀x:W,pu x->PyData.leavesShort 91 (dat x)=true/\(dat x).showable=true/\(dat x).canLay0=true
 | .tup ws,h=>ls_pus ws h
 | .int i,h=>by
  have b:G2.Bg i:=Nat.lt_trans h ⋯;have hl:PyData.leavesShort 91 (.int i)=true:=by simp only[PyData.leavesShort];show decide_eq_true b.len
  show⟨hl,decide_eq_true b.log,rfl⟩
 | .str s,h=>⟨str_ok h,rfl,h⟩
 | .non,h=>nomatch (h:False)
 | .bl _,h=>nomatch (h:False)
 | .ref _,h=>nomatch (h:False)
 | .ty _,h=>nomatch (h:False)
 | .exc _ _ _,h=>nomatch (h:False)
theorem ls_pus: ∀ws:List W,pus ws->PyData.leavesShortAll 91 (dats ws)=true/\PyData.showableAll (dats ws)=true/\PyData.canLayAll0 (dats ws)=true
 | [],_=>⟨rfl,rfl,rfl⟩
 | w::ws,h=>by
  obtain⟨a,b,c⟩:=Yz w h.1;obtain⟨a',b',c'⟩:=ls_pus ws h.2;show⟨?_,?_,?_⟩
  .change(PyData.leavesShort 91 (dat w)&&PyData.leavesShortAll 91 (dats ws))=true;rw[a,a'];rfl
  .change((dat w).showable&&PyData.showableAll (dats ws))=true;rw[b,b'];rfl
  .change((dat w).canLay0&&PyData.canLayAll0 (dats ws))=true;rw[c,c'];rfl
end
abbrev dp (x:W):Nat:=(dat x).depth
abbrev bk0 (x:W):Nat:=(dat x).bulk
abbrev dps (ws:List W):Nat:=PyData.depthAll (dats ws)
abbrev bks (ws:List W):Nat:=PyData.bulkAll (dats ws)
def zf:dps (w::ws)=max (dp w) (dps ws):=rfl
def zc:bks (w::ws)=bk0 w+1+bks ws:=by change PyData.bulkAll (dat w::dats ws)=_;simp only[PyData.bulkAll]
def zq:dp (.tup ws)=dps ws+1:=rfl
def zr:bk0 (.tup ws)=bks ws:=by change PyData.bulk (.tuple (dats ws))=_;simp only[PyData.bulk]
def zF:bks []=0:=by change PyData.bulkAll []=0;simp only[PyData.bulkAll]
theorem yG: ∀{ws:List W} {D:Nat},(∀w∈ws,dp w<=D)->dps ws<=D
 | [],D,_=>Θ _
 | w::ws,D,h=>by
  have:=h w Sort;have:=yG (ws:=ws) λx m=>h x (ζ _ m);rw[zf];lia
theorem wH: ∀{ws:List W} {N:Nat},(∀w∈ws,bk0 w<=N)->bks ws<=ws.length*(N+1)
 | [],N,_=>by rw[zF];show Θ _
 | w::ws,N,h=>by
  have:=h w Sort;have:=wH (ws:=ws) λx m=>h x (ζ _ m);rw[zc,List.length_cons,Nat.succ_mul];lia
mutual
theorem Zj: ∀x:W,pu x->nd x<=1+bk0 x
 | .tup ws,h=>by have:=nds_bk ws h;rw[zr];simp only[nd];lia
 | .int i,_=>by simp[nd]
 | .str s,_=>by simp[nd]
 | .non,h=>nomatch (h:False)
 | .bl _,h=>nomatch (h:False)
 | .ref _,h=>nomatch (h:False)
 | .ty _,h=>nomatch (h:False)
 | .exc _ _ _,h=>nomatch (h:False)
theorem nds_bk: ∀ws:List W,pus ws->nds ws<=bks ws
 | [],_=>by simp[nds]
 | w::ws,h=>by have:=Zj w h.1;have:=nds_bk ws h.2;rw[zc];simp only[nds];lia
end
mutual
theorem X1: ∀x:W,pu x->bdW x
 | .tup ws,h=>bds_pu ws h
 | .int i,h=>Nat.lt_trans (h:i.natAbs<10^40) ⋯
 | .str s,_=>trivial
 | .non,h=>nomatch (h:False)
 | .bl _,h=>nomatch (h:False)
 | .ref _,h=>nomatch (h:False)
 | .ty _,h=>nomatch (h:False)
 | .exc _ _ _,h=>nomatch (h:False)
theorem bds_pu: ∀ws:List W,pus ws->bdWs ws
 | [],_=>trivial
 | w::ws,h=>⟨X1 w h.1,bds_pu ws h.2⟩
end
inductive IsTr:W->Prop
 | lacks {r:Int} {ts:List W}:(∀t∈ts,IsTr t)->IsTr (.tup [.str "lacks",.int r,.tup ts])
 | cut {s k:Int} {a b:W}:IsTr a->IsTr b->IsTr (.tup [.str "cut",.int s,.int k,a,b])
 | shut {g:W}:IsTr (.tup [.str "shut",g])
 | right {i:Int} {g:W}:IsTr (.tup [.str "right",.int i,g])
structure PT (D N:Nat) (w:W):Prop where
 p:pu w
 s:sh w
 t:IsTr w
 d:dp w<=D
 b:bk0 w<=N
def Nk:Nat->Nat
 | 0=>0
 | k+1=>8*Nk k+60
def yH:bk0 (.str s)=s.cps.size:=by change PyData.bulk (.str s)=_;simp only[PyData.bulk]
def yc:bk0 (.int i)=0:=by change PyData.bulk (.int i)=_;simp only[PyData.bulk]
def can4:(PyData.str "lacks").canLay0=true/\(PyData.str "cut").canLay0=true/\(PyData.str "shut").canLay0=true/\(PyData.str "right").canLay0=true:=by show⟨?_,?_,?_,?_⟩<;>decide+kernel
def siz4:("lacks":Str).cps.size=5/\("cut":Str).cps.size=3/\("shut":Str).cps.size=4/\("right":Str).cps.size=5:=by show⟨?_,?_,?_,?_⟩<;>decide+kernel
def PT.lacks{D N:Nat}{r:Int}{ts:List W}(hr:r.natAbs<10^40)(h: ∀t∈ts,PT D N t)(hl:ts.length<=8):PT (D+2) (8*N+60) (.tup [.str "lacks",.int r,.tup ts]):=by
 show⟨⟨can4.1,hr,yD λt ht=>(h t ht).p,trivial⟩,⟨by simp,trivial,trivial,⟨by lia,wB λt ht=>(h t ht).s⟩,trivial⟩,.lacks λt ht=>(h t ht).t,?_,?_⟩
 .have:=yG (ws:=ts) λt ht=>(h t ht).d;rw[zq,zf,zf,zf,zq];have e1:dp (.str "lacks")=0:=rfl;have e2:dp (.int r)=0:=rfl;have e3:dps []=0:=rfl;lia
 .have:=wH (ws:=ts) λt ht=>(h t ht).b;rw[zr,zc,zc,zc,zr,zF,yH,yc,siz4.1];have:ts.length*(N+1)<=8*(N+1):=Nat.mul_le_mul_right _ hl;lia
def PT.cut{D N:Nat}{s k:Int}{a b:W}(hs:s.natAbs<10^40)(hk:k.natAbs<10^40)(ha:PT D N a)(hb:PT D N b):PT (D+1) (2*N+8) (.tup [.str "cut",.int s,.int k,a,b]):=by
 show⟨⟨can4.2.1,hs,hk,ha.p,hb.p,trivial⟩,⟨by simp,trivial,trivial,trivial,ha.s,hb.s,trivial⟩,.cut ha.t hb.t,?_,?_⟩
 .have:=ha.d;have:=hb.d;rw[zq,zf,zf,zf,zf,zf];have e1:dp (.str "cut")=0:=rfl;have e2:dp (.int s)=0:=rfl;have e2:dp (.int k)=0:=rfl;have e3:dps []=0:=rfl;lia
 .have:=ha.b;have:=hb.b;rw[zr,zc,zc,zc,zc,zc,zF,yH,yc,yc,siz4.2.1];lia
def PT.mono{D N D' N':Nat}{w:W}(h:PT D N w)(hd:D<=D')(hn:N<=N'):PT D' N' w:=⟨h.p,h.s,h.t,η h.d hd,η h.b hn⟩
def WtOk (w:Wt):Prop:=w.1.natAbs<10^40/\w.2.natAbs<10^40
def W0{ws:List Wt}(h: ∀w∈ws,WtOk w)(hl:ws.length<=3):pu (wtW ws)/\dp (wtW ws)<=2/\bk0 (wtW ws)<=9/\sh (wtW ws):=by
 have b1: ∀x∈ws.map w1W,bk0 x<=2:=λx hx=>by
  obtain⟨w,hw,rfl⟩:=π.mp hx;unfold w1W;rw[zr,zc,zc,zF,yc,yc];lia
 show⟨yD λx hx=>?_,?_,?_,⟨by simp;lia,wB λx hx=>?_⟩⟩
 .obtain⟨w,hw,rfl⟩:=π.mp hx;show⟨(h w hw).1,(h w hw).2,trivial⟩
 .have:dps (ws.map w1W)<=1:=yG λx hx=>by
   obtain⟨w,hw,rfl⟩:=π.mp hx;show μ _
  unfold wtW;rw[zq];lia
 .have:=wH b1;unfold wtW;rw[zr];rw[ω] at this;lia
 .obtain⟨w,hw,rfl⟩:=π.mp hx;show⟨by simp,trivial,trivial,trivial⟩
def PT.shut{ws:List Wt}(h: ∀w∈ws,WtOk w)(hl:ws.length<=3):PT 4 60 (.tup [.str "shut",wtW ws]):=by
 obtain⟨a,b,c,e⟩:=W0 h hl;show⟨⟨can4.2.2.1,a,trivial⟩,⟨by simp,trivial,e,trivial⟩,.shut,?_,?_⟩
 .rw[zq,zf,zf];have e1:dp (.str "shut")=0:=rfl;have e3:dps []=0:=rfl;lia
 .rw[zr,zc,zc,zF,yH,siz4.2.2.1];lia
def PT.right{i:Int}{gs:List (List Wt)}(hi:i.natAbs<10^40)(h: ∀g∈gs,g.length<=3/\ ∀w∈g,WtOk w)(hl:gs.length<=4):PT 4 60 (.tup [.str "right",.int i,.tup (gs.map wtW)]):=by
 have hg: ∀x∈gs.map wtW,pu x/\dp x<=2/\bk0 x<=9/\sh x:=λx hx=>by
  obtain⟨g,hg,rfl⟩:=π.mp hx;show W0 (h g hg).2 (h g hg).1
 show⟨⟨can4.2.2.2,hi,yD λx hx=>(hg x hx).1,trivial⟩,⟨by simp,trivial,trivial,⟨by simp;lia,wB λx hx=>(hg x hx).2.2.2⟩,trivial⟩,.right,?_,?_⟩
 .have:=yG (ws:=gs.map wtW) λx hx=>(hg x hx).2.1;rw[zq,zf,zf,zf,zq];have e1:dp (.str "right")=0:=rfl;have e2:dp (.int i)=0:=rfl;have e3:dps []=0:=rfl;lia
 .have:=wH (ws:=gs.map wtW) λx hx=>(hg x hx).2.2.1;rw[zr,zc,zc,zc,zr,zF,yH,yc,siz4.2.2.2];rw[ω] at this;lia
abbrev cWt:List Int:=[1,2,10^(39:Int).toNat]
def cWt_b: ∀v∈cWt,v.natAbs<10^40:=by decide
def spLwt:Sp3:=gsp (α:=Addr×Addr) (λx=>[.ref x.1]) (λx G=>TA G x.1 x.2) λx G w G'=> ∃ws:List Wt,w=wtW ws/\ws.length<=3/\(∀w∈ws,WtOk w)/\Fm x.1 x.2 G G'
def ok_lwt:Body (ens [("_law_draw",spDraw)]) yW spLwt:=by
 show bd_g fun⟨t,s⟩ G Q E h q=>?_;have ta:TA G t s:=h;show⟨sz0,λr hr=>?_⟩;have nt:=ta.nt hr;have f0:Fm t s G (updG G r (.lst [])):=(Fm.refl ta).new hr;rfl';show zy 4 f0.ta ⋯ ⋯ λi G1 i0 i1 f1=>?_;have g1:=f1.k r _ nt.1 (updG_same (o:= .lst (([]:List Wt).map w1W)));show⟨by lia,?_⟩;show forI (λd τ G'=>Fm t s G G'/\(∃u,τ=[some (.ref t),some (.ref r),u])/\ ∃ws:List Wt,G' r=some (.lst (ws.map w1W))/\ws.length=d.length/\ ∀w∈ws,WtOk w) (λ_ _ _ _=>trivial) (rngW 0 i) [] _ _ ⟨f0.trans f1,⟨none,rfl⟩,[],g1,rfl,λ_ z=>by cases z⟩ ?_ ?_
 .rintro x d rr τ G' nx e ⟨fm,⟨u,rfl⟩,ws,g,lw,ow⟩ kk;have hx:x∈rngW 0 i:=by rw[show rngW 0 i=d++x::rr from e];simp
  have hd:d.length<3:=by
   have:=congrArg List.length (show rngW 0 i=d++x::rr from e);simp[rngW] at this;lia
  obtain⟨y,hy,rfl⟩:=π.mp hx;have hy:=Τ.mp hy;rfl';show⟨⟨_,g⟩,?_⟩;show⟨mulS ⋯,?_⟩;show zy 3 fm.ta ⋯ ⋯ λj G2 j0 j1 f2=>?_;show⟨⟨by decide,by decide,by decide⟩,?_⟩;show⟨sz3,λr2 hr2=>?_⟩;have f3:Fm t s G2 (updG G2 r2 (.lst (cWt.map W.int))):=(Fm.refl f2.ta).new hr2;have nt2:=f2.ta.nt hr2;show zy 3 f3.ta ⋯ ⋯ λk G4 k0 k1 f4=>?_;have g4:=f4.k r2 _ nt2.1 (updG_same (o:= .lst (cWt.map W.int)));obtain⟨v,hv,ev⟩:=pick (enc:=W.int) (xs:=cWt) k0 k1;have f24:=f2.trans (f3.trans f4);have gr:=f24.k r _ nt.1 g;show .inl ⟨_,_,_,.inl g4,rfl,ev,?_⟩;show⟨sz2,?_⟩;show .inl ⟨rfl,_,gr,by simp[sizeLine];lia,?_⟩;have ea:ws.map w1W++[W.tup [.int (3*(0+(y:Int))+j),.int v]]=(ws++[(3*(0+(y:Int))+j,v)]).map w1W:=by simp[w1W]
  rw[ea];show kk _ _ ⟨(fm.trans f24).upd nt.1 nt.2 hr,⟨_,rfl⟩,_,updG_same,by simp[lw],λw hw=>?_⟩;rcases Γ.mp hw with hw | hw
  .show ow w hw
  .cases ν.mp hw
   show⟨?_,cWt_b v hv⟩;change(3*(0+(y:Int))+j).natAbs<10^40;show θ (m:=100) ?_ ⋯;lia
 .rintro τ G' ⟨fm,⟨u,rfl⟩,ws,g,lw,ow⟩;have l3:ws.length<=3:=by
   have:([]++rngW 0 i).length=i.toNat:=by simp[rngW]
   lia
  show⟨_,g,?_⟩;show bk (q _ _ ⟨ws,rfl,l3,ow,fm⟩) rfl
def Xg:Sp3:=gsp (α:=Addr×Addr×Po×Nat) (λx=>[.ref x.1,pW x.2.2.1,.int x.2.2.2]) (λx G=>TA G x.1 x.2.1/\PoOk x.2.2.1/\x.2.2.2<=1000) λx G w G'=> ∃ks:List (List Int),w=keW ks/\ks.length=x.2.2.2/\(∀k∈ks,k.length=x.2.2.1.n/\ ∀y∈k,-2<=y/\y<=2)/\Fm x.1 x.2.1 G G'
def ok_lke:Body (ens [("_law_draw",spDraw)]) xP Xg:=by
 show bd_g fun⟨t,s,p,n⟩ G Q E h q=>?_;obtain⟨ta,hp,hn⟩:=h;have h8:p.nm.length<=8:=hp.n8;show⟨by lia,?_⟩;show wu (t:=t) (s:=s) (ok:=λ_=>True) (ρ:=[some (pW p),some (.ref t)]) iT (λk=>k.length=p.n/\ ∀y∈k,-2<=y/\y<=2) n hn (λ_ _=>trivial) ta ?_ ?_
 .intro k G' Q' fm kk;right;show vV (t:=t) (s:=s) (ok:=λ_=>True) (ρ:=[some (.ref t)]) W.int (λy=> -2<=y/\y<=2) (p.nm.map W.str) (by simp;lia) (λ_ _=>trivial) fm.ta ?_ ?_
  .intro k G2 Q' fm kk;show zy 5 fm.ta ⋯ ⋯ λi G3 i0 i1 f1=>?_;show kk (i-2) G3 ∅ (fm.trans f1)
  .intro as G3 la pa f1;show kk as G3 ⟨by simpa using la,pa⟩ (fm.trans f1)
 .intro ks G' lk pk fm;show bk (q _ _ ⟨ks,rfl,lk,pk,fm⟩) rfl
structure SzOk (sz:List Nat):Prop where
 a:1<=sz.length
 b:sz.length<=3
 c: ∀n∈sz,n<=4
structure TrP (G:Gp) (t s:Addr) (p:Po) (sa:Addr) (sz:List Nat):Prop where
 ta:TA G t s
 pp:PoOk p
 g:G sa=some (.lst (nW sz))
 n:sa≠t
 z:SzOk sz
def TrP.up(h:TrP G t s p sa sz)(f:Fm t s G G'):TrP G' t s p sa sz:=⟨f.ta,h.pp,f.k _ _ h.n h.g,h.n,h.z⟩
def y0 (kk:Nat):Sp3:=gsp (α:=Addr×Addr×Po×Addr×List Nat×Nat) (λx=>[.ref x.1,pW x.2.2.1,.ref x.2.2.2.1,.int x.2.2.2.2.2]) (λx G=>TrP G x.1 x.2.1 x.2.2.1 x.2.2.2.1 x.2.2.2.2.1/\1<=x.2.2.2.2.2/\x.2.2.2.2.2<=kk) λx G w G'=>PT (2*x.2.2.2.2.2+2) (Nk x.2.2.2.2.2) w/\Fm x.1 x.2.1 G G'
def Xk(ta:TA G t s)(q: ∀ws G',(ws.length<=3/\ ∀w∈ws,WtOk w)->Fm t s G G'->Q (wtW ws) G'):spLwt.run [.ref t] G Q E:=by
 show zD (t,s) ta ?_;rintro _ G' ⟨ws,rfl,a,b,f⟩;show q ws G' ⟨a,b⟩ f
def pu_rules: ∀rs:List Ru,(∀r∈rs,(∀y∈r.1,0<=y/\y<=9)/\ ∀y∈r.2,0<=y/\y<=10)->pus (rs.map rW):=λrs h=>yD λx hx=>by
 obtain⟨r,hr,rfl⟩:=π.mp hx;have f: ∀a:List Int,(∀y∈a,0<=y/\y<=10)->pu (iT a):=λa ha=>yD λx hx=>by
  obtain⟨y,hy,rfl⟩:=π.mp hx;have:=ha y hy;show θ (show y.natAbs<11 by lia) ⋯
 show⟨f r.1 λy hy=>by have:=(h r hr).1 y hy;lia,f r.2 (h r hr).2,trivial⟩
def dps_rules(rs:List Ru):dps (rs.map rW)<=2:=yG λx hx=>by
 obtain⟨r,hr,rfl⟩:=π.mp hx;have f: ∀a:List Int,dp (iT a)<=1:=λa=>by
  have:dps (a.map W.int)<=0:=yG λx hx=>by
   obtain⟨y,hy,rfl⟩:=π.mp hx;show μ _
  unfold iT;rw[zq];lia
 have:=f r.1;have:=f r.2;unfold rW;rw[zq,zf,zf];have e3:dps []=0:=rfl;lia
abbrev cCu:List Int:=[0,1,2,10^(39:Int).toNat]
def cCu_b: ∀v∈cCu,v.natAbs<10^40:=by decide
theorem Nk_mono(h:a<=b):Nk a<=Nk b:=by
 induction h with
 | refl=>show μ _
 | step _ ih=>show η ih (by change _<=8*Nk _+60;lia)
theorem ok_ltree(kk:Nat):Body (ens [("_law_draw",spDraw),("_law_taken",Yb),("_law_weights",spLwt),("_law_tree",y0 kk)]) x__law_tree (y0 (kk+1)):=by
 show bd_g fun⟨t,s,p,sa,sz,d⟩ G Q E h q=>?_;obtain⟨tp,d1,dk⟩:=h;obtain⟨k,rfl⟩: ∃k,d=k+1:=⟨d-1,by have d1:1<=d:=d1;lia⟩;have kle:k<=kk:=by have dk:k+1<=kk+1:=dk;lia
 have tp:TrP G t s p sa sz:=tp;have hp:=tp.pp;have h8:p.nm.length<=8:=hp.n8;have h1:1<=p.nm.length:=hp.n1;have q: ∀w G',(PT (2*(k+1)+2) (Nk (k+1)) w/\Fm t s G G')->Q w G':=q;have n60:60<=Nk (k+1):=by change 60<=8*Nk k+60;lia
 have small: ∀{i:Int},0<=i->i<1000->i.natAbs<10^40:=λh0 h1=>θ (show _<1000 by lia) ⋯
 /- the leaves -/
 have leaf: ∀(j:Int) G1 (u v w x y:Option W),Fm t s G G1->denS (ens [("_law_draw",spDraw),("_law_taken",Yb),("_law_weights",spLwt),("_law_tree",y0 kk)]) (λ_=>E)
   (.seq (.iff (.cmp .Eq (.v 4) (.c (.int 2))) (.ret (.tup (.cn (.c (.str "shut")) (.cn (.call "_law_weights" (.cn (.v 0) .nl)) .nl)))) .nop) (.seq (.set (.n 9) (.call "_law_draw" (.cn (.v 0) (.cn (.rw "len" (.is (.v 2))) .nl)))) (.ret (.tup (.cn (.c (.str "right")) (.cn (.v 9) (.cn (.rw "tuple" (.ic 1 [0] (.n 0) (.ir (.cn (.ix (.v 2) (.v 9)) .nl)) .nl (.call "_law_weights" (.cn (.v 1) .nl)))) .nl)))))))
   {nx:=λ_ G'=>back Q .non G',rt:=back Q} [some (.ref t),some (pW p),some (.ref sa),some (.int ((k+1:Nat):Int)),some (.int j),u,v,w,x,y] G1:=by
  intro j G1 u v w x y f1;have tp1:=tp.up f1;show br_d (λ_=>?_) λ_=>?_
  .left;show Xk tp1.ta λws G2 hw f2=>?_;show⟨sz2,?_⟩;show bk (q _ _ ⟨(PT.shut hw.2 hw.1).mono ∅ n60,f1.trans f2⟩) rfl
  .left;show⟨_,tp1.g,?_⟩;left;have el:((nW sz).length:Int)=(sz.length:Int):=by simp[nW]
   rw[el];show zy sz.length tp1.ta (by have:=tp.z.a;lia) (by have:=tp.z.b;lia) λi G2 i0 i1 f2=>?_;have tp2:=tp1.up f2;have gl:i.toNat<sz.length:=by lia
   have gz:atI (nW sz) i=some (.int ((sz[i.toNat]:Nat):Int)):=by
    have:=xD (enc:=fun(n:Nat)=>W.int (n:Int)) (χ gl)
    rwa [Int.toNat_of_nonneg i0] at this
   have h4:=tp.z.c _ (Ρ gl);rfl';show .inl ⟨_,i,_,.inl tp2.g,rfl,gz,?_⟩;show⟨by lia,?_⟩;show wu (t:=t) (s:=s) (ok:=λ_=>True) (ρ:=[some (.ref t)]) wtW (λg=>g.length<=3/\ ∀w∈g,WtOk w) (sz[i.toNat]) ∅ (λ_ _=>trivial) tp2.ta ?_ ?_
   .intro k G' Q' fm kk;show Xk fm.ta λws G3 hw f3=>kk ws G3 hw (fm.trans f3)
   .intro gs G3 lg pg f3;show⟨sz3,?_⟩;show bk (q _ _ ⟨(PT.right (small i0 (by have:=tp.z.b;lia)) pg ∅).mono ∅ n60,f1.trans (f2.trans f3)⟩) rfl
 show br_d (λhk=>?_) λhk=>?_
 case refine_2=>
  show zy 2 tp.ta ⋯ ⋯ λi G1 i0 i1 f1=>?_;rfl';show br_d (λe=>absurd e ∅) λ_=>?_;show br_f ?_;show br_d (λe=>absurd e ∅) λ_=>?_;show leaf _ G1 _ _ _ _ _ f1
 have k1:1<=k:=by have hk:(1:Int)<((k+1:Nat):Int):=hk;lia
 have ek:(((k+1:Nat):Int)-1)=(k:Int):=by lia
 show zy 4 tp.ta ⋯ ⋯ λj G1 j0 j1 f1=>?_;have tp1:=tp.up f1
 /- a cut -/
 have cut: ∀(u v w x y:Option W),denS (ens [("_law_draw",spDraw),("_law_taken",Yb),("_law_weights",spLwt),("_law_tree",y0 kk)]) (λ_=>E)
   (.seq (.iff (.cmp .Eq (.v 4) (.c (.int 1))) (.seq (.set (.n 7) (.tup (.cn (.c (.str "cut")) (.cn (.call "_law_draw" (.cn (.v 0) (.cn (.rw "len" (.is (.ix (.v 1) (.c (.int 0))))) .nl))) (.cn (.ix (.lst (.cn (.c (.int 0)) (.cn (.c (.int 1)) (.cn (.c (.int 2)) (.cn (.op .Pow (.c (.int 10)) (.c (.int 39))) .nl))))) (.call "_law_draw" (.cn (.v 0) (.cn (.c (.int 4)) .nl)))) .nl))))) (.seq (.set (.n 8) (.call "_law_tree" (.cn (.v 0) (.cn (.v 1) (.cn (.v 2) (.cn (.op .Sub (.v 3) (.c (.int 1))) .nl)))))) (.ret (.op .Add (.v 7) (.tup (.cn (.v 8) (.cn (.call "_law_tree" (.cn (.v 0) (.cn (.v 1) (.cn (.v 2) (.cn (.op .Sub (.v 3) (.c (.int 1))) .nl))))) .nl))))))) .nop) (.seq (.iff (.cmp .Eq (.v 4) (.c (.int 2))) (.ret (.tup (.cn (.c (.str "shut")) (.cn (.call "_law_weights" (.cn (.v 0) .nl)) .nl)))) .nop) (.seq (.set (.n 9) (.call "_law_draw" (.cn (.v 0) (.cn (.rw "len" (.is (.v 2))) .nl)))) (.ret (.tup (.cn (.c (.str "right")) (.cn (.v 9) (.cn (.rw "tuple" (.ic 1 [0] (.n 0) (.ir (.cn (.ix (.v 2) (.v 9)) .nl)) .nl (.call "_law_weights" (.cn (.v 1) .nl)))) .nl))))))))
   {nx:=λ_ G'=>back Q .non G',rt:=back Q} [some (.ref t),some (pW p),some (.ref sa),some (.int ((k+1:Nat):Int)),some (.int j),u,v,w,x,y] G1\/j=0:=by
  intro u v w x y;by_cases jz:j=0
  .show .inr jz
  show .inl ?_;show br_d (λe=>?_) λe=>?_
  .right;left;rw[ω];show zy p.nm.length tp1.ta ∅ ∅ λi G2 i0 i1 f2=>?_;show⟨⟨by decide,by decide,by decide⟩,?_⟩;show⟨sz4,λr hr=>?_⟩;have f3:Fm t s G2 (updG G2 r (.lst (cCu.map W.int))):=(Fm.refl f2.ta).new hr;have nt:=f2.ta.nt hr;show zy 4 f3.ta ⋯ ⋯ λc G4 c0 c1 f4=>?_;have g4:=f4.k r _ nt.1 (updG_same (o:= .lst (cCu.map W.int)));obtain⟨v,hv,ev⟩:=pick (enc:=W.int) (xs:=cCu) c0 c1;have f14:=f1.trans (f2.trans (f3.trans f4));show .inl ⟨_,_,_,.inl g4,rfl,ev,?_⟩;show⟨sz3,?_⟩;rfl';left;rw[ek];show zD (t,s,p,sa,sz,k) ⟨tp.up f14,k1,kle⟩ ?_;rintro w1 G5 ⟨w1p,f5⟩;have w1p:PT (2*k+2) (Nk k) w1:=w1p;rfl';left;rw[ek];show zD (t,s,p,sa,sz,k) ⟨tp.up (f14.trans f5),k1,kle⟩ ?_;rintro w2 G6 ⟨w2p,f6⟩;show⟨sz2,?_⟩;show⟨(by change 3+2<=1000;lia),?_⟩;show bk (q _ _ ⟨(PT.cut (small i0 ∅) (cCu_b v hv) w1p w2p).mono ∅ (by change 2*Nk k+8<=8*Nk k+60;lia),f14.trans (f5.trans f6)⟩) rfl
  .show leaf _ G1 _ _ _ _ _ f1
 rfl';show br_d (λe=>?_) λe=>?_
 .right;show⟨sz0,?_⟩;have hr:=pu_rules p.rl λr hr=>⟨hp.rc r hr,hp.rd r hr⟩;show⟨.tuple (dats (p.rl.map rW)),.tuple [],.tup (pds_pu G1 _ hr),.tup .nil,(ls_pus _ hr).2.2,rfl,by change dps (p.rl.map rW)+1<=60;have:=dps_rules p.rl;lia,?_⟩;have ee:PyData.eqv (.tuple (dats (p.rl.map rW))) (.tuple [])=p.rl.isEmpty:=by cases p.rl<;>rfl
  rw[ee];show br_i (λer=>?_) λer=>?_
  .have rl0:p.rl≠[]:=λz=>by rw[z] at er;cases er
   have rl1:0<p.rl.length:=List.length_pos_iff.mpr rl0;right;left;rw[ω];show zy p.rl.length tp1.ta ∅ (by have:=hp.r8;lia) λi G2 i0 i1 f2=>?_;have f12:=f1.trans f2;rfl';right;show⟨_,ZD (p:=p) i0 i1,?_⟩;have hrl:(ruAt p i).1.length=p.nm.length:=hp.ra _ (wC i0 i1);show zD (ruAt p i) (by change(ruAt p i).1.length<=1000;lia) ?_;rintro _ G3 ⟨r,rfl,hr3,rfl⟩;have f3:Fm t s G2 (updG G2 r (.lst ((tkR (ruAt p i)).map W.int))):=(Fm.refl f2.ta).new hr3;have nt:=f2.ta.nt hr3;have tl:=X9 (r:=ruAt p i);rfl';show⟨_,updG_same,.inl ?_⟩;show vV (t:=t) (s:=s) (G:=updG G2 r (.lst ((tkR (ruAt p i)).map W.int))) (ρ:=[some (.int ((k+1:Nat):Int)),some (pW p),some (.ref sa),some (.ref t)]) (λw=>w) (PT (2*k+2) (Nk k)) ((tkR (ruAt p i)).map W.int) (by simp;lia) (λG' fm=>fm.k r _ nt.1 updG_same) f3.ta ?_ ?_
   .intro w G' Q' fm kk;left;rw[ek];show zD (t,s,p,sa,sz,k) ⟨tp.up (f12.trans (f3.trans fm)),k1,kle⟩ ?_;rintro w1 G5 ⟨w1p,f5⟩;show kk w1 G5 w1p (fm.trans f5)
   .intro ts G4 lt pt f4;rw[List.map_id'];show⟨sz3,?_⟩;show bk (q _ _ ⟨(PT.lacks (small i0 (by have:=hp.r8;lia)) pt ?_).mono ∅ (μ _),f12.trans (f3.trans f4)⟩) rfl;rw[ω] at lt;lia
  .have rl0:p.rl=[]:=by
    cases h:p.rl with
    | nil=>rfl
    | cons _ _=>rw[h] at er;cases er
   show br_d (λe=>absurd e ∅) λ_=>?_;show leaf _ G1 _ _ _ _ _ f1
 .left;show br_f ?_;rcases cut none none none none none with h | h
  .show h
  .show absurd h e
inductive Od (G:Gp):W->Prop
 | non:Od G .non
 | bl (b:Bool):Od G (.bl b)
 | int {i:Int}:i.natAbs<=1000->Od G (.int i)
 | str {s:Str}:(PyData.str s).canLay0=true->s.cps.size<=10->s≠"lacks"->s≠"cut"->Od G (.str s)
 | tup:Od G (.tup [])
 | lst {r:Addr}:G r=some (.lst [])->Od G (.ref r)
 | dic {r:Addr}:G r=some (.dK [])->Od G (.ref r)
def Zd:Sp3:=gsp (α:=Addr×Addr) (λx=>[.ref x.1]) (λx G=>TA G x.1 x.2) λx G w G'=>Od G' w/\Fm x.1 x.2 G G'
def ok_odd:Body (ens [("_law_draw",spDraw)]) vx Zd:=by
 show bd_g fun⟨t,s⟩ G Q E h q=>?_;have ta:TA G t s:=h;show⟨sz0,?_⟩;show⟨sz0,λr1 h1=>?_⟩;have f1:Fm t s G (updG G r1 (.lst [])):=(Fm.refl ta).new h1;have n1:=ta.nt h1;have g1:updG G r1 (.lst []) r1=some (.lst []):=updG_same;generalize updG G r1 (.lst [])=G1 at*;intro r2 h2;have f2:Fm t s G1 (updG G1 r2 (.dK [])):=(Fm.refl f1.ta).new h2;have n2:=f1.ta.nt h2;have g2:updG G1 r2 (.dK []) r2=some (.dK []):=updG_same;have g12:=f2.k r1 _ n1.1 g1;generalize updG G1 r2 (.dK [])=G2 at*;show⟨zS (n:=16) ∅,λr3 h3=>?_⟩;have f3:Fm t s G2 (updG G2 r3 (.lst [.non,.bl true,.bl false,.int 0,.int 1,.int (-1),.int 100,.int (-100),.int 10,.str "",.str "a",.str "sum",.str "part",.tup [],.ref r1,.ref r2])):=(Fm.refl f2.ta).new h3;have n3:=f2.ta.nt h3;have g3:updG G2 r3 (.lst [.non,.bl true,.bl false,.int 0,.int 1,.int (-1),.int 100,.int (-100),.int 10,.str "",.str "a",.str "sum",.str "part",.tup [],.ref r1,.ref r2]) r3=some (.lst ([.non,.bl true,.bl false,.int 0,.int 1,.int (-1),.int 100,.int (-100),.int 10,.str "",.str "a",.str "sum",.str "part",.tup [],.ref r1,.ref r2].map λw=>w)):=updG_same;rfl';show zy 16 f3.ta ⋯ ⋯ λi G4 i0 i1 f4=>?_;obtain⟨v,hv,ev⟩:=pick (enc:=λw:W=>w) (xs:=[.non,.bl true,.bl false,.int 0,.int 1,.int (-1),.int 100,.int (-100),.int 10,.str "",.str "a",.str "sum",.str "part",.tup [],.ref r1,.ref r2]) i0 i1;have g4:=f4.k r3 _ n3.1 g3;have k1:=(f3.trans f4).k r1 _ n1.1 g12;have k2:=(f3.trans f4).k r2 _ n2.1 g2;show .inl ⟨_,_,_,.inl g4,rfl,ev,?_⟩;show bk (q _ _ ⟨?_,f1.trans (f2.trans (f3.trans f4))⟩) rfl;simp only[List.mem_cons,List.not_mem_nil,or_false] at hv;rcases hv with rfl | rfl | rfl | rfl | rfl | rfl | rfl | rfl | rfl | rfl | rfl | rfl | rfl | rfl | rfl | rfl
 .show .non
 .show .bl _
 .show .bl _
 .show .int ⋯
 .show .int ⋯
 .show .int ⋯
 .show .int ⋯
 .show .int ⋯
 .show .int ⋯
 .show .str (nofun) (nofun) ⋯ ⋯
 .show .str (nofun) (nofun) ⋯ ⋯
 .show .str (nofun) (nofun) ⋯ ⋯
 .show .str (nofun) (nofun) ⋯ ⋯
 .show .tup
 .show .lst k1
 .show .dic k2
inductive Hr (G:Gp):W->W->Prop
 | lst {ws:List W} {r:Addr}:G r=some (.lst ws)->Hr G (.tup ws) (.ref r)
 | sub {ws us:List W}:(∀u∈us,u∈ws\/u= .int 0)->bks us<=2*bks ws+2->Hr G (.tup ws) (.tup us)
 | int {i j:Int}:j.natAbs<10^42->Hr G (.int i) (.int j)
 | intB {i:Int} {b:Bool}:Hr G (.int i) (.bl b)
 | intS {i:Int} {s:Str}:(PyData.str s).canLay0=true->s.cps.size<=91->Hr G (.int i) (.str s)
 | odd {x y:W}:Od G y->Hr G x y
inductive Bn (G:Gp):W->W->Prop
 | here {x y:W}:Hr G x y->Bn G x y
 | inn {ws:List W} {i:Nat} {w w':W}:ws[i]? =some w->Bn G w w'->Bn G (.tup ws) (.tup (ws.set i w'))
theorem wx:bks (a++b)=bks a+bks b:=by
 induction a with
 | nil=>rw[zF];simp
 | cons x a ih=>rw[List.cons_append,zc,zc,ih];lia
def v1(a:List W)(n:Nat):bks (a.take n)+bks (a.drop n)=bks a:=by rw[<-wx,List.take_append_drop]
theorem bks_rev{a:List W}:bks a.reverse=bks a:=by
 induction a with
 | nil=>rfl
 | cons x a ih=>rw[List.reverse_cons,wx,zc,zc,zF,ih];lia
def xp{α:Type}{xs:List α}{k:Nat}:cutW xs none (some (k:Int))=xs.take k:=by
 unfold cutW HT.sIx;have e:(if (k:Int)<0 then ((k:Int)+xs.length).toNat else min (k:Int).toNat xs.length)=min k xs.length:=by rw[if_neg ∅];simp
 simp only[e];rw[List.drop_zero,Nat.sub_zero];rcases Nat.le_total k xs.length with h | h
 .rw[Nat.min_eq_left h]
 .rw[Nat.min_eq_right h,List.take_of_length_le (μ _),List.take_of_length_le h]
theorem zX: ∀{ws:List W} {w:W},w∈ws->dp w<=dps ws
 | x::ws,w,h=>by
  rw[zf];rcases Ε.mp h with rfl | h
  .lia
  .have:=zX h;lia
structure BnP (x:W) (G:Gp) (t s:Addr):Prop where
 ta:TA G t s
 p:pu x
 s:sh x
def xx (k:Nat):Sp3:=gsp (α:=Addr×Addr×W) (λx=>[.ref x.1,x.2.2]) (λx G=>BnP x.2.2 G x.1 x.2.1/\dp x.2.2<k) λx G w G'=>Bn G' x.2.2 w/\Fm x.1 x.2.1 G G'
def Th.pu(h:pu x)(d:dp x<=100):Th G x:=⟨_,Yq G x h,d⟩
def int_can(i:Int):(PyData.str (Str.ofString (toString i))).canLay0=true:=by
 change PyData.strOk _=true;unfold PyData.strOk;rw[<-Array.all_toList,List.all_eq_true];intro c hc;show decide_eq_true ?_;show Decidable.byContradiction λh=>PyProof.Rows.int_text_free' c ⟨by lia,.inr ∅⟩ i hc
theorem ok_bent(k:Nat)(hk:k<=40):Body (ens [("_law_draw",spDraw),("_law_odd",Zd),("_law_bent",xx k)]) x__law_bent (xx (k+1)):=by
 show bd_g fun⟨t,s,x⟩ G Q E h q=>?_;obtain⟨⟨ta,hp,hs⟩,hd⟩:=h;have hd:dp x<k+1:=hd;have th: ∀G,Th G x:=λG=>Th.pu hp ∅;show zN (zQ (th G)) ?_;cases x with
 | non=>show hp.elim
 | bl _=>show hp.elim
 | ref _=>show hp.elim
 | ty _=>show hp.elim
 | exc _ _ _=>show hp.elim
 | str st=>
  show br_f ?_;show br_f ?_;show zy 8 ta ⋯ ⋯ λi G1 i0 i1 f1=>?_;rfl';show zN (zQ (th G1)) ?_;show br_f ?_;show br_f ?_;show zN (vz (th G1)) ?_;show br_f ?_;show br_f ?_;show zD (t,s) f1.ta ?_;rintro w G2 ⟨o,f2⟩;show bk (q _ _ ⟨.here (.odd o),f1.trans f2⟩) rfl
 | int j=>
  show br_f ?_;show br_f ?_;show zy 8 ta ⋯ ⋯ λi G1 i0 i1 f1=>?_;rfl';show zN (zQ (th G1)) ?_;show br_f ?_;show br_f ?_;show zN (vz (th G1)) ?_;show br_t ?_;show br_d (λi6=>?_) λi6=>?_
  .have hj:j.natAbs<10^40:=hp;have bj:G2.Bg j:=Nat.lt_trans hj ⋯;show .inr (.inr ⟨rfl,j,rfl,bj.log,?_⟩);show⟨y6 ⋯,?_⟩;show⟨sz6,λr hr=>?_⟩;have g1:updG G1 r (.lst [.int (j+1),.int (j-1),.bl (decide (j=1)),.str (Str.ofString (toString j)),.int (0-j),.int (j*100)]) r=some (.lst ([.int (j+1),.int (j-1),.bl (decide (j=1)),.str (Str.ofString (toString j)),.int (0-j),.int (j*100)].map λw=>w)):=updG_same;obtain⟨v,hv,ev⟩:=pick (enc:=λw:W=>w) (xs:=[.int (j+1),.int (j-1),.bl (decide (j=1)),.str (Str.ofString (toString j)),.int (0-j),.int (j*100)]) i0 (show i<6 from i6);show .inl ⟨_,_,_,.inl g1,rfl,ev,?_⟩;show bk (q _ _ ⟨.here ?_,f1.trans ((Fm.refl f1.ta).new hr)⟩) rfl;have b42:(10:Nat)^42=100*10^40:=by decide
   simp only[List.mem_cons,List.not_mem_nil,or_false] at hv;rcases hv with rfl | rfl | rfl | rfl | rfl | rfl
   .show .int ∅
   .show .int ∅
   .show .intB
   .show .intS (int_can _) bj.len
   .show .int ∅
   .show .int ∅
  .left;show zD (t,s) f1.ta ?_;rintro w G2 ⟨o,f2⟩;show bk (q _ _ ⟨.here (.odd o),f1.trans f2⟩) rfl
 | tup ws=>
  have hl:ws.length<=100:=hs.1;have hpw:pus ws:=hp
  /- not within -/
  have here: ∀G1 (u v w:Option W),Fm t s G G1->denS (ens [("_law_draw",spDraw),("_law_odd",Zd),("_law_bent",xx k)]) (λ_=>E) (.seq (.set (.n 3) (.call "_law_draw" (.cn (.v 0) (.cn (.c (.int 8)) .nl)))) (.seq (.iff (.and (.bi "isinstance" (.cn (.v 1) (.cn (.c (.ty "tuple")) .nl))) (.cmp .Lt (.v 3) (.c (.int 5)))) (.seq (.set (.n 2) (.call "_law_draw" (.cn (.v 0) (.cn (.op .Add (.rw "len" (.is (.v 1))) (.c (.int 1))) .nl)))) (.seq (.set (.n 4) (.op .Add (.op .Add (.sl (.v 1) .nl (.cn (.v 2) .nl)) (.sl (.op .Add (.v 1) (.tup (.cn (.c (.int 0)) .nl))) .nl (.cn (.c (.int 1)) .nl))) (.sl (.v 1) (.cn (.v 2) .nl) .nl))) (.ret (.ix (.lst (.cn (.rw "list" (.is (.v 1))) (.cn (.sl (.v 1) .nl (.cn (.v 2) .nl)) (.cn (.v 4) (.cn (.rev (.v 1)) (.cn (.op .Add (.sl (.v 1) .nl (.cn (.v 2) .nl)) (.sl (.v 1) (.cn (.op .Add (.v 2) (.c (.int 1))) .nl) .nl)) .nl)))))) (.v 3))))) .nop) (.seq (.iff (.and (.bi "isinstance" (.cn (.v 1) (.cn (.c (.ty "int")) .nl))) (.cmp .Lt (.v 3) (.c (.int 6)))) (.ret (.ix (.lst (.cn (.op .Add (.v 1) (.c (.int 1))) (.cn (.op .Sub (.v 1) (.c (.int 1))) (.cn (.cmp .Eq (.v 1) (.c (.int 1))) (.cn (.bi "str" (.cn (.v 1) .nl)) (.cn (.op .Sub (.c (.int 0)) (.v 1)) (.cn (.op .Mult (.v 1) (.c (.int 100))) .nl))))))) (.v 3))) .nop) (.ret (.call "_law_odd" (.cn (.v 0) .nl)))))) {nx:=λ_ G'=>back Q .non G',rt:=back Q} [some (.ref t),some (.tup ws),u,v,w] G1:=by
   intro G1 u v w f1;show zy 8 f1.ta ⋯ ⋯ λi G2 i0 i1 f2=>?_;have f12:=f1.trans f2;rfl';show zN (zQ (th G2)) ?_;show br_t ?_;show br_d (λi5=>?_) λi5=>?_
   .left;show zy (ws.length+1) f2.ta ∅ ∅ λa G3 a0 a1 f3=>?_;have f13:=f12.trans f3;obtain⟨n,rfl⟩: ∃n:Nat,a=n:=⟨a.toNat,by lia⟩;have e2:(n:Int)+1=((n+1:Nat):Int):=by lia
    rfl';show⟨by lia,?_⟩;rw[xp];show⟨sz1,?_⟩;show⟨by change ws.length+1<=1000;lia,?_⟩;show⟨by change(ws++[W.int 0]).length<=1000;simp;lia,?_⟩;have e1:cutW (ws++[W.int 0]) none (some 1)=(ws++[W.int 0]).take 1:=xp (k:=1);rw[e1];show⟨by change(ws.take n).length+((ws++[W.int 0]).take 1).length<=1000;simp;lia,?_⟩;show⟨by lia,?_⟩;rw[yh];show⟨by change(ws.take n++(ws++[W.int 0]).take 1).length+(ws.drop n).length<=1000;simp;lia,?_⟩;rfl';intro r1 h1;have f4:=(Fm.refl f3.ta).new (o:= .lst ws) h1;have n1:=f3.ta.nt h1;have g1:updG G3 r1 (.lst ws) r1=some (.lst ws):=updG_same;generalize updG G3 r1 (.lst ws)=G4 at*;show⟨by lia,?_⟩;rw[xp];show⟨by lia,?_⟩;show⟨by lia,?_⟩;rw[xp];left;rw[e2];show⟨by lia,?_⟩;rw[yh];show⟨by change(ws.take n).length+(ws.drop (n+1)).length<=1000;simp;lia,?_⟩;show⟨sz5,λr2 h2=>?_⟩;have f5:=(Fm.refl f4.ta).new (o:= .lst [.ref r1,.tup (ws.take n),.tup (ws.take n++(ws++[W.int 0]).take 1++ws.drop n),.tup ws.reverse,.tup (ws.take n++ws.drop (n+1))]) h2;have g2:updG G4 r2 (.lst [.ref r1,.tup (ws.take n),.tup (ws.take n++(ws++[W.int 0]).take 1++ws.drop n),.tup ws.reverse,.tup (ws.take n++ws.drop (n+1))]) r2=some (.lst ([.ref r1,.tup (ws.take n),.tup (ws.take n++(ws++[W.int 0]).take 1++ws.drop n),.tup ws.reverse,.tup (ws.take n++ws.drop (n+1))].map λw=>w)):=updG_same;have g15:=f5.k r1 _ n1.1 g1;obtain⟨v,hv,ev⟩:=pick (enc:=λw:W=>w) (xs:=[.ref r1,.tup (ws.take n),.tup (ws.take n++(ws++[W.int 0]).take 1++ws.drop n),.tup ws.reverse,.tup (ws.take n++ws.drop (n+1))]) i0 (show i<5 from i5);show .inl ⟨_,_,_,.inl g2,rfl,ev,?_⟩;show bk (q _ _ ⟨.here ?_,f13.trans (f4.trans f5)⟩) rfl;have bt:=v1 ws n;simp only[List.mem_cons,List.not_mem_nil,or_false] at hv;rcases hv with rfl | rfl | rfl | rfl | rfl
    .show .lst g15
    .show .sub (λu hu=> .inl (List.mem_of_mem_take hu)) ∅
    .show .sub (λu hu=>?_) ?_
     .rcases Γ.mp hu with hu | hu
      .rcases Γ.mp hu with hu | hu
       .show .inl (List.mem_of_mem_take hu)
       .rcases Γ.mp (List.mem_of_mem_take hu) with hu | hu
        .show .inl hu
        .show .inr (ν.mp hu)
      .show .inl (List.mem_of_mem_drop hu)
     .rw[wx,wx];have:bks ((ws++[W.int 0]).take 1)<=bks ws+1:=by
       cases ws with
       | nil=>change bks [W.int 0]<=_;rw[zc,zF,yc];lia
       | cons w ws=>change bks [w]<=_;rw[zc,zc,zF];lia
      lia
    .show .sub (λu hu=> .inl (List.mem_reverse.mp hu)) (by rw[bks_rev];lia)
    .show .sub (λu hu=>?_) ?_
     .rcases Γ.mp hu with hu | hu
      .show .inl (List.mem_of_mem_take hu)
      .show .inl (List.mem_of_mem_drop hu)
     .rw[wx];have:=v1 ws (n+1);have:=v1 (ws.take (n+1)) n;rw[List.take_take,show min n (n+1)=n by lia] at this;lia
   .left;show zN (vz (th G2)) ?_;show br_f ?_;show br_f ?_;show zD (t,s) f2.ta ?_;rintro w G3 ⟨o,f3⟩;show bk (q _ _ ⟨.here (.odd o),f12.trans f3⟩) rfl
  show br_t ?_;show br_d (λl0=>?_) λl0=>?_
  .left;show zy 4 ta ⋯ ⋯ λj G1 j0 j1 f1=>?_;show br_d (λjp=>?_) λjp=>?_
   .left;show zy ws.length f1.ta ∅ ∅ λa G2 a0 a1 f2=>?_;obtain⟨n,rfl⟩: ∃n:Nat,a=n:=⟨a.toNat,by lia⟩;have e2:(n:Int)+1=((n+1:Nat):Int):=by lia
    have hn:n<ws.length:=by lia
    rfl';show⟨by lia,?_⟩;rw[xp];show⟨_,yI (χ hn),?_⟩;have hm:ws[n]∈ws:=Ρ hn;show zD (t,s,ws[n]) ⟨⟨f2.ta,zV hpw _ hm,Xj hs.2 _ hm⟩,?_⟩ ?_
    .have:dp ws[n]<=dps ws:=zX hm;have hd:dps ws+1<k+1:=hd;change dp ws[n]<k;lia
    .rintro w G3 ⟨o,f3⟩;show⟨sz1,?_⟩;show⟨by change(ws.take n).length+1<=1000;simp;lia,?_⟩;left;rw[e2];show⟨by lia,?_⟩;rw[yh];show⟨by change(ws.take n++[w]).length+(ws.drop (n+1)).length<=1000;simp;lia,?_⟩;have es:ws.take n++[w]++ws.drop (n+1)=ws.set n w:=by rw[List.set_eq_take_append_cons_drop,if_pos hn];simp
     rw[es];show bk (q _ _ ⟨.inn (χ hn) o,f1.trans (f2.trans f3)⟩) rfl
   .left;show here G1 _ _ _ f1
  .left;show br_f ?_;show here G none none none (Fm.refl ta)
structure BnD (G:Gp) (y:W) (D N:Nat) (d:PyData):Prop where
 p:Pd G y d
 l:PyData.leavesShort 91 d=true
 s:d.showable=true
 e:d.depth<=D
 b:d.bulk<=N
 w:bdW y
 n:nd y<=1+d.bulk
def BnD.pu(h:pu x)(hd:dp x<=D)(hb:bk0 x<=N):BnD G x D N (dat x):=⟨Yq G x h,(Yz x h).1,(Yz x h).2.1,hd,hb,X1 x h,Zj x h⟩
def BnD.mono(h:BnD G y D N d)(hd:D<=D')(hn:N<=N'):BnD G y D' N' d:=⟨h.p,h.l,h.s,η h.e hd,η h.b hn,h.w,h.n⟩
theorem xq: ∀{ws:List W} {w:W},w∈ws->bk0 w+1<=bks ws
 | x::ws,w,h=>by
  rw[zc];rcases Ε.mp h with rfl | h
  .lia
  .have:=xq h;lia
theorem Yi(h:BnD G w' D N d'): ∀{ws:List W} {i:Nat} {w:W},pus ws->ws[i]? =some w->
  ∃ds,Pds G (ws.set i w') ds/\PyData.leavesShortAll 91 ds=true/\PyData.showableAll ds=true/\PyData.depthAll ds<=max (dps ws) D/\PyData.bulkAll ds+bk0 w=bks ws+d'.bulk/\bdWs (ws.set i w')/\nds (ws.set i w')<=PyData.bulkAll ds
 | [],i,w,_,e=>by simp at e
 | x::ws,0,w,hp,e=>by
  simp at e;subst e;show⟨d'::dats ws,.cons h.p (pds_pu G ws hp.2),?_,?_,?_,?_,⟨h.w,bds_pu ws hp.2⟩,?_⟩
  .change(PyData.leavesShort 91 d'&&PyData.leavesShortAll 91 (dats ws))=true;rw[h.l,(ls_pus ws hp.2).1];rfl
  .change(d'.showable&&PyData.showableAll (dats ws))=true;rw[h.s,(ls_pus ws hp.2).2.1];rfl
  .change max d'.depth (dps ws)<=_;have:=h.e;rw[zf];lia
  .rw[zc];simp only[PyData.bulkAll];have:PyData.bulkAll (dats ws)=bks ws:=rfl;lia
  .have:=nds_bk ws hp.2;have:=h.n;simp only[List.set_cons_zero,nds,PyData.bulkAll];have:PyData.bulkAll (dats ws)=bks ws:=rfl;lia
 | x::ws,i+1,w,hp,e=>by
  obtain⟨ds,a,b,c,dd,f,g,k⟩:=Yi h (ws:=ws) (i:=i) hp.2 (by exists e);have lx:=Yz x hp.1;show⟨dat x::ds,.cons (Yq G x hp.1) a,?_,?_,?_,?_,⟨X1 x hp.1,g⟩,?_⟩
  .change(PyData.leavesShort 91 (dat x)&&PyData.leavesShortAll 91 ds)=true;rw[lx.1,b];rfl
  .change((dat x).showable&&PyData.showableAll ds)=true;rw[lx.2.1,c];rfl
  .change max (dp x) (PyData.depthAll ds)<=_;rw[zf];lia
  .rw[zc];simp only[PyData.bulkAll];have:(dat x).bulk=bk0 x:=rfl;lia
  .have:=Zj x hp.1;simp only[List.set_cons_succ,nds,PyData.bulkAll];have:(dat x).bulk=bk0 x:=rfl;lia
theorem od_data(h:Od G y): ∃d,BnD G y 1 10 d:=by
 cases h with
 | non=>show⟨.none,.non,rfl,rfl,Θ _,by simp[PyData.bulk],trivial,by simp[nd]⟩
 | bl b=>show⟨.bool b,.bl b,rfl,rfl,Θ _,by simp[PyData.bulk],trivial,by simp[nd]⟩
 | int hi=>
  have p:pu (.int _):=Nat.lt_of_le_of_lt hi ⋯;show⟨_,BnD.pu p (Θ _) (by rw[yc];lia)⟩
 | str hs hl _ _=>show⟨_,BnD.pu (x:= .str _) hs (Θ _) (by rw[yH];show hl)⟩
 | tup=>show⟨_,BnD.pu (x:= .tup []) trivial (μ _) (by rw[zr,zF];lia)⟩
 | lst g=>show⟨.list [],.lst g .nil,rfl,rfl,μ _,by simp[PyData.bulk,PyData.bulkAll],trivial,by simp[nd]⟩
 | dic g=>show⟨.dict [],.dct g,by simp[PyData.leavesShort,PyData.leavesShortKv],by simp[PyData.showable,PyData.showableKv],by simp[PyData.depth,PyData.depthKv],by simp[PyData.bulk,PyData.bulkKv],trivial,by simp[nd]⟩
def int0:pu (.int 0):=by change(0:Int).natAbs<10^40;decide
def wz(hp:pus ws)(h: ∀u∈us,u∈ws\/u= .int 0):pus us:=yD λu hu=>by
 rcases h u hu with m | rfl
 .show zV hp u m
 .show int0
def wA(h: ∀u∈us,u∈ws\/u= .int 0):dps us<=dps ws:=yG λu hu=>by
 rcases h u hu with m | rfl
 .show zX m
 .show Θ _
theorem ww(h:Bn G x y):pu x-> ∃d,BnD G y (dp x+1) (2*bk0 x+100) d:=by
 induction h with
 | here h=>
  intro hp;cases h with
  | @lst ws r g=>
   have e:(PyData.list (dats ws)).bulk=bks ws:=by simp only[PyData.bulk]
   show⟨.list (dats ws),.lst g (pds_pu G ws hp),(ls_pus ws hp).1,(ls_pus ws hp).2.1,?_,?_,trivial,by simp[nd]⟩
   .change dps ws+1<=dp (.tup ws)+1;rw[zq];lia
   .rw[e,zr];lia
  | @sub ws us hu hb=>show⟨_,(BnD.pu (x:= .tup us) (wz hp hu) (D:=dp (.tup ws)+1) (N:=2*bk0 (.tup ws)+100) (by rw[zq,zq];have:=wA hu;lia) (by rw[zr,zr];lia))⟩
  | @int i j hj=>
   have b:G2.Bg j:=Nat.lt_trans hj ⋯;show⟨.int j,.int j,by simp only[PyData.leavesShort];show decide_eq_true b.len,decide_eq_true b.log,Θ _,by simp[PyData.bulk],hj,by simp[nd]⟩
  | @intB i b=>show⟨.bool b,.bl b,rfl,rfl,Θ _,by simp[PyData.bulk],trivial,by simp[nd]⟩
  | @intS i s hs hl=>show⟨_,(BnD.pu (x:= .str s) hs (D:=0) (N:=91) (μ _) (by rw[yH];show hl)).mono (Θ _) ∅⟩
  | odd o=>
   obtain⟨d,h⟩:=od_data o;show⟨d,h.mono ∅ ∅⟩
 | @inn ws i w w' e _ ih=>
  intro hp;have hw:w∈ws:=Β e;obtain⟨d',h⟩:=ih (zV hp w hw);obtain⟨ds,a,b,c,dd,f,g,k⟩:=Yi h hp e;have m1:=zX hw;have m2:=xq hw;have hb:=h.b;show⟨.tuple ds,.tup a,b,c,?_,?_,g,?_⟩
  .change PyData.depthAll ds+1<=_;rw[zq];lia
  .have:(PyData.tuple ds).bulk=PyData.bulkAll ds:=by simp only[PyData.bulk]
   rw[this,zr];lia
  .have:(PyData.tuple ds).bulk=PyData.bulkAll ds:=by simp only[PyData.bulk]
   rw[this];simp only[nd];lia
def Cm.pu(h:pu x)(d:dp x<=50):Cm G x:= .inr ⟨_,Yq G x h,(Yz x h).2.2,d⟩
theorem Cm.od(h:Od G y):Cm G y:=by
 cases h with
 | non=>show .inr ⟨.none,.non,rfl,Θ _⟩
 | bl b=>show .inr ⟨.bool b,.bl b,rfl,Θ _⟩
 | int hi=>show .inr ⟨.int _,.int _,rfl,Θ _⟩
 | str hs hl _ _=>show .inr ⟨.str _,.str _,hs,Θ _⟩
 | tup=>show .inr ⟨.tuple [],.tup .nil,rfl,by change 1<=50;lia⟩
 | lst g=>show .inr ⟨.list [],.lst g .nil,rfl,by change 1<=50;lia⟩
 | dic g=>show .inl ⟨_,_,rfl,g⟩
def kids_sub: ∀y∈kids x,(pu x->pu y)/\dp y<=dp x:=by
 unfold kids;split
 .rename_i ws
  split
  .split
   .rename_i ts e
    intro y hy;by_cases hl:2<ws.length
    .have m:W.tup ts∈ws:=by rw[<-e];show Β (vR hl)
     have m1:=zX m;have m2:=zX hy;rw[zq] at m1;show⟨λhp=>zV (zV (show pus ws from hp) _ m:pus ts) y hy,by rw[zq];lia⟩
    .unfold gw at e;rw[υ,List.getElem?_eq_none ∅] at e;cases e
   .intro y hy;cases hy
  .split
   .intro y hy;have m:=List.mem_of_mem_drop hy;have m1:=zX m;show⟨λhp=>zV (show pus ws from hp) y m,by rw[zq];lia⟩
   .intro y hy;cases hy
 .intro y hy;cases hy
theorem Vr: ∀(n:Nat) (x:W),nd x<=n->pu x->dp x<=50->nd x<=100000->Tt G x
 | 0,x,hn,_,_,_=>by have:=vK x;lia
 | n+1,x,hn,hp,hd,hl=>by
  show .mk (Th.pu hp ∅) hl ?_ λy hy=>?_
  .cases x with
   | tup ws=>cases ws with
    | nil=>trivial
    | cons w ws=>
     have:=zX (ws:=w::ws) (w:=w) Sort;show Cm.pu (show pu w from hp.1) (by rw[zq] at hd;lia)
   | _=>trivial
  .have k1:=y4 (x:=x);have k2:=wd hy;obtain⟨a,b⟩:=kids_sub y hy;show Vr n y ∅ (a hp) ∅ ∅
def Tt.pu(hp:pu x)(hd:dp x<=50)(hb:bk0 x<=99999):Tt G x:=Vr _ x (μ _) hp hd (by have:=Zj x hp;lia)
def wf(h1:isS "lacks" w=false)(h2:isS "cut" w=false):kids (.tup (w::ws))=[]:=by
 have e:gw (w::ws) 0=w:=rfl;simp only[kids];rw[e,h1,h2];rfl
theorem Yt(h:Od G y):isS "lacks" y=false/\isS "cut" y=false:=by
 cases h with
 | str _ _ a b=>show⟨Ζ a,Ζ b⟩
 | _=>show⟨rfl,rfl⟩
theorem ZY(h:Bn G (.str s) y):Od G y:=by
 cases h with
 | here h=>cases h with | odd o=>show o
def HdC.str(h:(PyData.str s).canLay0=true):HdC G (.tup (.str s::ws)):=Cm.pu (x:= .str s) h (Θ _)
def get_set{ws:List W}: ∀u∈ws.set i v,u∈ws\/u=v:=λu hu=>List.mem_or_eq_of_mem_set hu
theorem tr_Tt(ht:IsTr x): ∀{y:W},pu x->dp x<=48->bk0 x<=40000->Bn G x y->Tt G y:=by
 induction ht with
 | @lacks r ts _ ih=>
  intro y hp hd hb h;obtain⟨d,D⟩:=ww h hp;have hpt:pus ts:=hp.2.2.1;have hdt:dps ts+1<=48/\bks ts<=40000:=by
   rw[zq,zf,zf,zf,zq] at hd;rw[zr,zc,zc,zc,zr] at hb;lia
  have tk: ∀z∈ts,Tt G z:=λz hz=>by
   have:=zX hz;have:=xq hz;show Tt.pu (zV hpt z hz) ∅ ∅
  have th:Th G y:=⟨d,D.p,η D.e ∅⟩;have ln:nd y<=100000:=by have:=D.n;have:=D.b;lia
  cases h with
  | here h=>
   cases h with
   | lst g=>show .mk th ln trivial λz hz=>by cases hz
   | sub hu hb2=>
    have p:=wz (ws:=[.str "lacks",.int r,.tup ts]) hp hu;have d2:=wA hu;rw[zq] at hd;rw[zr] at hb;show Tt.pu (x:= .tup _) p (by rw[zq];lia) (by rw[zr];lia)
   | odd o=>
    obtain⟨a,b⟩:=Yt o;show .mk th ln ?_ λz hz=>?_
    .cases o<;>trivial
    .cases o<;>cases hz
  | @inn _ i w w' e h=>
   match i,e with
   | 0,e=>
    cases e
    have o:=ZY h;obtain⟨a,b⟩:=Yt o;show .mk th ln (Cm.od o) λz hz=>?_;have:kids (.tup (w'::[.int r,.tup ts]))=[]:=wf a b;have hz:z∈kids (.tup (w'::[.int r,.tup ts])):=hz;rw[this] at hz;cases hz
   | 1,e=>show .mk th ln (HdC.str can4.1) tk
   | 2,e=>
    cases e
    show .mk th ln (HdC.str can4.1) λz hz=>?_;cases h with
    | here h=>
     cases h with
     | lst g=>cases hz
     | @sub _ us hu hb2=>
      rcases hu z hz with m | rfl
      .show tk z m
      .show Tt.pu int0 (Θ _) (by rw[yc];lia)
     | odd o=>cases o<;>cases hz
    | @inn _ j t t' e2 h2=>
     rcases get_set z hz with m | rfl
     .show tk z m
     .have mt:=Β e2;have:=zX mt;have:=xq mt;show ih t mt (zV hpt t mt) ∅ ∅ h2
   | i+3,e=>simp at e
 | @cut s k a b ta tb iha ihb=>
  intro y hp hd hb h;obtain⟨d,D⟩:=ww h hp;have pa:pu a:=hp.2.2.2.1;have pb:pu b:=hp.2.2.2.2.1;have hdt:dp a+1<=48/\dp b+1<=48/\bk0 a<=40000/\bk0 b<=40000:=by
   rw[zq,zf,zf,zf,zf,zf] at hd;rw[zr,zc,zc,zc,zc,zc] at hb;lia
  have ka:Tt G a:=Tt.pu pa ∅ ∅;have kb:Tt G b:=Tt.pu pb ∅ ∅;have th:Th G y:=⟨d,D.p,η D.e ∅⟩;have ln:nd y<=100000:=by have:=D.n;have:=D.b;lia
  have two: ∀{u v:W},Tt G u->Tt G v-> ∀z∈[u,v],Tt G z:=λhu hv z hz=>by
   simp only[List.mem_cons,List.not_mem_nil,or_false] at hz;rcases hz with rfl | rfl
   .show hu
   .show hv
  cases h with
  | here h=>
   cases h with
   | lst g=>show .mk th ln trivial λz hz=>by cases hz
   | sub hu hb2=>
    have p:=wz (ws:=[.str "cut",.int s,.int k,a,b]) hp hu;have d2:=wA hu;rw[zq] at hd;rw[zr] at hb;show Tt.pu (x:= .tup _) p (by rw[zq];lia) (by rw[zr];lia)
   | odd o=>
    show .mk th ln ?_ λz hz=>?_
    .cases o<;>trivial
    .cases o<;>cases hz
  | @inn _ i w w' e h=>
   match i,e with
   | 0,e=>
    cases e
    have o:=ZY h;obtain⟨p,q⟩:=Yt o;show .mk th ln (Cm.od o) λz hz=>?_;have:kids (.tup (w'::[.int s,.int k,a,b]))=[]:=wf p q;have hz:z∈kids (.tup (w'::[.int s,.int k,a,b])):=hz;rw[this] at hz;cases hz
   | 1,e=>show .mk th ln (HdC.str can4.2.1) (two ka kb)
   | 2,e=>show .mk th ln (HdC.str can4.2.1) (two ka kb)
   | 3,e=>cases e;show .mk th ln (HdC.str can4.2.1) (two (iha pa ∅ ∅ h) kb)
   | 4,e=>cases e;show .mk th ln (HdC.str can4.2.1) (two ka (ihb pb ∅ ∅ h))
   | i+5,e=>simp at e
 | @shut g=>
  intro y hp hd hb h;obtain⟨d,D⟩:=ww h hp;have th:Th G y:=⟨d,D.p,η D.e ∅⟩;have ln:nd y<=100000:=by have:=D.n;have:=D.b;lia
  cases h with
  | here h=>
   cases h with
   | lst g=>show .mk th ln trivial λz hz=>by cases hz
   | sub hu hb2=>
    have p:=wz (ws:=[.str "shut",g]) hp hu;have d2:=wA hu;rw[zq] at hd;rw[zr] at hb;show Tt.pu (x:= .tup _) p (by rw[zq];lia) (by rw[zr];lia)
   | odd o=>
    show .mk th ln ?_ λz hz=>?_
    .cases o<;>trivial
    .cases o<;>cases hz
  | @inn _ i w w' e h=>
   match i,e with
   | 0,e=>
    cases e
    have o:=ZY h;obtain⟨p,q⟩:=Yt o;show .mk th ln (Cm.od o) λz hz=>?_;have:kids (.tup (w'::[g]))=[]:=wf p q;have hz:z∈kids (.tup (w'::[g])):=hz;rw[this] at hz;cases hz
   | 1,e=>show .mk th ln (HdC.str can4.2.2.1) λz hz=>by cases hz
   | i+2,e=>simp at e
 | @right j g=>
  intro y hp hd hb h;obtain⟨d,D⟩:=ww h hp;have th:Th G y:=⟨d,D.p,η D.e ∅⟩;have ln:nd y<=100000:=by have:=D.n;have:=D.b;lia
  cases h with
  | here h=>
   cases h with
   | lst g=>show .mk th ln trivial λz hz=>by cases hz
   | sub hu hb2=>
    have p:=wz (ws:=[.str "right",.int j,g]) hp hu;have d2:=wA hu;rw[zq] at hd;rw[zr] at hb;show Tt.pu (x:= .tup _) p (by rw[zq];lia) (by rw[zr];lia)
   | odd o=>
    show .mk th ln ?_ λz hz=>?_
    .cases o<;>trivial
    .cases o<;>cases hz
  | @inn _ i w w' e h=>
   match i,e with
   | 0,e=>
    cases e
    have o:=ZY h;obtain⟨p,q⟩:=Yt o;show .mk th ln (Cm.od o) λz hz=>?_;have:kids (.tup (w'::[.int j,g]))=[]:=wf p q;have hz:z∈kids (.tup (w'::[.int j,g])):=hz;rw[this] at hz;cases hz
   | 1,e=>show .mk th ln (HdC.str can4.2.2.2) λz hz=>by cases hz
   | 2,e=>show .mk th ln (HdC.str can4.2.2.2) λz hz=>by cases hz
   | i+3,e=>simp at e
def PT.lack1{D N:Nat}{t:W}(h:PT D N t):PT (D+2) (N+9) (.tup [.str "lacks",.int 0,.tup [t]]):=by
 show⟨⟨can4.1,int0,⟨h.p,trivial⟩,trivial⟩,⟨by simp,trivial,trivial,⟨by simp,h.s,trivial⟩,trivial⟩,.lacks λz hz=>by cases ν.mp hz;show h.t,?_,?_⟩
 .have:=h.d;rw[zq,zf,zf,zf,zq,zf];have e1:dp (.str "lacks")=0:=rfl;have e2:dp (.int 0)=0:=rfl;have e3:dps []=0:=rfl;lia
 .have:=h.b;rw[zr,zc,zc,zc,zr,zc,zF,yH,yc,siz4.1];lia
def shut0:W:= .tup [.str "shut",.tup []]
def PT.shut0:PT 2 6 shut0:=by
 show⟨⟨can4.2.2.1,trivial,trivial⟩,⟨by simp,trivial,⟨by simp,trivial⟩,trivial⟩,.shut,μ _,?_⟩;change bk0 (.tup [.str "shut",.tup []])<=6;rw[zr,zc,zc,zF,yH,zr,zF,siz4.2.2.1];lia
def PT.cut2{D N M:Nat}{s:Int}{a b:W}(hs:s.natAbs<10^40)(ha:PT D M a)(hb:PT D N b):PT (D+1) (M+N+8) (.tup [.str "cut",.int s,.int 0,a,b]):=by
 show⟨⟨can4.2.1,hs,int0,ha.p,hb.p,trivial⟩,⟨by simp,trivial,trivial,trivial,ha.s,hb.s,trivial⟩,.cut ha.t hb.t,?_,?_⟩
 .have:=ha.d;have:=hb.d;rw[zq,zf,zf,zf,zf,zf];have e1:dp (.str "cut")=0:=rfl;have e2:dp (.int s)=0:=rfl;have e2:dp (.int 0)=0:=rfl;have e3:dps []=0:=rfl;lia
 .have:=ha.b;have:=hb.b;rw[zr,zc,zc,zc,zc,zc,zF,yH,yc,yc,siz4.2.1];lia
def spGr:Sp3:=gsp (α:=Addr×Addr) (λx=>[.ref x.1]) (λx G=>TA G x.1 x.2) λx G w G'=> ∃r a b,w= .ref r/\G' r=some (.lst [a,b])/\r≠x.1/\PT 60 30000 a/\PT 60 30000 b/\Fm x.1 x.2 G G'
theorem ok_great:Body (ens [("_law_draw",spDraw)]) xR spGr:=by
 show bd_g fun⟨t,s⟩ G Q E h q=>?_;have ta:TA G t s:=h;show⟨by lia,?_⟩;show cg_r (ok:=λ_=>True) (ρ:=[]) (λ_=>shut0) 500 ∅ trivial ?_ ?_
 .intro i hi Q' q;show⟨sz0,?_⟩;show⟨sz2,q⟩
 intro r hr;have f0:Fm t s G (updG G r (.lst ((List.range 500).map λ_=>shut0))):=(Fm.refl ta).new hr;have g0:updG G r (.lst ((List.range 500).map λ_=>shut0)) r=some (.lst ((List.range 500).map λ_=>shut0)):=updG_same;have nt:=ta.nt hr;rfl';show⟨11,?_⟩;show whI (λm τ G'=> ∃(j:Nat) (r:Addr) (ws:List W),m+j=9/\ws.length<=2^m/\1<=ws.length/\(∀w∈ws,PT (2+j) (14*2^j-8) w)/\τ=[some (.ref t),none,some (.ref r),none,none]/\G' r=some (.lst ws)/\r≠t/\Fm t s G G') 11 9 _ _ ∅ ⟨0,r,_,rfl,by simp,by simp,λw hw=>?_,rfl,g0,nt.1,f0⟩ ?_
 .obtain⟨_,_,rfl⟩:=π.mp hw;show PT.shut0
 clear nt g0 f0 hr r;rintro m τ G' nx ⟨j,r,ws,hm,l1,l2,hw,rfl,g,nt,fm⟩ kk;show⟨_,g,?_⟩;show br_d (λhl=>?_) λhl=>?_
 .have hl:1<ws.length:=by lia
  have m1:m=(m-1)+1:=by
   cases m with
   | zero=>simp at l1;lia
   | succ m=>rfl
  have p2:2^m=2*2^(m-1):=by
   conv=>lhs;rw[m1,Nat.pow_succ]
   lia
  have b512:ws.length<=512:=η l1 (Nat.pow_le_pow_right ∅ (by lia:m<=9));show⟨_,g,?_⟩;show⟨⟨by lia,by lia,by lia,by lia⟩,?_⟩;have ex:(((ws.length:Int)-1-0+1) / 2).toNat=ws.length / 2:=by lia
  rw[ex];show cgT1 (ok:=λ_=>True) (ρ:=[some (.ref r)]) (fun(i:Nat)=>W.int (0+(i:Int)*2)) (λd acc G2=>G2=G'/\acc.length=d.length/\ ∀w∈acc,PT (2+(j+1)) (14*2^(j+1)-8) w) (λ_ _ _ _=>trivial) (List.range (ws.length / 2)) [] [] _ G' (by simp;show zS ∅) ⟨rfl,rfl,λ_ z=>by cases z⟩ ?_ ?_
  .rintro i hi d acc G2 Q' ⟨rfl,la,pa⟩ k;have hi:=Τ.mp hi;have i1:i*2<ws.length:=by lia
   have i2:i*2+1<ws.length:=by lia
   have e1:0+(i:Int)*2=((i*2:Nat):Int):=by lia
   have e2:0+(i:Int)*2+1=((i*2+1:Nat):Int):=by lia
   show .inl ⟨_,_,_,.inl g,rfl,by rw[e1];show yI (χ i1),?_⟩;show .inl ⟨_,_,_,.inl g,rfl,by rw[e2];show yI (χ i2),?_⟩;show⟨sz5,?_⟩;show k _ _ ⟨rfl,by simp[la],λw hw'=>?_⟩;rcases Γ.mp hw' with hw' | hw'
   .show pa w hw'
   .cases ν.mp hw'
    show(PT.cut2 ⋯ (hw _ (Ρ i1)) (hw _ (Ρ i2))).mono ∅ ?_;have:2^(j+1)=2*2^j:=by rw[Nat.pow_succ];lia
    have:1<=2^j:=Nat.one_le_two_pow;lia
  .rintro acc G2 ⟨rfl,la,pa⟩;have la:acc.length=ws.length / 2:=by exists la
   intro r2 h2;have n2:r≠r2:=λz=>by subst z;rw[g] at h2;cases h2
   have f2:=fm.new (o:= .lst acc) h2;have ga:updG G2 r2 (.lst acc) r=some (.lst ws):=(ze n2).trans g;have g2:updG G2 r2 (.lst acc) r2=some (.lst acc):=updG_same;generalize updG G2 r2 (.lst acc)=G3 at*;show⟨_,ga,?_⟩;show⟨⟨by decide,by decide⟩,?_⟩;show⟨y6 ⋯,?_⟩;have e3:(ws.length:Int) / 2*2=((ws.length / 2*2:Nat):Int):=by lia
   rw[e3];show⟨_,.inl ga,λr3 h3=>?_⟩;rw[yh];have n3:r2≠r3:=λz=>by subst z;rw[g2] at h3;cases h3
   have f3:=f2.new (o:= .lst (ws.drop (ws.length / 2*2))) h3;have g23:updG G3 r3 (.lst (ws.drop (ws.length / 2*2))) r2=some (.lst acc):=(ze n3).trans g2;have g3:updG G3 r3 (.lst (ws.drop (ws.length / 2*2))) r3=some (.lst (ws.drop (ws.length / 2*2))):=updG_same;generalize updG G3 r3 (.lst (ws.drop (ws.length / 2*2)))=G4 at*;show⟨_,_,g23,g3,by simp[sizeLine];lia,λr4 h4=>?_⟩;have f4:=f3.new (o:= .lst (acc++ws.drop (ws.length / 2*2))) h4;have n4:=f3.ta.nt h4;rfl';show kk (m-1) _ _ ∅ ⟨j+1,r4,acc++ws.drop (ws.length / 2*2),by lia,by simp;lia,by simp;lia,λw hw'=>?_,rfl,updG_same,n4.1,f4⟩;rcases Γ.mp hw' with hw' | hw'
   .show pa w hw'
   .show(hw w (List.mem_of_mem_drop hw')).mono ∅ ?_;have:2^(j+1)=2*2^j:=by rw[Nat.pow_succ];lia
    lia
 .match ws,l2,hl with
  | w0::ws,_,hl=>
   have p0:PT 11 7160 w0:=(hw w0 Sort).mono ∅ (by
    have:2^j<=2^9:=Nat.pow_le_pow_right ∅ ∅;lia)
   show .inl ⟨_,0,_,.inl g,rfl,yI (i:=0) rfl,?_⟩;rfl';show zy 3 fm.ta ⋯ ⋯ λi G1 i0 i1 f1=>?_;show⟨by lia,?_⟩;show forI (λd τ G'=>Fm t s G G'/\(∃u w,τ=[some (.ref t),u,some (.ref r),some w,none]/\PT (11+2*d.length) (7160+9*d.length) w)) (λ_ _ _ _=>trivial) (rngW 0 i) [] _ _ ⟨fm.trans f1,none,w0,rfl,p0⟩ ?_ ?_
   .rintro x d rr τ G' nx e ⟨fm,u,w,rfl,pw⟩ kk;rfl';show⟨sz1,?_⟩;show⟨sz3,?_⟩;rfl';show kk _ _ ⟨fm,_,_,rfl,pw.lack1.mono (by simp;lia) (by simp;lia)⟩
   .rintro τ G' ⟨fm,u,wide,rfl,pw⟩;have ld:([]++rngW 0 i).length<=2:=by simp[rngW];lia
    have pw:PT 60 30000 wide:=pw.mono ∅ ∅;show⟨sz2,?_⟩;show⟨sz1,?_⟩;show⟨sz2,?_⟩;rfl';show zy 3 fm.ta ⋯ ⋯ λi2 G2 i20 i21 f2=>?_;show⟨by lia,?_⟩;have s1:PT 4 60 (.tup [.str "shut",wtW [(0,1)]]):=PT.shut (λw hw=>by cases ν.mp hw;show⟨by decide,by decide⟩) Sort;obtain⟨n,hn,n40⟩: ∃n:Nat,(38+i2:Int)=n/\n<=40:=⟨(38+i2).toNat,by lia,by lia⟩;rw[hn,vE];show forT (fun(i:Nat)=>W.int (i:Int)) (λd τ G'=>Fm t s G G'/\(∃u w,τ=[some (.ref t),u,some (.ref r),some wide,some w]/\PT (4+d.length+(d.length+2) / 3) (60+14*d.length) w)) (λ_ _ _ _=>trivial) (List.range n) [] _ _ ⟨fm.trans f2,u,_,rfl,s1⟩ ?_ ?_
    .rintro x d rr τ G' nx e ⟨fm,u,w,rfl,pw⟩ kk;have hx:x=d.length:=by
      have e:List.range n=d++x::rr:=e;have h1:(List.range n)[d.length]? =some x:=by rw[e];simp
      have h2:d.length<n:=by have:=congrArg List.length e;simp at this;lia
      rw[List.getElem?_range h2] at h1;show(Α h1).symm
     subst hx;rfl';show⟨by decide,?_⟩;show br_d (λhk=>?_) λhk=>?_
     .left;show⟨by decide,?_⟩;show⟨sz0,?_⟩;show⟨sz2,?_⟩;show⟨sz5,?_⟩;rfl';show kk _ _ ⟨fm,_,_,rfl,(PT.cut2 (θ (show((d.length:Int)%2).natAbs<1000 by lia) ⋯) (PT.shut0.mono ∅ (μ _)) pw).mono ?_ (by simp;lia)⟩;simp only[List.length_append,List.length_cons,List.length_nil];lia
     .left;show⟨sz1,?_⟩;show⟨sz3,?_⟩;rfl';show kk _ _ ⟨fm,_,_,rfl,pw.lack1.mono ?_ (by simp;lia)⟩;simp only[List.length_append,List.length_cons,List.length_nil];lia
    .rintro τ G' ⟨fm,u,deep,rfl,pd⟩;have ld:([]++List.range n).length<=40:=by simp;lia
     show⟨sz2,λr3 h3=>?_⟩;have n3:=fm.ta.nt h3;show bk (q _ _ ⟨r3,wide,deep,rfl,updG_same,n3.1,pw,pd.mono ∅ ∅,fm.new h3⟩) rfl
def papW (ks:List (List Int)) (hs:List Int) (T:W):W:= .tup [keW ks,iT hs,T]
structure PapOk (p:Po) (ks:List (List Int)) (hs:List Int) (T:W):Prop where
 a:ks.length<=9
 b: ∀k∈ks,k.length=p.n/\ ∀y∈k,-2<=y/\y<=2
 c:hs.length=p.n
 d: ∀h∈hs,0<=h/\h<4
 t:PT 60 36000 T
def VC(h: ∀y∈a,y.natAbs<1000):pu (iT a):=yD λx hx=>by
 obtain⟨y,hy,rfl⟩:=π.mp hx;show θ (h y hy) ⋯
def VD:dp (iT a)<=1:=by
 have:dps (a.map W.int)<=0:=yG λx hx=>by
  obtain⟨y,hy,rfl⟩:=π.mp hx;show μ _
 unfold iT;rw[zq];lia
def VE:bk0 (iT a)<=a.length:=by
 have:=wH (ws:=a.map W.int) (N:=0) λx hx=>by
  obtain⟨y,hy,rfl⟩:=π.mp hx;rw[yc];lia
 unfold iT;rw[zr];exists this
def VB{a:List Int}(h:a.length<=100):sh (iT a):=⟨by simpa using h,wB λx hx=>by
 obtain⟨y,hy,rfl⟩:=π.mp hx;trivial⟩
structure PapD (x:W) (D N:Nat):Prop where
 p:pu x
 s:sh x
 d:dp x<=D
 b:bk0 x<=N
def Ys{p:Po}(hp:PoOk p){ks:List (List Int)}{hs:List Int}{T:W}{D N:Nat}(h:PapOk p ks hs T)(ht:PT D N T)(hD:2<=D):PapD (papW ks hs T) (D+1) (N+200):=by
 have h8:p.n<=8:=hp.n8;have k1: ∀x∈ks.map iT,pu x/\sh x/\dp x<=1/\bk0 x<=8:=λx hx=>by
  obtain⟨k,hk,rfl⟩:=π.mp hx;obtain⟨a,b⟩:=h.b k hk;have:=VE (a:=k);show⟨VC λy hy=>by have:=b y hy;lia,VB ∅,VD,by lia⟩
 have pk:pu (keW ks):=yD λx hx=>(k1 x hx).1;have sk:sh (keW ks):=⟨by have:=h.a;simp;lia,wB λx hx=>(k1 x hx).2.1⟩;have dk:dp (keW ks)<=2:=by
  have:=yG (ws:=ks.map iT) λx hx=>(k1 x hx).2.2.1;unfold keW;rw[zq];lia
 have bk:bk0 (keW ks)<=81:=by
  have:=wH (ws:=ks.map iT) λx hx=>(k1 x hx).2.2.2;have:=h.a;unfold keW;rw[zr];rw[ω] at*;lia
 have ph:pu (iT hs):=VC λy hy=>by have:=h.d y hy;lia
 have bh:=VE (a:=hs);have dh:=VD (a:=hs);have hc:=h.c;show⟨⟨pk,ph,ht.p,trivial⟩,⟨by simp,sk,VB ∅,ht.s,trivial⟩,?_,?_⟩
 .have:=ht.d;unfold papW;rw[zq,zf,zf,zf];have e3:dps []=0:=rfl;lia
 .have:=ht.b;unfold papW;rw[zr,zc,zc,zc,zF];lia
def Sh.of(h:BnD G y D N d)(hD:D<=100)(hN:N<=100000):Sh G y:=by
 show⟨d,h.p,h.s,η h.e hD,?_⟩;have:=PyData.shown_le_bulk 91 ⋯ d h.l;have:=h.b;have:sizeLine=16777216:=rfl;lia
theorem tr_T0(ht:IsTr x):pu x->dp x<=90->bk0 x<=90000->Tt G x:=by
 have base: ∀{x:W},pu x->dp x<=90->bk0 x<=90000->Th G x/\Ln x:=λhp hd hb=>⟨Th.pu hp ∅,by have:=Zj _ hp;unfold Ln;lia⟩
 induction ht with
 | @lacks r ts _ ih=>
  intro hp hd hb;obtain⟨th,ln⟩:=base hp hd hb;show .mk th ln (HdC.str can4.1) λz hz=>?_;have hz:z∈ts:=hz;have m1:=zX hz;have m2:=xq hz;rw[zq,zf,zf,zf,zq] at hd;rw[zr,zc,zc,zc,zr] at hb;show ih z hz (zV hp.2.2.1 z hz) ∅ ∅
 | @cut s k a b _ _ iha ihb=>
  intro hp hd hb;obtain⟨th,ln⟩:=base hp hd hb;show .mk th ln (HdC.str can4.2.1) λz hz=>?_;have hz:z∈[a,b]:=hz;rw[zq,zf,zf,zf,zf,zf] at hd;rw[zr,zc,zc,zc,zc,zc] at hb;simp only[List.mem_cons,List.not_mem_nil,or_false] at hz;rcases hz with rfl | rfl
  .show iha hp.2.2.2.1 ∅ ∅
  .show ihb hp.2.2.2.2.1 ∅ ∅
 | shut=>
  intro hp hd hb;obtain⟨th,ln⟩:=base hp hd hb;show .mk th ln (HdC.str can4.2.2.1) λz hz=>by cases hz
 | right=>
  intro hp hd hb;obtain⟨th,ln⟩:=base hp hd hb;show .mk th ln (HdC.str can4.2.2.2) λz hz=>by cases hz
def Wp{p:Po}{a:Ak}{G:Gp}{ks:List (List Int)}{hs:List Int}{T:W}(hp:PoOk p)(ha:AkOk p.ip.length a)(h:PapOk p ks hs T):RtOk p a (papW ks hs T) G:=by
 have d:=Ys hp h h.t ∅;have tt:Tt G T:=tr_T0 h.t.t h.t.p (η h.t.d ∅) (η h.t.b ∅);show⟨hp,ha,Sh.of (BnD.pu (G:=G) d.p d.d d.b) ∅ ∅,by have:=Zj _ d.p;have:=d.b;unfold Ln;lia,tt,X1 _ d.p⟩
theorem pap_bn{p:Po}(hp:PoOk p){G:Gp}{ks:List (List Int)}{hs:List Int}{T y:W}(h:PapOk p ks hs T)(ht:PT 10 36000 T)(b:Bn G (papW ks hs T) y):TrT G y:=by
 have d:=Ys hp h ht ∅;have tT:Tt G T:=Tt.pu ht.p (η ht.d ∅) (η ht.b ∅);cases b with
 | here r=>
  cases r with
  | lst g=>trivial
  | @sub _ us hu hb=>
   match us,hu,hb with
   | [],_,_=>trivial
   | [_],_,_=>trivial
   | [_,_],_,_=>trivial
   | _::_::_::_::_,_,_=>trivial
   | [u1,u2,u3],hu,hb=>
    have p:=wz (ws:=[keW ks,iT hs,T]) d.p hu;have d2:=wA hu;have dd:=d.d;have bb:=d.b;unfold papW at dd bb;rw[zq] at dd;rw[zr] at bb;have m1:dp u3<=dps [u1,u2,u3]:=zX Sort;have m2:bk0 u3+1<=bks [u1,u2,u3]:=xq Sort;have k:Tt G u3:=Tt.pu p.2.2.1 ∅ ∅;show k
  | odd o=>cases o<;>trivial
 | @inn _ i w w' e h2=>
  match i,e with
  | 0,e=>show tT
  | 1,e=>show tT
  | 2,e=>
   cases e
   show tr_Tt ht.t ht.p (η ht.d ∅) (η ht.b ∅) h2
  | i+3,e=>simp at e
def rt_bn{p:Po}{a:Ak}{G:Gp}{ks:List (List Int)}{hs:List Int}{T y:W}(hp:PoOk p)(ha:AkOk p.ip.length a)(h:PapOk p ks hs T)(ht:PT 10 36000 T)(b:Bn G (papW ks hs T) y):RtOk p a y G:=by
 have d:=Ys hp h ht ∅;obtain⟨x,D⟩:=ww b d.p;have dd:=d.d;have bb:=d.b;have db:=D.b;have dn:=D.n;show⟨hp,ha,Sh.of D ∅ ∅,by unfold Ln;lia,pap_bn hp h ht b,D.w⟩
def GdO (o:HW):Prop:=o= .dK []\/ ∃ws,o= .lst ws/\pus ws
def Fm.gd(ta:TA G t s)(f:Fm t s G G'): ∀b o,GdO o->G b=some o->G' b=some o:=λb o h e=>by
 obtain⟨n,m,g⟩:=ta.t;show f.k b o (λz=>?_) e;subst z;rw[g] at e;cases e
 rcases h with h | ⟨ws,h,p⟩
 .cases h
 .cases h;show p.1
theorem Od.up(f: ∀b o,GdO o->G b=some o->G' b=some o)(h:Od G y):Od G' y:=by
 cases h with
 | non=>show .non
 | bl b=>show .bl b
 | int h=>show .int h
 | str a b c d=>show .str a b c d
 | tup=>show .tup
 | lst h=>show .lst (f _ _ (.inr ⟨_,rfl,trivial⟩) h)
 | dic h=>show .dic (f _ _ (.inl rfl) h)
theorem Bn.up(f: ∀b o,GdO o->G b=some o->G' b=some o)(h:Bn G x y):pu x->Bn G' x y:=by
 induction h with
 | here h=>
  intro hp;cases h with
  | @lst ws r h=>show .here (.lst (f _ _ (.inr ⟨_,rfl,hp⟩) h))
  | sub a b=>show .here (.sub a b)
  | int a=>show .here (.int a)
  | intB=>show .here .intB
  | intS a b=>show .here (.intS a b)
  | odd o=>show .here (.odd (o.up f))
 | inn e _ ih=>show λhp=> .inn e (ih (zV (show pus _ from hp) _ (Β e)))
def Fm.ofS(ta:TA G t s)(h:SubG G G'):Fm t s G G':=by
 obtain⟨n,m,g⟩:=ta.t;obtain⟨ns,g'⟩:=ta.s;show⟨λb o _ e=>h b o e,ta.ne,⟨n,m,h _ _ g⟩,⟨ns,h _ _ g'⟩⟩
theorem sz_ok:SzOk (sza a):=by
 have h2:SzOk [2]:=⟨by decide,by decide,by decide⟩;have h3:SzOk [3,3]:=⟨by decide,by decide,by decide⟩;have h4:SzOk [4,3,3]:=⟨by decide,by decide,by decide⟩;cases a with
 | sum l=>show h2
 | part l m=>show h2
 | two w l k=>
  change SzOk (if w="same" then [4,3,3] else [3,3]);split
  .show h4
  .show h3
def TgO (p:Po) (G:Gp) (ks:List (List Int)) (hs:List Int) (T y:W):Prop:=(∃ks',y=papW ks' hs T/\PapOk p ks' hs T)\/Bn G (papW ks hs T) y
def TgO.up{p:Po}(hp:PoOk p){G G':Gp}(f: ∀b o,GdO o->G b=some o->G' b=some o){ks:List (List Int)}{hs:List Int}{T y:W}(ok:PapOk p ks hs T)(ht:PT 10 36000 T)(h:TgO p G ks hs T y):TgO p G' ks hs T y:=h.imp id λb=>b.up f (Ys hp ok ht ∅).p
def TgO.rt{p:Po}{a:Ak}{G:Gp}(hp:PoOk p)(ha:AkOk p.ip.length a){ks:List (List Int)}{hs:List Int}{T y:W}(ok:PapOk p ks hs T)(ht:PT 10 36000 T)(h:TgO p G ks hs T y):RtOk p a y G:=by
 rcases h with ⟨ks',rfl,ok'⟩ | b
 .show Wp hp ha ok'
 .show rt_bn hp ha ok ht b
def po0:Po:=⟨["a","b"],[([1,0],[0,1])],[0],[0,0],1⟩
def po0_ok:PoOk po0:=by
 show⟨by decide,by decide,by decide,by decide,?_,by decide,by decide,by decide,by decide,by decide,by decide,by decide,by decide,by decide⟩;intro r hr;cases ν.mp hr
 show⟨1,by decide,by decide⟩
def ak0:Ak:= .sum ([1],0)
def ak0_ok:AkOk po0.ip.length ak0:=⟨rfl,by decide,by decide⟩
def pap0_ok{T:W}(h:PT 60 30000 T):PapOk po0 [[1,1]] [2,1] T:=⟨by decide,by decide,by decide,by decide,h.mono ∅ ∅⟩
def spLaw:Sp3:=gsp (α:=Addr×List Int) (λx=>[.ref x.1]) (λx G=>G x.1=some (.flst (x.2.map W.int))) λ_ _ w _=>w= .bl true
def ok_law:Body (ens [("_law_tape",ZA),("_law_pot",Xe),("_law_ask",Xi),("_law_draw",spDraw),("_law_tree",y0 4),("_law_sizes",spSz),("_law_kepts",Xg),("_law_odd",Zd),("_law_bent",xx 12),("_law_right",spRt),("_law_great",spGr)]) x_law spLaw:=by
 show bd_g fun⟨a,ns⟩ G Q E h q=>?_;have q: ∀G',Q (.bl true) G':=λG'=>q _ _ rfl;show zD (a,ns) h ?_;rintro _ G0 ⟨t,s,rfl,ta0,s0⟩;rfl';show⟨by lia,?_⟩;show forI (λd τ G'=>Fm t s G0 G'/\ ∃u1 u2 u3 u4 u5 u6 u7 u8 u9,τ=[some (.ref a),some (.ref t),u1,u2,u3,u4,u5,u6,u7,u8,u9]) (λ_ _ _ _=>trivial) (rngW 0 2) [] _ _ ⟨Fm.refl ta0,_,_,_,_,_,_,_,_,_,rfl⟩ ?_ ?_
 .rintro x d rr τ G1 nx e ⟨f1,u1,u2,u3,u4,u5,u6,u7,u8,u9,rfl⟩ kk;rfl';show zD (t,s) f1.ta ?_;rintro _ G2 ⟨p,rfl,hp,f2⟩;have h3:=hp.i3;have h8:p.nm.length<=8:=hp.n8;rfl';right;left;rw[ω];show zD (t,s,p.ip.length) ⟨f2.ta,by change p.ip.length<=1000;lia⟩ ?_;rintro _ G3 ⟨ak,rfl,ha,f3⟩;rfl';right;show vV (t:=t) (s:=s) (ok:=λ_=>True) (ρ:=[some (.ref t)]) W.int (λy=>0<=y/\y<4) (p.nm.map W.str) (by simp;lia) (λ_ _=>trivial) f3.ta ?_ ?_
  .intro k G' Q' fm kk;show zy 4 fm.ta ⋯ ⋯ λi G3 i0 i1 f1=>?_;show kk i G3 ⟨i0,i1⟩ (fm.trans f1)
  intro hs G4 lh ph f4;rw[ω] at lh;rfl';show zD ak ⟨_,ha⟩ ?_;rintro _ G5 ⟨sr,rfl,hsr,sg5,gs5⟩;have f5:=Fm.ofS f4.ta sg5;have nsr:=(f4.ta.nt hsr).1;show zy 4 f5.ta ⋯ ⋯ λi G6 i0 i1 f6=>?_;obtain⟨k,hk,k1,k4⟩: ∃k:Nat,(1+i:Int)=k/\1<=k/\k<=4:=⟨(1+i).toNat,by lia,by lia,by lia⟩;left;rw[hk];show zD (t,s,p,sr,sza ak,k) ⟨⟨f6.ta,hp,f6.k _ _ nsr gs5,nsr,sz_ok⟩,k1,k4⟩ ?_;rintro T G7 ⟨pt,f7⟩;have pt:PT 10 36000 T:=PT.mono pt (by change 2*k+2<=10;lia) (η (Nk_mono (show k<=4 from k4)) ⋯);rfl';show zy 9 f7.ta ⋯ ⋯ λj G8 j0 j1 f8=>?_;obtain⟨m,rfl,m8⟩: ∃m:Nat,j=m/\m<=8:=⟨j.toNat,by lia,by lia⟩;show zD (t,s,p,m) ⟨f8.ta,hp,by change m<=1000;lia⟩ ?_;rintro _ G9 ⟨ks,rfl,lk,pk,f9⟩;have lk:ks.length=m:=lk;show⟨sz3,?_⟩;have ok:PapOk p ks hs T:=⟨by lia,pk,lh,ph,pt.mono ∅ (μ _)⟩;have pd:=Ys hp ok pt ∅;rfl';intro r1 h1;have n1:=f9.ta.nt h1;have fA:=(Fm.refl f9.ta).new (o:= .lst [keW ks,iT hs,T]) h1;have gA:updG G9 r1 (.lst [keW ks,iT hs,T]) r1=some (.lst [keW ks,iT hs,T]):=updG_same;show⟨by change 3<=1000;lia,?_⟩;have ec:cutW [keW ks,iT hs,T] none (some 2)=[keW ks,iT hs]:=by
   change cutW _ none (some ((2:Nat):Int))=_;rw[xp];rfl
  show zD (t,s) fA.ta ?_;rintro o GB ⟨od,fB⟩;show zD (t,s,p,9) ⟨fB.ta,hp,by change 9<=1000;lia⟩ ?_;rintro _ GC ⟨ks9,rfl,lk9,pk9,fC⟩;have lk9:ks9.length=9:=lk9;show⟨sz3,?_⟩;show⟨sz5,λrl hrl=>?_⟩;have nl:=fC.ta.nt hrl;have fAC:=fA.trans (fB.trans fC);have hl9:=fAC.none hrl;have fD:=fAC.new (o:= .lst [papW ks hs T,.ref r1,.tup (cutW [keW ks,iT hs,T] none (some 2)),o,papW ks9 hs T]) hrl;have gD:updG GC rl (.lst [papW ks hs T,.ref r1,.tup (cutW [keW ks,iT hs,T] none (some 2)),o,papW ks9 hs T]) rl=some (.lst [papW ks hs T,.ref r1,.tup (cutW [keW ks,iT hs,T] none (some 2)),o,papW ks9 hs T]):=updG_same;have fCD:=(Fm.refl fC.ta).new (o:= .lst [papW ks hs T,.ref r1,.tup (cutW [keW ks,iT hs,T] none (some 2)),o,papW ks9 hs T]) hrl;have t0: ∀y∈[papW ks hs T,.ref r1,.tup (cutW [keW ks,iT hs,T] none (some 2)),o,papW ks9 hs T],TgO p (updG GC rl (.lst [papW ks hs T,.ref r1,.tup (cutW [keW ks,iT hs,T] none (some 2)),o,papW ks9 hs T])) ks hs T y:=λy hy=>by
   simp only[List.mem_cons,List.not_mem_nil,or_false] at hy;rcases hy with rfl | rfl | rfl | rfl | rfl
   .show .inl ⟨ks,rfl,ok⟩
   .show .inr (.here (.lst (fCD.k _ _ n1.1 ((fB.trans fC).k _ _ n1.1 gA))))
   .rw[ec];show .inr (.here (.sub (λu hu=> .inl ?_) ?_))
    .simp only[List.mem_cons,List.not_mem_nil,or_false] at hu ⊢;rcases hu with rfl | rfl
     .show .inl rfl
     .show .inr (.inl rfl)
    .rw[zc,zc,zF,zc,zc,zc,zF];lia
   .show .inr (.here (.odd (od.up (Fm.gd fB.ta (fC.trans fCD)))))
   .show .inl ⟨ks9,rfl,by lia,pk9,lh,ph,pt.mono ∅ (μ _)⟩
  have f09:=f1.trans (f2.trans (f3.trans (f4.trans (f5.trans (f6.trans (f7.trans (f8.trans f9)))))));rfl';show⟨by lia,?_⟩;show forI (λd τ G'=>Fm t s G9 G'/\(∃u,τ=[some (.ref a),some (.ref t),some x,some (pW p),some (aW ak),some (iT hs),some T,some (papW ks hs T),some (.ref rl),u,u9])/\ ∃ys:List W,G' rl=some (.lst ys)/\.ref r1∈ys/\ys.length<=5+d.length/\ ∀y∈ys,TgO p G' ks hs T y) (λ_ _ _ _=>trivial) (rngW 0 8) [] _ _ ⟨fD,⟨_,rfl⟩,[papW ks hs T,.ref r1,.tup (cutW [keW ks,iT hs,T] none (some 2)),o,papW ks9 hs T],gD,by simp,by simp,t0⟩ ?_ ?_
  .rintro x2 d2 rr2 τ G' nx2 e2 ⟨fm,⟨u,rfl⟩,ys,gy,my,ly,ty⟩ kk2;have ld:d2.length<8:=by
    have:=congrArg List.length (show rngW 0 8=d2++x2::rr2 from e2);simp[rngW] at this;lia
   rfl';show⟨⟨_,gy⟩,?_⟩;show zD (t,s,papW ks hs T) ⟨⟨fm.ta,pd.p,pd.s⟩,Nat.lt_of_le_of_lt pd.d ∅⟩ ?_;rintro y G2 ⟨bn,f2'⟩;have g2:=f2'.k _ _ nl.1 gy;show .inl ⟨rfl,_,g2,by simp[sizeLine];lia,?_⟩;have fe:=(fm.trans f2').upd (o:= .lst (ys++[y])) nl.1 nl.2 hl9;have k2: ∀b o,GdO o->G2 b=some o->updG G2 rl (.lst (ys++[y])) b=some o:=λb o ho e=>by
    rw[ze (λz=>by
     subst z;rw[g2] at e;cases e
     rcases ho with ho | ⟨ws,ho,pw⟩
     .cases ho
     .cases ho;show zV pw _ my)]
    show e
   show kk2 _ _ ⟨fe,⟨_,rfl⟩,ys++[y],updG_same,Ψ _ my,by simp;lia,λz hz=>?_⟩;rcases Γ.mp hz with hz | hz
   .show TgO.up hp (λb o ho e=>k2 b o ho (Fm.gd fm.ta f2' b o ho e)) ok pt (ty z hz)
   .cases ν.mp hz
    show .inr (bn.up k2 pd.p)
  .rintro τ G' ⟨fm,⟨u,rfl⟩,ys,gy,my,ly,ty⟩;show⟨_,gy,.inl ?_⟩;show forI (λd τ G2=>G2=G'/\ ∃w,τ=[some (.ref a),some (.ref t),some x,some (pW p),some (aW ak),some (iT hs),some T,some (papW ks hs T),some (.ref rl),u,w]) (λd τ G2 i=>by rw[i.1];show gy) ys [] _ _ ⟨rfl,_,rfl⟩ ?_ ?_
   .rintro y d2 rr2 τ G2 nx2 e2 ⟨rfl,w,rfl⟩ kk2;have my:y∈ys:=by rw[show ys=d2++y::rr2 from e2];simp
    rfl';show zd (p,ak,y) (TgO.rt hp ha ok pt (ty y my)) ?_;show br_f ?_;show kk2 _ _ ⟨rfl,_,rfl⟩
   .rintro τ G2 ⟨rfl,w,rfl⟩;show kk _ _ ⟨f09.trans fm,_,_,_,_,_,_,_,_,_,rfl⟩
 .rintro τ G1 ⟨f1,u1,u2,u3,u4,u5,u6,u7,u8,u9,rfl⟩;show⟨sz2,?_⟩;show⟨sz2,?_⟩;show⟨sz2,?_⟩;show⟨sz2,?_⟩;show⟨sz1,?_⟩;show⟨sz1,?_⟩;show⟨sz2,?_⟩;show⟨sz5,?_⟩;rfl';show zD (t,s) f1.ta ?_;rintro _ G2 ⟨r,A,B,rfl,gr,nr,pA,pB,f2⟩;show⟨_,gr,.inl ?_⟩;show forI (λd τ G3=>G3=G2/\ ∃w,τ=[some (.ref a),some (.ref t),u1,some (pW po0),u3,u4,w,u6,u7,u8,u9]) (λd τ G3 i=>by rw[i.1];show gr) [A,B] [] _ _ ⟨rfl,_,rfl⟩ ?_ ?_
  .rintro y d2 rr2 τ G3 nx2 e2 ⟨rfl,w,rfl⟩ kk2;have my:PT 60 30000 y:=by
    have:y∈[A,B]:=by rw[show [A,B]=d2++y::rr2 from e2];simp
    simp only[List.mem_cons,List.not_mem_nil,or_false] at this;rcases this with rfl | rfl
    .show pA
    .show pB
   rfl';show⟨sz1,?_⟩;show⟨sz2,?_⟩;show⟨sz2,?_⟩;show⟨sz2,?_⟩;show⟨sz1,?_⟩;show⟨sz2,?_⟩;show⟨sz3,?_⟩;show zd (po0,ak0,papW [[1,1]] [2,1] y) (Wp po0_ok ak0_ok (pap0_ok my)) ?_;show br_f ?_;show kk2 _ _ ⟨rfl,_,rfl⟩
  .rintro τ G3 ⟨rfl,w,rfl⟩;show back.mk (q _)
end L3
namespace L2
open PySem PySem.Spec PyProof.Rows
def FnAt (K:W.Frag) (x:Str) (st:Stmt):Prop:= ∃(f:Addr) (oc:Value) (od:Option Addr) (kV doc pm:Value) (an:Option Addr) (cdv ct:Value) (osl:Array (Option Value)),W.nsIn K mainGlobals x=some (some (.ref f))/\
 K.lookup f=some ⟨oc,od,.func (W.fnOf x x (zO st) (zE st) (zl st) .none kV doc pm an cdv ct),osl⟩/\W.codeIn K cdv x=true/\W.keepIn K (.ref f)=true
def fnAt{K:W.Frag}{x:Str}{st:Stmt}{f:Addr}{oc:Value}{od:Option Addr}{kV doc pm:Value}{an:Option Addr}{cdv ct:Value}{osl:Array (Option Value)}(a:W.nsIn K mainGlobals x=some (some (.ref f)))
  (l:K.lookup f=some ⟨oc,od,.func (W.fnOf x x (zO st) (zE st) (zl st) .none kV doc pm an cdv ct),osl⟩) (c:W.codeIn K cdv x=true) (k:W.keepIn K (.ref f)=true):FnAt K x st:=⟨_,_,_,_,_,_,_,_,_,_,a,l,c,k⟩
def NoIn (K:W.Frag) (x:Str):Prop:=W.nsIn K mainGlobals x=some none
def IntIn (K:W.Frag) (x:Str) (i:Int):Prop:= ∃t,W.nsIn K mainGlobals x=some (some (.int i t))
def noIn{K:W.Frag}{x:Str}(h:W.nsIn K mainGlobals x=some none):NoIn K x:=h
def noAttr{K:W.Frag}{C:Addr}{x:Str}(h:W.findIn K (.ref C) x=some none):ye K C x:=h
def intIn{K:W.Frag}{x:Str}{i:Int}{t:Tok}(h:W.nsIn K mainGlobals x=some (some (.int i t))):IntIn K x i:=⟨_,h⟩
section
variable {P:Program} {w:World} {K:W.Frag} {mg:Str->Option Value} {base h:Heap} {x:Str} {st:Stmt} {ps:List Str}
def NoIn.get(z:NoIn K x)(X:K.In h)(G:h.Ns mainGlobals mg):mg x=none:=W.mg_none_of X G z
def IntIn.get(z:IntIn K x i)(X:K.In h)(G:h.Ns mainGlobals mg): ∃t,mg x=some (.int i t):=let ⟨t,e⟩:=z;⟨t,W.mg_of X G e⟩
def FnAt.law{l:W.OpenLaw}{k:Nat}{sp:Sp}{fa:Addr}{a:Str}(A:FnAt K x st)(X:K.In h)(G:h.Ns mainGlobals mg)(hfa:mg x=some (.ref fa))
  (b: ∀(kV doc pm:Value) (an:Option Addr) (cdv ct:Value) (s:Shared) (v:Value),BindsTo s (W.fnOf x x (zO st) (zE st) (zl st) .none kV doc pm an cdv ct) ⟨[v],[]⟩ [(a,v)])
  (ok: ∀base:Heap,K.In base->base.Ns mainGlobals mg-> ∀{f fd},Fun K x x st f fd->FnOk l.prog w K mg base CX0 k f fd [a] sp):
  ∃fd:FuncData,(∀(s:Shared) (v:Value),BindsTo s fd ⟨[v],[]⟩ [(a,v)])/\ ∀base:Heap,K.In base->base.Ns mainGlobals mg->FnOk l.prog w K mg base CX0 k fa fd [a] sp:=by
 obtain⟨f,oc,od,kV,doc,pm,an,cdv,ct,osl,e,l,c,k⟩:=A;cases hfa.symm.trans (W.mg_of X G e)
 show⟨_,b _ _ _ _ _ _,λbase h1 h2=>ok base h1 h2 (ZR (st:=st) l c k)⟩
end
def VP (K:W.Frag) (C:Addr) (m q:Str) (st:Stmt):Prop:= ∃(f:Addr) (oc:Value) (od:Option Addr) (kV doc pm:Value) (an:Option Addr) (cdv ct:Value) (osl:Array (Option Value)),W.findIn K (.ref C) m=some (some (.ref f))/\
 K.lookup f=some ⟨oc,od,.func (W.fnOf m q (zO st) (zE st) (zl st) .none kV doc pm an cdv ct),osl⟩/\W.codeIn K cdv q=true/\W.isFn K (.ref f)=true/\W.keepIn K (.ref f)=true
def mthAt{K:W.Frag}{C:Addr}{m q:Str}{st:Stmt}{f:Addr}{oc:Value}{od:Option Addr}{kV doc pm:Value}{an:Option Addr}{cdv ct:Value}{osl:Array (Option Value)}(a:W.findIn K (.ref C) m=some (some (.ref f)))
  (l:K.lookup f=some ⟨oc,od,.func (W.fnOf m q (zO st) (zE st) (zl st) .none kV doc pm an cdv ct),osl⟩) (c:W.codeIn K cdv q=true) (i:W.isFn K (.ref f)=true) (k:W.keepIn K (.ref f)=true):VP K C m q st:=
 ⟨_,_,_,_,_,_,_,_,_,_,a,l,c,i,k⟩
end L2
namespace L3
open PySem PySem.Spec PyProof.Rows L2
theorem ac0{Q:List Value->Prop}{us:List Value}(hl:us.length=0)(h:Q []):Q us:=by
 cases us with
 | nil=>show h
 | cons a t=>cases hl
theorem acS{Q:List Value->Prop}{us:List Value}(hl:us.length=n+1)(h: ∀a t,t.length=n->Q (a::t)):Q us:=by
 cases us with
 | nil=>cases hl
 | cons a t=>show h a t (Nat.succ.inj hl)
def ac1{Q:List Value->Prop}{us:List Value}(hl:us.length=1)(h: ∀a,Q [a]):Q us:=acS hl λa t e=>ac0 (Q:=λt=>Q (a::t)) e (h a)
def ac2{Q:List Value->Prop}{us:List Value}(hl:us.length=2)(h: ∀a b,Q [a,b]):Q us:=acS hl λa t e=>ac1 (Q:=λt=>Q (a::t)) e (h a)
def ac3{Q:List Value->Prop}{us:List Value}(hl:us.length=3)(h: ∀a b c,Q [a,b,c]):Q us:=acS hl λa t e=>ac2 (Q:=λt=>Q (a::t)) e (h a)
def ac4{Q:List Value->Prop}{us:List Value}(hl:us.length=4)(h: ∀a b c d,Q [a,b,c,d]):Q us:=acS hl λa t e=>ac3 (Q:=λt=>Q (a::t)) e (h a)
def ac5{Q:List Value->Prop}{us:List Value}(hl:us.length=5)(h: ∀a b c d e,Q [a,b,c,d,e]):Q us:=acS hl λa t e=>ac4 (Q:=λt=>Q (a::t)) e (h a)
def Vz:Value->Bool
 | .type n=>n=="list"
 | _=>false
def Xx (K:W.Frag):Bool:=K.all λp=> !Vz p.2.cls
theorem Xn{K:W.Frag}{H:Hp}{a:Addr}{xs:List V}(h:Xx K=true)(hS:SqL K H a xs):Rd H a (.lst xs):=by
 rcases hS with r | ⟨o,its,n,e,c,_⟩
 .show r
 .exfalso;have m: ∀{l:List (Addr×Obj)},l.lookup a=some o->(a,o)∈l:=λ{l} e=>by
   induction l with
   | nil=>cases e
   | cons x l ih=>
    obtain⟨b,u⟩:=x;rw[Ο] at e;split at e
    .rename_i z;cases e;cases (beq_iff_eq.mp z);show ξ
    .show ζ _ (ih e)
  have:=List.all_eq_true.mp h _ (m e);simp only[c,Vz] at this;cases this
section
variable {K:W.Frag}
def HF (P:Program) (w:World) (K:W.Frag) (mg:Str->Option Value) (base:Heap) (k:Nat) (l:List (Str×Sp3)):Prop:= ∀x sp,l.lookup x=some sp-> ∃j ps,j<=k/\HasX P w K mg base j x ps (up sp)
def HF.nil:HF P w K mg base k []:=λx sp e=>by cases e
def HF.cons(hj:j<=k)(h:HasX P w K mg base j x ps (up sp))(r:HF P w K mg base k l):HF P w K mg base k ((x,sp)::l):=λy s e=>by
 rw[Ο] at e;split at e
 .rename_i z
  cases e
  cases (beq_iff_eq.mp z)
  show⟨j,ps,hj,h⟩
 .show r y s e
def WJ{l:List (Str×Sp3)}(sm:SysK K)(bl: ∀x,bltNs.contains x=true->mg x=none):Md {sp:=λx=>l.lookup x,kv:=λx=>([]:List (Str×W)).lookup x} K mg:=
 {fl:=λx w e=>(by cases e),cl:=λx C ns e=>(by cases e),sm:=sm,cn:=λx D e=>(by cases e),sub:=λc x b e=>(by cases e),fd:=λc f e=>(by cases e),bl:=bl,ks:=λx w e=>(by cases e),cnm:=λx D e=>(by cases e)}
structure Dok (fns ks cls:List Str) (ki:List (Str×Int)) (st:Stmt) (n p:List Str) (r:Sx):Prop where
 S:FnScope n p (zl st)
 l: ∀y∈n,Loc (zl st) y
 c:cSs 40 ⟨zl st,n,fns,ks,cls,ki⟩ (zE st)=some r
def dk{fns ks cls:List Str}{ki:List (Str×Int)}{st:Stmt}{n p:List Str}{r:Sx}
  (a:decide ((zl st).kind= .function/\(zl st).isCoroutine=false/\(zl st).isGenerator=false/\n.Nodup/\n.take p.length=p/\(∀x∈p,(zl st).names.lookup x=some .local\/(zl st).names.lookup x=some .cell)/\(∀y∈(zl st).names,y.2≠.free)/\ ∀x∈n,(zl st).names.lookup x=some .local\/(zl st).names.lookup x=some .cell)=true:=by kernel_rfl)
  (b:cSs 40 ⟨zl st,n,fns,ks,cls,ki⟩ (zE st)=some r:=by kernel_rfl):Dok fns ks cls ki st n p r:=by
 obtain⟨h1,h2,h3,h4,h5,h6,h7,h8⟩:=of_decide_eq_true a;show⟨⟨h1,h2,h3,h4,h5,h6,h7⟩,h8,b⟩
def FnAt.hasX{k:Nat}{N:En}{x:Str}{st:Stmt}{n p:List Str}{r:Sx}{sp:Sp3}{fns ks cls:List Str}{ki:List (Str×Int)}(A:FnAt K x st)(X:K.In h)(G:h.Ns mainGlobals mg)
  (b: ∀(kV doc pm:Value) (an:Option Addr) (cdv ct:Value) (us:List Value),us.length=p.length->bindArgs (W.fnOf x x (zO st) (zE st) (zl st) .none kV doc pm an cdv ct) ⟨us,[]⟩=pure (p.zip us))
  (D:Dok fns ks cls ki st n p r) (hki: ∀x v,ki.lookup x=some v-> ∃u,mg x=some u/\RelV (V.int v) u) (M:Md N K mg) (hf: ∀x sp,N.sp x=some sp-> ∃j ps,j<=k/\HasX P w K mg base j x ps (up sp))
  (hcl: ∀x C ns,N.cl x=some (C,ns)-> ∃j ps,j+1<=k/\HasC P w K mg base j x C ps (spXi K ns)) (hlen: ∀a,(sp.enc a).length=p.length) (B:Body N ⟨.Pass ⟨0,0,0,0⟩,n,p,r⟩ sp):HasX P w K mg base (k+1) x p (up sp):=by
 obtain⟨f,oc,od,kV,doc,pm,an,cdv,ct,osl,a,l,c,kp⟩:=A;have F:=ZR (st:=st) l c kp;show⟨f,_,WV (t:=⟨st,n,p,r⟩) F D.S D.l hki D.c M hf hcl hlen B,W.mg_of X G a,kp,F.binds b⟩
def FnAt.hasY{k:Nat}{N:En}{x:Str}{st:Stmt}{n p:List Str}{r:Sx}{sp:Sp3}{fns ks cls:List Str}{ki:List (Str×Int)}{l:List (Str×Sp3)}(A:FnAt K x st)(X:K.In h)(G:h.Ns mainGlobals mg)
  (b: ∀(kV doc pm:Value) (an:Option Addr) (cdv ct:Value) (us:List Value),us.length=p.length->bindArgs (W.fnOf x x (zO st) (zE st) (zl st) .none kV doc pm an cdv ct) ⟨us,[]⟩=pure (p.zip us))
  (D:Dok fns ks cls ki st n p r) (hki: ∀x v,ki.lookup x=some v-> ∃u,mg x=some u/\RelV (V.int v) u) (M:Md N K mg) (hf:HF P w K mg base k l)
  (hcl: ∀x C ns,N.cl x=some (C,ns)-> ∃j ps,j+1<=k/\HasC P w K mg base j x C ps (spXi K ns)) (hN: ∀x,N.sp x=l.lookup x) (hlen: ∀a,(sp.enc a).length=p.length) (B:Body N ⟨.Pass ⟨0,0,0,0⟩,n,p,r⟩ sp):HasX P w K mg base (k+1) x p (up sp):=
 FnAt.hasX A X G b D hki M (λx s e=>hf x s (by rw[<-hN x];show e)) hcl hlen B
def FnAt.noX{k:Nat}{x:Str}{st:Stmt}{p:List Str}{sp:Sp3}(A:FnAt K x st)(X:K.In h)(G:h.Ns mainGlobals mg)
  (b: ∀(kV doc pm:Value) (an:Option Addr) (cdv ct:Value) (us:List Value),us.length=p.length->bindArgs (W.fnOf x x (zO st) (zE st) (zl st) .none kV doc pm an cdv ct) ⟨us,[]⟩=pure (p.zip us))
  (n: ∀a G,¬sp.pre a G):HasX P w K mg base k x p (up sp):=by
 obtain⟨f,oc,od,kV,doc,pm,an,cdv,ct,osl,a,l,c,kp⟩:=A;have F:=ZR (st:=st) l c kp;have no: ∀vs H Q E,up sp vs H Q E->False:=λvs H Q E ⟨ws,G,_,_,q⟩=>by
  rw[y1] at q;obtain⟨a,_,pre,_⟩:=q;show n a G pre
 show⟨f,_,⟨λ_ _ _ _ h=>(no _ _ _ _ h).elim,λ_ _ _ _ _ _ _ _ _ _ _ _ _ h=>(no _ _ _ _ h).elim⟩,W.mg_of X G a,kp,F.binds b⟩
def KI (K:W.Frag) (ki:List (Str×Int)):Prop:= ∀x v,ki.lookup x=some v->IntIn K x v
def KI.nil:KI K []:=λx v e=>by cases e
def KI.cons(h:IntIn K x v)(r:KI K ki):KI K ((x,v)::ki):=λy u e=>by
 rw[Ο] at e;split at e
 .rename_i z
  cases e
  cases (beq_iff_eq.mp z)
  show h
 .show r y u e
def KI.get(k:KI K ki)(X:K.In h)(G:h.Ns mainGlobals mg): ∀x v,ki.lookup x=some v-> ∃u,mg x=some u/\RelV (V.int v) u:=λx v e=>by
 obtain⟨t,e⟩:=(k x v e).get X G;show⟨_,e,t,rfl⟩
def XD:Sp3:={α:=Addr×List Int,enc:=λx=>[.ref x.1],pre:=λx G=>G x.1=some (.flst (x.2.map W.int)),post:=λ_ _ w _=>w= .bl true}
theorem law_up{ns:List Int}(hr:Rd H a (.lst (ns.map V.int))):up XD [.ref a] H (λv _=>v= .bl true) E0:=by
 have rv: ∀l:List Int,Rvs H (l.map W.int) (l.map V.int):=λl=>by
  induction l with
  | nil=>show .nil
  | cons x l ih=>show .cons (.int x) ih
 show⟨[.ref a],λb=>if b=a then some (.flst (ns.map W.int)) else none,.cons (.ref a) .nil,λb o e=>?_,?_⟩
 .have e:(if b=a then some (HW.flst (ns.map W.int)) else none)=some o:=e;by_cases z:b=a
  .rw[if_pos z] at e;cases Α e
   rw[z];show⟨_,hr,rv ns⟩
  .rw[if_neg z] at e;cases e
 .rw[y1];show⟨(a,ns),rfl,if_pos rfl,λw G' e=>?_,λ_ _ _ _ z=>z.elim⟩;have e:w= .bl true:=e;subst e;intro v H' _ r _;cases r;rfl
end
end L3
namespace K30
open PySem L2 L3 TX
def fnA:List Str:="is_whole"::"is_whole_within"::"are_wholes"::"are_counts"::"times_added"::"is_sort"::"form_of_number"::"form_of_amount"::"form_of_drops"::"noughts"::"one_at"::"added"::"so_often"::"less"::"and_more"::"pieces_of"::"pieces_of_two"::"both_ways"::"form_of_line"::"is_weights"::"is_weight"::"contrary"::"form_weighed"::"shuts"::"facts_of"::"form_of_kept"::"height_of"::"first_not_lowered"::"is_paper"::"are_kepts"::"is_whole_tree"::"is_tree"::"is_lacks"::"is_right"::"trees_within"::"sorts_taken"::"forms_within"::"lacking_forms"::"cut_forms"::"at_most"::"at_least"::"count_of"::"stays"::"first_change"::"lets_paper"::"first_open_leaf"::"under"::"is_closed"::"_law_tape"::"_law_draw"::"_law_line"::"_law_ask"::"_law_names"::"_law_rule"::"_law_pot"::"_law_odd"::"_law_bent"::"_law_weights"::"_law_taken"::"_law_tree"::"_law_sizes"::"_law_whole"::"_law_row"::"_law_is_weights"::"_law_inner"::"_law_is_tree"::"_law_is_paper"::"_law_told"::"_law_right"::"_law_kepts"::"_law_great"::"law"::[]
def clA:List Str:="DropError"::"NoAsk"::"NoFault"::"NoJoin"::"NoLines"::"NoPaper"::"NoPot"::"NoRow"::"NoStep"::"ValueError"::[]
def kiA:List (Str×Int):=("SORTS",0)::("RULES",1)::("INPUTS",2)::("BEGIN",3)::("ANSWER",4)::("TAKES",0)::("GIVES",1)::("BY_INPUTS",0)::("BY_SORTS",1)::("PLUS",2)::("BY",0)::("LINE_PLUS",1)::("KEPTS",0)::("HEIGHTS",1)::("TREE",2)::("MOST_KEPTS",8)::("MOST_TREES",1000)::("MOST_WITHIN",40)::[]
abbrev DK (i:Nat) (t:Txt):Prop:=Dok fnA [] clA kiA (top i) t.N t.ps t.r
def d_is_whole:DK 11 vh:=dk
def d_is_whole_within:DK 12 ym:=dk
def d_are_wholes:DK 13 xI:=dk
def d_are_counts:DK 14 xJ:=dk
def d_times_added:DK 15 xr:=dk
def d_is_sort:DK 24 v6:=dk
def d_form_of_number:DK 29 yv:=dk
def d_form_of_amount:DK 30 yw:=dk
def d_form_of_drops:DK 31 yM:=dk
def d_noughts:DK 32 v4:=dk
def d_one_at:DK 33 Z2:=dk
def d_added:DK 34 Y5:=dk
def d_so_often:DK 35 vg:=dk
def d_less:DK 36 X3:=dk
def d_and_more:DK 37 vt:=dk
def d_pieces_of:DK 41 wI:=dk
def d_pieces_of_two:DK 42 yJ:=dk
def d_both_ways:DK 43 wN:=dk
def d_form_of_line:DK 44 yT:=dk
def d_is_weights:DK 46 xH:=dk
def d_is_weight:DK 47 wJ:=dk
def d_contrary:DK 49 vp:=dk
def d_form_weighed:DK 50 yS:=dk
def d_shuts:DK 51 Y4:=dk
def d_facts_of:DK 52 vn:=dk
def d_form_of_kept:DK 53 yU:=dk
def d_height_of:DK 55 wL:=dk
def d_first_not_lowered:DK 56 yf:=dk
def d_is_paper:DK 64 vj:=dk
def d_are_kepts:DK 65 wO:=dk
def d_is_whole_tree:DK 66 yL:=dk
def d_is_tree:DK 67 v5:=dk
def d_is_lacks:DK 68 vm:=dk
def d_is_right:DK 69 vi:=dk
def d_trees_within:DK 70 yQ:=dk
def d_sorts_taken:DK 71 xt:=dk
def d_forms_within:DK 72 yR:=dk
def d_lacking_forms:DK 73 yK:=dk
def d_cut_forms:DK 74 wM:=dk
def d_at_most:DK 75 v7:=dk
def d_at_least:DK 76 vq:=dk
def d_count_of:DK 78 vo:=dk
def d_stays:DK 79 Y3:=dk
def d_first_change:DK 80 yV:=dk
def d_lets_paper:DK 82 x_lets_paper:=dk
def d_first_open_leaf:DK 83 yn:=dk
def d_under:DK 84 Y2:=dk
def d_is_closed:DK 85 wK:=dk
def d__law_tape:DK 87 wP:=dk
def d__law_draw:DK 88 wS:=dk
def d__law_line:DK 89 wR:=dk
def d__law_ask:DK 90 vy:=dk
def d__law_names:DK 91 xO:=dk
def d__law_rule:DK 92 wQ:=dk
def d__law_pot:DK 93 vw:=dk
def d__law_odd:DK 94 vx:=dk
def d__law_bent:DK 95 x__law_bent:=dk
def d__law_weights:DK 96 yW:=dk
def d__law_taken:DK 97 xL:=dk
def d__law_tree:DK 98 x__law_tree:=dk
def d__law_sizes:DK 99 xM:=dk
def d__law_whole:DK 100 xK:=dk
def d__law_row:DK 101 vv:=dk
def d__law_is_weights:DK 102 yo:=dk
def d__law_inner:DK 103 xQ:=dk
def d__law_is_tree:DK 104 yX:=dk
def d__law_is_paper:DK 105 yN:=dk
def d__law_told:DK 106 x__law_told:=dk
def d__law_right:DK 107 xN:=dk
def d__law_kepts:DK 108 xP:=dk
def d__law_great:DK 109 xR:=dk
def d_law:DK 110 x_law:=dk
end K30
namespace L3
open PySem PySem.Spec PyProof.Rows L2
structure Bun (_P:Program) (_w:World) (_base:Heap) (K:W.Frag) (mg:Str->Option Value) (h:Heap) (ki:List (Str×Int)):Prop where
 X:K.In h
 G:h.Ns mainGlobals mg
 hki: ∀x v,ki.lookup x=some v-> ∃u,mg x=some u/\RelV (V.int v) u
 sy:SysK K
 bl: ∀x,bltNs.contains x=true->mg x=none
def hc{P:Program}{w:World}{K:W.Frag}{mg:Str->Option Value}{base:Heap}{k j:Nat}{l:List (Str×Sp3)}{x:Str}{sp:Sp3}{ps:List Str}(h:HasX P w K mg base j x ps (up sp))(r:HF P w K mg base k l)(hj:j<=k:=by decide):HF P w K mg base k ((x,sp)::l):=HF.cons hj h r
def hn{P:Program}{w:World}{K:W.Frag}{mg:Str->Option Value}{base:Heap}{k:Nat}:HF P w K mg base k []:=HF.nil
def Bun.y{P:Program}{w:World}{K:W.Frag}{mg:Str->Option Value}{base h:Heap}{x:Str}{st:Stmt}{t:Txt}{sp:Sp3}{fns ks cls:List Str}{ki:List (Str×Int)}{l:List (Str×Sp3)}(k:Nat)(B:Bun P w base K mg h ki)(A:FnAt K x st)(D:Dok fns ks cls ki st t.N t.ps t.r)(hf:HF P w K mg base k l)(Bd:Body (ens l) t sp)
  (hlen: ∀a,(sp.enc a).length=t.ps.length:=by show λ_=>rfl) (b: ∀(kV doc pm:Value) (an:Option Addr) (cdv ct:Value) (us:List Value),us.length=t.ps.length->bindArgs (W.fnOf x x (zO st) (zE st) (zl st) .none kV doc pm an cdv ct) ⟨us,[]⟩=pure (t.ps.zip us):=by first | show λ_ _ _ _ _ _ us hl=>ac1 (Q:=λus=>bindArgs _ ⟨us,[]⟩=pure (List.zip _ us)) hl λ_=>rfl | show λ_ _ _ _ _ _ us hl=>ac2 (Q:=λus=>bindArgs _ ⟨us,[]⟩=pure (List.zip _ us)) hl λ_ _=>rfl | show λ_ _ _ _ _ _ us hl=>ac3 (Q:=λus=>bindArgs _ ⟨us,[]⟩=pure (List.zip _ us)) hl λ_ _ _=>rfl | show λ_ _ _ _ _ _ us hl=>ac4 (Q:=λus=>bindArgs _ ⟨us,[]⟩=pure (List.zip _ us)) hl λ_ _ _ _=>rfl | show λ_ _ _ _ _ _ us hl=>ac5 (Q:=λus=>bindArgs _ ⟨us,[]⟩=pure (List.zip _ us)) hl λ_ _ _ _ _=>rfl):HasX P w K mg base (k+1) x t.ps (up sp):=
 FnAt.hasY A B.X B.G b D B.hki (WJ B.sy B.bl) hf (λx C ns e=>by cases e) (λ_=>rfl) hlen Bd
end L3
namespace K30
open PySem L2 L3 TX
abbrev sINp:Stmt:=yt (top 5) 0
abbrev nINp:List Str:=["self","word","at"]
def Xy:Nm nINp (zl sINp):=⟨nofun,nofun⟩
def scINp:FnScope nINp ["self","word","at"] (zl sINp):=⟨rfl,rfl,rfl,nofun,rfl,nofun,nofun⟩
section
variable {K:W.Frag}
theorem ok_INp{f:Addr}(F:Fun K "__init__" "NoPaper.__init__" sINp f fd):FnOk P w K mg base CX0 1 f fd ["self","word","at"] (spXi K ["word","at"]):=by
 show F.ok scINp (λvs H Q E h=>?_) (λcdv A outer s H vs Q E hr h=>?_)
 .obtain⟨a,C,v0,us,rfl,hl,_⟩:=h;change us.length+1=3;rw[hl];rfl
 obtain⟨a,C,v0,us,rfl,hl,ha,xa,hn,k⟩:=h
 match us,hl,k with
 | [u0,u1],_,k=>
 refine'⟨_,?hb,?rd⟩
 case hb=>
  refine' Yl ?s1 ?r1
  case' r1=>refine' ZE ?s2
  case' s1=>refine' Vs ?s3 ?s4
  case s3=>show pvd Xy 0
  case s4=>show pvd Xy 1
  case' s2=>refine' Vs ?s5 ?s6
  case s5=>show pvd Xy 0
  case s6=>show pvd Xy 2
 show w_seq ?_;show W2 (Y6 rfl (Y6 rfl ?_));show⟨a,C,none,v0,rfl,ha,xa,hn _ Sort,λdx hd hne=>?_⟩;show W2 (Y6 rfl (Y6 rfl ?_));show⟨a,C,some dx,v0,rfl,zj,xa,hn _ Sort,[("word",u0)],by rw[zi hne,zj],(by change(1:Nat)<100;decide),?_⟩;have z:=k dx hd hne;rw[upd_swap hne];show z
end
def VQ (K:W.Frag):List (Str×Nat)->Prop
 | []=>True
 | (x,i)::l=>FnAt K x (top i)/\VQ K l
def NosIn (K:W.Frag):List Str->Prop
 | []=>True
 | x::l=>NoIn K x/\NosIn K l
def IntsIn (K:W.Frag):List (Str×Int)->Prop
 | []=>True
 | (x,i)::l=>IntIn K x i/\IntsIn K l
theorem NosIn.get{K:W.Frag}{mg:Str->Option Value}(X:K.In h)(G:h.Ns mainGlobals mg): ∀{l:List Str} (_:NosIn K l) {m:List Str} (_:(m.all λx=>l.contains x)=true),∀x,m.contains x=true->mg x=none:=λ{l} z {m} hm x hx=>by
 have k:l.contains x=true:=List.all_eq_true.mp hm x (List.contains_iff_mem.mp hx);clear hm hx
 induction l with
 | nil=>cases k
 | cons y l ih=>
  rw[List.contains_cons] at k;rcases Bool.or_eq_true_iff.mp k with e | e
  .cases beq_iff_eq.mp e;show z.1.get X G
  .show ih z.2 e
theorem IntsIn.ki{K:W.Frag}: ∀{l:List (Str×Int)},IntsIn K l->KI K l
 | [],_=>KI.nil
 | _::_,h=>KI.cons h.1 (IntsIn.ki h.2)
def ClIn (K:W.Frag) (x:Str) (C:Addr) (bm:List Value):Prop:=W.nsIn K mainGlobals x=some (some (.ref C))/\XC K C bm
def clB{K:W.Frag}{x nm q:Str}{C N:Addr}{bs sub:List Value}{sn:List Str}{ab:Bool}{col:Option Bool}{dd:Option Addr}{k0 k1 k2 k3 k5:Option Value}(a:W.nsIn K mainGlobals x=some (some (.ref C)))(l:K.lookup C=some (excClassObj nm q C N bs bmV true sn sub ab col dd k0 k1 k2 k3 k5 "ValueError.__new__")):ClIn K x C bmV:=⟨a,⟨⟨_,_,_,_,_,_,_,_,_,_,_,_,_,_,l⟩,.base⟩⟩
def clO{K:W.Frag}{x nm q:Str}{C N D:Addr}{bs sub:List Value}{sn:List Str}{ab:Bool}{col:Option Bool}{dd:Option Addr}{k0 k1 k2 k3 k5:Option Value}(a:W.nsIn K mainGlobals x=some (some (.ref C)))(l:K.lookup C=some (excClassObj nm q C N bs (.ref D::bmV) true sn sub ab col dd k0 k1 k2 k3 k5 "ValueError.__new__")):ClIn K x C (.ref D::bmV):=⟨a,⟨⟨_,_,_,_,_,_,_,_,_,_,_,_,_,_,l⟩,.own _ .base⟩⟩
structure XaP (K:W.Frag) (C:Addr):Prop where
 ga:W.findIn K (.ref C) "__getattribute__"=some (some (.builtin "BaseException.__getattribute__"))
 gt:W.findIn K (.ref C) "__getattr__"=some none
 sa:W.findIn K (.ref C) "__setattr__"=some (some (.builtin "object.__setattr__"))
 cl:W.findIn K (.ref C) "__class__"=some (some (.builtin "object.__class__"))
 sg:W.specialIn K (.builtin "object.__class__") "__get__"=some (some (.builtin "getset_descriptor.__get__"))
 tk:W.takesIn K (.builtin "object.__class__")=some true
 kp:W.keepIn K (.ref C)=true
 n1:ye K C "word"
 n2:ye K C "at"
set_option maxHeartbeats 0 in
theorem all_mk{l:W.OpenLaw}{w:World}{K:W.Frag}{h:Heap}{mg:Str->Option Value}{fa x1 x2 x3 x4 x5 x6 x7 x8 x9:Addr}(X:K.In h)(G:h.Ns mainGlobals mg)(hfa:mg "law"=some (.ref fa))
  (A:VQ K (("_law_tape",87)::("_law_draw",88)::("_law_names",91)::("_law_rule",92)::("_law_pot",93)::("_law_line",89)::("_law_ask",90)::("_law_taken",97)::("_law_weights",96)::("_law_tree",98)::("_law_sizes",99)::("_law_kepts",108)::("_law_odd",94)::("_law_bent",95)::("is_whole",11)::("are_wholes",13)::("are_kepts",65)::("are_counts",14)::("is_whole_within",12)::("sorts_taken",71)::("is_lacks",68)::("is_weight",47)::("is_weights",46)::("is_right",69)::("is_sort",24)::("is_tree",67)::("trees_within",70)::("is_whole_tree",66)::("added",34)::("so_often",35)::("less",36)::("both_ways",43)::("and_more",37)::("one_at",33)::("noughts",32)::("form_of_drops",31)::("form_of_line",44)::("form_of_number",29)::("pieces_of_two",42)::("pieces_of",41)::("is_paper",64)::("times_added",15)::("count_of",78)::("first_change",80)::("stays",79)::("height_of",55)::("first_not_lowered",56)::("at_most",75)::("lacking_forms",73)::("at_least",76)::("cut_forms",74)::("forms_within",72)::("under",84)::("form_weighed",50)::("shuts",51)::("contrary",49)::("is_closed",85)::("first_open_leaf",83)::("form_of_amount",30)::("form_of_kept",53)::("facts_of",52)::("lets_paper",82)::("_law_told",106)::("_law_whole",100)::("_law_row",101)::("_law_is_weights",102)::("_law_inner",103)::("_law_is_tree",104)::("_law_is_paper",105)::("_law_right",107)::("_law_great",109)::("law",110)::[])) (z:NosIn K ("tuple"::"len"::"list"::"sum"::"all"::"any"::"min"::"max"::"sorted"::"int"::"isinstance"::"repr"::"range"::"enumerate"::"zip"::"bool"::"str"::"reversed"::"ValueError"::[]))
  (g:IntsIn K kiA)
  (c0:ClIn K "DropError" x1 bmV) (c1:ClIn K "NoPot" x2 (.ref x1::bmV)) (c2:ClIn K "NoStep" x3 (.ref x1::bmV)) (c3:ClIn K "NoAsk" x4 (.ref x1::bmV)) (c4:ClIn K "NoPaper" x5 (.ref x1::bmV)) (c5:ClIn K "NoLines" x6 (.ref x1::bmV)) (c6:ClIn K "NoFault" x7 (.ref x1::bmV)) (c7:ClIn K "NoJoin" x8 (.ref x1::bmV)) (c8:ClIn K "NoRow" x9 (.ref x1::bmV))
  (xa:XaP K x5) (im:VP K x5 "__init__" "NoPaper.__init__" sINp) (xnd:[x1,x2,x3,x4,x5,x6,x7,x8,x9].Nodup) (sy:SysK K):
  ∃fd:FuncData,(∀(s:Shared) (v:Value),BindsTo s fd ⟨[v],[]⟩ [("_law_script",v)])/\ ∀base:Heap,K.In base->base.Ns mainGlobals mg->FnOk l.prog w K mg base CX0 15 fa fd ["_law_script"] (λvs H Q _=>up XD vs H Q E0):=by
 obtain⟨a87,a88,a91,a92,a93,a89,a90,a97,a96,a98,a99,a108,a94,a95,a11,a13,a65,a14,a12,a71,a68,a47,a46,a69,a24,a67,a70,a66,a34,a35,a36,a43,a37,a33,a32,a31,a44,a29,a42,a41,a64,a15,a78,a80,a79,a55,a56,a75,a73,a76,a74,a72,a84,a50,a51,a49,a85,a83,a30,a53,a52,a82,a106,a100,a101,a102,a103,a104,a105,a107,a109,a110,_⟩:=A;have bl: ∀x,bltNs.contains x=true->mg x=none:=λx hx=>z.get X G (nofun) x hx;have ki:KI K kiA:=g.ki;have hki:=ki.get X G;have XAp:XA K x5:=⟨⟨_,c4.2⟩,xa.ga,xa.gt,xa.sa,xa.cl,xa.sg,xa.tk⟩;obtain⟨fi,ioc,iod,ikV,idoc,ipm,ian,icdv,ict,iosl,i1,i2,i3,i4,i5⟩:=im;have FI:=ZR (st:=sINp) i2 i3 i5;have BI:=FI.binds (ps:=["self","word","at"]) (by show λ_ _ _ _ _ _ us hl=>ac3 (Q:=λus=>bindArgs _ ⟨us,[]⟩=pure (List.zip _ us)) hl λ_ _ _=>rfl);have cns: ∃cns:Str->Option Addr,cns=λx=>(([("DropError",x1),("NoPot",x2),("NoStep",x3),("NoAsk",x4),("NoPaper",x5),("NoLines",x6),("NoFault",x7),("NoJoin",x8),("NoRow",x9)]:List (Str×Addr)).lookup x):=⟨_,rfl⟩;obtain⟨cns,hcns⟩:=cns;have hcn: ∀x A,cns x=some A->x≠"ValueError"/\(∃bm,XC K A bm)/\mg x=some (.ref A):=by
  intro x A e;rw[hcns] at e;simp only[List.lookup_cons] at e;split at e
  .rename_i z;cases (beq_iff_eq.mp z);cases e;show⟨by decide,⟨_,c0.2⟩,W.mg_of X G c0.1⟩
  split at e
  .rename_i z;cases (beq_iff_eq.mp z);cases e;show⟨by decide,⟨_,c1.2⟩,W.mg_of X G c1.1⟩
  split at e
  .rename_i z;cases (beq_iff_eq.mp z);cases e;show⟨by decide,⟨_,c2.2⟩,W.mg_of X G c2.1⟩
  split at e
  .rename_i z;cases (beq_iff_eq.mp z);cases e;show⟨by decide,⟨_,c3.2⟩,W.mg_of X G c3.1⟩
  split at e
  .rename_i z;cases (beq_iff_eq.mp z);cases e;show⟨by decide,⟨_,c4.2⟩,W.mg_of X G c4.1⟩
  split at e
  .rename_i z;cases (beq_iff_eq.mp z);cases e;show⟨by decide,⟨_,c5.2⟩,W.mg_of X G c5.1⟩
  split at e
  .rename_i z;cases (beq_iff_eq.mp z);cases e;show⟨by decide,⟨_,c6.2⟩,W.mg_of X G c6.1⟩
  split at e
  .rename_i z;cases (beq_iff_eq.mp z);cases e;show⟨by decide,⟨_,c7.2⟩,W.mg_of X G c7.1⟩
  split at e
  .rename_i z;cases (beq_iff_eq.mp z);cases e;show⟨by decide,⟨_,c8.2⟩,W.mg_of X G c8.1⟩
  cases e
 have sub: ∃sub:Addr->Str->Option Bool,sub=fun(c:Addr) (x:Str)=>if c=x5 then (if x="ValueError" then some true else (cns x).map λA=>(Value.ref x5:: .ref x1::bmV).contains (.ref A)) else none:=⟨_,rfl⟩
 obtain⟨sub,hsub⟩:=sub;have fdd: ∃fd:Addr->Str->Bool,fd=fun(c:Addr) (f:Str)=>decide (c=x5)&&(f=="word" || f=="at"):=⟨_,rfl⟩;obtain⟨fdd,hfd⟩:=fdd;have nd: ∀i j,decide (i<9/\j<9/\i≠j)=true->[x1,x2,x3,x4,x5,x6,x7,x8,x9].getD i x1≠[x1,x2,x3,x4,x5,x6,x7,x8,x9].getD j x1:=λi j h=>by
  obtain⟨hi,hj,n⟩:=of_decide_eq_true h;intro e;rw[υ,υ,χ (show i<[x1,x2,x3,x4,x5,x6,x7,x8,x9].length from hi),χ (show j<[x1,x2,x3,x4,x5,x6,x7,x8,x9].length from hj)] at e;show n ((List.getElem_inj xnd).mp e)
 have sx: ∀{x:Str} {A b},x≠"ValueError"->cns x=some A->(Value.ref x5:: .ref x1::bmV).contains (.ref A)=b->sub x5 x=some b:=λh1 h2 h3=>by rw[hsub];change(if x5=x5 then _ else _)=_;rw[if_pos rfl,if_neg h1,h2];show congrArg some h3
 have co:ClOk x5 cns sub fdd:={
  cd:=⟨x1,by rw[hcns];rfl⟩
  c1:=⟨x4,by rw[hcns];rfl⟩
  c2:=⟨x7,by rw[hcns];rfl⟩
  c3:=⟨x8,by rw[hcns];rfl⟩
  c4:=⟨x6,by rw[hcns];rfl⟩
  c5:=⟨x5,by rw[hcns];rfl⟩
  c6:=⟨x2,by rw[hcns];rfl⟩
  c7:=⟨x9,by rw[hcns];rfl⟩
  c8:=⟨x3,by rw[hcns];rfl⟩
  sd:=sx ⋯ (by rw[hcns];rfl) contains_D
  sv:=by rw[hsub];change(if x5=x5 then _ else _)=_;rw[if_pos rfl,if_pos rfl]
  s1:=sx ⋯ (by rw[hcns];rfl) (zR (nd 4 3 rfl) (nd 3 0 rfl))
  s2:=sx ⋯ (by rw[hcns];rfl) (zR (nd 4 6 rfl) (nd 6 0 rfl))
  s3:=sx ⋯ (by rw[hcns];rfl) (zR (nd 4 7 rfl) (nd 7 0 rfl))
  s4:=sx ⋯ (by rw[hcns];rfl) (zR (nd 4 5 rfl) (nd 5 0 rfl))
  s6:=sx ⋯ (by rw[hcns];rfl) (zR (nd 4 1 rfl) (nd 1 0 rfl))
  s7:=sx ⋯ (by rw[hcns];rfl) (zR (nd 4 8 rfl) (nd 8 0 rfl))
  s8:=sx ⋯ (by rw[hcns];rfl) (zR (nd 4 2 rfl) (nd 2 0 rfl))
  s5:=sx ⋯ (by rw[hcns];rfl) Sort
  fw:=by rw[hfd];change(decide (x5=x5)&&_)=true;rw[decide_eq_true rfl];rfl
  fa:=by rw[hfd];change(decide (x5=x5)&&_)=true;rw[decide_eq_true rfl];rfl}
 show a110.law X G hfa (λ_ _ _ _ _ _ _ _=> .of_eq rfl) λbase _ _ {f fd} F=>?_;have HC:HasC l.prog w K mg base 1 "NoPaper" x5 ["self","word","at"] (spXi K ["word","at"]):=⟨_,_,⟨i1,i4,xa.kp,XAp⟩,ok_INp FI,W.mg_of X G c4.1,BI⟩;have BB:Bun l.prog w base K mg h kiA:=⟨X,G,hki,sy,bl⟩;have md: ∀{ll:List (Str×Sp3)},Md (ens ll) K mg:=WJ sy bl;have nc: ∀{ll:List (Str×Sp3)} {k:Nat},∀x C ns,(ens ll).cl x=some (C,ns)-> ∃j ps,j+1<=k/\HasC l.prog w K mg base j x C ps (spXi K ns):=λ{ll k} x C ns e=>by cases e
 have h87:=BB.y 0 a87 d__law_tape hn ok_tape;have h88:=BB.y 0 a88 d__law_draw hn ok_draw;have h91:=BB.y 1 a91 d__law_names (hc h88 hn) ok_names;have h92:=BB.y 1 a92 d__law_rule (hc h88 hn) ok_rule;have h93:=BB.y 2 a93 d__law_pot (hc h88 (hc h91 (hc h92 hn))) ok_pot;have h89:=BB.y 1 a89 d__law_line (hc h88 hn) ok_line;have h90:=BB.y 2 a90 d__law_ask (hc h88 (hc h89 hn)) ok_ask;have h97:=BB.y 0 a97 d__law_taken hn ok_lt;have h96:=BB.y 1 a96 d__law_weights (hc h88 hn) ok_lwt;have T__law_tree: ∀i,i<=4->HasX l.prog w K mg base (2+i) "_law_tree" x__law_tree.ps (up (y0 i)):=λi=>by
  induction i with
  | zero=>show λ_=>L3.FnAt.noX a98 X G (by show λ_ _ _ _ _ _ us hl=>ac4 (Q:=λus=>bindArgs _ ⟨us,[]⟩=pure (List.zip _ us)) hl λ_ _ _ _=>rfl) (λa G h=>by have:=h.2.1;have:=h.2.2;lia)
  | succ i ih=>show λhi=>L3.FnAt.hasY (k:=2+i) a98 X G (by show λ_ _ _ _ _ _ us hl=>ac4 (Q:=λus=>bindArgs _ ⟨us,[]⟩=pure (List.zip _ us)) hl λ_ _ _ _=>rfl) d__law_tree hki md (hc (hj:=by lia) h88 (hc (hj:=by lia) h97 (hc (hj:=by lia) h96 (hc (hj:=by lia) (ih ∅) hn)))) nc (λ_=>rfl) (λ_=>rfl) (ok_ltree i)
 have h98:=T__law_tree 4 (μ _);have h99:=BB.y 0 a99 d__law_sizes hn ok_sizes;have h108:=BB.y 1 a108 d__law_kepts (hc h88 hn) ok_lke;have h94:=BB.y 1 a94 d__law_odd (hc h88 hn) ok_odd;have T__law_bent: ∀i,i<=12->HasX l.prog w K mg base (2+i) "_law_bent" x__law_bent.ps (up (xx i)):=λi=>by
  induction i with
  | zero=>show λ_=>L3.FnAt.noX a95 X G (by show λ_ _ _ _ _ _ us hl=>ac2 (Q:=λus=>bindArgs _ ⟨us,[]⟩=pure (List.zip _ us)) hl λ_ _=>rfl) (λa G h=>by show Nat.not_lt_zero _ h.2)
  | succ i ih=>show λhi=>L3.FnAt.hasY (k:=2+i) a95 X G (by show λ_ _ _ _ _ _ us hl=>ac2 (Q:=λus=>bindArgs _ ⟨us,[]⟩=pure (List.zip _ us)) hl λ_ _=>rfl) d__law_bent hki md (hc (hj:=by lia) h88 (hc (hj:=by lia) h94 (hc (hj:=by lia) (ih ∅) hn))) nc (λ_=>rfl) (λ_=>rfl) (ok_bent i ∅)
 have h95:=T__law_bent 12 (μ _);have h11:=BB.y 0 a11 d_is_whole hn ok_whole;have h13:=BB.y 1 a13 d_are_wholes (hc h11 hn) ok_wholes;have h65:=BB.y 2 a65 d_are_kepts (hc h13 hn) ok_kepts;have h14:=BB.y 2 a14 d_are_counts (hc h13 hn) ok_counts;have h12:=BB.y 1 a12 d_is_whole_within (hc h11 hn) ok_within;have h71:=BB.y 0 a71 d_sorts_taken hn ok_tk;have h68:=BB.y 2 a68 d_is_lacks (hc h12 (hc h71 hn)) ok_lacks;have h47:=BB.y 1 a47 d_is_weight (hc h11 hn) ok_weight;have h46:=BB.y 2 a46 d_is_weights (hc h47 hn) ok_weights;have h69:=BB.y 3 a69 d_is_right (hc h12 (hc h46 hn)) ok_right;have h24:=BB.y 2 a24 d_is_sort (hc h12 hn) ok_sort;have h67:=BB.y 4 a67 d_is_tree (hc h68 (hc h69 (hc h11 (hc h24 (hc h46 hn))))) ok_tree;have h70:=BB.y 0 a70 d_trees_within hn ok_tw;have h66:=BB.y 5 a66 d_is_whole_tree (hc h67 (hc h70 hn)) ok_whole_tree;have h34:=BB.y 0 a34 d_added hn ok_added;have h35:=BB.y 0 a35 d_so_often hn ok_oft;have h36:=BB.y 1 a36 d_less (hc h34 (hc h35 hn)) ok_less;have h43:=BB.y 2 a43 d_both_ways (hc h36 hn) ok_bw;have h37:=BB.y 0 a37 d_and_more hn ok_more;have h33:=BB.y 0 a33 d_one_at hn ok_one;have h32:=BB.y 0 a32 d_noughts hn ok_nou;have h31:=BB.y 1 a31 d_form_of_drops (hc h33 (hc h32 hn)) ok_drp;have h44:=BB.y 1 a44 d_form_of_line (hc h32 hn) ok_lin;have h29:=BB.y 1 a29 d_form_of_number (hc h32 hn) ok_num;have h42:=BB.y 3 a42 d_pieces_of_two (hc h36 (hc h43 (hc h37 (hc h29 hn)))) ok_pc2;have h41:=BB.y 4 a41 d_pieces_of (hc h36 (hc h43 (hc h37 (hc h35 (hc h31 (hc h44 (hc h42 hn))))))) ok_pcs;have h64:=BB.y 6 a64 d_is_paper (hc h65 (hc h14 (hc h66 (hc h41 hn)))) ok_paper;have h15:=BB.y 0 a15 d_times_added hn ok_times;have h78:=BB.y 1 a78 d_count_of (hc h15 hn) ok_count;have h80:=BB.y 2 a80 d_first_change (hc h78 hn) ok_fch;have h79:=BB.y 3 a79 d_stays (hc h80 hn) ok_stays;have h55:=BB.y 1 a55 d_height_of (hc h15 hn) ok_height;have h56:=BB.y 2 a56 d_first_not_lowered (hc h55 hn) ok_fnl;have h75:=BB.y 2 a75 d_at_most (hc h36 (hc h29 (hc h31 hn))) ok_am;have h73:=BB.y 3 a73 d_lacking_forms (hc h75 (hc h71 hn)) ok_lk;have h76:=BB.y 2 a76 d_at_least (hc h37 (hc h31 hn)) ok_al;have h74:=BB.y 3 a74 d_cut_forms (hc h75 (hc h76 hn)) ok_cf;have h72:=BB.y 4 a72 d_forms_within (hc h73 (hc h74 hn)) ok_fw;have h84:=BB.y 5 a84 d_under (hc h70 (hc h72 hn)) ok_under;have h50:=BB.y 1 a50 d_form_weighed (hc h34 (hc h35 hn)) ok_wg;have h51:=BB.y 3 a51 d_shuts (hc h46 (hc h50 hn)) ok_shuts;have h49:=BB.y 1 a49 d_contrary (hc h37 (hc h35 hn)) ok_con;have h85:=BB.y 4 a85 d_is_closed (hc h51 (hc h49 hn)) ok_closed;have h83:=BB.y 6 a83 d_first_open_leaf (hc h84 (hc h85 hn)) ok_fol;have h30:=BB.y 1 a30 d_form_of_amount (hc h33 (hc h32 hn)) ok_amt;have h53:=BB.y 1 a53 d_form_of_kept (hc h15 hn) ok_kep;have h52:=BB.y 2 a52 d_facts_of (hc h30 (hc h31 (hc h53 (hc h35 hn)))) ok_fc;have mdL:Md (enL x5) K mg:={(md:Md (ens []) K mg) with
  cl:=λx C ns e=>by
   have e:(if x="NoPaper" then some (x5,(["word","at"]:List Str)) else none)=some (C,ns):=e;split at e
   .cases e
    show⟨XAp,λf hf=>?_⟩;simp only[List.mem_cons,List.not_mem_nil,or_false] at hf;rcases hf with rfl | rfl
    .show xa.n1
    .show xa.n2
   .cases e
  fl:=λx w e=>by cases e
  cn:=λx D e=>by cases e
  sub:=λc x b e=>by cases e
  fd:=λc f e=>by cases e
  ks:=λx w e=>by cases e
  cnm:=λx D e=>by cases e}
 have h82:HasX l.prog w K mg base 8 "lets_paper" x_lets_paper.ps (up (ZB x5)):=L3.FnAt.hasX (N:=enL x5) a82 X G (by show λ_ _ _ _ _ _ us hl=>ac3 (Q:=λus=>bindArgs _ ⟨us,[]⟩=pure (List.zip _ us)) hl λ_ _ _=>rfl) d_lets_paper hki mdL (show HF l.prog w K mg base 7 [("is_paper",spPp),("stays",spSt),("first_not_lowered",Wm),("first_open_leaf",Wl),("pieces_of",Xf),("facts_of",spFc)] from hc h64 (hc h79 (hc h56 (hc h83 (hc h41 (hc h52 hn)))))) (λx C ns e=>by
   have e:(if x="NoPaper" then some (x5,(["word","at"]:List Str)) else none)=some (C,ns):=e;split at e
   .rename_i z;subst z;cases e;show⟨1,_,by decide,HC⟩
   .cases e) (λ_=>rfl) (ok_lets x5)
 have mdT:Md (enT x5 cns sub fdd) K mg:={(md:Md (ens []) K mg) with
  cl:=λx C ns e=>by cases e
  fl:=λx w e=>by cases e
  cn:=λx D e=>let ⟨a,b,_⟩:=hcn x D e;⟨a,b⟩
  sub:=λc x b e=>by
   have e:sub c x=some b:=e;rw[hsub] at e;by_cases z:c=x5
   .rw[z] at e ⊢;have e:(if x="ValueError" then some true else (cns x).map λA=>(Value.ref x5:: .ref x1::bmV).contains (.ref A))=some b:=by rw[<-e];show(if_pos rfl).symm
    split at e
    .rename_i y;cases e;show⟨XAp,.inl ⟨y,rfl⟩⟩
    .cases hx:cns x with
     | none=>rw[hx] at e;cases e
     | some A=>
      rw[hx] at e;cases e
      obtain⟨_,⟨bm,xc⟩,_⟩:=hcn x A hx;show⟨XAp,.inr ⟨A,_,bm,hx,c4.2,xc,rfl⟩⟩
   .have e:(none:Option Bool)=some b:=by rw[<-e];show(if_neg z).symm
    cases e
  fd:=λc f e=>by
   have e:fdd c f=true:=e;rw[hfd] at e;simp only[Bool.and_eq_true,Bool.or_eq_true,decide_eq_true_eq,beq_iff_eq] at e;obtain⟨rfl,rfl | rfl⟩:=e
   .show⟨XAp,xa.n1⟩
   .show⟨XAp,xa.n2⟩
  ks:=λx w e=>by cases e
  cnm:=λx D e=>(hcn x D e).2.2}
 have h106:HasX l.prog w K mg base 9 "_law_told" x__law_told.ps (up YL):=L3.FnAt.hasX (N:=enT x5 cns sub fdd) a106 X G (by show λ_ _ _ _ _ _ us hl=>ac3 (Q:=λus=>bindArgs _ ⟨us,[]⟩=pure (List.zip _ us)) hl λ_ _ _=>rfl) d__law_told hki mdT (show HF l.prog w K mg base 8 [("lets_paper",(ZB x5))] from hc h82 hn) (λx C ns e=>by cases e) (λ_=>rfl) (ok_told co);have h100:=BB.y 0 a100 d__law_whole hn ok_lw;have h101:=BB.y 1 a101 d__law_row (hc h100 hn) ok_lr;have h102:=BB.y 2 a102 d__law_is_weights (hc h101 hn) ok_lws;have h103:=BB.y 3 a103 d__law_inner (hc h102 (hc h100 (hc h97 hn))) ok_inner;have h104:=BB.y 4 a104 d__law_is_tree (hc h103 hn) ok_ltr;have h105:=BB.y 5 a105 d__law_is_paper (hc h101 (hc h104 hn)) ok_lp;have h107:=BB.y 9 a107 d__law_right (hc h106 (hc h99 (hc h105 hn))) ok_rt;have h109:=BB.y 1 a109 d__law_great (hc h88 hn) ok_great;show FnOk.calm (WV (k:=14) (t:=⟨top 110,x_law.N,x_law.ps,x_law.r⟩) F d_law.S d_law.l hki d_law.c (md (ll:=[("_law_tape",ZA),("_law_pot",Xe),("_law_ask",Xi),("_law_draw",spDraw),("_law_tree",y0 4),("_law_sizes",spSz),("_law_kepts",Xg),("_law_odd",Zd),("_law_bent",xx 12),("_law_right",spRt),("_law_great",spGr)])) (show HF l.prog w K mg base 14 [("_law_tape",ZA),("_law_pot",Xe),("_law_ask",Xi),("_law_draw",spDraw),("_law_tree",y0 4),("_law_sizes",spSz),("_law_kepts",Xg),("_law_odd",Zd),("_law_bent",xx 12),("_law_right",spRt),("_law_great",spGr)] from hc h87 (hc h93 (hc h90 (hc h88 (hc h98 (hc h99 (hc h108 (hc h94 (hc h95 (hc h107 (hc h109 hn))))))))))) nc (λ_=>rfl) ok_law)
def walk{l:W.OpenLaw}{XP:(Str->Option Value)->Heap->Prop}{YP:World->Heap->Prop}{d:DefRec}{K:Params->W.Frag}(hn:l.most=some 63)(hdf:d.params.defaults=[])
  (hY: ∀(w:World) (h:Heap),YP w h->(K w.params).In h) (nl: ∀w:World,Xx (K w.params)=true)
  (F: ∀(w:World) (mg:Str->Option Value) (fa:Addr) (h:Heap),(K w.params).In h->h.Ns mainGlobals mg->mg d.name=some (.ref fa)->
   ∃fd:FuncData,(∀(s:Shared) (u:Value),BindsTo s fd ⟨[u],[]⟩ [("_law_script",u)])/\ ∀base:Heap,(K w.params).In base->base.Ns mainGlobals mg->FnOk l.prog w (K w.params) mg base CX0 15 fa fd ["_law_script"] (λvs H Q _=>up XD vs H Q E0)):
  W.WalkO q loose XP YP l.row.toRowW d [] (λf vs=>PySem.call f vs):=
 L2.walk_of (n:=63) (k:=15) (x:="_law_script") (CX:=λ_=>CX0) (sp:=λw=>λvs H Q _=>up XD vs H Q E0) hn ⋯ hdf ⟨rfl,by decide,by decide,rfl⟩ hY F (λw _ a ns hl hO hS=>law_up (Xn (nl w) hS)) λ_ _ _ _ _ z=>z
end K30
open PySem PySem.W PyProof.Rows
set_option maxRecDepth 100000 in
set_option maxHeartbeats 0 in
theorem PySem.Challenge.cw_dropsums_k30_shapes_of_papers_holds : PySem.Challenge.rw_dropsums_k30_shapes_of_papers.Holds := by
 w_on
 show PySem.W.holds_law K30.said0 λsaid=>?_;show PySem.W.holds_open (q:=K30.VW) (loose:=[]) (Xt:=λs=>PySem.W.xlAt K30.VW [] s&&PySem.W.recOk (PySem.W.RowW.records K30.RR.toRowW) s) (XP:=PySem.W.XL K30.VW []) (Yf:=PySem.W.Hook.obs (PySem.W.kHook K30.KK K30.KA K30.ke)) (Ya:=PySem.W.Hook.val (PySem.W.kHook K30.KK K30.KA K30.ke)) (YP:=PySem.W.Hook.says (PySem.W.kHook K30.KK K30.KA K30.ke)) (N:=9144) K30.left0 (PySem.W.Hook.of _) (PySem.W.Hook.keeps _) (λs e=>PySem.W.xl_of s (Bool.and_eq_true_iff.mp e).1) PySem.W.XL.keeps (by rfl) (by rfl) (by rfl) (λs e=>PySem.W.recFacts_of (Bool.and_eq_true_iff.mp e).2) (by rfl) said (nofun) ⟨rfl,rfl,rfl,rfl,rfl,nofun⟩ ?hw ?hc
 case hw=>w_witness2
 k_fill
 show K30.walk (l:=PySem.Challenge.rw_dropsums_k30_shapes_of_papers) rfl rfl (λw h Y=>PySem.W.kIn_of Y) (λw=>by kernel_rfl) ?F
 case F=>
  intro w mg fa h KX G hmg;refine' K30.all_mk KX G hmg (by repeat' first | show True.intro | show L2.fnAt (by k_is) (by k_is) (by k_is) (by k_is) | show And.intro ?_ ?_) (by repeat' first | show True.intro | show L2.noIn (by k_is) | show And.intro ?_ ?_) (by repeat' first | show True.intro | show L2.intIn (by k_is) | show And.intro ?_ ?_) ?_ ?_ ?_ ?_ ?_ ?_ ?_ ?_ ?_ ?_ ?_ ?_ ?_
  all_goals first
   | show K30.clO (by k_is) (by k_is)
   | show K30.clB (by k_is) (by k_is)
   | show L2.mthAt (by k_is) (by k_is) (by k_is) (by k_is) (by k_is)
   | decide
   | show⟨_,by k_is,rfl⟩
   | show⟨by k_is,by k_is,by k_is,by k_is,by k_is,by k_is,by k_is,L2.noAttr (by k_is),L2.noAttr (by k_is)⟩
   | skip
