import PyProof.Rows.All
import Wide.All
import OpenK.AllK
import Wide.FinOn
import Lean
import PyProof.EqAt
import PyProof.EqKinds
import PyProof.TupleCall
import PyProof.Rows.SumAny
import PyProof.Draws
import PyProof.ZipIter
import PyProof.EnumMake
import PyProof.Rows.ZipGen
import PyProof.FitsInt
import PyProof.ReprLen
import KE.IntBitsLaws
import PyProof.NeData
import PyProof.ConsumeWalk
import PyProof.WalkInts
import PyProof.Rows.SeqMore
import PyProof.ListMulRoad
import KE.KSortTup
import PyProof.TupleOfStr
import PyProof.ListRange
import PyProof.SliceStr
import PyProof.StrBlockI
import PyProof.SeqRoads
import PyProof.WalksMore
import PyProof.SumWalkG
import PyProof.DictUpdate
import KE.KRevSl
import KE.KSortAsk
import PySem.Challenge.RW_dropsums_k44_small_beginnings
-- CHANGE: your row's module here, as the last of these rows
set_option Elab.async false
set_option linter.all false
set_option maxRecDepth 100000
namespace L2
open PySem PySem.Spec PyProof.Rows
abbrev Key := Sum Int Str
def keyIs : Key → Value → Bool
 | .inl k, v => Value.isInt k v
 | .inr x, v => Value.isStrOf x v
def keyH (w : World) : Key → Int
 | .inl k => hashInt k
 | .inr x => hashStr w x
theorem keyIs_shape : ∀ {k : Key} {v : Value}, keyIs k v = true → (∃ i t, k = Sum.inl i ∧ v = Value.int i t) ∨ (∃ x t, k = Sum.inr x ∧ v = Value.str x t)
 | .inl i, v, h => by
  obtain ⟨t, e⟩ := Value.isInt_shape (k := i) (v := v) h
  exact .inl ⟨i, t, rfl, e⟩
 | .inr x, v, h => by
  obtain ⟨t, e⟩ := Value.isStrOf_shape (x := x) (v := v) h
  exact .inr ⟨x, t, rfl, e⟩
theorem key_ll (a b : Int) : decide ((Sum.inl a : Key) = Sum.inl b) = (a == b) := by
 by_cases e : a = b
 ·subst e; simp
 ·have h : ¬ (Sum.inl a : Key) = Sum.inl b := fun q => e (Sum.inl.inj q)
  rw [decide_eq_false h]
  exact (beq_eq_false_iff_ne.mpr e).symm
theorem key_rr (a b : Str) : decide ((Sum.inr a : Key) = Sum.inr b) = decide (a = b) := by
 by_cases e : a = b
 ·subst e; simp
 ·have h : ¬ (Sum.inr a : Key) = Sum.inr b := fun q => e (Sum.inr.inj q)
  rw [decide_eq_false h, decide_eq_false e]
theorem key_lr (a : Int) (b : Str) : decide ((Sum.inl a : Key) = Sum.inr b) = false := decide_eq_false (fun q => nomatch q)
theorem key_rl (a : Str) (b : Int) : decide ((Sum.inr a : Key) = Sum.inl b) = false := decide_eq_false (fun q => nomatch q)
def mixKind (prog : Program) (w : World) : PySem.KeyKind prog w Key where
 is := keyIs
 hash := keyH w
 inj := fun v a b ha hb => by
  rcases keyIs_shape ha with ⟨i, t, rfl, rfl⟩ | ⟨x, t, rfl, rfl⟩
  ·rcases keyIs_shape hb with ⟨j, u, rfl, e⟩ | ⟨y, u, rfl, e⟩
   ·injection e with e1 _; rw [e1]
   ·exact nomatch e
  ·rcases keyIs_shape hb with ⟨j, u, rfl, e⟩ | ⟨y, u, rfl, e⟩
   ·exact nomatch e
   ·injection e with e1 _; rw [e1]
 byValue := fun k v h => by
  rcases keyIs_shape h with ⟨i, t, rfl, rfl⟩ | ⟨x, t, rfl, rfl⟩ <;> rfl
 pyHash := fun hv h => by
  rcases keyIs_shape hv with ⟨i, t, rfl, rfl⟩ | ⟨x, t, rfl, rfl⟩
  ·exact wpAny_pyHash_int h
  ·exact wpAny_pyHash_str h
 eqBool := fun hu hv h => by
  rcases keyIs_shape hu with ⟨i, t, rfl, rfl⟩ | ⟨x, t, rfl, rfl⟩
  ·rcases keyIs_shape hv with ⟨j, u, rfl, rfl⟩ | ⟨y, u, rfl, rfl⟩
   ·rw [key_ll] at h; exact wpAny_eqBool_int h
   ·rw [key_lr] at h; exact SeqAt.EqAt.int_str i t y u _ _ _ _ h
  ·rcases keyIs_shape hv with ⟨j, u, rfl, rfl⟩ | ⟨y, u, rfl, rfl⟩
   ·rw [key_rl] at h; exact SeqAt.EqAt.str_int x t j u _ _ _ _ h
   ·rw [key_rr] at h; exact wpAny_eqBool_str h
 «strs» := fun k x t v h => by
  rcases keyIs_shape h with ⟨i, u, rfl, e⟩ | ⟨y, u, rfl, e⟩
  ·exact nomatch e
  ·injection e with e1 _
   subst e1
   cases v <;> rfl
inductive V where
 | non | bl (b : Bool) | int (i : Int) | str (x : Str) | byt (b : Array UInt8) | flt (b : UInt64) | ref (a : Addr) | ty (n : String)
 deriving DecidableEq
def RelV : V → Value → Prop
 | .non, u => u = Value.none
 | .bl b, u => u = Value.bool b
 | .int i, u => ∃ t, u = Value.int i t
 | .str x, u => ∃ t, u = Value.str x t
 | .byt b, u => ∃ t, u = Value.bytes b t
 | .flt b, u => ∃ t, u = Value.float b t
 | .ref a, u => u = Value.ref a
 | .ty n, u => u = Value.type n
abbrev Vals : List V → List Value → Prop := Paired RelV
theorem Vals.length {xs : List V} {us : List Value} (r : Vals xs us) : xs.length = us.length := Paired.length r
theorem Vals.get : ∀ {xs : List V} {us : List Value} {i : Nat} {x : V}, Vals xs us → xs[i]? = some x → ∃ u, us[i]? = some u ∧ RelV x u
 | _, _, _, _, .nil, e => by simp at e
 | _, _, 0, _, .cons r _, e => by simp at e; subst e; exact ⟨_, rfl, r⟩
 | _, _, i + 1, x, .cons _ t, e => by
  obtain ⟨u, h1, h2⟩ := Vals.get (i := i) (x := x) t (by simpa using e)
  exact ⟨u, by simpa using h1, h2⟩
theorem Vals.set {x : V} {u : Value} (r : RelV x u) : ∀ {xs : List V} {us : List Value} (i : Nat), Vals xs us → Vals (xs.set i x) (us.set i u)
 | _, _, _, .nil => .nil
 | _, _, 0, .cons _ t => .cons r t
 | _, _, i + 1, .cons q t => .cons q (Vals.set r i t)
theorem Vals.append : ∀ {xs ys : List V} {us ws : List Value}, Vals xs us → Vals ys ws → Vals (xs ++ ys) (us ++ ws)
 | _, _, _, _, .nil, s => s
 | _, _, _, _, .cons r t, s => .cons r (Vals.append t s)
theorem Vals.take : ∀ {xs : List V} {us : List Value} (n : Nat), Vals xs us → Vals (xs.take n) (us.take n)
 | _, _, 0, _ => .nil
 | _, _, _ + 1, .nil => .nil
 | _, _, n + 1, .cons r t => .cons r (Vals.take n t)
theorem Vals.drop : ∀ {xs : List V} {us : List Value} (n : Nat), Vals xs us → Vals (xs.drop n) (us.drop n)
 | _, _, 0, r => r
 | _, _, _ + 1, .nil => .nil
 | _, _, n + 1, .cons _ t => Vals.drop n t
def RelO : Option V → Option Value → Prop
 | some v, some u => RelV v u
 | none, none => True
 | _, _ => False
def KV {κ : Type} : List (κ × V) → List (κ × Value) → Prop := Paired fun (p : κ × V) (q : κ × Value) => p.1 = q.1 ∧ RelV p.2 q.2
def kV : Key → V
 | .inl i => .int i
 | .inr x => .str x
inductive HO where
 | lst (xs : List V)
 | tup (xs : List V)
 | dK (kvs : List (Key × V)) | dT (kvs : List (List Key × V))
 | set (S : Int → Bool) (n : Nat)
 | ins (C dx : Addr) (fs : List (Str × V))
 | own (x : Addr)
 | xd (fs : List (Str × V))
 | met (f x : Addr)
 | rng (lo hi : Int)
 | frz (o : Obj) (u : HO)
 | tbl (ps : Array Value)
 | ext (φ : Heap → Prop)
abbrev Hp := Addr → Option HO
def upd (H : Hp) (a : Addr) (o : HO) : Hp := fun b => if b = a then some o else H b
theorem upd_same {H : Hp} {a : Addr} {o : HO} : upd H a o a = some o := by unfold upd; rw [if_pos rfl]
theorem upd_ne {H : Hp} {a b : Addr} {o : HO} (h : b ≠ a) : upd H a o b = H b := by unfold upd; rw [if_neg h]
theorem upd_upd {H : Hp} {a : Addr} {o u : HO} : upd (upd H a o) a u = upd H a u := by
 funext b; unfold upd; split <;> rfl
theorem ne_of {H : Hp} {a b : Addr} {o u : HO} (h : H a = some o) (h' : H b = some u) (d : o ≠ u) : a ≠ b := by
 intro e; subst e; rw [h] at h'; exact d (Option.some.inj h')
theorem ne_of_none {H : Hp} {a b : Addr} {o : HO} (h : H a = some o) (h' : H b = none) : a ≠ b := by
 intro e; subst e; rw [h] at h'; cases h'
section
variable (P : Program) (w : World)
def ObjOk (H : Hp) (h : Heap) (a : Addr) : HO → Prop
 | .lst xs => xs.length ≤ sizeLine ∧ ∃ (its : List Value) (n : Nat), Vals xs its ∧ h.get? a = some { cls := .type "list", data := .seq its.toArray n }
 | .tup xs => xs.length ≤ sizeLine ∧ ∃ its : List Value, Vals xs its ∧ IsTup h a its.toArray
 | .dK kvs => kvs.length ≤ sizeLine ∧ (a == sysModules) = false ∧ ∃ vs, KV kvs vs ∧ h.DictOf (mixKind P w) a vs
 | .dT kvs => kvs.length ≤ sizeLine ∧ (a == sysModules) = false ∧ ∃ xs : List (List Key × Addr × Value),
   Paired (fun (p : List Key × V) (q : List Key × Addr × Value) => p.1 = q.1 ∧ H q.2.1 = some (.tup (p.1.map kV)) ∧ RelV p.2 q.2.2) kvs xs ∧
   ∃ o es ep, h.get? a = some o ∧ o.ExactDict ∧ o.data = .dict es ep ∧ es.toList = xs.map (entryOfKey (tupleKind (mixKind P w))) ∧ (xs.map (·.1)).Nodup
 | .set S n => h.SetOf (intKind P w) a S n
 | .ins C dx fs => H dx = some (.own a) ∧ fs.length ≤ 1000 ∧ dx ≠ a ∧ h.get? a = some (PySem.W.instObj C dx) ∧
   ∃ mA, h.Ns1 dx mA ∧ (∀ f, RelO (fs.lookup f) (mA f)) ∧ PySem.Within mA (fs.map (·.1))
 | .own _ => ∃ o, h.get? a = some o
 | .xd fs => ∃ mA, h.Ns1 a mA ∧ ∀ f, RelO (fs.lookup f) (mA f)
 | .rng lo hi => ∃ t u v, h.get? a = some { cls := .type "range", data := .fields #[.int lo t, .int hi u, .int 1 v] }
 | .frz o u => h.get? a = some o ∧ ObjOk H h a u
 | .tbl ps => h.get? a = some { cls := .none, data := .fields ps }
 | .met f x => h.get? a = some (PySem.W.methodObj (.ref f) (.ref x))
 | .ext φ => φ h ∧ (∃ o, h.get? a = some o) ∧ ∀ h1 h2 : Heap, φ h1 → (∀ o, h1.get? a = some o → h2.get? a = some o) → φ h2
def HOk (H : Hp) (h : Heap) : Prop := ∀ a o, H a = some o → ObjOk P w H h a o
end
section
variable {P : Program} {w : World} {H H' : Hp} {h h' : Heap} {a : Addr} {o : HO}
theorem ObjOk.lt (x : ObjOk P w H h a o) : a < h.objs.size := by
 cases o with
 | lst xs => obtain ⟨_, _, _, _, e⟩ := x; exact Heap.lt_size e
 | tup xs => obtain ⟨_, _, _, p⟩ := x; exact p.lt
 | dK kvs => obtain ⟨_, _, _, _, o, _, _, e, _⟩ := x; exact Heap.lt_size e
 | dT kvs => obtain ⟨_, _, _, _, o, _, _, e, _⟩ := x; exact Heap.lt_size e
 | set S n => obtain ⟨o, _, _, _, e, _⟩ := x; exact Heap.lt_size e
 | ins C dx fs => obtain ⟨_, _, _, e, _⟩ := x; exact Heap.lt_size e
 | own y => obtain ⟨_, e⟩ := x; exact Heap.lt_size e
 | xd fs => obtain ⟨_, ⟨_, _, _, e, _⟩, _⟩ := x; exact Heap.lt_size e
 | rng lo hi => obtain ⟨_, _, _, e⟩ := x; exact Heap.lt_size e
 | frz ob u => obtain ⟨e, _⟩ := x; exact Heap.lt_size e
 | tbl ps => exact Heap.lt_size (show h.get? a = some _ from x)
 | met f y => exact Heap.lt_size (show h.get? a = some _ from x)
 | ext φ => obtain ⟨_, ⟨_, e⟩, _⟩ := x; exact Heap.lt_size e
theorem Paired.mapP {α β : Type} {F G : α → β → Prop} : ∀ {l₁ : List α} {l₂ : List β}, Paired F l₁ l₂ → (∀ a b, F a b → G a b) → Paired G l₁ l₂
 | _, _, .nil, _ => .nil
 | _, _, .cons r t, f => .cons (f _ _ r) (Paired.mapP t f)
theorem ObjOk.stay (x : ObjOk P w H h a o) (k : ∀ b u, (b = a ∨ H b = some (.own a)) → h.get? b = some u → h'.get? b = some u)
  (ho : ∀ b, H b = some (.own a) → H' b = some (.own a)) (ht : ∀ b xs, H b = some (.tup xs) → H' b = some (.tup xs)) : ObjOk P w H' h' a o := by
 induction o with
 | lst xs => obtain ⟨z, its, n, r, e⟩ := x; exact ⟨z, its, n, r, k _ _ (.inl rfl) e⟩
 | tup xs => obtain ⟨z, its, r, ob, e, c⟩ := x; exact ⟨z, its, r, ob, k _ _ (.inl rfl) e, c⟩
 | dK kvs => obtain ⟨z, y, vs, r, ob, es, ep, e, c⟩ := x; exact ⟨z, y, vs, r, ob, es, ep, k _ _ (.inl rfl) e, c⟩
 | dT kvs =>
  obtain ⟨z, y, xs, r, ob, es, ep, e, c⟩ := x
  exact ⟨z, y, xs, Paired.mapP r fun p q z => ⟨z.1, ht _ _ z.2.1, z.2.2⟩, ob, es, ep, k _ _ (.inl rfl) e, c⟩
 | set S n => obtain ⟨ob, es, ep, t, e, c⟩ := x; exact ⟨ob, es, ep, t, k _ _ (.inl rfl) e, c⟩
 | ins C dx fs =>
  obtain ⟨d, z, ne, e, mA, ⟨od, es, ep, e2, c⟩, r⟩ := x
  exact ⟨ho _ d, z, ne, k _ _ (.inl rfl) e, mA, ⟨od, es, ep, k _ _ (.inr d) e2, c⟩, r⟩
 | own y => obtain ⟨ob, e⟩ := x; exact ⟨ob, k _ _ (.inl rfl) e⟩
 | xd fs => obtain ⟨mA, ⟨od, es, ep, e, c⟩, r⟩ := x; exact ⟨mA, ⟨od, es, ep, k _ _ (.inl rfl) e, c⟩, r⟩
 | rng lo hi => obtain ⟨t, u, v, e⟩ := x; exact ⟨t, u, v, k _ _ (.inl rfl) e⟩
 | frz ob u ih => obtain ⟨e, q⟩ := x; exact ⟨k _ _ (.inl rfl) e, ih q⟩
 | tbl ps =>
  have e : h.get? a = some { cls := .none, data := .fields ps } := x
  show h'.get? a = some { cls := .none, data := .fields ps }
  exact k a _ (.inl rfl) e
 | met f y =>
  have e : h.get? a = some (PySem.W.methodObj (.ref f) (.ref y)) := x
  show h'.get? a = some (PySem.W.methodObj (.ref f) (.ref y))
  exact k a _ (.inl rfl) e
 | ext φ => obtain ⟨p, ⟨o, e⟩, st⟩ := x; exact ⟨st _ _ p fun o q => k _ _ (.inl rfl) q, ⟨o, k _ _ (.inl rfl) e⟩, st⟩
theorem HOk.lt (x : HOk P w H h) (e : H a = some o) : a < h.objs.size := (x a o e).lt
theorem HOk.fresh (x : HOk P w H h) (e : h.objs.size ≤ a) : H a = none := by
 cases q : H a with
 | none => rfl
 | some u => exact absurd (Nat.lt_of_lt_of_le (x.lt q) e) (Nat.lt_irrefl _)
theorem HOk.kept (x : HOk P w H h) (k : ∀ b u, h.get? b = some u → h'.get? b = some u) : HOk P w H h' := fun a o e =>
 (x a o e).stay (fun b u _ q => k b u q) (fun _ q => q) fun _ _ q => q
theorem HOk.laid (x : HOk P w H h) (k : ∀ b u, h.get? b = some u → h'.get? b = some u) (hp : h.objs.size ≤ a) (new : ObjOk P w (upd H a o) h' a o) : HOk P w (upd H a o) h' := fun b u e => by
 have hn := x.fresh hp
 by_cases hb : b = a
 ·subst hb; rw [upd_same] at e; cases e; exact new
 ·rw [upd_ne hb] at e
  exact (x b u e).stay (fun c v _ q => k c v q) (fun c q => by rw [upd_ne (ne_of_none q hn)]; exact q) fun c xs q => by rw [upd_ne (ne_of_none q hn)]; exact q
end
def Rd (H : Hp) (a : Addr) (u : HO) : Prop := H a = some u ∨ ∃ o, H a = some (.frz o u)
theorem Rd.ok {P : Program} {w : World} {H : Hp} {h : Heap} {a : Addr} {u : HO} (r : Rd H a u) (x : HOk P w H h) : ObjOk P w H h a u := by
 rcases r with r | ⟨o, r⟩
 ·exact x a u r
 ·obtain ⟨_, q⟩ := x a _ r
  exact q
def Mut : Option HO → Prop
 | some (.lst _) => True
 | some (.dK _) => True
 | some (.dT _) => True
 | some (.set _ _) => True
 | some (.ins _ _ _) => True
 | some (.ext _) => True
 | _ => False
section
variable {P : Program} {w : World} {H : Hp} {h h' : Heap} {x e : Addr} {o' : HO}
theorem HOk.write (ok : HOk P w H h) (mu : Mut (H x)) (he : e = x ∨ H e = some (.own x)) (k : ∀ b u, b ≠ e → h.get? b = some u → h'.get? b = some u) (heo : ∃ u, h'.get? e = some u)
  (new : ObjOk P w (upd H x o') h' x o') : HOk P w (upd H x o') h' := fun b u q => by
 have nown : ∀ c y, H c = some (.own y) → c ≠ x := fun c y r z => by subst z; rw [r] at mu; exact mu
 have ntup : ∀ c xs, H c = some (.tup xs) → c ≠ x := fun c xs r z => by subst z; rw [r] at mu; exact mu
 by_cases hb : b = x
 ·subst hb; rw [upd_same] at q; cases q; exact new
 ·rw [upd_ne hb] at q
  by_cases hbe : b = e
  ·have q' : H b = some (.own x) := by
    rcases he with z | z
    ·exact absurd (hbe.trans z) hb
    ·rw [hbe]; exact z
   rw [q] at q'; cases q'
   obtain ⟨v, hv⟩ := heo
   exact ⟨v, by rw [hbe]; exact hv⟩
  ·refine (ok b u q).stay (fun c v hc r => k c v ?_ r) (fun c r => by rw [upd_ne (nown c b r)]; exact r) fun c xs r => by rw [upd_ne (ntup c xs r)]; exact r
   rcases hc with rfl | hc
   ·exact hbe
   ·rintro rfl
    rcases he with z | z
    ·exact nown c b hc z
    ·rw [hc] at z; cases z; exact hb rfl
end
structure Un (fs ex : List Addr) (H H' : Hp) (h h' : Heap) : Prop where
 keep : ∀ b o, h.get? b = some o → H b = none → b ∉ fs → b ∉ ex → h'.get? b = some o
 slot : ∀ b o, h.get? b = some o → H b = none → b ∈ fs → b ∉ ex → ∃ sl, h'.get? b = some { o with slots := sl }
 free : ∀ b o, h.get? b = some o → H b = none → b ∉ ex → H' b = none
 there : ∀ b o, h.get? b = some o → b ∉ ex → ∃ o', h'.get? b = some o'
 tups : ∀ b xs, H b = some (.tup xs) → H' b = some (.tup xs)
 frzs : ∀ b o u, H b = some (.frz o u) → H' b = some (.frz o u)
 tbls : ∀ b ps, H b = some (.tbl ps) → ∃ more, H' b = some (.tbl (ps ++ more))
section
variable {fs fs' ex ex' : List Addr} {H H1 H2 : Hp} {h h1 h2 h' : Heap} {a x e : Addr} {o : HO}
theorem Un.any (u : Un fs ex H H1 h h1) {b : Addr} {ob : Obj} (q : h.get? b = some ob) (n : H b = none) (hx : b ∉ ex) : ∃ sl, h1.get? b = some { ob with slots := sl } := by
 by_cases hb : b ∈ fs
 ·exact u.slot b ob q n hb hx
 ·exact ⟨ob.slots, u.keep b ob q n hb hx⟩
theorem Un.kept (k : ∀ b u, h.get? b = some u → h'.get? b = some u) : Un fs ex H H h h' :=
 ⟨fun b ob q _ _ _ => k b ob q, fun b ob q _ _ _ => ⟨ob.slots, k b ob q⟩, fun _ _ _ n _ => n, fun b ob q _ => ⟨ob, k b ob q⟩, fun _ _ q => q, fun _ _ _ q => q, fun _ ps q => ⟨#[], by rw [q]; simp⟩⟩
theorem Un.refl : Un fs ex H H h h := Un.kept fun _ _ q => q
theorem Un.laid (k : ∀ b u, h.get? b = some u → h'.get? b = some u) (hp : h.objs.size ≤ a) (hn : H a = none) : Un fs ex H (upd H a o) h h' where
 keep := fun b u q _ _ _ => k b u q
 slot := fun b u q _ _ _ => ⟨u.slots, k b u q⟩
 free := fun b u q n _ => by rw [upd_ne (Nat.ne_of_lt (Nat.lt_of_lt_of_le (Heap.lt_size q) hp))]; exact n
 there := fun b u q _ => ⟨u, k b u q⟩
 tups := fun b xs q => by rw [upd_ne (ne_of_none q hn)]; exact q
 frzs := fun b u xs q => by rw [upd_ne (ne_of_none q hn)]; exact q
 tbls := fun b ps q => ⟨#[], by rw [upd_ne (ne_of_none q hn), q]; simp⟩
theorem Un.write (mu : Mut (H x)) (he : e = x ∨ H e = some (.own x)) (k : ∀ b u, b ≠ e → h.get? b = some u → h'.get? b = some u) (heo : ∃ u, h'.get? e = some u) : Un fs ex H (upd H x o) h h' := by
 have hx : ∀ b, H b = none → b ≠ x := fun b n z => by subst z; rw [n] at mu; exact mu
 have hb : ∀ b, H b = none → b ≠ e := fun b n z => by
  subst z
  rcases he with r | r
  ·exact hx b n r
  ·rw [n] at r; cases r
 have hm : ∀ b u, H b = some u → ¬ Mut (some u) → b ≠ x := fun b u q nm z => by subst z; rw [q] at mu; exact nm mu
 refine ⟨fun b u q n _ _ => k b u (hb b n) q, fun b u q n _ _ => ⟨u.slots, k b u (hb b n) q⟩, fun b u q n _ => by rw [upd_ne (hx b n)]; exact n, fun b u q _ => ?_,
  fun b xs q => by rw [upd_ne (hm b _ q fun z => z)]; exact q, fun b u xs q => by rw [upd_ne (hm b _ q fun z => z)]; exact q, fun b ps q => ⟨#[], by rw [upd_ne (hm b _ q fun z => z), q]; simp⟩⟩
 by_cases hbe : b = e
 ·subst hbe; exact heo
 ·exact ⟨u, k b u hbe q⟩
end
def trk (h : Heap) (H : Hp) : List Addr := (List.range h.objs.size).filter fun a => (H a).isSome
def hidT (h : Heap) (H : Hp) : Heap := PySem.W.hideAll h (trk h H)
theorem hidT_size (h : Heap) (H : Hp) : (hidT h H).objs.size = h.objs.size := PySem.W.hideAll_size _ _
theorem hidT_get {h : Heap} {H : Hp} {b : Addr} {o : Obj} (e : h.get? b = some o) (n : H b = none) : (hidT h H).get? b = some o :=
 PySem.W.hideAll_get _ e fun hm => by
  have q : (H b).isSome = true := (List.mem_filter.mp hm).2
  rw [n] at q; simp at q
theorem of_hidT {h : Heap} {H : Hp} {b : Addr} {o : Obj} (e : (hidT h H).get? b = some o) : h.get? b = some o ∧ H b = none := by
 have e' : h.get? b = some o := PySem.W.of_hideAll (trk h H) e
 refine ⟨e', ?_⟩
 cases q : H b with
 | none => rfl
 | some x =>
  have hm : b ∈ trk h H := List.mem_filter.mpr ⟨List.mem_range.mpr (Heap.lt_size e'), by simp [q]⟩
  have z : (hidT h H).get? b = none := PySem.W.hideAll_none (trk h H) hm
  rw [z] at e; cases e
def allNews (g h : Heap) (L : Addr) : List (Addr × Obj) := (List.range h.objs.size).filterMap fun a => if a = L ∨ (g.get? a).isSome = true then none else (h.get? a).map fun o => (a, o)
def rest (g h : Heap) (L d : Addr) : List (Addr × Obj) := (allNews g h L).filter fun p => decide (p.1 ≠ d)
structure Mod (K : PySem.W.Frag) (mg : Str → Option Value) (base : Heap) : Prop where
 kin : K.In base
 glob : base.Ns mainGlobals mg
 blt : ∃ mb, base.Ns builtinsNs mb ∧ ∀ x : Str, x ≠ "__name__" → mb x = bootBuiltins x
 nolimit : base.NoLimit
structure Cx where
 prog : Program
 w : World
 K : PySem.W.Frag
 mg : Str → Option Value
 base : Heap
 A : Around
 N : List Str
 s₀ : Shared
 H₀ : Hp
 env : Env
 outer : List Env
 stack : List Env
 ex : List Addr
 fn : Str → Bool
 calm : Bool
 pn : List (Addr × Obj)
 xe : Value → Shared → Prop
def frs (l : List Env) : List Addr := l.filterMap (·.frame)
abbrev Cx.fs (X : Cx) : List Addr := frs X.outer
def Vis (sc : Scope) (x : Str) : Prop := sc.names.lookup x = some .local ∨ sc.names.lookup x = some .cell ∨ sc.names.lookup x = some .free
def Loc (sc : Scope) (x : Str) : Prop := sc.names.lookup x = some .local ∨ sc.names.lookup x = some .cell
def Look (env : Env) (h : Heap) (m : Str → Option Value) (x : Str) (u : Value) : Prop :=
 (env.kindOf x = some .local ∧ m x = some u) ∨ ((env.kindOf x = some .cell ∨ env.kindOf x = some .free) ∧ ∃ c, env.cells.lookup x = some c ∧ h.IsCell c (some u))
structure Cx.Ok (X : Cx) : Prop where
 mod : Mod X.K X.mg X.base
 kind : X.env.scope.kind = .function
 glob : X.env.globals = mainGlobals
 blt : X.env.builtins = builtinsNs
 above : X.s₀.heap.objs.size ≤ X.env.locals
 inj : ∀ x y c, X.env.cells.lookup x = some c → X.env.cells.lookup y = some c → x = y
 has : ∀ x, (X.env.kindOf x = some .cell ∨ X.env.kindOf x = some .free) → ∃ c, X.env.cells.lookup x = some c
 cab : ∀ x c, X.fn x = true → X.env.cells.lookup x = some c → X.s₀.heap.objs.size ≤ c
 hd : X.calm = true → X.A.handled = none
 frames : X.A.frames = some X.stack
 stk : X.stack = X.outer ∨ (X.stack = X.env :: X.outer ∧ X.env.frame = some X.env.locals)
 exf : ∀ b ∈ X.ex, b ≠ X.env.locals ∧ ∀ x c, X.env.cells.lookup x = some c → c ≠ b
 bs : ∀ b o, X.base.get? b = some o → X.s₀.heap.get? b = some o ∧ X.H₀ b = none
 bsz : X.base.objs.size ≤ X.s₀.heap.objs.size
 noex : ∀ b o, X.base.get? b = some o → b ∉ X.ex
 exfs : ∀ b ∈ X.ex, b ∉ X.fs
 funs : X.s₀.heap.FunFrames X.base X.outer
 frf : ∀ b ∈ X.fs, X.H₀ b = none
structure Inv (X : Cx) (pins : List (Addr × Obj)) (σ : List (Option V)) (H : Hp) (s : Shared) : Prop where
 ok : X.Ok
 os : s.os = X.s₀.os
 bare : AllBare s.gens
 base : Un X.fs X.ex X.H₀ H X.s₀.heap s.heap
 loc : ∃ m, s.heap.Ns X.env.locals m ∧ ∀ (i : Nat) (x : Str) (v : V), X.N[i]? = some x → σ[i]? = some (some v) → Vis X.env.scope x → ∃ u, RelV v u ∧ Look X.env s.heap m x u
 cell : ∀ x c, X.env.cells.lookup x = some c → ∃ v, s.heap.IsCell c v
 free : H X.env.locals = none
 freeC : ∀ x c, X.env.cells.lookup x = some c → H c = none
 pin : ∀ p ∈ X.pn ++ pins, s.heap.get? p.1 = some p.2 ∧ H p.1 = none ∧ p.1 ≠ X.env.locals ∧ p.1 ∉ X.fs ∧ ∀ v, p.2.data ≠ .cell v
 hok : HOk X.prog X.w H s.heap
 len : σ.length = X.N.length
section
variable {X : Cx} {pins : List (Addr × Obj)} {σ : List (Option V)} {H H' : Hp} {s : Shared} {h' : Heap}
theorem Cx.Ok.nofr (ok : X.Ok) {b : Addr} {o : Obj} (e : X.base.get? b = some o) : b ∉ X.fs := fun hb => by
 have := (ok.funs.mem hb).1
 rw [e] at this; cases this
theorem Inv.bs (I : Inv X pins σ H s) : ∀ b o, X.base.get? b = some o → s.heap.get? b = some o ∧ H b = none := fun b o e =>
 ⟨I.base.keep b o (I.ok.bs b o e).1 (I.ok.bs b o e).2 (I.ok.nofr e) (I.ok.noex b o e), I.base.free b o (I.ok.bs b o e).1 (I.ok.bs b o e).2 (I.ok.noex b o e)⟩
theorem Inv.bk (I : Inv X pins σ H s) : ∀ b o, X.base.get? b = some o → s.heap.get? b = some o := fun b o e => (I.bs b o e).1
theorem Inv.mod (I : Inv X pins σ H s) : Mod X.K X.mg X.base := I.ok.mod
theorem Inv.kIn (I : Inv X pins σ H s) : X.K.In s.heap := I.ok.mod.kin.keeps I.bk
theorem Inv.lt (I : Inv X pins σ H s) : X.env.locals < s.heap.objs.size := let ⟨_, hn, _⟩ := I.loc; hn.lt
theorem Inv.sz (I : Inv X pins σ H s) : X.s₀.heap.objs.size ≤ s.heap.objs.size := Nat.le_trans I.ok.above (Nat.le_of_lt I.lt)
theorem Inv.nofs (I : Inv X pins σ H s) {a : Addr} (h : s.heap.objs.size ≤ a) : a ∉ X.fs := fun hb => by
 obtain ⟨_, o, ho, _⟩ := I.ok.funs.mem hb
 exact absurd (Nat.lt_of_lt_of_le (Heap.lt_size ho) (Nat.le_trans I.sz h)) (Nat.lt_irrefl _)
theorem Inv.cne (I : Inv X pins σ H s) : ∀ x c, X.env.cells.lookup x = some c → c ≠ X.env.locals := fun x c e z => by
 obtain ⟨v, o, ho, hd⟩ := I.cell x c e
 obtain ⟨m, ⟨o', es, ep, ho', hd', _⟩, _⟩ := I.loc
 rw [z, ho'] at ho; cases ho; rw [hd'] at hd; cases hd
theorem Inv.funs (I : Inv X pins σ H s) : s.heap.FunFrames X.base X.outer := by
 have all : ∀ (l : List Env), (∀ b ∈ frs l, b ∈ X.fs) → X.s₀.heap.FunFrames X.base l → s.heap.FunFrames X.base l := by
  intro l
  induction l with
  | nil => intro _ _; trivial
  | cons env r ih =>
   intro hs hl
   obtain ⟨hk, ⟨L, o, hf, hn, ho, hd⟩, hr⟩ := hl
   have hL : L ∈ X.fs := hs L (by unfold frs; rw [List.filterMap_cons, hf]; exact List.mem_cons_self)
   obtain ⟨sl, e⟩ := I.base.slot L o ho (I.ok.frf L hL) hL fun z => I.ok.exfs L z hL
   exact ⟨hk, ⟨L, _, hf, hn, e, hd⟩, ih (fun b hb => hs b (by unfold frs; rw [List.filterMap_cons, hf]; exact List.mem_cons_of_mem _ hb)) hr⟩
 exact all X.outer (fun _ hb => hb) I.ok.funs
theorem Inv.stack (I : Inv X pins σ H s) : s.heap.FunFrames X.base X.stack := by
 rcases I.ok.stk with e | ⟨e, hf⟩
 ·rw [e]; exact I.funs
 ·rw [e]
  obtain ⟨m, hn, _⟩ := I.loc
  refine .cons (by rw [I.ok.kind]; decide) hf hn ?_ I.funs
  exact Heap.get?_none_of_le (Nat.le_trans I.ok.bsz I.ok.above)
theorem Inv.stkSub (I : Inv X pins σ H s) : ∀ b ∈ frs X.stack, b ∈ X.env.locals :: X.fs := fun b hb => by
 rcases I.ok.stk with e | ⟨e, hf⟩
 ·rw [e] at hb; exact List.mem_cons_of_mem _ hb
 ·rw [e] at hb
  unfold frs at hb
  rw [List.filterMap_cons, hf] at hb
  exact hb
theorem Inv.stkFree (I : Inv X pins σ H s) : ∀ b ∈ frs X.stack, H b = none := fun b hb => by
 rcases List.mem_cons.mp (I.stkSub b hb) with e | hb
 ·rw [e]; exact I.free
 ·obtain ⟨_, o, ho, _⟩ := I.ok.funs.mem hb
  exact I.base.free b o ho (I.ok.frf b hb) fun z => I.ok.exfs b z hb
theorem Inv.step {g' : Array GenState} {t' : Nat} {d' : Drawn} {ch : List Addr} (I : Inv X pins σ H s)
  (hch : ∀ b ∈ ch, (b ∈ X.ex ∨ X.s₀.heap.objs.size ≤ b) ∧ b ≠ X.env.locals ∧ (∀ x c, X.env.cells.lookup x = some c → c ≠ b) ∧ ∀ p ∈ X.pn ++ pins, p.1 ≠ b)
  (keep : ∀ b o, b ≠ X.env.locals → b ∉ X.fs → b ∉ ch → s.heap.get? b = some o → H b = none → h'.get? b = some o)
  (slot : ∀ b o, b ≠ X.env.locals → b ∈ X.fs → b ∉ ch → s.heap.get? b = some o → H b = none → ∃ sl, h'.get? b = some { o with slots := sl }) (free : ∀ b o, b ∉ ch → s.heap.get? b = some o → H b = none → H' b = none)
  (there : ∀ b o, b ∉ ch → s.heap.get? b = some o → ∃ o', h'.get? b = some o')
  (tups : ∀ b xs, H b = some (.tup xs) → H' b = some (.tup xs)) (frzs : ∀ b o u, H b = some (.frz o u) → H' b = some (.frz o u)) (tbls : ∀ b ps, H b = some (.tbl ps) → ∃ more, H' b = some (.tbl (ps ++ more)))
  (ns : ∀ m, s.heap.Ns X.env.locals m → h'.Ns X.env.locals m) (hok : HOk X.prog X.w H' h') (hg : AllBare g') :
  Inv X pins σ H' { s with heap := h', gens := g', drawn := d', toks := t' } := by
 have neL : ∀ b o, X.s₀.heap.get? b = some o → b ≠ X.env.locals := fun b o e => Nat.ne_of_lt (Nat.lt_of_lt_of_le (Heap.lt_size e) I.ok.above)
 have neC : ∀ b o, X.s₀.heap.get? b = some o → b ∉ X.ex → b ∉ ch := fun b o e hx hb => by
  rcases (hch b hb).1 with z | z
  ·exact hx z
  ·exact absurd (Nat.lt_of_lt_of_le (Heap.lt_size e) z) (Nat.lt_irrefl _)
 have cellK : ∀ x c, X.env.cells.lookup x = some c → ∀ v, s.heap.IsCell c v → h'.IsCell c v := fun x c e v ⟨o, ho, hd⟩ => by
  have nch : c ∉ ch := fun z => (hch c z).2.2.1 x c e rfl
  by_cases hc : c ∈ X.fs
  ·obtain ⟨sl, q⟩ := slot c o (I.cne x c e) hc nch ho (I.freeC x c e)
   exact ⟨_, q, hd⟩
  ·exact ⟨o, keep c o (I.cne x c e) hc nch ho (I.freeC x c e), hd⟩
 refine ⟨I.ok, I.os, hg, ⟨fun b o e n hb hx => ?_, fun b o e n hb hx => ?_, fun b o e n hx => ?_, fun b o e hx => ?_, fun b xs e => tups b xs (I.base.tups b xs e), fun b o xs e => frzs b o xs (I.base.frzs b o xs e), fun b ps e => ?_⟩, ?_, fun x c e => ?_, ?_, fun x c e => ?_, fun p hp => ?_, hok, I.len⟩
 ·exact keep b o (neL b o e) hb (neC b o e hx) (I.base.keep b o e n hb hx) (I.base.free b o e n hx)
 ·obtain ⟨sl, e1⟩ := I.base.slot b o e n hb hx
  obtain ⟨sl', e2⟩ := slot b _ (neL b o e) hb (neC b o e hx) e1 (I.base.free b o e n hx)
  exact ⟨sl', e2⟩
 ·obtain ⟨o', e1⟩ := I.base.there b o e hx
  exact free b o' (neC b o e hx) e1 (I.base.free b o e n hx)
 ·obtain ⟨o', e1⟩ := I.base.there b o e hx
  exact there b o' (neC b o e hx) e1
 ·obtain ⟨m1, e1⟩ := I.base.tbls b ps e
  obtain ⟨m2, e2⟩ := tbls b _ e1
  exact ⟨m1 ++ m2, by rw [e2, Array.append_assoc]⟩
 ·obtain ⟨m, hn, hl⟩ := I.loc
  refine ⟨m, ns m hn, fun i x v e1 e2 e3 => ?_⟩
  obtain ⟨u, r, l⟩ := hl i x v e1 e2 e3
  refine ⟨u, r, ?_⟩
  rcases l with l | ⟨k, c, e, z⟩
  ·exact .inl l
  ·exact .inr ⟨k, c, e, cellK x c e _ z⟩
 ·obtain ⟨v, z⟩ := I.cell x c e
  exact ⟨v, cellK x c e v z⟩
 ·obtain ⟨m, ⟨o, _, _, ho, _⟩, _⟩ := I.loc
  exact free _ o (fun z => (hch _ z).2.1 rfl) ho I.free
 ·obtain ⟨v, o, ho, hd⟩ := I.cell x c e
  exact free c o (fun z => (hch c z).2.2.1 x c e rfl) ho (I.freeC x c e)
 ·obtain ⟨e, n, ne, nf, d⟩ := I.pin p hp
  have nch : p.1 ∉ ch := fun z => (hch p.1 z).2.2.2 p hp rfl
  exact ⟨keep p.1 p.2 ne nf nch e n, free p.1 p.2 nch e n, ne, nf, d⟩
theorem Inv.un {t' : Nat} (I : Inv X pins σ H s) (u : Un X.fs [] H H' s.heap h') (hok : HOk X.prog X.w H' h') : Inv X pins σ H' { s with heap := h', toks := t' } := by
 obtain ⟨m, ⟨o, es, ep, ho, r⟩, _⟩ := id I.loc
 obtain ⟨sl, hL⟩ := u.any ho I.free (by simp)
 exact I.step (g' := s.gens) (d' := s.drawn) (ch := []) (fun _ z => nomatch z) (fun b o _ hb _ e n => u.keep b o e n hb (by simp)) (fun b o _ hb _ e n => u.slot b o e n hb (by simp)) (fun b o _ e n => u.free b o e n (by simp)) (fun b o _ e => u.there b o e (by simp)) u.tups u.frzs u.tbls (fun m' hm => by
  obtain ⟨o', es', ep', ho', r'⟩ := hm
  rw [ho] at ho'; cases ho'
  exact ⟨_, es', ep', hL, r'⟩) hok I.bare
theorem Inv.call {g' : Array GenState} {t' : Nat} {d' : Drawn} {ch : List Addr} (I : Inv X pins σ H s) (u : Un (frs X.stack) ch H H' s.heap h') (hok : HOk X.prog X.w H' h') (hg : AllBare g')
  (hch : ∀ b ∈ ch, (b ∈ X.ex ∨ X.s₀.heap.objs.size ≤ b) ∧ b ≠ X.env.locals ∧ (∀ x c, X.env.cells.lookup x = some c → c ≠ b) ∧ ∀ p ∈ X.pn ++ pins, p.1 ≠ b) :
  Inv X pins σ H' { s with heap := h', gens := g', drawn := d', toks := t' } := by
 obtain ⟨m, ⟨o, es, ep, ho, r⟩, _⟩ := id I.loc
 obtain ⟨sl, hL⟩ := u.any ho I.free fun z => (hch _ z).2.1 rfl
 exact I.step (ch := ch) hch (fun b o hL hb hc e n => u.keep b o e n (fun z => (List.mem_cons.mp (I.stkSub b z)).elim hL hb) hc) (fun b o _ _ hc e n => u.any e n hc) (fun b o hc e n => u.free b o e n hc) (fun b o hc e => u.there b o e hc) u.tups u.frzs u.tbls (fun m' hm => by
  obtain ⟨o', es', ep', ho', r'⟩ := hm
  rw [ho] at ho'; cases ho'
  exact ⟨_, es', ep', hL, r'⟩) hok hg
theorem Inv.turned {t' : Nat} {it : Addr} (I : Inv X pins σ H s) (k : ∀ b o, b ≠ it → s.heap.get? b = some o → h'.get? b = some o) (hn : H it = none) (hL : it ≠ X.env.locals)
  (h1 : it ∈ X.ex ∨ X.s₀.heap.objs.size ≤ it) (h2 : ∀ x c, X.env.cells.lookup x = some c → c ≠ it) (h3 : ∀ p ∈ X.pn ++ pins, p.1 ≠ it) : Inv X pins σ H { s with heap := h', toks := t' } := by
 have nit : ∀ b u, H b = some u → b ≠ it := fun b u e z => by rw [z, hn] at e; cases e
 refine I.step (g' := s.gens) (d' := s.drawn) (ch := [it]) (fun b hb => ?_) (fun b o _ _ hc e _ => k b o (fun z => hc (by simp [z])) e) (fun b o _ _ hc e _ => ⟨o.slots, k b o (fun z => hc (by simp [z])) e⟩) (fun _ _ _ _ n => n)
  (fun b o hc e => ⟨o, k b o (fun z => hc (by simp [z])) e⟩) (fun _ _ e => e) (fun _ _ _ e => e) (fun b ps e => ⟨#[], by rw [e]; simp⟩) (fun m hm => ?_) (fun b u e => ?_) I.bare
 ·have e : b = it := by simpa using hb
  subst e
  exact ⟨h1, hL, h2, h3⟩
 ·obtain ⟨o, es, ep, ho, r⟩ := hm
  exact ⟨o, es, ep, k _ o (Ne.symm hL) ho, r⟩
 ·refine (I.hok b u e).stay (fun c v hc q => k c v ?_ q) (fun _ q => q) fun _ _ q => q
  rcases hc with z | z
  ·rw [z]; exact nit b u e
  ·exact nit c _ z
theorem Inv.tok (I : Inv X pins σ H s) (t : Nat) : Inv X pins σ H { s with toks := t } := I.un (h' := s.heap) (t' := t) Un.refl I.hok
theorem Inv.kept {t' : Nat} (I : Inv X pins σ H s) (k : ∀ b u, s.heap.get? b = some u → h'.get? b = some u) : Inv X pins σ H { s with heap := h', toks := t' } := I.un (Un.kept k) (I.hok.kept k)
theorem Inv.laid {a : Addr} {o : HO} {t' : Nat} (I : Inv X pins σ H s) (k : ∀ b u, s.heap.get? b = some u → h'.get? b = some u) (hp : s.heap.objs.size ≤ a) (new : ObjOk X.prog X.w (upd H a o) h' a o) :
  Inv X pins σ (upd H a o) { s with heap := h', toks := t' } := I.un (Un.laid k hp (I.hok.fresh hp)) (I.hok.laid k hp new)
theorem Inv.write {x e : Addr} {o : HO} {t' : Nat} (I : Inv X pins σ H s) (mu : Mut (H x)) (he : e = x ∨ H e = some (.own x)) (k : ∀ b u, b ≠ e → s.heap.get? b = some u → h'.get? b = some u) (heo : ∃ u, h'.get? e = some u)
  (new : ObjOk X.prog X.w (upd H x o) h' x o) : Inv X pins σ (upd H x o) { s with heap := h', toks := t' } := I.un (Un.write mu he k heo) (I.hok.write mu he k heo new)
theorem Inv.pins_of {pins' : List (Addr × Obj)} (I : Inv X pins σ H s) (h : ∀ p ∈ pins', s.heap.get? p.1 = some p.2 ∧ H p.1 = none ∧ p.1 ≠ X.env.locals ∧ p.1 ∉ X.fs ∧ ∀ v, p.2.data ≠ .cell v) : Inv X pins' σ H s :=
 ⟨I.ok, I.os, I.bare, I.base, I.loc, I.cell, I.free, I.freeC, fun p hp => (List.mem_append.mp hp).elim (fun z => I.pin p (List.mem_append_left _ z)) (h p), I.hok, I.len⟩
theorem nodup_ix {N : List Str} (hN : N.Nodup) {i j : Nat} {x : Str} (a : N[i]? = some x) (b : N[j]? = some x) : i = j := by
 obtain ⟨h1, e1⟩ := List.getElem?_eq_some_iff.mp a
 obtain ⟨h2, e2⟩ := List.getElem?_eq_some_iff.mp b
 exact (List.getElem_inj hN).mp (e1.trans e2.symm)
theorem store_ok2 {M : Model} {A : Around} {E : Value → Shared → Prop} {i : Nat} {x : Str} {v : V} {u : Value} {Q : Unit → Shared → Prop} (I : Inv X pins σ H s) (hN : X.N.Nodup) (hi : X.N[i]? = some x) (hx : Loc X.env.scope x) (r : RelV v u)
  (h : ∀ s', Inv X pins (σ.set i (some v)) H s' → (∃ a, Heap.SameBut a s.heap s'.heap ∧ (a = X.env.locals ∨ X.env.cells.lookup x = some a)) → Q () s') (hf : X.fn x = true ∨ X.env.scope.names.lookup x = some .local := by first | exact .inl rfl | exact .inr rfl | assumption) : wpAny M A (storeName X.env x u) Q E s := by
 obtain ⟨m, hn, hl⟩ := id I.loc
 have hcls : (X.env.scope.kind == .class || (X.env.scope.kind == .module && X.env.locals != X.env.globals)) = false := by rw [I.ok.kind]; rfl
 have hiσ : i < σ.length := by rw [I.len]; exact (List.getElem?_eq_some_iff.mp hi).1
 have cne := I.cne
 have tracked : ∀ {a : Addr} {h' : Heap}, (∃ o, s.heap.get? a = some o ∧ H a = none) → Heap.SameBut a s.heap h' → HOk X.prog X.w H h' := fun {a h'} ha hs b ob e => by
  obtain ⟨_, _, hfree⟩ := ha
  refine (I.hok b ob e).stay (fun c w' hc q => (hs.2 c ?_).trans q) (fun _ q => q) fun _ _ q => q
  rintro rfl
  rcases hc with rfl | hc
  ·rw [hfree] at e; cases e
  ·rw [hfree] at hc; cases hc
 rcases hx with hk | hk
 ·refine wpAny_storeName_local hk hn (fun h' hn' hs => ?_) hcls
  obtain ⟨oL, _, _, hoL, _⟩ := id hn
  refine h _ ⟨I.ok, I.os, I.bare, ⟨fun b o e n hb hx => ?_, fun b o e n hb hx => ?_, I.base.free, fun b o e hx => ?_, I.base.tups, I.base.frzs, I.base.tbls⟩, ⟨_, hn', fun j y v' e1 e2 e3 => ?_⟩, fun y c e => ?_, I.free, I.freeC, fun p hp => ?_, tracked ⟨oL, hoL, I.free⟩ hs, by simpa using I.len⟩ ⟨_, hs, .inl rfl⟩
  ·exact (hs.2 b (Nat.ne_of_lt (Nat.lt_of_lt_of_le (Heap.lt_size e) I.ok.above))).trans (I.base.keep b o e n hb hx)
  ·obtain ⟨sl, e1⟩ := I.base.slot b o e n hb hx
   exact ⟨sl, (hs.2 b (Nat.ne_of_lt (Nat.lt_of_lt_of_le (Heap.lt_size e) I.ok.above))).trans e1⟩
  ·obtain ⟨o', e1⟩ := I.base.there b o e hx
   exact ⟨o', (hs.2 b (Nat.ne_of_lt (Nat.lt_of_lt_of_le (Heap.lt_size e) I.ok.above))).trans e1⟩
  ·by_cases hj : j = i
   ·subst hj
    rw [hi] at e1; cases e1
    rw [List.getElem?_set_self hiσ] at e2
    cases e2
    exact ⟨u, r, .inl ⟨hk, by simp⟩⟩
   ·rw [List.getElem?_set_ne (Ne.symm hj)] at e2
    obtain ⟨u', r', q⟩ := hl j y v' e1 e2 e3
    refine ⟨u', r', ?_⟩
    rcases q with ⟨k, e⟩ | ⟨k, c, e, z⟩
    ·refine .inl ⟨k, ?_⟩
     have : y ≠ x := fun e => hj (nodup_ix hN e1 (e ▸ hi))
     simp [this, e]
    ·exact .inr ⟨k, c, e, z.sameBut hs (cne y c e)⟩
  ·obtain ⟨w', z⟩ := I.cell y c e
   exact ⟨w', z.sameBut hs (cne y c e)⟩
  ·obtain ⟨e, n, ne, nf, d⟩ := I.pin p hp
   exact ⟨(hs.2 p.1 ne).trans e, n, ne, nf, d⟩
 ·have hfn : X.fn x = true := by
   rcases hf with z | z
   ·exact z
   ·rw [z] at hk; cases hk
  obtain ⟨c, hc⟩ := I.ok.has x (.inl hk)
  obtain ⟨w', z⟩ := I.cell x c hc
  refine wpAny_storeName_cell I.ok.kind hk hc z (fun h' hc' hs => ?_)
  obtain ⟨oc, hoc, hocd⟩ := id z
  refine h { s with heap := h' } ⟨I.ok, I.os, I.bare, ⟨fun b o e n hb hx => ?_, fun b o e n hb hx => ?_, I.base.free, fun b o e hx => ?_, I.base.tups, I.base.frzs, I.base.tbls⟩, ⟨m, hn.sameBut hs (Ne.symm (cne x c hc)), fun j y v' e1 e2 e3 => ?_⟩, fun y c' e => ?_, I.free, I.freeC, fun p hp => ?_, tracked ⟨oc, hoc, I.freeC x c hc⟩ hs, by simpa using I.len⟩ ⟨c, hs, .inr hc⟩
  ·exact (hs.2 b (Nat.ne_of_lt (Nat.lt_of_lt_of_le (Heap.lt_size e) (I.ok.cab x c hfn hc)))).trans (I.base.keep b o e n hb hx)
  ·obtain ⟨sl, e1⟩ := I.base.slot b o e n hb hx
   exact ⟨sl, (hs.2 b (Nat.ne_of_lt (Nat.lt_of_lt_of_le (Heap.lt_size e) (I.ok.cab x c hfn hc)))).trans e1⟩
  ·obtain ⟨o', e1⟩ := I.base.there b o e hx
   exact ⟨o', (hs.2 b (Nat.ne_of_lt (Nat.lt_of_lt_of_le (Heap.lt_size e) (I.ok.cab x c hfn hc)))).trans e1⟩
  ·by_cases hj : j = i
   ·subst hj
    rw [hi] at e1; cases e1
    rw [List.getElem?_set_self hiσ] at e2
    cases e2
    exact ⟨u, r, .inr ⟨.inl hk, c, hc, hc'⟩⟩
   ·rw [List.getElem?_set_ne (Ne.symm hj)] at e2
    obtain ⟨u', r', q⟩ := hl j y v' e1 e2 e3
    refine ⟨u', r', ?_⟩
    rcases q with q | ⟨k, c', e, z'⟩
    ·exact .inl q
    ·refine .inr ⟨k, c', e, z'.sameBut hs ?_⟩
     rintro rfl
     exact hj (nodup_ix hN e1 (I.ok.inj _ _ _ e hc ▸ hi))
  ·by_cases hcc : c' = c
   ·subst hcc; exact ⟨_, hc'⟩
   ·obtain ⟨w2, z2⟩ := I.cell y c' e
    exact ⟨w2, z2.sameBut hs hcc⟩
  ·obtain ⟨e, n, ne, nf, d⟩ := I.pin p hp
   refine ⟨(hs.2 p.1 ?_).trans e, n, ne, nf, d⟩
   intro q
   rw [q, hoc] at e
   have q' : oc = p.2 := Option.some.inj e
   exact d w' (by rw [← q']; exact hocd)
theorem store_ok {M : Model} {A : Around} {E : Value → Shared → Prop} {i : Nat} {x : Str} {v : V} {u : Value} {Q : Unit → Shared → Prop} (I : Inv X pins σ H s) (hN : X.N.Nodup) (hi : X.N[i]? = some x) (hx : Loc X.env.scope x) (r : RelV v u)
  (h : ∀ s', Inv X pins (σ.set i (some v)) H s' → Q () s') (hf : X.fn x = true ∨ X.env.scope.names.lookup x = some .local := by first | exact .inl rfl | exact .inr rfl | assumption) : wpAny M A (storeName X.env x u) Q E s :=
 store_ok2 I hN hi hx r (fun s' I' _ => h s' I') hf
theorem Inv.call' {s' : Shared} {ch : List Addr} (I : Inv X pins σ H s) (ho : s'.os = s.os) (u : Un (frs X.stack) ch H H' s.heap s'.heap) (hok : HOk X.prog X.w H' s'.heap) (hg : AllBare s'.gens)
  (hch : ∀ b ∈ ch, (b ∈ X.ex ∨ X.s₀.heap.objs.size ≤ b) ∧ b ≠ X.env.locals ∧ (∀ x c, X.env.cells.lookup x = some c → c ≠ b) ∧ ∀ p ∈ X.pn ++ pins, p.1 ≠ b) : Inv X pins σ H' s' := by
 obtain ⟨h', g', d', t', o'⟩ := s'
 have e : o' = s.os := ho
 subst e
 exact I.call (g' := g') (t' := t') (d' := d') u hok hg hch
end
abbrev XK := Value → Option Addr → Hp → Prop
abbrev St := List (Option V)
abbrev VK := V → Hp → Prop
abbrev TE := St → Hp → VK → Prop
abbrev TT := St → Hp → (Bool → Hp → Prop) → Prop
abbrev TA := St → Hp → (List V → Hp → Prop) → Prop
structure Ends where
 nx : St → Hp → Prop
 rt : VK
 bk : St → Hp → Prop := fun _ _ => False
 ct : St → Hp → Prop := fun _ _ => False
abbrev TS := Ends → St → Hp → Prop
def EP (X : Cx) (pins : List (Addr × Obj)) (σ : St) (Q : VK) (u : Value) (s' : Shared) : Prop := ∃ v H', Inv X pins σ H' s' ∧ RelV v u ∧ Q v H'
def TP (X : Cx) (pins : List (Addr × Obj)) (σ : St) (Q : Bool → Hp → Prop) (b : Bool) (s' : Shared) : Prop := ∃ H', Inv X pins σ H' s' ∧ Q b H'
def AP (X : Cx) (pins : List (Addr × Obj)) (σ : St) (Q : List V → Hp → Prop) (us : List Value) (s' : Shared) : Prop := ∃ vs H', Inv X pins σ H' s' ∧ Vals vs us ∧ Q vs H'
def SP (X : Cx) (pins : List (Addr × Obj)) (D : Ends) (f : Flow) (s' : Shared) : Prop :=
 match f with
 | .next => ∃ σ' H', Inv X pins σ' H' s' ∧ D.nx σ' H'
 | .brk => ∃ σ' H', Inv X pins σ' H' s' ∧ D.bk σ' H'
 | .cont => ∃ σ' H', Inv X pins σ' H' s' ∧ D.ct σ' H'
 | .ret u => ∃ v σ' H', Inv X pins σ' H' s' ∧ RelV v u ∧ D.rt v H'
def PE (X : Cx) (e : Expr) (t : TE) : Prop :=
 ∀ (pins : List (Addr × Obj)) (s : Shared) (σ : St) (H : Hp) (Q : VK), Inv X pins σ H s → t σ H Q → wpAny (model X.prog X.w) X.A (eval e X.env) (EP X pins σ Q) X.xe s
def PT (X : Cx) (e : Expr) (t : TT) : Prop :=
 ∀ (pins : List (Addr × Obj)) (s : Shared) (σ : St) (H : Hp) (Q : Bool → Hp → Prop), Inv X pins σ H s → t σ H Q → wpAny (model X.prog X.w) X.A (isTrue e X.env (eval e X.env)) (TP X pins σ Q) X.xe s
def PW (X : Cx) (e : Expr) (t : TT) : Prop :=
 ∀ (whole : Sem Value) (pins : List (Addr × Obj)) (s : Shared) (σ : St) (H : Hp) (Q : Bool → Hp → Prop), Inv X pins σ H s → t σ H Q → wpAny (model X.prog X.w) X.A (isTrue e X.env whole) (TP X pins σ Q) X.xe s
theorem PW.pt {X : Cx} {e : Expr} {t : TT} (h : PW X e t) : PT X e t := h _
def PA (X : Cx) (es : List Expr) (t : TA) : Prop :=
 ∀ (pos : Pos) (pins : List (Addr × Obj)) (s : Shared) (σ : St) (H : Hp) (Q : List V → Hp → Prop), Inv X pins σ H s → t σ H Q → wpAny (model X.prog X.w) X.A (spliced (backTo pos (starEach es X.env))) (AP X pins σ Q) X.xe s
def PS (X : Cx) (st : Stmt) (t : TS) : Prop :=
 ∀ (pins : List (Addr × Obj)) (s : Shared) (σ : St) (H : Hp) (D : Ends), Inv X pins σ H s → t D σ H → wpAny (model X.prog X.w) X.A (exec st X.env) (SP X pins D) X.xe s
def PSs (X : Cx) (st : List Stmt) (t : TS) : Prop :=
 ∀ (pins : List (Addr × Obj)) (s : Shared) (σ : St) (H : Hp) (D : Ends), Inv X pins σ H s → t D σ H → wpAny (model X.prog X.w) X.A (execs st X.env) (SP X pins D) X.xe s
theorem thn {α : Type} {t : Sem α} {Q Q' : α → Shared → Prop} {M : Model} {A : Around} {E : Value → Shared → Prop} {s : Shared} (h : wpAny M A t Q E s) (hQ : ∀ a s, Q a s → Q' a s) : wpAny M A t Q' E s := wpAny_mono h hQ fun _ _ x => x
section
variable {X : Cx}
def tVar (i : Nat) : TE := fun σ H Q => ∃ v, σ[i]? = some (some v) ∧ Q v H
def tC (v : V) : TE := fun _ H Q => Q v H
theorem pe_var {i : Nat} {x : Str} {pos : Pos} (hN : X.N[i]? = some x) (hv : Vis X.env.scope x) (hd : (x == ("__debug__" : Str)) = false := by decide) (hcd : (x == ("__classdict__" : Str)) = false := by decide) : PE X (.Name x pos) (tVar i) := by
 intro pins s σ H Q I h
 obtain ⟨v, e, h⟩ := h
 obtain ⟨m, hn, hl⟩ := I.loc
 obtain ⟨u, r, l⟩ := hl i x v hN e hv
 have fin : EP X pins σ Q u s := ⟨v, H, I, r, h⟩
 rcases l with ⟨hk, hm⟩ | ⟨hk, c, hc, hcell⟩
 ·exact wpAny_Name (wpAny_loadName_local I.ok.kind hk hn hm fin) hd
 ·rcases hk with hk | hk
  ·exact wpAny_Name (wpAny_loadName_cell I.ok.kind hk hc hcell fin) hd
  ·exact wpAny_Name (wpAny_loadName_free I.ok.kind hk hc hcell fin hcd) hd
theorem pe_int {i j pos} : PE X (.Constant (.int i) j pos) (tC (.int i)) := fun _ _ _ H _ I h => wpAny_Constant_int ⟨.int i, H, I.tok _, ⟨_, rfl⟩, h⟩
theorem pe_bl {b j pos} : PE X (.Constant (.bool b) j pos) (tC (.bl b)) := fun _ _ _ H _ I h => Constant_bool ⟨.bl b, H, I, rfl, h⟩
def Gl (X : Cx) (x : Str) : Prop := X.env.kindOf x = some .globalImplicit
theorem ld_glob {E : Value → Shared → Prop} {pins : List (Addr × Obj)} {s : Shared} {σ : St} {H : Hp} {x : Str} {u : Value} {pos : Pos} {Q : Value → Shared → Prop} (I : Inv X pins σ H s) (hg : Gl X x) (hm : X.mg x = some u) (h : Q u s)
  (hd : (x == ("__debug__" : Str)) = false := by decide) : wpAny (model X.prog X.w) X.A (eval (.Name x pos) X.env) Q E s :=
 Calls.Name_function_global I.ok.kind hg (Calls.loadGlobal_global (by rw [I.ok.glob]; exact I.mod.glob.keeps I.bk) hm h) hd
theorem ld_blt {E : Value → Shared → Prop} {pins : List (Addr × Obj)} {s : Shared} {σ : St} {H : Hp} {x : Str} {u : Value} {pos : Pos} {Q : Value → Shared → Prop} (I : Inv X pins σ H s) (hg : Gl X x) (hm : X.mg x = none) (hv : bootBuiltins x = some u) (h : Q u s)
  (hn : x ≠ "__name__" := by decide) (hd : (x == ("__debug__" : Str)) = false := by decide) : wpAny (model X.prog X.w) X.A (eval (.Name x pos) X.env) Q E s := by
 obtain ⟨mb, h1, h2⟩ := I.mod.blt
 exact Calls.Name_function_global I.ok.kind hg (Calls.loadGlobal_builtin (by rw [I.ok.glob]; exact I.mod.glob.keeps I.bk) hm (by rw [I.ok.blt]; exact h1.keeps I.bk) ((h2 x hn).trans hv) h) hd
theorem pe_glob {x : Str} {v : V} {u : Value} {pos : Pos} (hg : Gl X x) (hm : X.mg x = some u) (r : RelV v u) (hd : (x == ("__debug__" : Str)) = false := by decide) : PE X (.Name x pos) (tC v) :=
 fun _ _ _ H _ I h => ld_glob I hg hm ⟨v, H, I, r, h⟩ hd
theorem pe_bltn {x : Str} {v : V} {u : Value} {pos : Pos} (hg : Gl X x) (hm : X.mg x = none) (hv : bootBuiltins x = some u) (r : RelV v u) (hn : x ≠ "__name__" := by decide) (hd : (x == ("__debug__" : Str)) = false := by decide) : PE X (.Name x pos) (tC v) :=
 fun _ _ _ H _ I h => ld_blt I hg hm hv ⟨v, H, I, r, h⟩ hn hd
variable {a b : Expr} {ta tb : TE} {pos : Pos}
def tB (t : TE) : TT := fun σ H Q => t σ H fun x H1 => ∃ c, x = .bl c ∧ Q c H1
theorem pt_val {e : Expr} {t : TE} (h : PE X e t) (he : ∀ whole, isTrue e X.env whole = (do let v ← whole; standAt e.pos; holding [v] (truthy v)) := by intro _; rfl) : PT X e (tB t) := by
 intro pins s σ H Q I hw
 refine isTrue_plain (thn (h pins s σ H _ I hw) fun v s1 ⟨x, H1, I1, r1, q1⟩ => ?_) (he _)
 obtain ⟨d, rfl, q⟩ := q1
 cases r1
 exact wpAny_truthy_bool ⟨H1, I1, q⟩
variable {tA tB' : TT} {rest : List Expr}
def tOr (t u : TT) : TT := fun σ H Q => t σ H fun c H1 => if c = true then Q true H1 else u σ H1 Q
def tNot (t : TT) : TT := fun σ H Q => t σ H fun c H1 => Q (!c) H1
theorem pw_or1 (ha : PT X a tA) : PW X (.BoolOp .Or [a] pos) tA := by
 intro wh pins s σ H Q I h
 refine isTrue_or (thn (ha pins s σ H Q I h) fun c s1 e => ?_)
 cases c with
 | false => exact isTrue_or_nil e
 | true => exact e
theorem pw_or (ha : PT X a tA) (hb : PW X (.BoolOp .Or (b :: rest) pos) tB') : PW X (.BoolOp .Or (a :: b :: rest) pos) (tOr tA tB') := by
 intro wh pins s σ H Q I h
 refine isTrue_or (thn (ha pins s σ H _ I h) fun c s1 ⟨H1, I1, q1⟩ => ?_)
 cases c with
 | true => exact ⟨H1, I1, q1⟩
 | false => exact hb wh pins s1 σ H1 Q I1 q1
theorem pt_not (ha : PT X a tA) : PT X (.UnaryOp .Not a pos) (tNot tA) := by
 intro pins s σ H Q I h
 exact isTrue_not (ha pins s σ H (fun c H1 => Q (!c) H1) I h)
def tIf (t : TT) (ta tb : TE) : TE := fun σ H Q => t σ H fun c H1 => if c = true then ta σ H1 Q else tb σ H1 Q
theorem pe_ifExp {c : Expr} (hc : PT X c tA) (ha : PE X a ta) (hb : PE X b tb) : PE X (.IfExp c a b pos) (tIf tA ta tb) := by
 intro pins s σ H Q I h
 refine wpAny_IfExp (thn (hc pins s σ H _ I h) fun d s1 ⟨H1, I1, q1⟩ => ?_)
 cases d with
 | true => exact ha pins s1 σ H1 Q I1 q1
 | false => exact hb pins s1 σ H1 Q I1 q1
end
def SqL (K : PySem.W.Frag) (H : Hp) (a : Addr) (xs : List V) : Prop :=
 Rd H a (.lst xs) ∨
  ∃ (o : Obj) (its : Array Value) (n : Nat), K.lookup a = some o ∧ o.cls = .type "list" ∧ o.dict = none ∧ o.data = .seq its n ∧ its.size ≤ sizeLine ∧ Vals xs its.toList
def SqT (K : PySem.W.Frag) (H : Hp) (a : Addr) (xs : List V) : Prop :=
 Rd H a (.tup xs) ∨
  ∃ (o : Obj) (its : Array Value) (n : Nat), K.lookup a = some o ∧ o.cls = .type "tuple" ∧ o.data = .seq its n ∧ its.size ≤ sizeLine ∧ Vals xs its.toList
def absV : Value → Option V
 | .none => some .non
 | .bool b => some (.bl b)
 | .int i _ => some (.int i)
 | .str x _ => some (.str x)
 | .bytes b _ => some (.byt b)
 | .float b _ => some (.flt b)
 | .ref a => some (.ref a)
 | .type n => some (.ty n)
 | _ => none
theorem RelV.abs {x : V} {u : Value} (r : RelV x u) : absV u = some x := by
 cases x with
 | non => cases r; rfl
 | bl _ => cases r; rfl
 | int _ => obtain ⟨t, rfl⟩ := r; rfl
 | str _ => obtain ⟨t, rfl⟩ := r; rfl
 | byt _ => obtain ⟨t, rfl⟩ := r; rfl
 | flt _ => obtain ⟨t, rfl⟩ := r; rfl
 | ref _ => cases r; rfl
 | ty _ => cases r; rfl
theorem RelV.inj {x y : V} {u : Value} (r : RelV x u) (q : RelV y u) : x = y := Option.some.inj (r.abs.symm.trans q.abs)
theorem Vals.inj : ∀ {xs ys : List V} {us : List Value}, Vals xs us → Vals ys us → xs = ys
 | _, _, _, .nil, .nil => rfl
 | _, _, _, .cons r t, .cons r' t' => by rw [r.inj r', Vals.inj t t']
section
variable {X : Cx} {pins : List (Addr × Obj)} {σ : St} {H : Hp} {s : Shared} {a : Addr} {xs ys : List V}
theorem SqL.of {K : PySem.W.Frag} (h : H a = some (.lst xs)) : SqL K H a xs := .inl (.inl h)
theorem SqT.of {K : PySem.W.Frag} (h : H a = some (.tup xs)) : SqT K H a xs := .inl (.inl h)
theorem Inv.list (I : Inv X pins σ H s) (h : SqL X.K H a xs) : ∃ its : List Value, Vals xs its ∧ PlainL s.heap a its.toArray ∧ xs.length ≤ sizeLine := by
 rcases h with h | ⟨o, its, n, hk, hc, hd, hs, hz, r⟩
 ·obtain ⟨z, its, n, r, e⟩ := h.ok I.hok
  exact ⟨its, r, ⟨_, n, e, rfl, rfl, rfl⟩, z⟩
 ·refine ⟨its.toList, r, ⟨o, n, I.kIn a o hk, hc, hd, by simpa using hs⟩, ?_⟩
  have e := r.length
  simp only [Array.length_toList] at e
  omega
theorem Inv.tuple (I : Inv X pins σ H s) (h : SqT X.K H a xs) : ∃ its : List Value, Vals xs its ∧ IsTup s.heap a its.toArray ∧ xs.length ≤ sizeLine := by
 rcases h with h | ⟨o, its, n, hk, hc, hs, hz, r⟩
 ·obtain ⟨z, its, r, p⟩ := h.ok I.hok
  exact ⟨its, r, p, z⟩
 ·refine ⟨its.toList, r, ⟨o, I.kIn a o hk, hc, n, by simpa using hs⟩, ?_⟩
  have e := r.length
  simp only [Array.length_toList] at e
  omega
theorem Inv.list_inj (I : Inv X pins σ H s) (h : SqL X.K H a xs) (h' : SqL X.K H a ys) : xs = ys := by
 obtain ⟨its, r, ⟨o, n, e, _, _, d⟩, _⟩ := I.list h
 obtain ⟨its', r', ⟨o', n', e', _, _, d'⟩, _⟩ := I.list h'
 rw [e] at e'; cases e'
 rw [d] at d'
 injection d' with d1 _
 have : its = its' := by simpa using congrArg Array.toList d1
 subst this
 exact r.inj r'
end
abbrev Cx.wish (X : Cx) (E : Value → Shared → Prop) : Cx := { X with xe := E }
abbrev Cx.nox (X : Cx) : Cx := X.wish fun _ _ => False
theorem Cx.Ok.wish {X : Cx} (ok : X.Ok) (E : Value → Shared → Prop) : (X.wish E).Ok :=
 ⟨ok.mod, ok.kind, ok.glob, ok.blt, ok.above, ok.inj, ok.has, ok.cab, ok.hd, ok.frames, ok.stk, ok.exf, ok.bs, ok.bsz, ok.noex, ok.exfs, ok.funs, ok.frf⟩
theorem Cx.Ok.unwish {X : Cx} {E : Value → Shared → Prop} (ok : (X.wish E).Ok) : X.Ok :=
 ⟨ok.mod, ok.kind, ok.glob, ok.blt, ok.above, ok.inj, ok.has, ok.cab, ok.hd, ok.frames, ok.stk, ok.exf, ok.bs, ok.bsz, ok.noex, ok.exfs, ok.funs, ok.frf⟩
section
variable {X : Cx} {pins : List (Addr × Obj)} {σ : St} {H : Hp} {s : Shared} {E : Value → Shared → Prop}
theorem Inv.wish (I : Inv X pins σ H s) (E : Value → Shared → Prop) : Inv (X.wish E) pins σ H s := ⟨I.ok.wish E, I.os, I.bare, I.base, I.loc, I.cell, I.free, I.freeC, I.pin, I.hok, I.len⟩
theorem Inv.unwish (I : Inv (X.wish E) pins σ H s) : Inv X pins σ H s := ⟨I.ok.unwish, I.os, I.bare, I.base, I.loc, I.cell, I.free, I.freeC, I.pin, I.hok, I.len⟩
theorem SP.unwish {D : Ends} {f : Flow} {s' : Shared} (h : SP (X.wish E) pins D f s') : SP X pins D f s' := by
 cases f with
 | next => obtain ⟨σ', H', I, q⟩ := h; exact ⟨σ', H', I.unwish, q⟩
 | brk => obtain ⟨σ', H', I, q⟩ := h; exact ⟨σ', H', I.unwish, q⟩
 | cont => obtain ⟨σ', H', I, q⟩ := h; exact ⟨σ', H', I.unwish, q⟩
 | ret u => obtain ⟨v, σ', H', I, r, q⟩ := h; exact ⟨v, σ', H', I.unwish, r, q⟩
theorem PSs.nox {st : List Stmt} {t : TS} (h : PSs X.nox st t) : PSs X st t := fun pins s σ H D I hw =>
 wpAny_mono (h pins s σ H D (I.wish _) hw) (fun _ _ q => q.unwish) fun _ _ z => False.elim z
end
section
variable {X : Cx} {st : Stmt} {rest : List Stmt} {t u : TS} {e : Expr} {te : TE} {pos : Pos}
def tNext : TS := fun D σ H => D.nx σ H
def tSeq (t u : TS) : TS := fun D σ H => t { D with nx := u D } σ H
theorem pss_nil : PSs X [] tNext := fun _ _ σ H _ I h => wpAny_execs_nil ⟨σ, H, I, h⟩
theorem pss_cons (h1 : PS X st t) (h2 : PSs X rest u) : PSs X (st :: rest) (tSeq t u) := by
 intro pins s σ H D I h
 refine wpAny_execs_cons (thn (h1 pins s σ H { D with nx := u D } I h) fun f s1 q => ?_)
 cases f with
 | next =>
  obtain ⟨σ', H', I', q⟩ := q
  exact h2 pins s1 σ' H' D I' q
 | ret v => exact q
 | brk => exact q
 | cont => exact q
theorem pss_one (h1 : PS X st t) : PSs X [st] t := by
 intro pins s σ H D I h
 refine wpAny_execs_cons (thn (h1 pins s σ H D I h) fun f s1 q => ?_)
 cases f with
 | next => exact wpAny_execs_nil q
 | ret v => exact q
 | brk => exact q
 | cont => exact q
theorem Inv.quiet {pins : List (Addr × Obj)} {σ : St} {H : Hp} {s : Shared} (I : Inv X pins σ H s) : interactive X.env = false := by simp [interactive, I.ok.kind]
def tDrop (te : TE) : TS := fun D σ H => te σ H fun _ H1 => D.nx σ H1
theorem ps_expr (he : PE X e te) (hs : swapsWith e none pos.line X.env = pure false := by rfl) : PS X (.Expr e pos) (tDrop te) := by
 intro pins s σ H D I h
 exact wpAny_Expr_any (thn (he pins s σ H _ I h) fun v s1 ⟨x, H1, I1, r1, q1⟩ => ⟨σ, H1, I1, q1⟩) I.quiet hs
def tRet (te : TE) : TS := fun D σ H => te σ H D.rt
theorem ps_ret (he : PE X e te) : PS X (.Return (some e) pos) (tRet te) := by
 intro pins s σ H D I h
 exact wpAny_Return_some (thn (he pins s σ H _ I h) fun v s1 ⟨x, H1, I1, r1, q1⟩ => ⟨x, σ, H1, I1, r1, q1⟩)
def tIfS (c : TT) (t u : TS) : TS := fun D σ H => c σ H fun b H1 => if b = true then t D σ H1 else u D σ H1
theorem ps_if {c : Expr} {a b : List Stmt} {tc : TT} (hc : PT X c tc) (ha : PSs X a t) (hb : PSs X b u) : PS X (.If c a b pos) (tIfS tc t u) := by
 intro pins s σ H D I h
 refine wpAny_If (thn (hc pins s σ H _ I h) fun d s1 ⟨H1, I1, q1⟩ => ?_)
 cases d with
 | true => exact ha pins s1 σ H1 D I1 q1
 | false => exact hb pins s1 σ H1 D I1 q1
end
abbrev TG := V → St → Hp → (St → Hp → Prop) → Prop
abbrev TGs := List V → St → Hp → (St → Hp → Prop) → Prop
def PG (X : Cx) (target : Expr) (t : TG) : Prop :=
 ∀ (pins : List (Addr × Obj)) (s : Shared) (σ : St) (H : Hp) (v : V) (u : Value) (Q : St → Hp → Prop), Inv X pins σ H s → RelV v u → t v σ H Q →
  wpAny (model X.prog X.w) X.A (assign target X.env u) (fun _ s' => ∃ σ' H', Inv X pins σ' H' s' ∧ Q σ' H') X.xe s
def PGs (X : Cx) (ts : List Expr) (t : TGs) : Prop :=
 ∀ (pins : List (Addr × Obj)) (s : Shared) (σ : St) (H : Hp) (vs : List V) (us : List Value) (Q : St → Hp → Prop), Inv X pins σ H s → Vals vs us → t vs σ H Q →
  wpAny (model X.prog X.w) X.A (assignInOrder ((assignEach ts X.env).map (·.2)) us) (fun _ s' => ∃ σ' H', Inv X pins σ' H' s' ∧ Q σ' H') X.xe s
abbrev TSet := V → V → V → Hp → (Hp → Prop) → Prop
def PSet (X : Cx) (t : TSet) : Prop :=
 ∀ (pins : List (Addr × Obj)) (s : Shared) (σ : St) (H : Hp) (o i v : V) (ov iv u : Value) (Q : Hp → Prop), Inv X pins σ H s → RelV o ov → RelV i iv → RelV v u → t o i v H Q →
  wpAny (model X.prog X.w) X.A (setItem ov iv u) (fun _ s' => ∃ H', Inv X pins σ H' s' ∧ Q H') X.xe s
section
variable {X : Cx} {pos : Pos}
def gName (i : Nat) : TG := fun v σ H Q => Q (σ.set i (some v)) H
theorem pg_name {i : Nat} {x : Str} (hN : X.N.Nodup) (hi : X.N[i]? = some x) (hx : Loc X.env.scope x) (hf : X.fn x = true ∨ X.env.scope.names.lookup x = some .local := by first | exact .inl rfl | exact .inr rfl | assumption) : PG X (.Name x pos) (gName i) := by
 intro pins s σ H v u Q I r h
 exact wpAny_assign_Name (store_ok I hN hi hx r (fun s' I' => ⟨_, H, I', h⟩) hf)
def gNil : TGs := fun vs σ H Q => vs = [] ∧ Q σ H
def gCons (t : TG) (u : TGs) : TGs := fun vs σ H Q => ∃ v r, vs = v :: r ∧ t v σ H fun σ' H' => u r σ' H' Q
theorem pgs_nil : PGs X [] gNil := by
 intro pins s σ H vs us Q I r h
 obtain ⟨e, h⟩ := h
 subst e
 cases r
 exact assignInOrder_nil ⟨σ, H, I, h⟩
theorem pgs_cons {e : Expr} {es : List Expr} {t : TG} {u : TGs} (h1 : PG X e t) (h2 : PGs X es u)
  (hs : (assignEach (e :: es) X.env).map (·.2) = assign e X.env :: (assignEach es X.env).map (·.2) := by rfl) : PGs X (e :: es) (gCons t u) := by
 intro pins s σ H vs us Q I r h
 obtain ⟨v, vr, e1, h⟩ := h
 subst e1
 cases r with
 | cons r rr =>
  rw [hs]
  refine assignInOrder_cons (thn (h1 pins s σ H _ _ _ I r h) fun _ s1 ⟨σ1, H1, I1, q1⟩ => ?_)
  exact h2 pins s1 σ1 H1 _ _ Q I1 rr q1
def gTup (K : PySem.W.Frag) (n : Nat) (t : TGs) : TG := fun v σ H Q => ∃ a xs, v = .ref a ∧ SqT K H a xs ∧ xs.length = n ∧ t xs σ H Q
theorem pg_tup {es : List Expr} {k : Nat} {t : TGs} {n : Nat} (hc : X.calm = true) (h : PGs X es t)
  (hn : (assignEach es X.env).length = n := by rfl) (hst : (assignEach es X.env).findIdx? (·.1) = none := by rfl) : PG X (.Tuple es k pos) (gTup X.K n t) := by
 intro pins s σ H v u Q I r hw
 obtain ⟨a, xs, e1, hq, hl, hw⟩ := hw
 subst e1
 cases r
 obtain ⟨its, rv, ht, hz⟩ := I.tuple hq
 refine assign_Tuple_tuple (I.ok.hd hc) ht (by simp [hn, ← hl, rv.length]) hst fun h' hx => ?_
 have I1 : Inv X pins σ H { s with heap := h' } := I.kept (t' := s.toks) fun b o e => hx b o (Nat.ne_of_lt (Heap.lt_size e)) e
 exact h pins _ σ H xs _ Q I1 (by simpa using rv) hw
def gSub (to ti : TE) (t : TSet) : TG := fun v σ H Q => to σ H fun o H1 => ti σ H1 fun i H2 => t o i v H2 fun H3 => Q σ H3
theorem pg_sub {o i : Expr} {to ti : TE} {t : TSet} (ho : PE X o to) (hi : PE X i ti) (hs : PSet X t)
  (ha : ∀ v, assign (.Subscript o i pos) X.env v = (do
   let ov ← holding [v] (eval o X.env)
   let iv ← holding [v, ov] (eval i X.env)
   standAt pos
   holding [v, ov, iv] (setItem ov iv v)
   release [v, ov, iv] []) := by intro _; rfl) : PG X (.Subscript o i pos) (gSub to ti t) := by
 intro pins s σ H v u Q I r h
 rw [ha]
 refine wpAny_bind (wpAny_holding (thn (ho pins s σ H _ I h) fun ov s1 ⟨x, H1, I1, r1, q1⟩ => ?_))
 refine wpAny_bind (wpAny_holding (thn (hi pins s1 σ H1 _ I1 q1) fun iv s2 ⟨y, H2, I2, r2, q2⟩ => ?_))
 refine wpAny_bind (wpAny_standAt (wpAny_bind (wpAny_holding (thn (hs pins s2 σ H2 x y v ov iv u _ I2 r1 r2 r q2) fun _ s3 ⟨H3, I3, q3⟩ => ?_))))
 exact wpAny_release ⟨σ, H3, I3, q3⟩
def tAsg (te : TE) (g : TG) : TS := fun D σ H => te σ H fun x H1 => g x σ H1 D.nx
theorem ps_asg {tg e : Expr} {te : TE} {g : TG} (he : PE X e te) (hg : PG X tg g) (hs : swapsWithSole [tg] e pos.line X.env = pure false := by rfl) (hw : swappedStores [tg] e X.env = pure none := by rfl)
  (h1 : (assignEach [tg] X.env).map (·.2) = [assign tg X.env] := by rfl) : PS X (.Assign [tg] e pos) (tAsg te g) := by
 intro pins s σ H D I h
 refine wpAny_Assign_stores (thn (he pins s σ H _ I h) fun v s1 ⟨x, H1, I1, r1, q1⟩ => ?_) hs hw
 rw [h1]
 exact thn (hg pins s1 σ H1 x v _ I1 r1 q1) fun _ s2 q => q
theorem ps_set {i : Nat} {x : Str} {e : Expr} {te : TE} {pos' : Pos} (hN : X.N.Nodup) (hi : X.N[i]? = some x) (hx : Loc X.env.scope x) (he : PE X e te) (hs : swapsWith e (some (.Name x pos')) pos.line X.env = pure false := by rfl) (hf : X.fn x = true ∨ X.env.scope.names.lookup x = some .local := by first | exact .inl rfl | exact .inr rfl | assumption) :
  PS X (.Assign [.Name x pos'] e pos) (tAsg te (gName i)) := by
 intro pins s σ H D I h
 refine wpAny_Assign_Name (thn (he pins s σ H _ I h) fun v s1 ⟨y, H1, I1, r1, q1⟩ => ?_) hs
 exact store_ok I1 hN hi hx r1 (fun s2 I2 => ⟨_, H1, I2, q1⟩) hf
end
section
variable {X : Cx} {pos : Pos}
end
structure It where
 go : Nat → Hp → Prop
 yld : Nat → Hp → V → Hp → Prop
 stop : Nat → Hp → Prop
def FpOk (X : Cx) (pins : List (Addr × Obj)) (H : Hp) (b : Addr) : Prop :=
 H b = none ∧ b ≠ X.env.locals ∧ b ∉ X.fs ∧ (b ∈ X.ex ∨ X.s₀.heap.objs.size ≤ b) ∧ (∀ x c, X.env.cells.lookup x = some c → c ≠ b) ∧ ∀ p ∈ X.pn ++ pins, p.1 ≠ b
theorem Inv.fpOk {X : Cx} {pins : List (Addr × Obj)} {σ : St} {H H' : Hp} {s : Shared} {b : Addr} (I : Inv X pins σ H s) (hb : s.heap.objs.size ≤ b) (hn : H' b = none) : FpOk X pins H' b := by
 refine ⟨hn, Nat.ne_of_gt (Nat.lt_of_lt_of_le I.lt hb), I.nofs hb, .inr (Nat.le_trans I.sz hb), fun x c e z => ?_, fun p hp z => ?_⟩
 ·obtain ⟨v, q⟩ := I.cell x c e
  exact absurd (Nat.lt_of_lt_of_le q.lt (by rw [z]; exact hb)) (Nat.lt_irrefl _)
 ·exact absurd (Nat.lt_of_lt_of_le (Heap.lt_size (I.pin p hp).1) (by rw [z]; exact hb)) (Nat.lt_irrefl _)
structure Turn (P : Program) (w : World) (K : PySem.W.Frag) (tg : Expr) (J : It) (fp : List Addr) (it : Addr) (tn : Nat → Heap → Prop) : Prop where
 mem : it ∈ fp
 obj : ∀ i h, tn i h → ∀ b ∈ fp, ∃ o, h.get? b = some o ∧ ∀ v, o.data ≠ .cell v
 keep : ∀ i h h', tn i h → (∀ b ∈ fp, ∀ o, h.get? b = some o → h'.get? b = some o) → tn i h'
 item : ∀ (X : Cx), X.prog = P → X.w = w → X.K = K → X.calm = true → ∀ (i : Nat) (pins : List (Addr × Obj)) (s : Shared) (σ : St) (H : Hp) (E : Value → Shared → Prop), Inv X pins σ H s → (∀ b ∈ fp, FpOk X pins H b) → tn i s.heap → J.go i H →
  wpAny (model P w) X.A (pyNext (.ref it)) (fun r s1 => ∃ u, r = some u ∧
   wpAny (model P w) X.A (letOwnedTupleGo tg (.ref it) u) (fun _ s2 => ∃ x H', Inv X pins σ H' s2 ∧ RelV x u ∧ J.yld i H x H' ∧ tn (i + 1) s2.heap ∧ ∀ b ∈ fp, H' b = none) E s1) E s
 done : ∀ (X : Cx), X.prog = P → X.w = w → X.K = K → X.calm = true → ∀ (i : Nat) (pins : List (Addr × Obj)) (s : Shared) (σ : St) (H : Hp) (E : Value → Shared → Prop), Inv X pins σ H s → (∀ b ∈ fp, FpOk X pins H b) → tn i s.heap → J.stop i H →
  wpAny (model P w) X.A (pyNext (.ref it)) (fun r s1 => r = none ∧ Inv X pins σ H s1) E s
 self : ∀ (A : Around) (i : Nat) (s : Shared) (Q : Value → Shared → Prop) (E : Value → Shared → Prop), tn i s.heap → Q (.ref it) s → wpAny (model P w) A (pyIter (.ref it)) Q E s
abbrev TI := St → Hp → (It → Hp → Prop) → Prop
def PIE (X : Cx) (pins : List (Addr × Obj)) (σ : St) (tg : Expr) (R : It → Hp → Prop) (itv : Value) (s2 : Shared) : Prop :=
 ∃ (it : Addr) (fp : List Addr) (tn : Nat → Heap → Prop) (J : It) (H' : Hp), itv = .ref it ∧ Inv X pins σ H' s2 ∧ Turn X.prog X.w X.K tg J fp it tn ∧ tn 0 s2.heap ∧ (∀ b ∈ fp, FpOk X pins H' b) ∧ R J H'
def PI (X : Cx) (tg iter : Expr) (wi : TI) : Prop :=
 ∀ (pins : List (Addr × Obj)) (s : Shared) (σ : St) (H : Hp) (R : It → Hp → Prop), Inv X pins σ H s → wi σ H R →
  wpAny (model X.prog X.w) X.A (eval iter X.env) (fun v s1 => wpAny (model X.prog X.w) X.A (pyIter v) (PIE X pins σ tg R) X.xe s1) X.xe s
theorem go_of {M : Model} {A : Around} {E : Value → Shared → Prop} {s : Shared} {tg : Expr} {it : Addr} {u : Value} {o : Obj} {n : String} {vs : Array Value} {Q : Unit → Shared → Prop} (ho : s.heap.get? it = some o) (hc : o.cls = .type n) (hd : o.data = .fields vs)
    (hn : ["enumerate", "zip", "dict_itemiterator", "dict_reverseitemiterator", "odict_iterator", "itertools.zip_longest", "itertools.pairwise"].contains n = false) (hQ : Q () s) : wpAny M A (letOwnedTupleGo tg (.ref it) u) Q E s := by
  unfold letOwnedTupleGo
  cases tg <;> first
    | exact wpAny_pure hQ
    | (cases u <;> first
        | exact wpAny_pure hQ
        | (refine wpAny_bind (wpAny_load ho ?_)
           rw [hc, hd]
           show wpAny M A (if (["enumerate", "zip", "dict_itemiterator", "dict_reverseitemiterator", "odict_iterator", "itertools.zip_longest", "itertools.pairwise"].contains n && vs[0]? == some (rawInt _)) = true then _ else _) Q E s
           rw [if_neg (by intro h; rw [hn, Bool.false_and] at h; cases h)]
           exact wpAny_pure hQ))
def Itl (K : PySem.W.Frag) (a : Addr) : It :=
 ⟨fun i H => ∃ xs x, SqL K H a xs ∧ xs[i]? = some x, fun i H x H' => H' = H ∧ ∀ xs, SqL K H a xs → xs[i]? = some x, fun i H => ∃ xs, SqL K H a xs ∧ xs.length ≤ i⟩
def Itr (lo : Int) (n : Nat) : It := ⟨fun i _ => i < n, fun i H x H' => H' = H ∧ x = .int (lo + i), fun i _ => n ≤ i⟩
theorem turn_list {P : Program} {w : World} {K : PySem.W.Frag} {tg : Expr} (a it : Addr) : Turn P w K tg (Itl K a) [it] it (fun i h => h.IsListIter it a i) where
 mem := by simp
 obj := fun i h st b hb => by
  have e : b = it := by simpa using hb
  subst e
  obtain ⟨o, e, c, d⟩ := st
  exact ⟨o, e, fun v z => by rw [d] at z; cases z⟩
 keep := fun i h h' st k => st.at fun o e => k it (by simp) o e
 item := by
  intro X hP hw hK hc i pins s σ H E I hf st hg
  subst hP hw hK
  obtain ⟨xs, x, hq, hx⟩ := hg
  obtain ⟨its, rv, p, hz⟩ := I.list hq
  obtain ⟨u, hu, ru⟩ := rv.get hx
  obtain ⟨f0, f1, f2, f3, f4, f5⟩ := hf it (by simp)
  refine wpAny_pyNext_list_item st p.isList (x := u) (by simpa using hu) fun h' st' sb => ?_
  have I1 : Inv X pins σ H { s with heap := h' } := I.turned (t' := s.toks) (fun b o hb e => (sb.2 b hb).trans e) f0 f1 f3 f4 f5
  obtain ⟨o, e, c, d⟩ := id st'
  exact ⟨u, rfl, go_of (s := { s with heap := h' }) e c d (by decide) ⟨x, H, I1, ru, ⟨rfl, fun ys hy => by rw [I.list_inj hy hq]; exact hx⟩, st', fun b hb => (hf b hb).1⟩⟩
 done := by
  intro X hP hw hK hc i pins s σ H E I hf st hg
  subst hP hw hK
  obtain ⟨xs, hq, hx⟩ := hg
  obtain ⟨its, rv, p, hz⟩ := I.list hq
  obtain ⟨f0, f1, f2, f3, f4, f5⟩ := hf it (by simp)
  have hl := rv.length
  exact wpAny_pyNext_list_end (I.ok.hd hc) st p.isList (by simp; omega) fun h' eb => ⟨rfl, I.turned (t' := s.toks) (fun b o hb e => eb b o hb e) f0 f1 f3 f4 f5⟩
 self := fun _ _ _ _ _ st h => wpAny_pyIter_listiter st h
theorem turn_range {P : Program} {w : World} {K : PySem.W.Frag} {tg : Expr} (it : Addr) (lo : Int) (n : Nat) : Turn P w K tg (Itr lo n) [it] it (fun i h => IsRangeIter h it (lo + (i : Nat) * 1) ((n : Int) - (i : Nat)) 1) where
 mem := by simp
 obj := fun i h st b hb => by
  have e : b = it := by simpa using hb
  subst e
  exact ⟨_, st, fun v z => by
   have z' : Data.fields _ = Data.cell v := z
   cases z'⟩
 keep := fun i h h' st k => k it (by simp) _ st
 item := by
  intro X hP hw hK hc i pins s σ H E I hf st hg
  subst hP hw hK
  obtain ⟨f0, f1, f2, f3, f4, f5⟩ := hf it (by simp)
  have W := Walks.range (prog := X.prog) (w := X.w) (I.ok.hd hc) it lo 1 n
  refine W.item i s _ _ hg st fun v h' tk hv st' kk => ?_
  obtain ⟨t, rfl⟩ := hv
  have I1 : Inv X pins σ H { s with heap := h', toks := tk } := I.turned (fun b o hb e => kk b o (by simpa using hb) e) f0 f1 f3 f4 f5
  refine ⟨_, rfl, go_of (s := { s with heap := h', toks := tk }) (n := "range_iterator") st' rfl rfl (by decide) ⟨.int (lo + i), H, I1, ⟨t, ?_⟩, ⟨rfl, rfl⟩, st', fun b hb => (hf b hb).1⟩⟩
  rw [Int.mul_one]
 done := by
  intro X hP hw hK hc i pins s σ H E I hf st hg
  subst hP hw hK
  obtain ⟨f0, f1, f2, f3, f4, f5⟩ := hf it (by simp)
  exact wpAny_pyNext_range_end (I.ok.hd hc) st (by have : n ≤ i := hg; omega) fun h' eb => ⟨rfl, I.turned (t' := s.toks) (fun b o hb e => eb b o hb e) f0 f1 f3 f4 f5⟩
 self := fun _ _ _ _ _ st h => wpAny_pyIter_rangeiter st h
section
variable {X : Cx} {tg : Expr}
def iList (K : PySem.W.Frag) (tl : TE) : TI := fun σ H R => tl σ H fun x H1 => ∃ a, x = .ref a ∧ (∃ xs, SqL K H1 a xs) ∧ R (Itl K a) H1
theorem pi_list {l : Expr} {tl : TE} (hl : PE X l tl) : PI X tg l (iList X.K tl) := by
 intro pins s σ H R I h
 refine thn (hl pins s σ H _ I h) fun v s1 ⟨x, H1, I1, r1, q1⟩ => ?_
 obtain ⟨a, e, ⟨xs, hq⟩, q⟩ := q1
 subst e
 cases r1
 obtain ⟨its, rv, p, hz⟩ := I1.list hq
 refine wpAny_pyIter_list p.isList ?_
 refine ⟨s1.heap.objs.size, [s1.heap.objs.size], _, _, H1, rfl, I1.kept (t' := s1.toks) fun b o e => Heap.get?_push_of_some _ e, turn_list a _, ⟨_, Heap.get?_push_size _ rfl, rfl, rfl⟩, fun b hb => ?_, q⟩
 have e : b = s1.heap.objs.size := by simpa using hb
 subst e
 exact I1.fpOk (Nat.le_refl _) (I1.hok.fresh (Nat.le_refl _))
theorem range_it {pins : List (Addr × Obj)} {σ : St} {H : Hp} {s : Shared} {R : It → Hp → Prop} {E : Value → Shared → Prop} {lo hi : Int} {t u v : Tok} {tk : Nat} (I : Inv X pins σ H s) (h1 : -(2 ^ 62) ≤ lo) (h2 : lo < 2 ^ 62) (h3 : -(2 ^ 62) ≤ hi) (h4 : hi < 2 ^ 62)
  (q : R (Itr lo (hi - lo).toNat) H) : wpAny (model X.prog X.w) X.A (pyIter (.ref s.heap.objs.size)) (PIE X pins σ tg R) E { s with heap := s.heap.push { cls := .type "range", data := .fields #[.int lo t, .int hi u, .int 1 v] }, toks := tk } := by
 refine wpAny_pyIter_range (IsRange.new ..) (small_one h1 h2 h3 h4) ?_
 have I1 : Inv X pins σ H { s with heap := s.heap.push { cls := .type "range", data := .fields #[.int lo t, .int hi u, .int 1 v] }, toks := tk } := I.kept fun b o e => Heap.get?_push_of_some _ e
 refine ⟨(s.heap.push { cls := .type "range", data := .fields #[.int lo t, .int hi u, .int 1 v] }).objs.size, [(s.heap.push { cls := .type "range", data := .fields #[.int lo t, .int hi u, .int 1 v] }).objs.size], _, _, H, rfl,
  I1.kept (t' := tk) fun b o e => Heap.get?_push_of_some _ e, turn_range _ lo (hi - lo).toNat, ?_, fun b hb => ?_, q⟩
 ·have e1 : lo + ((0 : Nat) : Int) * 1 = lo := by simp
  have e2 : (((hi - lo).toNat : Nat) : Int) - ((0 : Nat) : Int) = Builtin.Range.rangeSize lo hi 1 := by rw [rangeSize_one]; split <;> omega
  show IsRangeIter _ _ (lo + ((0 : Nat) : Int) * 1) ((((hi - lo).toNat : Nat) : Int) - ((0 : Nat) : Int)) 1
  rw [e1, e2]
  exact Heap.get?_push_size _ rfl
 ·have e : b = (s.heap.push { cls := .type "range", data := .fields #[.int lo t, .int hi u, .int 1 v] }).objs.size := by simpa using hb
  subst e
  exact I1.fpOk (Nat.le_refl _) (I1.hok.fresh (Nat.le_refl _))
def iRng1 (ta : TA) : TI := fun σ H R => ta σ H fun vs H1 => ∃ j : Int, vs = [.int j] ∧ -(2 ^ 62) ≤ j ∧ j < 2 ^ 62 ∧ R (Itr 0 j.toNat) H1
theorem pi_range1 {a : Expr} {ta : TA} {p pos : Pos} (hg : Gl X "range") (hm : X.mg "range" = none) (ha : PA X [a] ta) (hs : starEach [a] X.env = [(false, eval a X.env)] := by rfl) : PI X tg (.Call (.Name "range" p) [a] [] pos) (iRng1 ta) := by
 intro pins s σ H R I h
 refine Call_ (ld_blt I hg hm boot_range (PyProof.Rows.callWith_type1 (thn (ha pos pins s σ H _ I h) fun us s1 ⟨vs, H1, I1, r1, q1⟩ => ?_) hs rfl))
 obtain ⟨j, e, q1, q2, q⟩ := q1
 subst e
 cases r1 with
 | cons r rr =>
  cases rr
  obtain ⟨t, rfl⟩ := r
  exact call_range_1 (range_it I1 (by omega) (by omega) q1 q2 (by simpa using q))
def tFor (wi : TI) (g : TG) (tb : TS) : TS := fun D σ H => wi σ H fun J H1 => ∃ W : Nat → Nat → St → Hp → Prop, (∃ m, W 0 m σ H1) ∧ ∀ i m σ H, W i m σ H →
 (J.stop i H ∧ D.nx σ H) ∨ (J.go i H ∧ ∃ N : St → Hp → Prop, (∀ σ' H', N σ' H' → ∃ m', m' < m ∧ W (i + 1) m' σ' H') ∧ ∀ x H', J.yld i H x H' → g x σ H' fun σ2 H2 => tb { D with nx := N, ct := N, bk := D.nx } σ2 H2)
def pinsAt (fp : List Addr) (h : Heap) : List (Addr × Obj) := fp.filterMap fun b => (h.get? b).map fun o => (b, o)
theorem mem_pinsAt {fp : List Addr} {h : Heap} {b : Addr} {o : Obj} (hb : b ∈ fp) (e : h.get? b = some o) : (b, o) ∈ pinsAt fp h := List.mem_filterMap.mpr ⟨b, hb, by rw [e]; rfl⟩
theorem of_pinsAt {fp : List Addr} {h : Heap} {p : Addr × Obj} (hp : p ∈ pinsAt fp h) : p.1 ∈ fp ∧ h.get? p.1 = some p.2 := by
 obtain ⟨b, hb, e⟩ := List.mem_filterMap.mp hp
 cases q : h.get? b with
 | none => rw [q] at e; cases e
 | some o =>
  rw [q] at e
  have e' : (b, o) = p := Option.some.inj e
  subst e'
  exact ⟨hb, q⟩
theorem Inv.pinned {pins : List (Addr × Obj)} {σ : St} {H : Hp} {s : Shared} {fp : List Addr} (I : Inv X pins σ H s) (hf : ∀ b ∈ fp, FpOk X pins H b) (ho : ∀ b ∈ fp, ∃ o, s.heap.get? b = some o ∧ ∀ v, o.data ≠ .cell v) : Inv X (pins ++ pinsAt fp s.heap) σ H s :=
 I.pins_of fun p hp => (List.mem_append.mp hp).elim (fun z => I.pin p (List.mem_append_right _ z)) fun z => by
  obtain ⟨hb, e⟩ := of_pinsAt z
  obtain ⟨f0, f1, f2, _⟩ := hf p.1 hb
  obtain ⟨o, e', d⟩ := ho p.1 hb
  rw [e] at e'; cases e'
  exact ⟨e, f0, f1, f2, d⟩
theorem Inv.unpinned {pins pl : List (Addr × Obj)} {σ : St} {H : Hp} {s : Shared} (I : Inv X (pins ++ pl) σ H s) : Inv X pins σ H s := I.pins_of fun p hp => I.pin p (List.mem_append_right _ (List.mem_append_left _ hp))
theorem ps_for {iter : Expr} {body : List Stmt} {wi : TI} {g : TG} {tb : TS} {pos : Pos} (hp : PassesOwn (model X.prog X.w) X.A X.env X.xe) (hc : X.calm = true) (hi : PI X tg iter wi) (hg : PG X tg g) (hb : PSs X body tb)
  (hs : ∀ x, foldedSetIterable iter X.env x = pure x := by intro _; rfl) : PS X (.For tg iter body [] pos) (tFor wi g tb) := by
 intro pins s σ H D I h
 refine wpAny_For (thn (hi pins s σ H _ I h) fun v s1 h1 => thn h1 fun itv s2 h2 => ?_) hs
 obtain ⟨it, fp, tn, J, H2, e, I2, T, st2, f2, W, ⟨m0, w0⟩, turn⟩ := h2
 subst e
 -- what stays true of the iterator's objects through the loop
 have stat : ∀ {H' : Hp}, (∀ b ∈ fp, H' b = none) → ∀ b ∈ fp, FpOk X pins H' b := fun hn b hb => ⟨hn b hb, (f2 b hb).2⟩
 refine codeAny_forLoop_any (fun n s' => ∃ i σ' H', Inv X pins σ' H' s' ∧ tn i s'.heap ∧ (∀ b ∈ fp, H' b = none) ∧ W i n σ' H') ?_ m0 ⟨0, σ, H2, I2, st2, fun b hb => (f2 b hb).1, w0⟩
 rintro n s3 ⟨i, σ3, H3, I3, st3, fr3, w3⟩
 rcases turn i n σ3 H3 w3 with ⟨stop, qn⟩ | ⟨go, N, hN, step⟩
 ·refine wpAny_passesOwn hp (thn (T.done X rfl rfl rfl hc i pins s3 σ3 H3 X.xe I3 (stat fr3) st3 stop) fun r s4 ⟨hr, I4⟩ => ?_)
  subst hr
  exact wpAny_execs_nil ⟨σ3, H3, I4, qn⟩
 ·refine wpAny_passesOwn hp (thn (T.item X rfl rfl rfl hc i pins s3 σ3 H3 X.xe I3 (stat fr3) st3 go) fun r s4 ⟨u, hr, h4⟩ => ?_)
  subst hr
  refine wpAny_passesOwn hp (thn h4 fun _ s5 ⟨x, H5, I5, r5, y5, st5, fr5⟩ => ?_)
  have I5' := I5.pinned (stat fr5) (T.obj _ _ st5)
  refine wpAny_passesOwn hp (thn (hg _ s5 σ3 H5 x u _ I5' r5 (step x H5 y5)) fun _ s6 ⟨σ6, H6, I6, q6⟩ => ?_)
  refine wpAny_passesOwn hp (thn (hb _ s6 σ6 H6 _ I6 q6) fun f s7 q7 => ?_)
  have again : ∀ {σ7 : St} {H7 : Hp}, Inv X (pins ++ pinsAt fp s5.heap) σ7 H7 s7 → N σ7 H7 → ∃ m, m < n ∧ ∃ i σ' H', Inv X pins σ' H' s7 ∧ tn i s7.heap ∧ (∀ b ∈ fp, H' b = none) ∧ W i m σ' H' := fun {σ7 H7} I7 n7 => by
   obtain ⟨m', hm, w7⟩ := hN σ7 H7 n7
   refine ⟨m', hm, i + 1, σ7, H7, I7.unpinned, T.keep _ _ _ st5 fun b hb o e => (I7.pin (b, o) (List.mem_append_right _ (List.mem_append_right _ (mem_pinsAt hb e)))).1, fun b hb => ?_, w7⟩
   obtain ⟨o, e, d⟩ := T.obj _ _ st5 b hb
   exact (I7.pin (b, o) (List.mem_append_right _ (List.mem_append_right _ (mem_pinsAt hb e)))).2.1
  cases f with
  | next => obtain ⟨σ7, H7, I7, n7⟩ := q7; exact again I7 n7
  | cont => obtain ⟨σ7, H7, I7, n7⟩ := q7; exact again I7 n7
  | brk => obtain ⟨σ7, H7, I7, q7⟩ := q7; exact ⟨σ7, H7, I7.unpinned, q7⟩
  | ret v => obtain ⟨x7, σ7, H7, I7, r7, q7⟩ := q7; exact ⟨x7, σ7, H7, I7.unpinned, r7, q7⟩
end
theorem for_list {K : PySem.W.Frag} {a : Addr} {xs : List V} {g : TG} {tb : TS} {D : Ends} {σ : St} {H : Hp} (Pv : Nat → St → Hp → Prop) (h0 : Pv 0 σ H) (hl : ∀ i σ H, i ≤ xs.length → Pv i σ H → SqL K H a xs)
  (hs : ∀ i x σ H, xs[i]? = some x → Pv i σ H → g x σ H fun σ2 H2 => tb { D with nx := Pv (i + 1), ct := Pv (i + 1), bk := D.nx } σ2 H2) (hd : ∀ σ H, Pv xs.length σ H → D.nx σ H) :
  ∃ W : Nat → Nat → St → Hp → Prop, (∃ m, W 0 m σ H) ∧ ∀ i m σ H, W i m σ H →
   ((Itl K a).stop i H ∧ D.nx σ H) ∨ ((Itl K a).go i H ∧ ∃ N : St → Hp → Prop, (∀ σ' H', N σ' H' → ∃ m', m' < m ∧ W (i + 1) m' σ' H') ∧ ∀ x H', (Itl K a).yld i H x H' → g x σ H' fun σ2 H2 => tb { D with nx := N, ct := N, bk := D.nx } σ2 H2) := by
 refine ⟨fun i m σ H => m = xs.length - i ∧ i ≤ xs.length ∧ Pv i σ H, ⟨xs.length, by simp, Nat.zero_le _, h0⟩, ?_⟩
 rintro i m σ H ⟨rfl, hi, p⟩
 have q := hl i σ H hi p
 by_cases hlt : i < xs.length
 ·refine .inr ⟨⟨xs, xs[i], q, by simp [hlt]⟩, Pv (i + 1), fun σ' H' p' => ⟨xs.length - (i + 1), by omega, rfl, hlt, p'⟩, fun x H' y => ?_⟩
  obtain ⟨e, y⟩ := y
  subst e
  exact hs i x σ _ (y xs q) p
 ·have e : i = xs.length := by omega
  subst e
  exact .inl ⟨⟨xs, q, Nat.le_refl _⟩, hd σ H p⟩
theorem for_range {lo : Int} {n : Nat} {g : TG} {tb : TS} {D : Ends} {σ : St} {H : Hp} (Pv : Nat → St → Hp → Prop) (h0 : Pv 0 σ H)
  (hs : ∀ i σ H, i < n → Pv i σ H → g (.int (lo + i)) σ H fun σ2 H2 => tb { D with nx := Pv (i + 1), ct := Pv (i + 1), bk := D.nx } σ2 H2) (hd : ∀ σ H, Pv n σ H → D.nx σ H) :
  ∃ W : Nat → Nat → St → Hp → Prop, (∃ m, W 0 m σ H) ∧ ∀ i m σ H, W i m σ H →
   ((Itr lo n).stop i H ∧ D.nx σ H) ∨ ((Itr lo n).go i H ∧ ∃ N : St → Hp → Prop, (∀ σ' H', N σ' H' → ∃ m', m' < m ∧ W (i + 1) m' σ' H') ∧ ∀ x H', (Itr lo n).yld i H x H' → g x σ H' fun σ2 H2 => tb { D with nx := N, ct := N, bk := D.nx } σ2 H2) := by
 refine ⟨fun i m σ H => m = n - i ∧ i ≤ n ∧ Pv i σ H, ⟨n, by simp, Nat.zero_le _, h0⟩, ?_⟩
 rintro i m σ H ⟨rfl, hi, p⟩
 by_cases hlt : i < n
 ·refine .inr ⟨hlt, Pv (i + 1), fun σ' H' p' => ⟨n - (i + 1), by omega, rfl, hlt, p'⟩, fun x H' y => ?_⟩
  obtain ⟨e, y⟩ := y
  subst e y
  exact hs i σ _ hlt p
 ·have e : i = n := by omega
  subst e
  exact .inl ⟨Nat.le_refl _, hd σ H p⟩
abbrev R2 := V → V → Hp → VK → Prop
def OpR (X : Cx) (f : Value → Value → Sem Value) (r : R2) : Prop :=
 ∀ (pins : List (Addr × Obj)) (s : Shared) (σ : St) (H : Hp) (x y : V) (v u : Value) (Q : VK), Inv X pins σ H s → RelV x v → RelV y u → r x y H Q →
  wpAny (model X.prog X.w) X.A (f v u) (EP X pins σ Q) X.xe s
def CallR (X : Cx) (f : Value) (r : List V → Hp → VK → Prop) : Prop :=
 ∀ (pins : List (Addr × Obj)) (s : Shared) (σ : St) (H : Hp) (xs : List V) (us : List Value) (Q : VK), Inv X pins σ H s → Vals xs us → r xs H Q →
  wpAny (model X.prog X.w) X.A (call f us) (EP X pins σ Q) X.xe s
def tOp (r : R2) (ta tb : TE) : TE := fun σ H Q => ta σ H fun x H1 => tb σ H1 fun y H2 => r x y H2 Q
def rI (C : Int → Int → Prop) (g : Int → Int → V) : R2 := fun x y H Q => ∃ i j, x = .int i ∧ y = .int j ∧ C i j ∧ Q (g i j) H
def rI0 (g : Int → Int → V) : R2 := fun x y H Q => ∃ i j, x = .int i ∧ y = .int j ∧ Q (g i j) H
section
variable {X : Cx} {a b c : Expr} {ta tb tc : TE} {pos : Pos}
theorem binT (ha : PE X a ta) (hb : PE X b tb) {pins : List (Addr × Obj)} {s : Shared} {σ : St} {H : Hp} {R : V → V → Hp → Prop} (I : Inv X pins σ H s)
  (h : ta σ H fun x H1 => tb σ H1 fun y H2 => R x y H2) {Q : Value → Shared → Prop} {f : Value → Value → Sem Value}
  (hf : ∀ v u s2 x y H2, Inv X pins σ H2 s2 → RelV x v → RelV y u → R x y H2 → wpAny (model X.prog X.w) X.A (f v u) Q X.xe s2) :
  wpAny (model X.prog X.w) X.A (eval a X.env) (fun v s₁ => wpAny (model X.prog X.w) X.A (eval b X.env) (fun u s₂ => wpAny (model X.prog X.w) X.A (f v u) Q X.xe s₂) X.xe s₁) X.xe s := by
 refine thn (ha pins s σ H _ I h) fun v s1 ⟨x, H1, I1, r1, q1⟩ => ?_
 refine thn (hb pins s1 σ H1 _ I1 q1) fun u s2 ⟨y, H2, I2, r2, q2⟩ => ?_
 exact hf v u s2 x y H2 I2 r1 r2 q2
theorem pe_op {op : Operator} {r : R2} (ho : OpR X (binaryOp op) r) (ha : PE X a ta) (hb : PE X b tb) : PE X (.BinOp a op b pos) (tOp r ta tb) := by
 intro pins s σ H Q I h
 exact wpAny_BinOp (binT ha hb I h fun v u s2 x y H2 I2 rx ry q => ho pins s2 σ H2 x y v u Q I2 rx ry q)
theorem opI {f : Value → Value → Sem Value} {C : Int → Int → Prop} {g : Int → Int → Int}
  (rule : ∀ (i j : Int) (t u : Tok) (s : Shared) (Q : Value → Shared → Prop) (E : Value → Shared → Prop), C i j → Q (.int (g i j) s.toks) { s with toks := s.toks + 1 } → wpAny (model X.prog X.w) X.A (f (.int i t) (.int j u)) Q E s) :
  OpR X f (rI C fun i j => .int (g i j)) := by
 intro pins s σ H x y v u Q I rx ry h
 obtain ⟨i, j, rfl, rfl, hc, q⟩ := h
 obtain ⟨t, rfl⟩ := rx
 obtain ⟨t', rfl⟩ := ry
 exact rule i j t t' s _ _ hc ⟨.int (g i j), H, I.tok _, ⟨_, rfl⟩, q⟩
theorem opI0 {f : Value → Value → Sem Value} {g : Int → Int → Int}
  (rule : ∀ (i j : Int) (t u : Tok) (s : Shared) (Q : Value → Shared → Prop) (E : Value → Shared → Prop), Q (.int (g i j) s.toks) { s with toks := s.toks + 1 } → wpAny (model X.prog X.w) X.A (f (.int i t) (.int j u)) Q E s) :
  OpR X f (rI0 fun i j => .int (g i j)) := by
 intro pins s σ H x y v u Q I rx ry h
 obtain ⟨i, j, rfl, rfl, q⟩ := h
 obtain ⟨t, rfl⟩ := rx
 obtain ⟨t', rfl⟩ := ry
 exact rule i j t t' s _ _ ⟨.int (g i j), H, I.tok _, ⟨_, rfl⟩, q⟩
theorem opB0 {f : Value → Value → Sem Value} {g : Int → Int → Bool}
  (rule : ∀ (i j : Int) (t u : Tok) (s : Shared) (Q : Value → Shared → Prop) (E : Value → Shared → Prop), Q (.bool (g i j)) s → wpAny (model X.prog X.w) X.A (f (.int i t) (.int j u)) Q E s) :
  OpR X f (rI0 fun i j => .bl (g i j)) := by
 intro pins s σ H x y v u Q I rx ry h
 obtain ⟨i, j, rfl, rfl, q⟩ := h
 obtain ⟨t, rfl⟩ := rx
 obtain ⟨t', rfl⟩ := ry
 exact rule i j t t' s _ _ ⟨.bl (g i j), H, I, rfl, q⟩
def CDiv (i j : Int) : Prop := 0 < j ∧ j < 1073741824
def CPow (i j : Int) : Prop := 0 ≤ j ∧ j ≤ 1000000 ∧ i.natAbs < 2 ^ 64
def CMul (i j : Int) : Prop := (-(2 ^ 64) < i ∧ i < 2 ^ 64) ∨ (-(2 ^ 64) < j ∧ j < 2 ^ 64)
theorem CMul.ok {i j : Int} (h : CMul i j) : IntMulOk i j := by
 rcases h with ⟨h1, h2⟩ | ⟨h1, h2⟩
 ·exact .of_left (intBits_le_64 h1 h2)
 ·exact .of_right (intBits_le_64 h1 h2)
theorem op_add : OpR X (binaryOp .Add) (rI0 fun i j => .int (i + j)) := opI0 fun _ _ _ _ _ _ _ q => add_int q
theorem op_sub : OpR X (binaryOp .Sub) (rI0 fun i j => .int (i - j)) := opI0 fun _ _ _ _ _ _ _ q => sub_int q
theorem op_mul : OpR X (binaryOp .Mult) (rI CMul fun i j => .int (i * j)) := opI fun _ _ _ _ _ _ _ hc q => mul_int q hc.ok
theorem op_fdiv : OpR X (binaryOp .FloorDiv) (rI CDiv fun i j => .int (i / j)) := opI fun i j _ _ _ _ _ hc q => by
 have h1 : (0 : Int) < j := hc.1
 have h2 : j < 1073741824 := hc.2
 exact floordiv_int (by omega) (by rw [Int.fdiv_eq_ediv_of_nonneg i (by omega)]; exact q) (.inl (PyProof.noPylong_small (by omega)))
theorem op_mod : OpR X (binaryOp .Mod) (rI (fun _ j => 0 < j) fun i j => .int (i % j)) := opI fun i j _ _ _ _ _ hc q => by
 have h1 : (0 : Int) < j := hc
 exact mod_int' (by omega) (by rw [Int.fmod_eq_emod_of_nonneg i (by omega)]; exact q)
theorem op_pow : OpR X (binaryOp .Pow) (rI CPow fun i j => .int (i ^ j.toNat)) := opI fun _ _ _ _ _ _ _ hc q => pow_int_small hc.1 hc.2.1 hc.2.2 q
end
def scal : V → V → Bool
 | .non, .non => true | .non, .int _ => true | .int _, .non => true | .non, .bl _ => true | .bl _, .non => true | .non, .str _ => true | .str _, .non => true
 | .int _, .int _ => true | .bl _, .bl _ => true | .str _, .str _ => true | .byt _, .byt _ => true
 | .int _, .str _ => true | .str _, .int _ => true | .bl _, .str _ => true | .str _, .bl _ => true
 | _, _ => false
def rEq : R2 := fun x y H Q => scal x y = true ∧ Q (.bl (decide (x = y))) H
def rNe : R2 := fun x y H Q => scal x y = true ∧ Q (.bl (!decide (x = y))) H
theorem dec_int {i j : Int} : decide (V.int i = V.int j) = (i == j) := by
 rw [Bool.eq_iff_iff]
 simp
theorem dec_bl {i j : Bool} : decide (V.bl i = V.bl j) = (i == j) := by
 rw [Bool.eq_iff_iff]
 simp
theorem dec_str {i j : Str} : decide (V.str i = V.str j) = (i == j) := by
 rw [Bool.eq_iff_iff]
 simp
theorem dec_byt {i j : Array UInt8} : decide (V.byt i = V.byt j) = (i.toList == j.toList) := by
 rw [Bool.eq_iff_iff]
 cases i
 cases j
 simp
section
variable {X : Cx} {a b c : Expr} {ta tb tc : TE} {pos : Pos}
theorem fin_bl {pins : List (Addr × Obj)} {σ : St} {H : Hp} {s : Shared} {Q : VK} {k k' : Bool} (I : Inv X pins σ H s) (q : Q (.bl k) H) (e : k = k') : EP X pins σ Q (.bool k') s := by
 subst e
 exact ⟨.bl k, H, I, rfl, q⟩
theorem op_eq : OpR X (compareOp .Eq) rEq := by
 intro pins s σ H x y v u Q I rx ry h
 obtain ⟨hs, q⟩ := h
 cases x with
 | non =>
  cases rx
  cases y with
  | non => cases ry; exact PySem.EqNone.eq_none_none (fin_bl I q (by simp))
  | bl j => cases ry; exact PySem.EqNone.eq_none_bool (fin_bl I q (by simp))
  | int j => obtain ⟨t', rfl⟩ := ry; exact PySem.EqNone.eq_none_int (fin_bl I q (by simp))
  | str j => obtain ⟨t', rfl⟩ := ry; exact PySem.EqNone.eq_none_str (fin_bl I q (by simp))
  | _ => exact absurd (show false = true from hs) Bool.false_ne_true
 | bl i =>
  cases rx
  cases y with
  | non => cases ry; exact PySem.EqNone.eq_bool_none (fin_bl I q (by simp))
  | bl j => cases ry; exact eq_bool (fin_bl I q dec_bl)
  | str j => obtain ⟨t', rfl⟩ := ry; exact PySem.EqMixed.eq_bool_str (fin_bl I q (by simp))
  | _ => exact absurd (show false = true from hs) Bool.false_ne_true
 | int i =>
  obtain ⟨t, rfl⟩ := rx
  cases y with
  | non => cases ry; exact PySem.EqNone.eq_int_none (fin_bl I q (by simp))
  | int j => obtain ⟨t', rfl⟩ := ry; exact eq_int (fin_bl I q dec_int)
  | str j => obtain ⟨t', rfl⟩ := ry; exact PySem.EqMixed.eq_int_str (fin_bl I q (by simp))
  | _ => exact absurd (show false = true from hs) Bool.false_ne_true
 | str i =>
  obtain ⟨t, rfl⟩ := rx
  cases y with
  | non => cases ry; exact PySem.EqNone.eq_str_none (fin_bl I q (by simp))
  | bl j => cases ry; exact PySem.EqMixed.eq_str_bool (fin_bl I q (by simp))
  | int j => obtain ⟨t', rfl⟩ := ry; exact PySem.EqMixed.eq_str_int (fin_bl I q (by simp))
  | str j => obtain ⟨t', rfl⟩ := ry; exact eq_str (fin_bl I q dec_str)
  | _ => exact absurd (show false = true from hs) Bool.false_ne_true
 | byt i =>
  obtain ⟨t, rfl⟩ := rx
  cases y with
  | byt j => obtain ⟨t', rfl⟩ := ry; exact PySem.W.eq_bytes (fin_bl I q dec_byt)
  | _ => exact absurd (show false = true from hs) Bool.false_ne_true
 | _ => cases y <;> exact absurd (show false = true from hs) Bool.false_ne_true
theorem op_ne : OpR X (compareOp .NotEq) rNe := by
 intro pins s σ H x y v u Q I rx ry h
 obtain ⟨hs, q⟩ := h
 cases x with
 | non =>
  cases rx
  cases y with
  | non => cases ry; exact PySem.EqNone.ne_none_none (fin_bl I q (by simp))
  | bl j => cases ry; exact PySem.EqNone.ne_none_bool (fin_bl I q (by simp))
  | int j => obtain ⟨t', rfl⟩ := ry; exact PySem.EqNone.ne_none_int (fin_bl I q (by simp))
  | str j => obtain ⟨t', rfl⟩ := ry; exact PySem.EqNone.ne_none_str (fin_bl I q (by simp))
  | _ => exact absurd (show false = true from hs) Bool.false_ne_true
 | bl i =>
  cases rx
  cases y with
  | non => cases ry; exact PySem.EqNone.ne_bool_none (fin_bl I q (by simp))
  | bl j => cases ry; exact ne_bool (fin_bl I q (congrArg not dec_bl))
  | str j => obtain ⟨t', rfl⟩ := ry; exact PySem.EqMixed.ne_bool_str (fin_bl I q (by simp))
  | _ => exact absurd (show false = true from hs) Bool.false_ne_true
 | int i =>
  obtain ⟨t, rfl⟩ := rx
  cases y with
  | non => cases ry; exact PySem.EqNone.ne_int_none (fin_bl I q (by simp))
  | int j => obtain ⟨t', rfl⟩ := ry; exact ne_int (fin_bl I q (congrArg not dec_int))
  | str j => obtain ⟨t', rfl⟩ := ry; exact PySem.EqMixed.ne_int_str (fin_bl I q (by simp))
  | _ => exact absurd (show false = true from hs) Bool.false_ne_true
 | str i =>
  obtain ⟨t, rfl⟩ := rx
  cases y with
  | non => cases ry; exact PySem.EqNone.ne_str_none (fin_bl I q (by simp))
  | bl j => cases ry; exact PySem.EqMixed.ne_str_bool (fin_bl I q (by simp))
  | int j => obtain ⟨t', rfl⟩ := ry; exact PySem.EqMixed.ne_str_int (fin_bl I q (by simp))
  | str j => obtain ⟨t', rfl⟩ := ry; exact ne_str (fin_bl I q (congrArg not dec_str))
  | _ => exact absurd (show false = true from hs) Bool.false_ne_true
 | byt i =>
  obtain ⟨t, rfl⟩ := rx
  cases y with
  | byt j => obtain ⟨t', rfl⟩ := ry; exact PySem.W.ne_bytes (fin_bl I q (congrArg not dec_byt))
  | _ => exact absurd (show false = true from hs) Bool.false_ne_true
 | _ => cases y <;> exact absurd (show false = true from hs) Bool.false_ne_true
theorem op_lt : OpR X (compareOp .Lt) (rI0 fun i j => .bl (decide (i < j))) := opB0 fun _ _ _ _ _ _ _ q => lt_int q
theorem op_gt : OpR X (compareOp .Gt) (rI0 fun i j => .bl (decide (j < i))) := opB0 fun _ _ _ _ _ _ _ q => gt_int q
theorem op_ge : OpR X (compareOp .GtE) (rI0 fun i j => .bl (decide (j ≤ i))) := opB0 fun _ _ _ _ _ _ _ q => ge_int q
theorem nomark (b : Expr) {op : CmpOp} (h : op ≠ .In := by decide) (h2 : op ≠ .NotIn := by decide) : behindInMarks op b = false := by
 have e1 : (op == CmpOp.In) = false := by cases op <;> first | rfl | exact absurd rfl h
 have e2 : (op == CmpOp.NotIn) = false := by cases op <;> first | rfl | exact absurd rfl h2
 cases b <;> simp [behindInMarks, e1, e2]
theorem pe_cmpR {op : CmpOp} {r : R2} (ho : OpR X (compareOp op) r) (ha : PE X a ta) (hb : PE X b tb) (hm : behindInMarks op b = false) : PE X (.Compare a [op] [b] pos) (tOp r ta tb) := by
 intro pins s σ H Q I h
 exact wpAny_Compare1 (binT ha hb I h fun v u s2 x y H2 I2 rx ry q => ho pins s2 σ H2 x y v u Q I2 rx ry q) hm
def tTest (t : TE) : TT := fun σ H Q => t σ H fun x H' => ∃ k, x = .bl k ∧ Q k H'
theorem pt_cmpR {op : CmpOp} {r : R2} (ho : OpR X (compareOp op) r) (ha : PE X a ta) (hb : PE X b tb) (hm : behindInMarks op b = false) : PT X (.Compare a [op] [b] pos) (tTest (tOp r ta tb)) := by
 intro pins s σ H Q I h
 refine wpAny_isTrue_Compare1 (thn (ha pins s σ H _ I h) fun v s1 ⟨x, H1, I1, r1, q1⟩ => thn (hb pins s1 σ H1 _ I1 q1) fun u s2 ⟨y, H2, I2, r2, q2⟩ =>
  thn (ho pins s2 σ H2 x y v u _ I2 r1 r2 q2) fun c s3 ⟨z, H3, I3, r3, k, e, q3⟩ => ?_) hm
 subst e
 cases r3
 exact wpAny_truthy_bool ⟨H3, I3, q3⟩
theorem line63 : (sizeLine : Nat) < 2 ^ 63 := by rw [sizeLine_eq]; decide
theorem vals1 {x : V} {us : List Value} (r : Vals [x] us) : ∃ u, us = [u] ∧ RelV x u := by
 cases r with
 | cons r1 r2 => cases r2; exact ⟨_, rfl, r1⟩
theorem call_int1 : CallR X (.type "int") (fun xs H Q => (∃ i, xs = [.int i] ∧ Q (.int i) H) ∨ ∃ k, xs = [.bl k] ∧ Q (.int (if k then 1 else 0)) H) := by
 intro pins s σ H xs us Q I r h
 rcases h with ⟨i, rfl, q⟩ | ⟨k, rfl, q⟩
 ·obtain ⟨u, rfl, t, rfl⟩ := vals1 r
  exact call_int_int ⟨.int i, H, I, ⟨_, rfl⟩, q⟩
 ·obtain ⟨u, rfl, r1⟩ := vals1 r
  cases r1
  exact call_int_bool ⟨.int (if k then 1 else 0), H, I.tok _, ⟨_, rfl⟩, q⟩
end
structure ObjM (h : Heap) (x dx C : Addr) (mA : Str → Option Value) : Prop where
 obj : h.get? x = some (PySem.W.instObj C dx)
 ns : h.Ns1 dx mA
 ne : dx ≠ x
theorem lookIn_ns {h : Heap} {dx : Addr} {mA : Str → Option Value} (n : h.Ns1 dx mA) : ∃ od, h.get? dx = some od ∧ ∀ name, PySem.W.lookIn name od = some (mA name) := by
 obtain ⟨o, es, ep, ho, hd, hk, _, hm⟩ := n
 refine ⟨o, ho, fun name => ?_⟩
 have e := hm name
 unfold nsFind findBy at e
 rw [← Array.find?_toList] at e
 unfold PySem.W.lookIn
 rw [hd]
 dsimp only
 split
 ·rename_i y q
  rw [q] at e
  exact congrArg some e
 ·rename_i q
  rw [q] at e
  have a : es.toList.any (·.refKey) = false := by
   rw [List.any_eq_false]
   intro y hy
   obtain ⟨z, t, hkey⟩ := hk y (Array.mem_toList_iff.mp hy)
   simp [DictEntry.refKey, hkey]
  have a' : ¬ es.toList.any (·.refKey) = true := by rw [a]; exact Bool.false_ne_true
  rw [if_neg a']
  exact congrArg some e
theorem ObjM.look {h : Heap} {x dx C : Addr} {mA : Str → Option Value} (I : ObjM h x dx C mA) : ∃ od, PySem.W.InstAt h x (PySem.W.instObj C dx) C (some od) ∧ ∀ name, PySem.W.lookIn name od = some (mA name) :=
 let ⟨od, ho, hl⟩ := lookIn_ns I.ns
 ⟨od, ⟨I.obj, rfl, rfl, ho⟩, hl⟩
section
variable {prog : Program} {w : World} {A : Around} {E : Value → Shared → Prop} {s : Shared} {K : PySem.W.Frag} {x dx C f : Addr} {mA : Str → Option Value} {name : Str} {v : Value}
end
section
variable {P : Program} {w : World} {H H' : Hp} {h h' : Heap} {a C dx : Addr} {fs fs' : List (Str × V)}
theorem ins_get (hok : HOk P w H h) (e : H a = some (.ins C dx fs)) : ∃ mA, ObjM h a dx C mA ∧ (∀ f, RelO (fs.lookup f) (mA f)) ∧ PySem.Within mA (fs.map (·.1)) ∧ fs.length ≤ 1000 ∧ H dx = some (.own a) := by
 obtain ⟨d, z, ne, ob, mA, n, r, q⟩ := (show ObjOk P w H h a (.ins C dx fs) from hok a _ e)
 exact ⟨mA, ⟨ob, n, ne⟩, r, q, z, d⟩
end
structure Cls (K : PySem.W.Frag) (C : Addr) : Prop where
 pg : PySem.W.plainGet K C Str.empty = true
 hd : PySem.W.hasDictIn K C = true
 po : PySem.W.plainOver K C = true
 sa : PySem.W.findIn K (.ref C) "__setattr__" = some (some (.builtin "object.__setattr__"))
theorem Cls.get {K : PySem.W.Frag} {C : Addr} (c : Cls K C) (f : Str) : PySem.W.plainGet K C f = true := c.pg
structure Con (K : PySem.W.Frag) (C : Addr) (f : Str) (v : V) (u : Value) : Prop where
 at_ : PySem.W.findIn K (.ref C) f = some (some u)
 rel : RelV v u
 get : PySem.W.specialIn K u "__get__" = some none
 cp : PySem.W.copiedNames.contains f = false
structure Meth (K : PySem.W.Frag) (C : Addr) (m : Str) (f : Addr) : Prop where
 at_ : PySem.W.findIn K (.ref C) m = some (some (.ref f))
 fn : PySem.W.isFn K (.ref f) = true
 kp : PySem.W.keepIn K (.ref f) = true
section
variable {X : Cx} {pins : List (Addr × Obj)} {σ : St} {H : Hp} {s : Shared} {a C dx : Addr} {fs : List (Str × V)} {f : Str} {v : V} {A : Around} {E : Value → Shared → Prop}
end
section
variable {X : Cx} {o e value : Expr} {f : Str} {pos pos' tpos : Pos} {ta tv : TE}
end
section
variable {X : Cx} {pins : List (Addr × Obj)} {σ : St} {H : Hp} {s : Shared} {A : Around} {E : Value → Shared → Prop} {Q : Value → Shared → Prop} {c : Value} {b : Bool}
inductive TyOf (K : PySem.W.Frag) (H : Hp) : V → Value → Prop where
 | non : TyOf K H .non (.type "NoneType")
 | bl (x : Bool) : TyOf K H (.bl x) (.type "bool")
 | int (i : Int) : TyOf K H (.int i) (.type "int")
 | str (x : Str) : TyOf K H (.str x) (.type "str")
 | flt (x : UInt64) : TyOf K H (.flt x) (.type "float")
 | lst {a : Addr} {xs : List V} (e : H a = some (.lst xs)) : TyOf K H (.ref a) (.type "list")
 | frz {a : Addr} {o : Obj} {xs : List V} (e : H a = some (.frz o (.lst xs))) : TyOf K H (.ref a) (.type "list")
 | tup {a : Addr} {xs : List V} (e : H a = some (.tup xs)) : TyOf K H (.ref a) (.type "tuple")
 | dK {a : Addr} {kvs : List (Key × V)} (e : H a = some (.dK kvs)) : TyOf K H (.ref a) (.type "dict")
 | dT {a : Addr} {kvs : List (List Key × V)} (e : H a = some (.dT kvs)) : TyOf K H (.ref a) (.type "dict")
 | ins {a C dx : Addr} {fs : List (Str × V)} (e : H a = some (.ins C dx fs)) (cl : Cls K C) (ha : PySem.W.findIn K (.ref C) "__class__" = some (some (.builtin "object.__class__")))
   (hn : PySem.W.specialIn K (.builtin "object.__class__") "__get__" = some (some (.builtin "getset_descriptor.__get__"))) (htk : PySem.W.takesIn K (.builtin "object.__class__") = some true)
   (hm : PySem.W.mroIn K C (.type "object") = some true) : TyOf K H (.ref a) (.ref C)
theorem isinst_ok {x : V} {u t : Value} (I : Inv X pins σ H s) (rx : RelV x u) (ty : TyOf X.K H x t) (e : PySem.W.kitOne X.K t c = some b) (h : ∀ tk, Q (.bool b) { s with toks := tk }) :
  wpAny (model X.prog X.w) A (call (.builtin "isinstance") [u, c]) Q E s := by
 cases ty with
 | non => cases (show u = Value.none from rx); exact PySem.W.kia_one PySem.W.kitx_none I.kIn True.intro e (fun z => nomatch z) h
 | bl y => cases (show u = Value.bool y from rx); exact PySem.W.kia_one PySem.W.kitx_bool I.kIn True.intro e (fun z => nomatch z) h
 | int i => obtain ⟨t, q⟩ := (show ∃ t, u = Value.int i t from rx); cases q; exact PySem.W.kia_one PySem.W.kitx_int I.kIn True.intro e (fun z => nomatch z) h
 | str y => obtain ⟨t, q⟩ := (show ∃ t, u = Value.str y t from rx); cases q; exact PySem.W.kia_one PySem.W.kitx_str I.kIn True.intro e (fun z => nomatch z) h
 | flt y => obtain ⟨t, q⟩ := (show ∃ t, u = Value.float y t from rx); cases q; exact PySem.W.kia_one PySem.W.kitx_float I.kIn True.intro e (fun z => nomatch z) h
 | @lst a xs ea =>
  cases (show u = Value.ref a from rx)
  obtain ⟨_, _, n, _, h1⟩ := (show ObjOk X.prog X.w H s.heap a (.lst xs) from I.hok a _ ea)
  exact PySem.W.kia_one PySem.W.kitx_list I.kIn ⟨_, h1, rfl⟩ e (fun z => nomatch z) h
 | @frz a ob xs ea =>
  cases (show u = Value.ref a from rx)
  obtain ⟨_, _, _, n, _, h1⟩ := (show ObjOk X.prog X.w H s.heap a (.frz ob (.lst xs)) from I.hok a _ ea)
  exact PySem.W.kia_one PySem.W.kitx_list I.kIn ⟨_, h1, rfl⟩ e (fun z => nomatch z) h
 | @tup a xs ea =>
  cases (show u = Value.ref a from rx)
  obtain ⟨_, _, _, p⟩ := (show ObjOk X.prog X.w H s.heap a (.tup xs) from I.hok a _ ea)
  obtain ⟨o, h1, h2, _⟩ := p
  exact PySem.W.kia_one PySem.W.kitx_tuple I.kIn ⟨o, h1, h2⟩ e (fun z => nomatch z) h
 | @dK a kvs ea =>
  cases (show u = Value.ref a from rx)
  obtain ⟨_, _, vs, _, p⟩ := (show ObjOk X.prog X.w H s.heap a (.dK kvs) from I.hok a _ ea)
  obtain ⟨o, es, ep, h1, h2, _⟩ := p
  exact PySem.W.kia_one PySem.W.kitx_dict I.kIn ⟨o, h1, h2.1⟩ e (fun z => nomatch z) h
 | @dT a kvs ea =>
  cases (show u = Value.ref a from rx)
  obtain ⟨_, _, xs, _, o, es, ep, h1, h2, _⟩ := (show ObjOk X.prog X.w H s.heap a (.dT kvs) from I.hok a _ ea)
  exact PySem.W.kia_one PySem.W.kitx_dict I.kIn ⟨o, h1, h2.1⟩ e (fun z => nomatch z) h
 | @ins a C dx fs ea cl ha hn htk hm =>
  cases (show u = Value.ref a from rx)
  obtain ⟨mA, O, _⟩ := ins_get I.hok ea
  obtain ⟨od, J, _⟩ := O.look
  exact PySem.W.kia_one (PySem.W.kitx_own (cl.get _) cl.hd ha hn htk hm) I.kIn J e (fun z => nomatch z) h
end
structure Room (k : Nat) (A : Around) : Prop where
 hd : A.handled = none
 dp : A.depth + 3 * k + 5 < recursionLimit
 un : A.units + 16 * k + 200 < cLine
 gd : A.guards = some []
theorem Room.mono {j k : Nat} {A : Around} (r : Room k A) (h : j ≤ k) : Room j A := ⟨r.hd, by have := r.dp; omega, by have := r.un; omega, r.gd⟩
theorem Room.deeper {k : Nat} {A : Around} (r : Room (k + 1) A) (env : Env) : Room k (A.deeper env) :=
 ⟨r.hd, by have := r.dp; show A.depth + 1 + 3 * k + 5 < _; omega, by have := r.un; show A.units + 3 + 16 * k + 200 < _; omega, r.gd⟩
theorem Room.depth {k : Nat} {A : Around} (r : Room k A) : A.depth < recursionLimit := by have := r.dp; omega
theorem Room.units {k : Nat} {A : Around} (r : Room k A) : A.units + 64 < cLine := by have := r.un; omega
def tNil : TA := fun _ H Q => Q [] H
def tCons (ta : TE) (tr : TA) : TA := fun σ H Q => ta σ H fun x H1 => tr σ H1 fun xs H2 => Q (x :: xs) H2
section
variable {X : Cx} {e : Expr} {es : List Expr} {te : TE} {t : TA} {pos : Pos}
theorem pa_nil : PA X [] tNil := fun _ _ _ _ H Q I h => Calls.spliced_nil ⟨[], H, I, .nil, h⟩
theorem pa_cons (ha : PE X e te) (hr : PA X es t) (hs : starEach (e :: es) X.env = (false, eval e X.env) :: starEach es X.env := by rfl) : PA X (e :: es) (tCons te t) := by
 intro pos pins s σ H Q I h
 rw [hs]
 show wpAny _ _ (spliced ((false, eval e X.env) :: backTo pos (starEach es X.env))) _ _ s
 refine Calls.spliced_cons (thn (ha pins s σ H _ I h) fun u s1 ⟨x, H1, I1, r1, q1⟩ => ?_)
 exact thn (hr pos pins s1 σ H1 _ I1 q1) fun us s2 ⟨xs, H2, I2, r2, q2⟩ => ⟨x :: xs, H2, I2, .cons r1 r2, q2⟩
def tTup (t : TA) : TE := fun σ H Q => t σ H fun xs H1 => xs.length ≤ sizeLine ∧ ∀ p, H1 p = none → Q (.ref p) (upd H1 p (.tup xs))
def tLst (t : TA) : TE := fun σ H Q => t σ H fun xs H1 => xs.length ≤ sizeLine ∧ ∀ p, H1 p = none → Q (.ref p) (upd H1 p (.lst xs))
theorem pe_tup {x1} (h : PA X es t) : PE X (.Tuple es x1 pos) (tTup t) := by
 intro pins s σ H Q I hq
 refine wpAny_Tuple_spliced (thn (h pos pins s σ H _ I hq) fun us s1 ⟨xs, H1, I1, r, z, q⟩ => ⟨by rw [← r.length]; exact z, ?_⟩)
 have hf : H1 s1.heap.objs.size = none := I1.hok.fresh (Nat.le_refl _)
 refine ⟨.ref s1.heap.objs.size, upd H1 s1.heap.objs.size (.tup xs), I1.laid (t' := s1.toks) (fun b u e => Heap.get?_push_of_some _ e) (Nat.le_refl _) ?_, rfl, q _ hf⟩
 exact ⟨z, us, r, ⟨_, Heap.get?_push_size _ rfl, rfl, _, rfl⟩⟩
theorem pe_lst (h : PA X es t) : PE X (.List es pos) (tLst t) := by
 intro pins s σ H Q I hq
 refine wpAny_List_spliced (thn (h pos pins s σ H _ I hq) fun us s1 ⟨xs, H1, I1, r, z, q⟩ => ⟨by rw [← r.length]; exact z, ?_⟩)
 have hf : H1 s1.heap.objs.size = none := I1.hok.fresh (Nat.le_refl _)
 refine ⟨.ref s1.heap.objs.size, upd H1 s1.heap.objs.size (.lst xs), I1.laid (t' := s1.toks) (fun b u e => Heap.get?_push_of_some _ e) (Nat.le_refl _) ?_, rfl, q _ hf⟩
 exact ⟨z, us, 0, r, Heap.get?_push_size _ rfl⟩
end
abbrev Sp := List V → Hp → VK → XK → Prop
abbrev CXT := List Env → Hp → Shared → XK → Value → Shared → Prop
structure Env0 (P : Program) (w : World) (K : PySem.W.Frag) (mg : Str → Option Value) (base : Heap) (A : Around) (outer : List Env) (s : Shared) (H : Hp) : Prop where
 frames : A.frames = some outer
 mod : Mod K mg base
 bs : ∀ b o, base.get? b = some o → s.heap.get? b = some o ∧ H b = none
 bsz : base.objs.size ≤ s.heap.objs.size
 funs : s.heap.FunFrames base outer
 frf : ∀ b ∈ frs outer, H b = none
 hok : HOk P w H s.heap
 bare : AllBare s.gens
def CE (outer : List Env) (P : Program) (w : World) (H : Hp) (s : Shared) (Q : VK) (u : Value) (s' : Shared) : Prop :=
 ∃ v H', s'.os = s.os ∧ AllBare s'.gens ∧ Un (frs outer) [] H H' s.heap s'.heap ∧ HOk P w H' s'.heap ∧ RelV v u ∧ Q v H'
def CR (CX : CXT) (outer : List Env) (P : Program) (w : World) (H : Hp) (s : Shared) (Q : VK) (E : XK) (r : Result) (s' : Shared) : Prop :=
 match r with
 | .ok (.ret u) => CE outer P w H s Q u s'
 | .ok _ => False
 | .error e => CX outer H s E e s'
structure FnOk (P : Program) (w : World) (K : PySem.W.Frag) (mg : Str → Option Value) (base : Heap) (CX : CXT) (k : Nat) (f : Addr) (fd : FuncData) (ps : List Str) (sp : Sp) : Prop where
 len : ∀ vs H Q E, sp vs H Q E → vs.length = ps.length
 run : ∀ (A : Around) (outer : List Env) (s : Shared) (H : Hp) (args : Args) (us : List Value) (vs : List V) (Q : VK) (E : XK), Room k A → Env0 P w K mg base A outer s H → BindsTo s fd args (ps.zip us) → Vals vs us → sp vs H Q E →
  codeAny (model P w) A (.call (.ref f) args) (CR CX outer P w H s Q E) s
theorem FnOk.mono {P : Program} {w : World} {K : PySem.W.Frag} {mg : Str → Option Value} {base : Heap} {CX : CXT} {j k : Nat} {f : Addr} {fd : FuncData} {ps : List Str} {sp : Sp} (F : FnOk P w K mg base CX j f fd ps sp) (h : j ≤ k) :
  FnOk P w K mg base CX k f fd ps sp := ⟨F.len, fun A outer s H args us vs Q E hr => F.run A outer s H args us vs Q E (hr.mono h)⟩
section
variable {X : Cx} {pins : List (Addr × Obj)} {σ : St} {H : Hp} {s s' : Shared}
theorem Inv.env0 (I : Inv X pins σ H s) : Env0 X.prog X.w X.K X.mg X.base X.A X.stack s H :=
 ⟨I.ok.frames, I.ok.mod, I.bs, Nat.le_trans I.ok.bsz I.sz, I.stack, I.stkFree, I.hok, I.bare⟩
theorem Inv.after {Q : VK} {u : Value} (I : Inv X pins σ H s) (h : CE X.stack X.prog X.w H s Q u s') : EP X pins σ Q u s' := by
 obtain ⟨v, H', os, bare, un, hok, r, q⟩ := h
 obtain ⟨hh, g, d, t, os'⟩ := s'
 obtain rfl : os' = s.os := os
 exact ⟨v, H', I.call (h' := hh) (g' := g) (d' := d) (t' := t) (ch := []) un hok bare (fun b z => absurd z (by simp)), r, q⟩
end
def tCall (sp : Sp) (dvs : List V) (E : XK) (t : TA) : TE := fun σ H Q => t σ H fun vs H1 => sp (vs ++ dvs) H1 Q E
def Binds (K : PySem.W.Frag) (fd : FuncData) (ps : List Str) (ds : List Value) : Prop :=
 ∀ (s : Shared) (us : List Value), K.In s.heap → (us ++ ds).length = ps.length → BindsTo s fd ⟨us, []⟩ (ps.zip (us ++ ds))
theorem Binds.all {K : PySem.W.Frag} {fd : FuncData} {ps : List Str} (h : ∀ us : List Value, us.length = ps.length → bindArgs fd ⟨us, []⟩ = pure (ps.zip us)) : Binds K fd ps [] := fun s us _ hl => by
 rw [List.append_nil] at hl ⊢
 exact .of_eq (h us hl)
def Passes (CX : CXT) (X : Cx) (E : XK) : Prop := ∀ (pins : List (Addr × Obj)) (σ : St) (H : Hp) (s : Shared) (e : Value) (s' : Shared), Inv X pins σ H s → CX X.stack H s E e s' → X.xe e s'
section
variable {X : Cx} {CX : CXT} {k : Nat} {f C : Addr} {fd : FuncData} {ps : List Str} {sp : Sp} {dvs : List V} {ds : List Value} {E : XK} {x m : Str} {p pos apos : Pos} {e o : Expr} {es : List Expr} {ta : TE} {t : TA}
theorem run_fn {pins : List (Addr × Obj)} {σ : St} {H : Hp} {s : Shared} {Q : VK} {us : List Value} {vs : List V} (F : FnOk X.prog X.w X.K X.mg X.base CX k f fd ps sp) (hr : Room k X.A) (hb : Binds X.K fd ps ds) (hd : Vals dvs ds) (hx : Passes CX X E)
  (I : Inv X pins σ H s) (r : Vals vs us) (h : sp (vs ++ dvs) H Q E) : wpAny (model X.prog X.w) X.A (call (.ref f) us) (EP X pins σ Q) X.xe s := by
 have r2 : Vals (vs ++ dvs) (us ++ ds) := r.append hd
 have hl : (us ++ ds).length = ps.length := by rw [← r2.length]; exact F.len _ _ _ _ h
 refine wpAny_call (codeAny_mono (F.run X.A X.stack s H ⟨us, []⟩ (us ++ ds) (vs ++ dvs) Q E hr I.env0 (hb s us I.kIn hl) r2 h) fun r s' hq => ?_)
 cases r with
 | error e => exact hx pins σ H s e s' I hq
 | ok fl =>
  cases fl with
  | ret u => exact I.after hq
  | next => exact False.elim hq
  | brk => exact False.elim hq
  | cont => exact False.elim hq
theorem pe_call (F : FnOk X.prog X.w X.K X.mg X.base CX k f fd ps sp) (hr : Room k X.A) (hg : Gl X x) (hm : X.mg x = some (.ref f)) (hk : PySem.W.keepIn X.K (.ref f) = true) (hb : Binds X.K fd ps ds) (hd : Vals dvs ds) (hx : Passes CX X E)
  (ha : PA X (e :: es) t) (hdb : (x == ("__debug__" : Str)) = false := by decide) (he : starEach (e :: es) X.env = (false, eval e X.env) :: starEach es X.env := by rfl) (hpl : (backTo pos (starEach es X.env)).any (·.1) = false := by rfl) :
  PE X (.Call (.Name x p) (e :: es) [] pos) (tCall sp dvs E t) := by
 intro pins s σ H Q I h
 refine wpAny_Call_Name_kw (ld_glob I hg hm ?_ hdb)
 refine PySem.W.callWith_K (h₀ := X.base) I.ok.mod.kin hk (thn (ha pos pins s σ H _ I h) fun us s1 ⟨vs, H1, I1, r, q⟩ => ⟨I1.kIn, ?_⟩) he hpl
 exact run_fn F hr hb hd hx I1 r q
structure Mk (K : PySem.W.Frag) (C f : Addr) : Prop where
 makes : PySem.W.makesIn K C = true
 init : PySem.W.findIn K (.ref C) "__init__" = some (some (.ref f))
 fn : PySem.W.isFn K (.ref f) = true
 kp : PySem.W.keepIn K (.ref C) = true
end
section
variable {X : Cx} {CX : CXT} {k : Nat} {f C : Addr} {fd : FuncData} {ps ks : List Str} {sp : Sp} {E : XK} {x m : Str} {p pos apos kpos : Pos} {e o : Expr} {es : List Expr} {kws : List Keyword} {te ta : TE} {t tk : TA} {nm : Option Str}
structure KBinds (K : PySem.W.Frag) (fd : FuncData) (ps ks : List Str) (g : List Value → List Value → List Value) (gV : List V → List V → List V) : Prop where
 to : ∀ (s : Shared) (us ws : List Value), K.In s.heap → (g us ws).length = ps.length → BindsTo s fd ⟨us, ks.zip ws⟩ (ps.zip (g us ws))
 rel : ∀ {vs : List V} {us : List Value} {zs : List V} {ws : List Value}, Vals vs us → Vals zs ws → Vals (gV vs zs) (g us ws)
variable {g : List Value → List Value → List Value} {gV : List V → List V → List V}
end
structure FnScope (N P : List Str) (sc : Scope) : Prop where
 kind : sc.kind = .function
 co : sc.isCoroutine = false
 gen : sc.isGenerator = false
 nd : N.Nodup
 pre : N.take P.length = P
 par : ∀ x ∈ P, sc.names.lookup x = some .local ∨ sc.names.lookup x = some .cell
 nofree : ∀ y ∈ sc.names, y.2 ≠ .free
theorem bindL_out {kindOf : Str → Option NameKind} {x : Str} : ∀ {binds : List (Str × Value)} {m : Str → Option Value}, (∀ v, (x, v) ∉ binds) → bindL kindOf binds m x = m x
 | [], _, _ => rfl
 | (n, v) :: r, m, h => by
  unfold bindL
  rw [bindL_out fun w hw => h w (List.mem_cons_of_mem _ hw)]
  split
  ·have : x ≠ n := by rintro rfl; exact h v List.mem_cons_self
   simp [this]
  ·rfl
theorem bindC_out {kindOf : Str → Option NameKind} {x : Str} : ∀ {binds : List (Str × Value)} {m : Str → Option Value}, (∀ v, (x, v) ∉ binds) → bindC kindOf binds m x = m x
 | [], _, _ => rfl
 | (n, v) :: r, m, h => by
  unfold bindC
  rw [bindC_out fun w hw => h w (List.mem_cons_of_mem _ hw)]
  split
  ·rfl
  ·have : x ≠ n := by rintro rfl; exact h v List.mem_cons_self
   simp [this]
theorem bindL_get {kindOf : Str → Option NameKind} {x : Str} {v : Value} : ∀ {P : List Str} {vs : List Value} {i : Nat} {m : Str → Option Value}, P.Nodup → P[i]? = some x → vs[i]? = some v → kindOf x = some .local →
  bindL kindOf (P.zip vs) m x = some v
 | [], _, _, _, _, h, _, _ => by simp at h
 | _ :: _, [], _, _, _, _, h, _ => by simp at h
 | p :: P, w :: vs, 0, m, nd, h1, h2, hk => by
  simp at h1 h2; subst h1; subst h2
  show bindL kindOf ((p, w) :: P.zip vs) m p = _
  unfold bindL
  rw [bindL_out fun v hv => (List.nodup_cons.mp nd).1 (List.of_mem_zip hv).1, if_pos hk]
  simp
 | p :: P, w :: vs, i + 1, m, nd, h1, h2, hk => by
  show bindL kindOf ((p, w) :: P.zip vs) m x = _
  unfold bindL
  exact bindL_get (i := i) (List.nodup_cons.mp nd).2 (by simpa using h1) (by simpa using h2) hk
theorem bindC_get {kindOf : Str → Option NameKind} {x : Str} {v : Value} : ∀ {P : List Str} {vs : List Value} {i : Nat} {m : Str → Option Value}, P.Nodup → P[i]? = some x → vs[i]? = some v → kindOf x ≠ some .local →
  bindC kindOf (P.zip vs) m x = some v
 | [], _, _, _, _, h, _, _ => by simp at h
 | _ :: _, [], _, _, _, _, h, _ => by simp at h
 | p :: P, w :: vs, 0, m, nd, h1, h2, hk => by
  simp at h1 h2; subst h1; subst h2
  show bindC kindOf ((p, w) :: P.zip vs) m p = _
  unfold bindC
  rw [bindC_out fun v hv => (List.nodup_cons.mp nd).1 (List.of_mem_zip hv).1, if_neg hk]
  simp
 | p :: P, w :: vs, i + 1, m, nd, h1, h2, hk => by
  show bindC kindOf ((p, w) :: P.zip vs) m x = _
  unfold bindC
  exact bindC_get (i := i) (List.nodup_cons.mp nd).2 (by simpa using h1) (by simpa using h2) hk
def start (N : List Str) (vs : List V) : St := vs.map some ++ List.replicate (N.length - vs.length) none
def cxOf (CX : CXT) (P : Program) (w : World) (K : PySem.W.Frag) (mg : Str → Option Value) (base : Heap) (N : List Str) (qual : Str) (scope : Scope) (f : Addr) (cd : Value) (A : Around) (outer : List Env) (s : Shared) (H : Hp) (E : XK) : Cx where
 prog := P
 w := w
 K := K
 mg := mg
 base := base
 A := A.deeper (envOfC qual scope s.heap.objs.size f cd)
 N := N
 s₀ := s
 H₀ := H
 env := envOfC qual scope s.heap.objs.size f cd
 outer := outer
 stack := envOfC qual scope s.heap.objs.size f cd :: outer
 ex := []
 calm := true
 fn := fun _ => true
 pn := []
 xe := fun e s' => wpAny (model P w) (A.deeper (envOfC qual scope s.heap.objs.size f cd)) (leaving (envOfC qual scope s.heap.objs.size f cd) e) (fun _ s'' => CX outer H s E e s'') (fun e' s'' => CX outer H s E e' s'') s'
theorem cell_has {sc : Scope} {n : Nat} {x : Str} (h : sc.names.lookup x = some .cell) : ∃ c, (cellsFrom n sc.names []).lookup x = some c := by
 have q := PySem.W.cellsFrom_some sc.names n [] (.inl h)
 exact Option.isSome_iff_exists.mp q
theorem inv_start {CX : CXT} {P : Program} {w : World} {K : PySem.W.Frag} {mg : Str → Option Value} {base : Heap} {N ps : List Str} {qual : Str} {scope : Scope} {f : Addr} {cd : Value} {A : Around} {outer : List Env} {s s1 : Shared} {H : Hp} {E : XK} {us : List Value} {vs : List V}
  (S : FnScope N ps scope) (hd : A.handled = none) (e0 : Env0 P w K mg base A outer s H) (hl : vs.length = ps.length) (r : Vals vs us)
  (x : InCallC s s.heap.objs.size (bindL (envOfC qual scope s.heap.objs.size f cd).kindOf (ps.zip us) fun _ => none) (cellsFrom (s.heap.objs.size + 1) scope.names []) (bindC (envOfC qual scope s.heap.objs.size f cd).kindOf (ps.zip us) fun _ => none) s1) :
  Inv (cxOf CX P w K mg base N qual scope f cd A outer s H E) [] (start N vs) H s1 := by
 have hpl : ps.length ≤ N.length := by have := congrArg List.length S.pre; rw [List.length_take] at this; omega
 obtain ⟨h1, tk, rfl, hk⟩ := x.done
 have noA : ∀ b : Addr, b ∉ (cxOf CX P w K mg base N qual scope f cd A outer s H E).ex := fun b z => absurd (show b ∈ ([] : List Addr) from z) (by simp)
 refine ⟨⟨e0.mod, S.kind, rfl, rfl, Nat.le_refl _, fun y z c h1 h2 => ?_, fun y hy => ?_, fun y c _ h => ?_, fun _ => hd, Around.frames_deeper e0.frames, .inr ⟨rfl, rfl⟩, fun b z => absurd z (noA b), e0.bs, e0.bsz, fun b _ _ => noA b, fun b z => absurd z (noA b), e0.funs, e0.frf⟩,
  rfl, e0.bare, Un.kept hk, ⟨_, x.toInCall.ns, fun i y v h1 h2 h3 => ?_⟩, fun y c h => ⟨_, x.cell y c h⟩, e0.hok.fresh (Nat.le_refl _), fun y c h => ?_, fun p hp => absurd (show p ∈ ([] : List (Addr × Obj)) from hp) (by simp), e0.hok.kept hk, ?_⟩
 ·exact name_of_addr x.apart (PySem.mem_of_lookup h1) (PySem.mem_of_lookup h2)
 ·have hy : scope.names.lookup y = some .cell ∨ scope.names.lookup y = some .free := hy
  rcases hy with hy | hy
  ·exact cell_has hy
  ·exact absurd rfl (S.nofree _ (PySem.mem_of_lookup hy))
 ·exact Nat.le_of_lt (x.above y c (PySem.mem_of_lookup h))
 ·have hi : i < vs.length := by
   unfold start at h2
   by_cases hi : i < vs.length
   ·exact hi
   ·rw [List.getElem?_append_right (by simpa using hi)] at h2
    rw [List.getElem?_replicate] at h2
    split at h2 <;> cases h2
  have ha : vs[i]? = some v := by
   unfold start at h2
   rw [List.getElem?_append_left (by simpa using hi), List.getElem?_map] at h2
   cases e : vs[i]? with
   | none => rw [e] at h2; cases h2
   | some a => rw [e] at h2; cases h2; rfl
  obtain ⟨u, hu, rv⟩ := r.get ha
  have hp : ps[i]? = some y := by
   rw [← S.pre, List.getElem?_take_of_lt (by omega)]; exact h1
  have ndP : ps.Nodup := by rw [← S.pre]; exact S.nd.sublist (List.take_sublist _ _)
  refine ⟨u, rv, ?_⟩
  rcases S.par y (List.mem_of_getElem? hp) with k | k
  ·exact .inl ⟨k, bindL_get ndP hp hu k⟩
  ·obtain ⟨c, e⟩ := cell_has (n := s.heap.objs.size + 1) k
   refine .inr ⟨.inl k, c, e, ?_⟩
   have q := x.cell y c e
   rw [bindC_get ndP hp hu (by show scope.names.lookup y ≠ _; rw [k]; decide)] at q
   exact q
 ·exact e0.hok.fresh (Nat.le_of_lt (x.above y c (PySem.mem_of_lookup h)))
 ·unfold start
  show _ = N.length
  rw [List.length_append, List.length_map, List.length_replicate]
  omega
theorem fn_of {CX : CXT} {P : Program} {w : World} {K : PySem.W.Frag} {mg : Str → Option Value} {base : Heap} {k : Nat} {f : Addr} {name qual : Str} {params : Arguments} {body : List Stmt} {scope : Scope} {dV kV doc pm cdv ct oc : Value} {an od : Option Addr}
  {osl : Array (Option Value)} {N ps : List Str} {sp : Sp} (lk : K.lookup f = some ⟨oc, od, .func (PySem.W.fnOf name qual params body scope dV kV doc pm an cdv ct), osl⟩) (hcd : PySem.W.codeIn K cdv qual = true) (S : FnScope N ps scope)
  (len : ∀ vs H Q E, sp vs H Q E → vs.length = ps.length)
  (hbody : ∀ (A : Around) (outer : List Env) (s : Shared) (H : Hp) (vs : List V) (Q : VK) (E : XK), Room k (A.deeper (envOfC qual scope s.heap.objs.size f cdv)) → sp vs H Q E →
   ∃ t, PSs (cxOf CX P w K mg base N qual scope f cdv A outer s H E) body t ∧ t { nx := fun _ H' => Q .non H', rt := Q } (start N vs) H) :
  FnOk P w K mg base CX (k + 1) f (PySem.W.fnOf name qual params body scope dV kV doc pm an cdv ct) ps sp := by
 refine ⟨len, fun A outer s H args us vs Q E hr e0 hb r hsp => ?_⟩
 have hl := len _ _ _ _ hsp
 have KX : K.In s.heap := e0.mod.kin.keeps fun b o e => (e0.bs b o e).1
 have lim : s.heap.NoLimit := e0.mod.nolimit.keeps fun b o e => (e0.bs b o e).1
 have hkind : ∀ y ∈ ps.zip us, scope.names.lookup y.1 = some .local ∨ (scope.names.lookup y.1 = some .cell ∧ ((cellsFrom (s.heap.objs.size + 1) scope.names []).lookup y.1).isSome = true) := fun ⟨n, v⟩ hy => by
  rcases S.par n (List.of_mem_zip hy).1 with q | q
  ·exact .inl q
  ·exact .inr ⟨q, PySem.W.cellsFrom_some _ _ _ (.inl q)⟩
 refine codeAny_call_function hr.depth (KX _ _ lk) rfl S.co S.gen rfl (PySem.W.codeRec_of KX hcd) (hb _ _ _ _ ?_)
 refine wpAny_newFunctionEnv_cells S.kind hkind fun env he s1 x => ?_
 subst he
 refine ⟨lim.keeps x.toInCall.keep, codeAny_func ?_⟩
 obtain ⟨t, ht, hq⟩ := hbody A outer s H vs Q E (hr.deeper _) hsp
 have I : Inv (cxOf CX P w K mg base N qual scope f cdv A outer s H E) [] (start N vs) H s1 := inv_start S hr.hd e0 hl r x
 refine wpAny_mono (ht [] s1 (start N vs) H _ I hq) (fun fl s' hs => ?_) fun e s' hs => hs
 have fin : ∀ {σ' : St} {H' : Hp} {v : V} {u : Value}, Inv (cxOf CX P w K mg base N qual scope f cdv A outer s H E) [] σ' H' s' → RelV v u → Q v H' → CE outer P w H s Q u s' :=
  fun {σ' H' v u} J rv q => ⟨v, H', J.os, J.bare, J.base, J.hok, rv, q⟩
 cases fl with
 | ret u =>
  obtain ⟨v, σ', H', J, rv, q⟩ := hs
  exact fin J rv q
 | next =>
  obtain ⟨σ', H', J, q⟩ := hs
  exact fin (v := V.non) (u := Value.none) J rfl q
 | brk =>
  obtain ⟨_, _, _, q⟩ := hs
  exact False.elim q
 | cont =>
  obtain ⟨_, _, _, q⟩ := hs
  exact False.elim q
section
variable {X : Cx} {x : Str} {p pos : Pos} {e : Expr} {es : List Expr} {t : TA} {id T : String} {r : List V → Hp → VK → Prop}
def tCB (r : List V → Hp → VK → Prop) (t : TA) : TE := fun σ H Q => t σ H fun vs H1 => r vs H1 Q
theorem pe_callB (hc : CallR X (.builtin id) r) (hg : Gl X x) (hm : X.mg x = none) (hv : bootBuiltins x = some (.builtin id)) (ha : PA X (e :: es) t) (hn : x ≠ "__name__" := by decide) (hdb : (x == ("__debug__" : Str)) = false := by decide)
  (he : starEach (e :: es) X.env = (false, eval e X.env) :: starEach es X.env := by rfl) (hpl : (backTo pos (starEach es X.env)).any (·.1) = false := by rfl) : PE X (.Call (.Name x p) (e :: es) [] pos) (tCB r t) := by
 intro pins s σ H Q I h
 refine wpAny_Call_Name_kw (ld_blt I hg hm hv ?_ hn hdb)
 exact PyProof.Rows.callWith_builtin1 (thn (ha pos pins s σ H _ I h) fun us s1 ⟨vs, H1, I1, r1, q1⟩ => hc pins s1 σ H1 vs us Q I1 r1 q1) he hpl
theorem pe_callTy (hc : CallR X (.type T) r) (hg : Gl X x) (hm : X.mg x = none) (hv : bootBuiltins x = some (.type T)) (ha : PA X (e :: es) t) (hn : x ≠ "__name__" := by decide) (hdb : (x == ("__debug__" : Str)) = false := by decide)
  (he : starEach (e :: es) X.env = (false, eval e X.env) :: starEach es X.env := by rfl) (hpl : (backTo pos (starEach es X.env)).any (·.1) = false := by rfl) : PE X (.Call (.Name x p) (e :: es) [] pos) (tCB r t) := by
 intro pins s σ H Q I h
 refine wpAny_Call_Name_kw (ld_blt I hg hm hv ?_ hn hdb)
 exact PyProof.Rows.callWith_type1 (thn (ha pos pins s σ H _ I h) fun us s1 ⟨vs, H1, I1, r1, q1⟩ => hc pins s1 σ H1 vs us Q I1 r1 q1) he hpl
end
end L2
namespace HT
open PySem PyProof.Rows
def lexLt : List Int → List Int → Bool
 | [], [] => false
 | [], _ :: _ => true
 | _ :: _, [] => false
 | x :: xs, y :: ys => if x = y then lexLt xs ys else decide (x < y)
theorem lexLt_cons (x y : Int) (xs ys : List Int) : lexLt (x :: xs) (y :: ys) = if x = y then lexLt xs ys else decide (x < y) := rfl
theorem lexLt_nil_nil : lexLt [] [] = false := rfl
theorem lexLt_nil_cons (y : Int) (ys : List Int) : lexLt [] (y :: ys) = true := rfl
theorem lexLt_cons_nil (x : Int) (xs : List Int) : lexLt (x :: xs) [] = false := rfl
theorem eqAt_int (A : Around) (s : Shared) (a : Int) (t : Tok) (c : Int) (u : Tok) : ∃ e, SeqAt.EqAt A s (.int a t) (.int c u) e ∧ (e = true ↔ a = c) :=
 ⟨(a == c), SeqAt.EqAt.int_int a t c u, by simp⟩
theorem rcLt_int (A : Around) (s : Shared) (a : Int) (t : Tok) (c : Int) (u : Tok) (prog : Program) (w : World) (E : Value → Shared → Prop) (Q : Value → Shared → Prop) (h : Q (.bool (decide (a < c))) s) :
  wpAny (model prog w) A (richCompare .Lt (.int a t) (.int c u)) Q E s :=
 (PyProof.Rows.lt_int h : wpAny (model prog w) A (compareOp .Lt (.int a t) (.int c u)) Q E s)
section
open PySem.SeqAt
open PySem.AutoSeq1 (wpAny_loadPart')
open PySem.MeetsSeq PySem.MeetsSeq2 PySem.MeetsSeq3
theorem tuple_lt_ints (l b : Addr) (items items2 : Array Value) (n n2 : Nat) (dd dd2 : Option Addr) (sl sl2 : Array (Option Value)) (ns ms : List Int) (hi : IntsAre items.toList ns) (hj : IntsAre items2.toList ms) :
  Meets (Builtin.«tuple.__lt__» ⟨[.ref l, .ref b], []⟩)
   (fun _ R s => s.heap.get? l = some { cls := .type "tuple", dict := dd, data := .seq items n, slots := sl } ∧ s.heap.get? b = some { cls := .type "tuple", dict := dd2, data := .seq items2 n2, slots := sl2 } ∧
    R (.ok (.ret (.bool (lexLt ns ms)))) s) :=
 .of_wp fun prog w A R s h => by
  obtain ⟨hp, g, d, tk, os⟩ := s; obtain ⟨hl, hb, h⟩ := h
  have f2 := AutoSeq1.sub_tuple_tuple
  have z1 : items.size = ns.length := by rw [← hi.length]; simp
  have z2 : items2.size = ms.length := by rw [← hj.length]; simp
  wp_walk using wpAny_loadPart' hl, wpAny_loadPart' hb, wpAny_forIn_list _ (fun rest b s' => b.1 = none ∧ s' = ⟨hp, g, d, tk, os⟩ ∧ ∃ (vs ws : List Value) (ns' ms' : List Int), rest = vs.zip ws ∧
   IntsAre vs ns' ∧ IntsAre ws ms' ∧ ns'.length + items2.size = ms'.length + items.size ∧ R (.ok (.ret (.bool (lexLt ns' ms')))) ⟨hp, g, d, tk, os⟩) _
  case turn =>
   rintro ⟨y, x⟩ rest b s' ⟨hb', rfl, vs, ws, ns', ms', hz, hvi, hwi, hlen, hR⟩
   cases hvi with
   | nil => rw [List.zip_nil_left] at hz; cases hz
   | cons a t hvi' =>
    cases hwi with
    | nil => rw [List.zip_nil_right] at hz; cases hz
    | cons c u hwi' =>
     rw [List.zip_cons_cons] at hz
     injection hz with hyx hrest
     injection hyx with hy hx
     subst hy hx
     rw [lexLt_cons] at hR
     simp only [List.length_cons] at hlen
     obtain ⟨e, he, hiff⟩ := eqAt_int A.in1 ⟨hp, g, d, tk, os⟩ a t c u
     refine wpAny_bind (he prog w _ _ ?_)
     cases e with
     | true =>
      rw [if_pos (hiff.mp rfl)] at hR
      wp_walk
      exact ⟨rfl, rfl, _, _, _, _, hrest, hvi', hwi', by omega, hR⟩
     | false =>
      rw [if_neg (fun q => absurd (hiff.mpr q) Bool.false_ne_true)] at hR
      have hri := rcLt_int A.in1 ⟨hp, g, d, tk, os⟩ a t c u prog w
      wp_walk using hri
      exact ⟨_, rfl, by simpa using hR⟩
  case fin =>
   rintro ⟨b1, b2⟩ s' ⟨hb', rfl, vs, ws, ns', ms', hz, hvi, hwi, hlen, hR⟩
   simp only at hb'
   subst hb'
   have hv : lexLt ns' ms' = decide (items.size < items2.size) := by
    cases hvi with
    | nil =>
     cases hwi with
     | nil =>
      simp only [List.length_nil] at hlen
      rw [lexLt_nil_nil]
      exact (decide_eq_false (by omega)).symm
     | cons c u hw =>
      simp only [List.length_nil, List.length_cons] at hlen
      rw [lexLt_nil_cons]
      exact (decide_eq_true (by omega)).symm
    | cons a t hv =>
     cases hwi with
     | nil =>
      simp only [List.length_nil, List.length_cons] at hlen
      rw [lexLt_cons_nil]
      exact (decide_eq_false (by omega)).symm
     | cons c u hw =>
      rw [List.zip_cons_cons] at hz
      cases hz
   rw [hv] at hR
   wp_walk
   exact ⟨_, rfl, by simpa [Builtin.Tuple.tupleCompareSizes] using hR⟩
  case h =>
   exact ⟨rfl, rfl, items.toList, items2.toList, ns, ms, rfl, hi, hj, by omega, h⟩
end
section
variable {prog : Program} {w : World} {A : Around} {E : Value → Shared → Prop} {s : Shared}
theorem lt_tupInts {l b : Addr} {items items2 : Array Value} {ns ms : List Int} {Q : Value → Shared → Prop} (hl : IsTup s.heap l items) (hb : IsTup s.heap b items2) (hi : IntsAre items.toList ns) (hj : IntsAre items2.toList ms)
  (hu : A.units < cLine) (h : Q (.bool (lexLt ns ms)) s) : wpAny (model prog w) A (compareOp .Lt (.ref l) (.ref b)) Q E s := by
 obtain ⟨⟨cls, dd, data, sl⟩, ho, hc, n, hd⟩ := id hl
 obtain ⟨⟨cls2, dd2, data2, sl2⟩, ho2, hc2, n2, hd2⟩ := id hb
 simp only at hc hd hc2 hd2
 subst hc hd hc2 hd2
 exact richCompare_meets_room (op := .Lt) ⟨_, ho, rfl⟩ ⟨_, ho2, rfl⟩ PySem.F.slot_tuple_lt PySem.F.entry_tuple_lt (PySem.F.args_tuple_lt_2 _ _) (tuple_lt_ints l b items items2 n n2 dd dd2 sl sl2 ns ms hi hj)
  ⟨ho, ho2, show Value.bool (lexLt ns ms) ≠ Value.notImplemented ∧ Q (.bool (lexLt ns ms)) s from ⟨(fun x => nomatch x), h⟩⟩ hu
theorem cat_tup {t b : Addr} {vs ws : List Value} {Q : Value → Shared → Prop} (ht : IsTup s.heap t vs.toArray) (hb : IsTup s.heap b ws.toArray) (hv : vs ≠ [])
  (h1 : ws = [] → Q (.ref t) s) (h2 : ws ≠ [] → Q (.ref s.heap.objs.size) { s with heap := s.heap.push { cls := .type "tuple", data := .seq (vs ++ ws).toArray } })
  (hsz : vs.length + ws.length ≤ sizeLine) : wpAny (model prog w) A (binaryOp .Add (.ref t) (.ref b)) Q E s := by
 obtain ⟨⟨cls, dd, data, sl⟩, ho, hc, n, hd⟩ := id ht
 obtain ⟨⟨cls2, dd2, data2, sl2⟩, ho2, hc2, n2, hd2⟩ := id hb
 simp only at hc hd hc2 hd2
 subst hc hd hc2 hd2
 have e : vs.toArray ++ ws.toArray = (vs ++ ws).toArray := by simp
 by_cases hw : ws = []
 ·exact concat_meets ⟨_, ho, rfl⟩ ⟨_, ho2, rfl⟩ noFill_tuple_add seq_tuple_add PySem.F.slot_tuple_add PySem.F.entry_tuple_add (PySem.F.args_tuple_add_2 _ _)
   (tuple_addW1 t b vs.toArray ws.toArray n n2 dd dd2 sl sl2 (by simpa using hv) (by simp [hw])) ⟨ho, ho2, h1 hw⟩
 ·refine concat_meets ⟨_, ho, rfl⟩ ⟨_, ho2, rfl⟩ noFill_tuple_add seq_tuple_add PySem.F.slot_tuple_add PySem.F.entry_tuple_add (PySem.F.args_tuple_add_2 _ _)
   (tuple_addW2 t b vs.toArray ws.toArray n n2 dd dd2 sl sl2 (by simpa using hv) (by simpa using hw) (by rw [List.size_toArray, List.size_toArray]; exact hsz)) ⟨ho, ho2, ?_⟩
  rw [e]
  exact h2 hw
def sIx (n d : Nat) : Option Int → Nat
 | none => d
 | some v => if v < 0 then (v + (n : Int)).toNat else min v.toNat n
end
end HT
namespace L2
open PySem PySem.Spec PyProof.Rows
abbrev TO := St → Hp → (Option Int → Hp → Prop) → Prop
def PO (X : Cx) (e : Option Expr) (t : TO) : Prop :=
 ∀ (pins : List (Addr × Obj)) (s : Shared) (σ : St) (H : Hp) (Q : Option Int → Hp → Prop), Inv X pins σ H s → t σ H Q →
  wpAny (model X.prog X.w) X.A (evalPart e X.env) (fun u s' => ∃ o H', Inv X pins σ H' s' ∧ IsPart u o ∧ Q o H') X.xe s
def tNoPart : TO := fun _ H Q => Q none H
def tPart (t : TE) : TO := fun σ H Q => t σ H fun x H1 => ∃ i, x = .int i ∧ Q (some i) H1
theorem intsAre_of {ns : List Int} : ∀ {us : List Value}, Vals (ns.map V.int) us → IntsAre us ns := by
 induction ns with
 | nil => intro us r; rw [List.map_nil] at r; cases r; exact .nil
 | cons n ns ih =>
  intro us r
  rw [List.map_cons] at r
  cases r with
  | cons r1 r2 =>
   obtain ⟨t, e⟩ := r1
   subst e
   exact .cons n t (ih r2)
section
variable {X : Cx} {e : Expr} {te : TE} {lo hi : Option Expr} {tl th : TO} {pos p2 : Pos}
theorem po_none : PO X none tNoPart := by
 intro pins s σ H Q I h
 rw [evalPart_none]
 exact wpAny_pure ⟨none, H, I, .none, h⟩
theorem po_some (h : PE X e te) : PO X (some e) (tPart te) := by
 intro pins s σ H Q I hw
 rw [evalPart_some]
 refine thn (h pins s σ H _ I hw) fun u s1 ⟨x, H1, I1, r1, q1⟩ => ?_
 obtain ⟨i, rfl, q⟩ := q1
 obtain ⟨t, rfl⟩ := r1
 exact ⟨some i, H1, I1, .int i t, q⟩
def SlR (X : Cx) (r : V → Option Int → Option Int → Hp → VK → Prop) : Prop :=
 ∀ (pins : List (Addr × Obj)) (s : Shared) (σ : St) (H : Hp) (x : V) (v vl vu : Value) (lo hi : Option Int) (sl : Addr) (Q : VK), Inv X pins σ H s → RelV x v → s.heap.IsSliceOf sl vl vu .none → IsPart vl lo → IsPart vu hi → r x lo hi H Q →
  ∃ T id, typeLookup (.type T) "__getitem__" = pure (some (.builtin id)) ∧ s.TypeIs v T ∧ wpAny (model X.prog X.w) X.A (getItem v (.ref sl)) (EP X pins σ Q) X.xe s
def tSl (r : V → Option Int → Option Int → Hp → VK → Prop) (te : TE) (tl th : TO) : TE := fun σ H Q => te σ H fun x H1 => tl σ H1 fun l H2 => th σ H2 fun u H3 => r x l u H3 Q
theorem pe_slice {r : V → Option Int → Option Int → Hp → VK → Prop} (hr : SlR X r) (he : PE X e te) (hl : PO X lo tl) (hu : PO X hi th) : PE X (.Subscript e (.Slice lo hi none p2) pos) (tSl r te tl th) := by
 intro pins s σ H Q I h
 refine Subscript_ (thn (he pins s σ H _ I h) fun v s1 ⟨x, H1, I1, r1, q1⟩ => ?_)
 refine wpAny_Slice (thn (hl pins s1 σ H1 _ I1 q1) fun vl s2 ⟨l, H2, I2, pl, q2⟩ => thn (hu pins s2 σ H2 _ I2 q2) fun vu s3 ⟨u, H3, I3, pu, q3⟩ => ?_)
 rw [evalPart_none]
 refine wpAny_pure ?_
 have I4 : Inv X pins σ H3 { s3 with heap := s3.heap.push { cls := .type "slice", data := .fields #[vl, vu, .none] } } := I3.kept (t' := s3.toks) fun b ob q => Heap.get?_push_of_some _ q
 obtain ⟨T, id, hT, ht, hg⟩ := hr pins { s3 with heap := s3.heap.push { cls := .type "slice", data := .fields #[vl, vu, .none] } } σ H3 x v vl vu l u s3.heap.objs.size Q I4 r1 (Heap.IsSliceOf.new ..) pl pu q3
 show wpAny (model X.prog X.w) X.A (subscriptTail e (.Slice lo hi none p2) v (.ref s3.heap.objs.size)) (EP X pins σ Q) X.xe { s3 with heap := s3.heap.push { cls := .type "slice", data := .fields #[vl, vu, .none] } }
 exact tail_any (ops := [.ref s3.heap.objs.size, v]) ht hT hg (by with_unfolding_all rfl)
def cutV (xs : List V) (lo hi : Option Int) : List V := (xs.drop (HT.sIx xs.length 0 lo)).take (HT.sIx xs.length xs.length hi - HT.sIx xs.length 0 lo)
theorem cutV_length (xs : List V) (lo hi : Option Int) : (cutV xs lo hi).length ≤ xs.length := by
 unfold cutV
 rw [List.length_take, List.length_drop]
 omega
def rCatT (K : PySem.W.Frag) : R2 := fun x y H Q => ∃ a b xs ys, x = .ref a ∧ y = .ref b ∧ SqT K H a xs ∧ SqT K H b ys ∧ xs ≠ [] ∧ xs.length + ys.length ≤ sizeLine ∧
 (ys = [] → Q (.ref a) H) ∧ (ys ≠ [] → ∀ p, H p = none → Q (.ref p) (upd H p (.tup (xs ++ ys))))
theorem Vals.nil_iff {xs : List V} {us : List Value} (r : Vals xs us) : us = [] ↔ xs = [] := by
 cases r with
 | nil => simp
 | cons _ _ => simp
theorem op_catT : OpR X (binaryOp .Add) (rCatT X.K) := by
 intro pins s σ H x y v u Q I rx ry h
 obtain ⟨a, b, xs, ys, rfl, rfl, ha, hb, hx, hz, q1, q2⟩ := h
 cases rx
 cases ry
 obtain ⟨its, r1, p1, _⟩ := I.tuple ha
 obtain ⟨its2, r2, p2, _⟩ := I.tuple hb
 refine HT.cat_tup p1 p2 (fun z => hx (r1.nil_iff.mp z)) (fun z => ⟨.ref a, H, I, rfl, q1 (r2.nil_iff.mp z)⟩) (fun z => ?_) (by rw [← r1.length, ← r2.length]; exact hz)
 refine ⟨.ref s.heap.objs.size, _, I.laid (t' := s.toks) (o := .tup (xs ++ ys)) (fun b ob q => Heap.get?_push_of_some _ q) (Nat.le_refl _) ?_, rfl, q2 (fun w => z (r2.nil_iff.mpr w)) _ (I.hok.fresh (Nat.le_refl _))⟩
 exact ⟨by rw [List.length_append]; exact hz, _, r1.append r2, IsTup.new _ _⟩
end
def ixN (n : Nat) (i : Int) : Option Nat := if 0 ≤ i then (if i < n then some i.toNat else none) else if -(n : Int) ≤ i then some (i + n).toNat else none
def atI {α : Type} (xs : List α) (i : Int) : Option α := (ixN xs.length i).bind fun j => xs[j]?
theorem ixN_seq {n : Nat} {i : Int} {j : Nat} (h : ixN n i = some j) : seqIndex? i n = some j ∧ j < n ∧ -(n : Int) ≤ i ∧ i < n := by
 unfold ixN at h
 by_cases h0 : 0 ≤ i
 ·rw [if_pos h0] at h
  by_cases h1 : i < n
  ·rw [if_pos h1] at h
   have e : i.toNat = j := Option.some.inj h
   exact ⟨by rw [seqIndex_of h0 h1, e], by omega, by omega, h1⟩
  ·rw [if_neg h1] at h; cases h
 ·rw [if_neg h0] at h
  by_cases h1 : -(n : Int) ≤ i
  ·rw [if_pos h1] at h
   have e : (i + n).toNat = j := Option.some.inj h
   exact ⟨by rw [seqIndex_neg (by omega) h1, e], by omega, h1, by omega⟩
  ·rw [if_neg h1] at h; cases h
theorem atI_get {α : Type} {xs : List α} {i : Int} {v : α} (h : atI xs i = some v) : ∃ j, seqIndex? i xs.length = some j ∧ xs[j]? = some v ∧ j < xs.length ∧ -(xs.length : Int) ≤ i ∧ i < xs.length := by
 unfold atI at h
 cases e : ixN xs.length i with
 | none => rw [e] at h; cases h
 | some j =>
  rw [e] at h
  obtain ⟨h1, h2, h3, h4⟩ := ixN_seq e
  exact ⟨j, h1, h, h2, h3, h4⟩
theorem atI_nat {α : Type} {xs : List α} {j : Nat} {v : α} (h : xs[j]? = some v) : atI xs (j : Int) = some v := by
 have hj : j < xs.length := (List.getElem?_eq_some_iff.mp h).1
 have e : ixN xs.length (j : Int) = some j := by
  unfold ixN
  rw [if_pos (by omega), if_pos (by omega)]; simp
 unfold atI; rw [e]; exact h
def PlainIx (b : Expr) : Prop := ∀ o i, subscripted b false o i = operate [o, i] (getItem o i)
def IxR (X : Cx) (r : R2) : Prop :=
 ∀ (value slice : Expr) (pins : List (Addr × Obj)) (s : Shared) (σ : St) (H : Hp) (x y : V) (v u : Value) (Q : VK), Inv X pins σ H s → RelV x v → RelV y u → r x y H Q →
  subscripted slice false v u = operate [v, u] (getItem v u) → wpAny (model X.prog X.w) X.A (subscriptTail value slice v u) (EP X pins σ Q) X.xe s
def MtR (X : Cx) (id : String) (r : V → List V → Hp → VK → Prop) : Prop :=
 ∀ (pins : List (Addr × Obj)) (s : Shared) (σ : St) (H : Hp) (x : V) (xs : List V) (v : Value) (us : List Value) (Q : VK), Inv X pins σ H s → RelV x v → Vals xs us → r x xs H Q →
  wpAny (model X.prog X.w) X.A (call (.builtin id) (v :: us)) (EP X pins σ Q) X.xe s
section
variable {X : Cx} {a b : Expr} {ta tb : TE} {pos : Pos}
theorem IxR.or {r r' : R2} (h : IxR X r) (h' : IxR X r') : IxR X (fun x y H Q => r x y H Q ∨ r' x y H Q) := by
 intro value slice pins s σ H x y v u Q I rx ry q hs
 rcases q with q | q
 ·exact h value slice pins s σ H x y v u Q I rx ry q hs
 ·exact h' value slice pins s σ H x y v u Q I rx ry q hs
theorem pe_ix {r : R2} (hr : IxR X r) (ha : PE X a ta) (hb : PE X b tb) (hs : PlainIx b) : PE X (.Subscript a b pos) (tOp r ta tb) := by
 intro pins s σ H Q I h
 exact Subscript_ (binT ha hb I h fun v u s2 x y H2 I2 rx ry q => hr a b pins s2 σ H2 x y v u Q I2 rx ry q (hs _ _))
def rIxL (K : PySem.W.Frag) : R2 := fun x y H Q => ∃ p xs i v, x = .ref p ∧ y = .int i ∧ SqL K H p xs ∧ atI xs i = some v ∧ Q v H
def rIxT (K : PySem.W.Frag) : R2 := fun x y H Q => ∃ p xs i v, x = .ref p ∧ y = .int i ∧ SqT K H p xs ∧ atI xs i = some v ∧ Q v H
def rIxS : R2 := fun x y H Q => ∃ z i c, x = .str z ∧ y = .int i ∧ z.length ≤ sizeLine ∧ atI z.cps.toList i = some c ∧ Q (.str ⟨#[c]⟩) H
theorem ix_list : IxR X (rIxL X.K) := by
 intro value slice pins s σ H x y v u Q I rx ry h hs
 obtain ⟨p, xs, i, z, rfl, rfl, hq, he, q⟩ := h
 cases rx
 obtain ⟨t, rfl⟩ := ry
 obtain ⟨its, r, pl, hz⟩ := I.list hq
 obtain ⟨j, h1, h2, h3, h4, h5⟩ := atI_get he
 obtain ⟨w, ew, rw'⟩ := r.get h2
 have hl := r.length
 have hn := line63
 have fin : EP X pins σ Q w s := ⟨z, H, I, rw', q⟩
 by_cases h0 : 0 ≤ i
 ·have hj : i.toNat = j := by
   rw [seqIndex_of h0 h5] at h1
   exact Option.some.inj h1
  exact item_listR pl.isList h0 (by omega) (by rw [hj]; simpa using ew) fin hs
 ·have hj : (i + (its.toArray.size : Int)).toNat = j := by
   rw [seqIndex_neg (by omega) h4] at h1
   rw [List.size_toArray, ← hl]
   exact Option.some.inj h1
  exact subscriptTail_builtinR (x := w) pl.isList.typeIs slot_list_getitem.lookup
   (wpAny_getItem_list_neg (Q := fun r s' => r = w ∧ EP X pins σ Q r s') pl.isList (by omega) (by rw [List.size_toArray] <;> omega) (by omega) (by rw [hj]; simpa using ew) ⟨rfl, fin⟩) hs
theorem ix_tup : IxR X (rIxT X.K) := by
 intro value slice pins s σ H x y v u Q I rx ry h hs
 obtain ⟨p, xs, i, z, rfl, rfl, hq, he, q⟩ := h
 cases rx
 obtain ⟨t, rfl⟩ := ry
 obtain ⟨its, r, pl, hz⟩ := I.tuple hq
 obtain ⟨j, h1, h2, h3, h4, h5⟩ := atI_get he
 obtain ⟨w, ew, rw'⟩ := r.get h2
 have hl := r.length
 have hn := line63
 have fin : EP X pins σ Q w s := ⟨z, H, I, rw', q⟩
 exact subscriptTail_builtinR (x := w) pl.typeIs slot_tuple_getitem.lookup
  (getItem_tuple (j := j) (Q := fun r s' => r = w ∧ EP X pins σ Q r s') pl (by omega) (by omega) (by rw [List.size_toArray, ← hl]; exact h1) (by simpa using ew) ⟨rfl, fin⟩) hs
theorem ix_str : IxR X rIxS := by
 intro value slice pins s σ H x y v u Q I rx ry h hs
 obtain ⟨z, i, c, rfl, rfl, hz, he, q⟩ := h
 obtain ⟨t, rfl⟩ := rx
 obtain ⟨t', rfl⟩ := ry
 obtain ⟨j, h1, h2, h3, h4, h5⟩ := atI_get he
 have hl : z.cps.toList.length = z.length := by simp [Str.length]
 rw [hl] at h1 h4 h5
 have hn := line63
 exact tail_any (typeIs_str s z t) slot_str_getitem.lookup (getItem_str (c := c) (by
  have e1 : decide (i < -(2 ^ 63 : Int)) = false := decide_eq_false (by omega)
  have e2 : decide (i ≥ 2 ^ 63) = false := decide_eq_false (by omega)
  rw [e1, e2, Bool.or_false]) (by rw [h1]; simpa using h2) ⟨.str ⟨#[c]⟩, H, I.tok _, ⟨_, rfl⟩, q⟩) hs
def rIx (K : PySem.W.Frag) : R2 := fun x y H Q => rIxL K x y H Q ∨ rIxT K x y H Q ∨ rIxS x y H Q
theorem ix_seq : IxR X (rIx X.K) := ix_list.or (ix_tup.or ix_str)
theorem mapSeq_set (its : List Value) (n j : Nat) (u : Value) : Obj.mapSeq (·.setIfInBounds j u) { cls := .type "list", data := .seq its.toArray n } = { cls := .type "list", data := .seq (its.set j u).toArray n } := by
 simp [Obj.mapSeq]
theorem Inv.lst {pins : List (Addr × Obj)} {σ : St} {H : Hp} {s : Shared} {p : Addr} {xs : List V} (I : Inv X pins σ H s) (h : H p = some (.lst xs)) :
  ∃ (its : List Value) (n : Nat), Vals xs its ∧ s.heap.get? p = some { cls := .type "list", data := .seq its.toArray n } ∧ xs.length ≤ sizeLine := by
 obtain ⟨z, its, n, r, e⟩ := I.hok p _ h
 exact ⟨its, n, r, e, z⟩
theorem Inv.lstUpd {pins : List (Addr × Obj)} {σ : St} {H : Hp} {s : Shared} {p : Addr} {xs ys : List V} {its its' : List Value} {n n' : Nat} {f : Obj → Obj} (I : Inv X pins σ H s) (h : H p = some (.lst xs))
  (ho : s.heap.get? p = some { cls := .type "list", data := .seq its.toArray n }) (hf : f { cls := .type "list", data := .seq its.toArray n } = { cls := .type "list", data := .seq its'.toArray n' }) (r : Vals ys its') (hz : ys.length ≤ sizeLine) (t : Nat) :
  Inv X pins σ (upd H p (.lst ys)) { s with heap := s.heap.update p f, toks := t } := by
 have e : (s.heap.update p f).get? p = some { cls := .type "list", data := .seq its'.toArray n' } := by
  rw [Heap.get?_update_self f ho (by rw [hf] <;> rfl), hf]
 refine I.write (x := p) (e := p) (by rw [h]; trivial) (.inl rfl) (fun b u hb q => (Heap.get?_update_other _ _ (Ne.symm hb)).trans q) ⟨_, e⟩ ?_
 exact ⟨hz, its', n', r, e⟩
def rSetL : V → V → V → Hp → (Hp → Prop) → Prop := fun o i v H Q => ∃ p xs k j, o = .ref p ∧ i = .int k ∧ H p = some (.lst xs) ∧ ixN xs.length k = some j ∧ Q (upd H p (.lst (xs.set j v)))
theorem set_list : PSet X rSetL := by
 intro pins s σ H o i v ov iv u Q I ro ri rv h
 obtain ⟨p, xs, k, j, rfl, rfl, hp, hj, q⟩ := h
 cases ro
 obtain ⟨t, rfl⟩ := ri
 obtain ⟨its, n, r, ho, hz⟩ := I.lst hp
 obtain ⟨h1, h2, h3, h4⟩ := ixN_seq hj
 have hl := r.length
 have hn := line63
 have I' : Inv X pins σ (upd H p (.lst (xs.set j v))) { s with heap := s.heap.update p (Obj.mapSeq (·.setIfInBounds j u)) } :=
  I.lstUpd hp ho (mapSeq_set its n j u) (r.set rv j) (by rw [List.length_set]; exact hz) s.toks
 by_cases h0 : 0 ≤ k
 ·have hk : k.toNat = j := by
   rw [seqIndex_of h0 h4] at h1
   exact Option.some.inj h1
  exact PySem.W.ki_setAt ho h0 (by omega) (by rw [List.size_toArray, ← hl]; exact h4) (by rw [hk]; exact ⟨_, I', q⟩)
 ·have hk : (k + (its.toArray.size : Int)).toNat = j := by
   rw [seqIndex_neg (by omega) h3] at h1
   rw [List.size_toArray, ← hl]
   exact Option.some.inj h1
  exact PySem.W.ki_setBack ho (by omega) (by rw [List.size_toArray, ← hl]; exact h3) (by omega) (by rw [hk]; exact ⟨_, I', q⟩)
theorem slice_bounds (lo hi : Option Int) (n : Nat) : (sliceBounds lo hi none n).1 = ((HT.sIx n 0 lo : Nat) : Int) ∧ (sliceBounds lo hi none n).2.1 = ((HT.sIx n n hi : Nat) : Int) ∧ (sliceBounds lo hi none n).2.2 = 1 := by
 refine ⟨?_, ?_, rfl⟩
 ·cases lo with
  | none => simp [sliceBounds, HT.sIx]
  | some i =>
   simp only [sliceBounds, HT.sIx, Option.getD_none, show (1 : Int) > 0 by decide, if_true]
   by_cases h : i < 0
   ·simp only [h, if_true] <;> omega
   ·simp only [h, if_false] <;> omega
 ·cases hi with
  | none => simp [sliceBounds, HT.sIx]
  | some i =>
   simp only [sliceBounds, HT.sIx, Option.getD_none, show (1 : Int) > 0 by decide, if_true]
   by_cases h : i < 0
   ·simp only [h, if_true] <;> omega
   ·simp only [h, if_false] <;> omega
theorem slicePick_cut (its : List Value) (lo hi : Option Int) : slicePick its.toArray lo hi none = ((its.drop (HT.sIx its.length 0 lo)).take (HT.sIx its.length its.length hi - HT.sIx its.length 0 lo)).toArray := by
 obtain ⟨h1, h2, h3⟩ := slice_bounds lo hi its.toArray.size
 unfold slicePick
 rw [h1, h2, h3]
 simp only [sliceRange_one, pick_run, List.size_toArray] <;> rfl
def rSlL (K : PySem.W.Frag) : V → Option Int → Option Int → Hp → VK → Prop := fun x lo hi H Q => ∃ a xs, x = .ref a ∧ SqL K H a xs ∧ ∀ p, H p = none → Q (.ref p) (upd H p (.lst (cutV xs lo hi)))
theorem sl_list : SlR X (rSlL X.K) := by
 intro pins s σ H x v vl vu lo hi sl Q I rx hs pl pu h
 obtain ⟨a, xs, rfl, hx, q⟩ := h
 cases rx
 obtain ⟨its, r, ht, hz⟩ := I.list hx
 have hlen := r.length
 refine ⟨"list", _, slot_list_getitem.lookup, ht.isList.typeIs, ?_⟩
 refine wpAny_getItem_list_slice ht.isList hs pl pu .none (by simp) ?_ (by rw [List.size_toArray] <;> omega)
 rw [slicePick_cut, ← hlen]
 refine ⟨.ref s.heap.objs.size, _, I.laid (t' := s.toks) (o := .lst (cutV xs lo hi)) (fun b ob q => Heap.get?_push_of_some _ q) (Nat.le_refl _) ?_, rfl, q _ (I.hok.fresh (Nat.le_refl _))⟩
 exact ⟨Nat.le_trans (cutV_length xs lo hi) hz, _, 0, (r.drop (HT.sIx xs.length 0 lo)).take (HT.sIx xs.length xs.length hi - HT.sIx xs.length 0 lo), Heap.get?_push_size _ rfl⟩
theorem call_len_seq : CallR X (.builtin "len") (fun xs H Q => ∃ p ys, xs = [.ref p] ∧ (SqL X.K H p ys ∨ SqT X.K H p ys) ∧ Q (.int ys.length) H) := by
 intro pins s σ H xs us Q I r h
 obtain ⟨p, ys, rfl, hq, q⟩ := h
 obtain ⟨u, rfl, rx⟩ := vals1 r
 cases rx
 have hn := line63
 rcases hq with hq | hq
 ·obtain ⟨its, r', pl, hz⟩ := I.list hq
  have hlen := r'.length
  exact Calls.call_len_list pl.isList (by simp only [List.size_toArray] <;> omega) ⟨.int ys.length, H, I.tok _, ⟨s.toks + 1, by rw [List.size_toArray, hlen]⟩, q⟩
 ·obtain ⟨its, r', pl, hz⟩ := I.tuple hq
  have hlen := r'.length
  exact len_tuple pl (by simp only [List.size_toArray] <;> omega) ⟨.int ys.length, H, I.tok _, ⟨s.toks + 1, by rw [List.size_toArray, hlen]⟩, q⟩
def tyV (K : PySem.W.Frag) (T : String) (x : V) (H : Hp) : Prop := match x with
 | .str _ => T = "str"
 | .int _ => T = "int"
 | .ref p => (T = "list" ∧ ∃ xs, SqL K H p xs) ∨ (T = "tuple" ∧ ∃ o, K.lookup p = some o ∧ o.cls = .type "tuple" ∧ o.dict = none) ∨
   (T = "dict" ∧ ((∃ kvs, H p = some (.dK kvs)) ∨ ∃ kvs, H p = some (.dT kvs))) ∨ (T = "set" ∧ ∃ S n, H p = some (.set S n))
 | _ => False
theorem tyV_is {pins : List (Addr × Obj)} {σ : St} {H : Hp} {s : Shared} {T : String} {x : V} {v : Value} (I : Inv X pins σ H s) (r : RelV x v) (ty : tyV X.K T x H) :
  s.TypeIs v T ∧ ∀ a, v = .ref a → ∃ ob, s.heap.get? a = some ob ∧ ob.dict = none := by
 cases x with
 | str z =>
  obtain ⟨t, rfl⟩ := r
  cases (show T = "str" from ty)
  exact ⟨typeIs_str s z t, fun _ e => nomatch e⟩
 | int i =>
  obtain ⟨t, rfl⟩ := r
  cases (show T = "int" from ty)
  exact ⟨typeIs_int s i t, fun _ e => nomatch e⟩
 | ref p =>
  cases r
  rcases ty with ⟨rfl, xs, hq⟩ | ⟨rfl, o, hk, hc, hd⟩ | ⟨rfl, hk⟩ | ⟨rfl, S, n, hk⟩
  ·obtain ⟨its, _, pl, _⟩ := I.list hq
   refine ⟨pl.isList.typeIs, fun a e => ?_⟩
   cases e
   obtain ⟨o, n, e, c, hd, _⟩ := pl
   exact ⟨o, e, hd⟩
  ·refine ⟨⟨o, I.kIn p o hk, hc⟩, fun a e => ?_⟩
   cases e
   exact ⟨o, I.kIn _ o hk, hd⟩
  ·have z : ∃ o, s.heap.get? p = some o ∧ o.ExactDict := by
    rcases hk with ⟨kvs, hk⟩ | ⟨kvs, hk⟩
    ·obtain ⟨_, _, _, _, o, _, _, e, ex, _⟩ := I.hok p _ hk
     exact ⟨o, e, ex⟩
    ·obtain ⟨_, _, _, _, o, _, _, e, ex, _⟩ := I.hok p _ hk
     exact ⟨o, e, ex⟩
   obtain ⟨o, e, ex⟩ := z
   refine ⟨⟨o, e, ex.1⟩, fun a e2 => ?_⟩
   cases e2
   exact ⟨o, e, ex.2.1⟩
  ·obtain ⟨o, _, _, _, e, ex, _⟩ := I.hok p _ hk
   refine ⟨⟨o, e, ex.1⟩, fun a e2 => ?_⟩
   cases e2
   exact ⟨o, e, ex.2.1⟩
 | _ => exact False.elim ty
def tBM0 (K : PySem.W.Frag) (T : String) (r : V → List V → Hp → VK → Prop) (to : TE) : TE := fun σ H Q => to σ H fun x H1 => tyV K T x H1 ∧ r x [] H1 Q
def tBM (K : PySem.W.Frag) (T : String) (r : V → List V → Hp → VK → Prop) (to : TE) (t : TA) : TE := fun σ H Q => to σ H fun x H1 => tyV K T x H1 ∧ t σ H1 fun xs H2 => r x xs H2 Q
variable {o e : Expr} {es : List Expr} {to : TE} {t : TA} {name : Str} {apos cpos : Pos} {T id : String} {r : V → List V → Hp → VK → Prop}
theorem pe_bm0 (pa : PlainAttrs T) (slot : Slot T name id) (hty : typeOf (.builtin id) = pure (.type "method_descriptor")) (hm : MtR X id r) (ho : PE X o to)
  (hbase : attributeBase o name X.env (eval o X.env) = eval o X.env := by rfl) (hline : (apos.endLine == cpos.line) = true := by rfl) : PE X (.Call (.Attribute o name apos) [] [] cpos) (tBM0 X.K T r to) := by
 intro pins s σ H Q I h
 refine wpAny_Call_method0_late hbase hline (thn (ho pins s σ H _ I h) fun v s1 ⟨x, H1, I1, r1, ty, q1⟩ => ?_)
 obtain ⟨h1, h2⟩ := tyV_is I1 r1 ty
 exact ⟨T, id, pa, slot, hty, h1, h2, Calls.callWith_builtin rfl (PySem.evalArgs_none (hm pins s1 σ H1 x [] v [] Q I1 r1 .nil q1))⟩
theorem pe_bm (pa : PlainAttrs T) (slot : Slot T name id) (hty : typeOf (.builtin id) = pure (.type "method_descriptor")) (hm : MtR X id r) (ho : PE X o to) (ha : PA X (e :: es) t)
  (hbase : attributeBase o name X.env (eval o X.env) = eval o X.env := by rfl)
  (hfew : ((backTo cpos (starEach (e :: es) X.env)).all (fun x => !x.1) && (backToKw cpos (keywordEach [] X.env)).all (fun x => x.1.isSome)
   && decide ((e :: es).length + ([] : List Keyword).length + (if ([] : List Keyword).isEmpty then 0 else 1) < 30)) = true := by rfl)
  (hline : (apos.endLine == cpos.line) = true := by rfl) (hs : starEach (e :: es) X.env = (false, eval e X.env) :: starEach es X.env := by rfl) (hplain : (backTo cpos (starEach es X.env)).any (·.1) = false := by rfl) :
  PE X (.Call (.Attribute o name apos) (e :: es) [] cpos) (tBM X.K T r to t) := by
 intro pins s σ H Q I h
 refine wpAny_Call_method_late hbase hfew hline rfl (thn (ho pins s σ H _ I h) fun v s1 ⟨x, H1, I1, r1, ty, q1⟩ => ?_)
 obtain ⟨h1, h2⟩ := tyV_is I1 r1 ty
 refine ⟨T, id, pa, slot, hty, h1, h2, ?_⟩
 have hA := ha cpos pins s1 σ H1 _ I1 q1
 rw [hs] at hA ⊢
 refine Calls.callWith_builtin (by show (false || (backTo cpos (starEach es X.env)).any (·.1)) = false; rw [hplain] <;> rfl) (Calls.evalArgs_plain ?_)
 exact thn hA fun us s2 ⟨vs, H2, I2, r2, q2⟩ => hm pins s2 σ H2 x vs v us Q I2 r1 r2 q2
/- xs.append(e), list.index on a module's tuple .. are MtR facts of 06m -/
end
def MtM (X : Cx) (id : String) (r : V → List V → Hp → VK → Prop) : Prop :=
 ∀ (pins : List (Addr × Obj)) (s : Shared) (σ : St) (H : Hp) (x : V) (xs : List V) (v : Value) (us : List Value) (Q : VK), Inv X pins σ H s → RelV x v → Vals xs us → r x xs H Q →
  wpAny (model X.prog X.w) X.A (call (.builtin id) (v :: us)) (EP X pins σ Q) X.xe s
theorem Vals.one : ∀ {x : V} {us : List Value}, Vals [x] us → ∃ u, us = [u] ∧ RelV x u
 | _, _, .cons r .nil => ⟨_, rfl, r⟩
theorem Vals.zero : ∀ {us : List Value}, Vals [] us → us = []
 | _, .nil => rfl
theorem Vals.reverse {xs : List V} {us : List Value} (h : Vals xs us) : Vals xs.reverse us.reverse := by
 induction h with
 | nil => exact .nil
 | cons r t ih => rw [List.reverse_cons, List.reverse_cons]; exact Vals.append ih (.cons r .nil)
theorem Vals.rep {xs : List V} {us : List Value} (h : Vals xs us) : ∀ k : Nat, Vals (List.replicate k xs).flatten (List.replicate k us).flatten
 | 0 => .nil
 | k + 1 => by
  rw [List.replicate_succ, List.replicate_succ, List.flatten_cons, List.flatten_cons]
  exact Vals.append h (Vals.rep h k)
theorem foldl_rep (its : List Value) : ∀ (k : Nat) (acc : List Value),
  List.foldl (fun x1 x2 => x1 ++ x2) acc.toArray (List.replicate k its.toArray) = (acc ++ (List.replicate k its).flatten).toArray
 | 0, acc => by simp
 | k + 1, acc => by
  have e : acc.toArray ++ its.toArray = (acc ++ its).toArray := by simp
  have e2 : (acc ++ its) ++ (List.replicate k its).flatten = acc ++ (List.replicate (k + 1) its).flatten := by
   rw [List.replicate_succ, List.flatten_cons, List.append_assoc]
  rw [← e2, ← foldl_rep its k (acc ++ its), ← e, List.replicate_succ, List.foldl_cons]
section
variable {X : Cx} {pins : List (Addr × Obj)} {σ : St} {H : Hp} {s : Shared} {l b : Addr} {xs ys zs : List V}
theorem Inv.lset {its its' : List Value} {n : Nat} {f : Array Value → Array Value} {t' : Nat} (I : Inv X pins σ H s) (hH : H l = some (.lst xs))
  (e : s.heap.get? l = some { cls := .type "list", data := .seq its.toArray n }) (hf : f its.toArray = its'.toArray) (hv : Vals ys its') (hz : ys.length ≤ sizeLine) :
  Inv X pins σ (upd H l (.lst ys)) { s with heap := s.heap.update l (Obj.mapSeq f), toks := t' } := by
 have q := PySem.IsL.update e f
 rw [hf] at q
 refine I.write (x := l) (e := l) (by rw [hH]; exact trivial) (.inl rfl) (fun b' u hb hu => (Heap.get?_update_other s.heap (Obj.mapSeq f) (Ne.symm hb)).trans hu) ⟨_, q⟩ ?_
 exact ⟨hz, its', _, hv, q⟩
theorem Inv.lnew {its : List Value} {t' : Nat} (I : Inv X pins σ H s) (hv : Vals ys its) (hz : ys.length ≤ sizeLine) :
  Inv X pins σ (upd H s.heap.objs.size (.lst ys)) { s with heap := s.heap.push { cls := .type "list", data := .seq its.toArray }, toks := t' } :=
 I.laid (fun _ _ q => Heap.get?_push_of_some _ q) (Nat.le_refl _) ⟨hz, its, 0, hv, Heap.get?_push_size _ rfl⟩
theorem Inv.fresh (I : Inv X pins σ H s) : H s.heap.objs.size = none := I.hok.fresh (Nat.le_refl _)
theorem Inv.lstM (I : Inv X pins σ H s) (hH : H l = some (.lst xs)) : xs.length ≤ sizeLine ∧ ∃ (its : List Value) (n : Nat), Vals xs its ∧ xs.length = its.length ∧ s.heap.get? l = some { cls := .type "list", data := .seq its.toArray n } := by
 obtain ⟨z, its, n, r, e⟩ := I.hok l _ hH
 exact ⟨z, its, n, r, r.length, e⟩
theorem notLongL {n : Nat} (h : n ≤ sizeLine) : Builtin.List.listTooLong n = false := by
 unfold Builtin.List.listTooLong
 exact decide_eq_false (by omega)
end
section
variable {X : Cx}
def rAppend : V → List V → Hp → VK → Prop := fun x vs H Q => ∃ l xs y, x = .ref l ∧ vs = [y] ∧ H l = some (.lst xs) ∧ xs.length < sizeLine ∧ Q .non (upd H l (.lst (xs ++ [y])))
theorem mt_append : MtM X "list.append" rAppend := by
 intro pins s σ H x vs v us Q I rx rv h
 obtain ⟨l, xs, y, rfl, rfl, hH, hz, q⟩ := h
 cases rx
 obtain ⟨u, rfl, ru⟩ := rv.one
 obtain ⟨z, its, n, r, hl, e⟩ := I.lstM hH
 refine call_meets F.slot_list_append ⟨_, e, rfl⟩ F.entry_list_append (F.args_list_append_2 _ _) (PySem.list_append l its.toArray n u (by rw [List.size_toArray]; omega)) ⟨e, ?_⟩
 refine ⟨.non, _, I.lset (its' := its ++ [u]) hH e (by simp) (r.append (.cons ru .nil)) ?_, rfl, q⟩
 rw [List.length_append, List.length_singleton]
 omega
def rExtend : V → List V → Hp → VK → Prop := fun x vs H Q => ∃ l b xs zs, x = .ref l ∧ vs = [.ref b] ∧ H l = some (.lst xs) ∧ H b = some (.lst zs) ∧ xs.length + zs.length ≤ sizeLine ∧ Q .non (upd H l (.lst (xs ++ zs)))
theorem mt_extend : MtM X "list.extend" rExtend := by
 intro pins s σ H x vs v us Q I rx rv h
 obtain ⟨l, b, xs, zs, rfl, rfl, hH, hB, hz, q⟩ := h
 cases rx
 obtain ⟨u, rfl, ru⟩ := rv.one
 cases ru
 obtain ⟨z, its, n, r, hl, e⟩ := I.lstM hH
 obtain ⟨z2, its2, n2, r2, hl2, e2⟩ := I.lstM hB
 have hsz : its.toArray.size + its2.toArray.size ≤ sizeLine := by rw [List.size_toArray, List.size_toArray]; omega
 have hlong : ¬ (!its.toArray.isEmpty && Builtin.List.listTooLong (its.toArray.size + its2.toArray.size)) = true := by
  rw [notLongL hsz, Bool.and_false]
  exact Bool.false_ne_true
 refine call_meets F.slot_list_extend ⟨_, e, rfl⟩ F.entry_list_extend (F.args_list_extend_2 _ _)
  (AutoSeq1.list_extend_list_list_0 l its.toArray n b its2.toArray n2 hlong (by rw [List.size_toArray]; omega) (by omega)) ⟨e, e2, ?_⟩
 refine ⟨.non, _, I.lset (its' := its ++ its2) hH e (by simp) (r.append r2) ?_, rfl, q⟩
 rw [List.length_append]
 omega
def rReverse : V → List V → Hp → VK → Prop := fun x vs H Q => ∃ l xs, x = .ref l ∧ vs = [] ∧ H l = some (.lst xs) ∧ Q .non (upd H l (.lst xs.reverse))
theorem mt_reverse : MtM X "list.reverse" rReverse := by
 intro pins s σ H x vs v us Q I rx rv h
 obtain ⟨l, xs, rfl, rfl, hH, q⟩ := h
 cases rx
 have hus := rv.zero
 subst hus
 obtain ⟨z, its, n, r, hl, e⟩ := I.lstM hH
 refine call_meets F.slot_list_reverse ⟨_, e, rfl⟩ F.entry_list_reverse (F.args_list_reverse_1 _) (AutoSeq1.list_reverse_list_0 l its.toArray n (by rw [List.size_toArray]; omega)) ⟨e, ?_⟩
 refine ⟨.non, _, I.lset (its' := its.reverse) hH e (by simp) r.reverse ?_, rfl, q⟩
 rw [List.length_reverse]
 omega
def rCat : R2 := fun x y H Q => ∃ l b xs zs, x = .ref l ∧ y = .ref b ∧ H l = some (.lst xs) ∧ H b = some (.lst zs) ∧ xs.length + zs.length ≤ sizeLine ∧ ∀ p, H p = none → Q (.ref p) (upd H p (.lst (xs ++ zs)))
theorem op_cat : OpR X (binaryOp .Add) rCat := by
 intro pins s σ H x y v u Q I rx ry h
 obtain ⟨l, b, xs, zs, rfl, rfl, hH, hB, hz, q⟩ := h
 cases rx
 cases ry
 obtain ⟨z, its, n, r, hl, e⟩ := I.lstM hH
 obtain ⟨z2, its2, n2, r2, hl2, e2⟩ := I.lstM hB
 refine PySem.P.add_list e e2 ?_ (by rw [List.size_toArray, List.size_toArray]; omega)
 have ea : its.toArray ++ its2.toArray = (its ++ its2).toArray := by simp
 rw [ea]
 exact ⟨.ref _, _, I.lnew (t' := s.toks) (r.append r2) (by rw [List.length_append]; omega), rfl, q _ I.fresh⟩
def rRep : R2 := fun x y H Q => ∃ l k xs, x = .ref l ∧ y = .int k ∧ H l = some (.lst xs) ∧ -(2 ^ 63) ≤ k ∧ k < 2 ^ 63 ∧ xs.length * k.toNat ≤ sizeLine ∧
 ∀ p, H p = none → Q (.ref p) (upd H p (.lst (List.replicate k.toNat xs).flatten))
theorem len_rep {α : Type} (xs : List α) (k : Nat) : (List.replicate k xs).flatten.length = k * xs.length := by
 induction k with
 | zero => simp
 | succ k ih => rw [List.replicate_succ, List.flatten_cons, List.length_append, ih, Nat.succ_mul, Nat.add_comm]
theorem op_rep : OpR X (binaryOp .Mult) rRep := by
 intro pins s σ H x y v u Q I rx ry h
 obtain ⟨l, k, xs, rfl, rfl, hH, h1, h2, hz, q⟩ := h
 cases rx
 obtain ⟨t, rfl⟩ := ry
 obtain ⟨z, its, n, r, hl, e⟩ := I.lstM hH
 have hlen : its.toArray.size * k.toNat ≤ sizeLine := by rw [List.size_toArray, ← hl]; exact hz
 have hcap : ¬ its.toArray.size * k.toNat > (2 ^ 63 - 1) / 8 := by
  have : (sizeLine : Nat) ≤ (2 ^ 63 - 1) / 8 := by decide
  omega
 have hfit : ¬ (!Builtin.List.listFitsIndex k) = true := by
  rw [fitsIndex_both h1 h2]
  exact Bool.false_ne_true
 have hlong : ¬ Builtin.List.listTooLong (its.toArray.size * k.toNat) = true := by
  rw [notLongL hlen]
  exact Bool.false_ne_true
 have hnew : List.foldl (fun x1 x2 => x1 ++ x2) #[] (List.replicate (if its.toArray.isEmpty = true then 0 else k.toNat) its.toArray) = (List.replicate k.toNat its).flatten.toArray := by
  have f0 : ∀ m : Nat, List.foldl (fun x1 x2 => x1 ++ x2) #[] (List.replicate m its.toArray) = (List.replicate m its).flatten.toArray := fun m => by
   have := foldl_rep its m []
   rw [List.nil_append] at this
   exact this
  rw [f0]
  cases its with
  | nil => simp
  | cons a r' => rw [if_neg (by simp)]
 refine wpAny_binaryOp_repeat_ref (T := "list") (U := "int") (by decide) ⟨_, e, rfl⟩ (fun s' => typeIs_int s' k t) noFill_list_mul F.fills_int_mul F.slot_int_rmul repeat_list F.slot_int_index.lookup
  (call_meets F.slot_int_rmul (typeIs_int s k t) F.entry_int_rmul (F.args_int_rmul_2 _ _) (int___rmul___int_list k t l its.toArray n)
   ⟨e, rfl, ⟨_, e, rfl⟩, call_meets F.slot_list_mul ⟨_, e, rfl⟩ F.entry_list_mul (F.args_list_mul_2 _ _) (AutoListH.list___mul___list_int_3 l its.toArray n k t hfit hcap hlong) ⟨e, ?_⟩⟩)
 rw [hnew]
 exact ⟨.ref _, _, I.lnew (t' := s.toks) (r.rep k.toNat) (by rw [len_rep, Nat.mul_comm]; exact hz), rfl, q _ I.fresh⟩
end
section
variable {prog : Program} {w : World} {A : Around} {E : Value → Shared → Prop} {s : Shared}
end
section
variable {X : Cx}
end
end L2
namespace Att
open PySem PySem.W PySem.Calls PyProof.Rows
theorem ints_of_wellAll {P : Params} {h : Heap} : ∀ (ns : List Int) (vs : List Value), WellAll P h vs (ns.map WData.int) → IntsAre vs ns := by
 intro ns
 induction ns with
 | nil =>
  intro vs w
  rw [List.map_nil] at w
  cases w
  exact .nil
 | cons n ns ih =>
  intro vs w
  rw [List.map_cons] at w
  cases w with
  | cons a b =>
   cases a
   exact .cons _ _ (ih _ b)
theorem script_of {l : OpenLaw} {n : Nat} (hn : l.most = some n) {P : Params} {h : Heap} {args : List WData} {vals : List Value}
  (hpre : l.row.toRowW.claim.pre args = true) (hwl : WellAll P h vals args) :
  ∃ a vs ns, vals = [Value.ref a] ∧ args = [WData.list (ns.map WData.int)] ∧ h.get? a = some { cls := .type "list", data := .seq vs.toArray } ∧ IntsAre vs ns ∧ ns.length ≤ n := by
 have hsh : WShape.hasAll [] args [.list .int] = true := (pre_splitW hpre).1
 have hc : l.pre.holds [] { args := args } = true := (pre_splitW hpre).2
 obtain ⟨d, r, rfl, h1, h2⟩ := hasAllW_cons hsh
 obtain rfl := hasAllW_nil h2
 obtain ⟨xs, rfl, h3⟩ := hasW_list h1
 obtain ⟨ns, rfl⟩ := items_int h3
 have hlen : ns.length ≤ n := by
  unfold OpenLaw.pre at hc
  have h4 : (WTm.not (.lt (.lit (.int (n : Int))) (.len (.arg 0)))).holds [] { args := [.list (ns.map .int)] } = true := by
   have h4 := (holds_andW hc).1
   rw [hn] at h4
   exact h4
  have h5 := condW_of h4 (w_not (w_lt w_lit (w_len_list (w_arg rfl))))
  rw [List.length_map] at h5
  refine Nat.le_of_not_lt fun q => ?_
  have q' : (n : Int) < ((ns.length : Nat) : Int) := by omega
  first
   | (rw [decide_eq_true q'] at h5; exact absurd h5 (by decide))
   | (simp at h5; omega)
 cases hwl with
 | cons w1 w2 =>
  cases w2
  cases w1 with
  | list ho hall => exact ⟨_, _, ns, rfl, rfl, ho, ints_of_wellAll ns _ hall, hlen⟩
theorem post_true (l : OpenLaw) (args : List WData) : l.row.toRowW.claim.post args (.bool true) args = true :=
 postW_of (r := l.row.toRowW) (X := (true == true))
  (show WShape.has [] (.bool true) .bool = true by first | rfl | decide | simp [WShape.has, WShape.arms, WShape.armsAll])
  (show (WTm.eq .res (.lit (.bool true))).value [] { args := args, res := some (.bool true), after := args } = some (.bool (true == true)) from w_eq_bool (w_res rfl) w_lit) rfl
theorem attach_call {l : OpenLaw} {n : Nat} {q : Program} {loose : List Str} {XP : (Str → Option Value) → Heap → Prop} {YP : World → Heap → Prop} {d : DefRec}
  (hn : l.most = some n) (hdf : d.params.defaults = [])
  (call : ∀ (w : World) (s₀ s₁ : Shared) (mg mb : Str → Option Value) (fa : Addr) (o : Obj) (pm cd doc : Value) (a : Addr) (vs : List Value) (ns : List Int),
   Ground q loose [] XP w s₀ mg mb s₁.heap → YP w s₁.heap →
   s₁.heap.get? fa = some o → o.data = .func (docDef d.name d.params d.body d.scope pm cd doc) → s₁.heap.CodeRec cd d.name → mg d.name = some (.ref fa) →
   s₁.heap.get? a = some { cls := .type "list", data := .seq vs.toArray } → IntsAre vs ns → ns.length ≤ n → s₁.gens = #[] →
   codeAny (model l.prog w) callerA (.call (.ref fa) ⟨[.ref a], []⟩) (fun r s' => r = .ok (.ret (.bool true)) ∧ OldK s₁.heap s'.heap ∧ s'.os = s₁.os ∧ AllBare s'.gens) s₁) :
  WalkO q loose XP YP l.row.toRowW d [] (fun f vs => PySem.call f vs) := by
 intro w s₀ s₁ mg mb G Y fa o pm cd doc dV kV ho hd hcd hD hmg hg args vals as hpre hlay hrd hwl hlo
 obtain rfl : dV = .none := Dflts.none hD hdf
 obtain rfl : kV = .none := Dflts.noKw hD
 obtain ⟨a, vs, ns, rfl, rfl, hobj, hints, hlen⟩ := script_of hn hpre hwl
 refine enter_call (codeAny_mono (call w s₀ s₁ mg mb fa o pm cd doc a vs ns G Y ho (fd_plain hd) hcd hmg hobj hints hlen hg) fun r s' hq => ?_)
 obtain ⟨rfl, h2, h3, h4⟩ := hq
 exact ⟨.inl ⟨.bool true, .bool true, [], rfl, fun _ => rfl, .bool true, post_true l _, fun _ => ⟨List.Pairwise.nil, fun _ hm => (nomatch hm)⟩⟩, h2, h3, h4⟩
section
variable {prog : Program} {w : World} {A : Around} {E : Value → Shared → Prop} {s : Shared} {K : Frag}
end
end Att
namespace L2
open PySem PySem.Spec PyProof.Rows
theorem vals_ints : ∀ {vs : List Value} {ns : List Int}, IntsAre vs ns → Vals (ns.map V.int) vs
 | _, _, .nil => .nil
 | _, _, .cons n t h => .cons ⟨t, rfl⟩ (vals_ints h)
def Only (H : Hp) : Prop := ∀ b, H b = none ∨ ∃ o xs, H b = some (.frz o (.lst xs))
theorem law_call {P : Program} {w : World} {K : PySem.W.Frag} {mg mb : Str → Option Value} {CX : CXT} {k : Nat} {fa a : Addr} {fd : FuncData} {x : Str} {sp : Sp} {s₁ : Shared} {vs : List Value} {ns : List Int}
  (KX : K.In s₁.heap) (hns : s₁.heap.Ns mainGlobals mg) (hb : s₁.heap.Ns builtinsNs mb) (hbb : ∀ x : Str, x ≠ "__name__" → mb x = bootBuiltins x) (hlim : s₁.heap.NoLimit) (hg : s₁.gens = #[])
  (ha : s₁.heap.get? a = some { cls := .type "list", data := .seq vs.toArray }) (hi : IntsAre vs ns) (hl : ns.length ≤ sizeLine) (hr : Room k callerA)
  (F : ∀ base : Heap, K.In base → base.Ns mainGlobals mg → FnOk P w K mg base CX k fa fd [x] sp) (hbind : ∀ (s : Shared) (u : Value), BindsTo s fd ⟨[u], []⟩ [(x, u)])
  (hsp : ∀ H : Hp, Only H → SqL K H a (ns.map V.int) → sp [.ref a] H (fun v _ => v = .bl true) fun _ _ _ => False)
  (hCX : ∀ H e s', CX [] H s₁ (fun _ _ _ => False) e s' → False) :
  codeAny (model P w) callerA (.call (.ref fa) ⟨[.ref a], []⟩) (fun r s' => r = .ok (.ret (.bool true)) ∧ OldK s₁.heap s'.heap ∧ s'.os = s₁.os ∧ AllBare s'.gens) s₁ := by
 have rv := vals_ints hi
 have lenV := hi.length
 -- from an abstract heap in which nothing but the script may be tracked
 have core : ∀ H : Hp, Only H → SqL K H a (ns.map V.int) → HOk P w H s₁.heap → (∀ b, H b ≠ none → b = a) → (H a ≠ none → K.lookup a = none) →
   codeAny (model P w) callerA (.call (.ref fa) ⟨[.ref a], []⟩) (fun r s' => r = .ok (.ret (.bool true)) ∧ OldK s₁.heap s'.heap ∧ s'.os = s₁.os ∧ AllBare s'.gens) s₁ := by
  intro H hO hS hok hA hK
  have base_of : ∀ {b : Addr} {o : Obj}, s₁.heap.get? b = some o → H b = none → (hidT s₁.heap H).get? b = some o := fun e n => hidT_get e n
  have noA : ∀ {b : Addr} {o : Obj} {es : Array DictEntry} {ep : Nat}, s₁.heap.get? b = some o → o.data = .dict es ep → H b = none := fun {b o es ep} e d => by
   cases q : H b with
   | none => rfl
   | some u =>
    have e' : b = a := hA b (by rw [q]; simp)
    subst e'
    rw [ha] at e; cases e
    have d' : Data.seq vs.toArray _ = Data.dict es ep := d
    cases d'
  have nsK : ∀ {b : Addr} {m : Str → Option Value}, s₁.heap.Ns b m → (hidT s₁.heap H).Ns b m := fun {b m} ⟨o, es, ep, e, d, r⟩ => ⟨o, es, ep, base_of e (noA e d), d, r⟩
  have hKb : K.In (hidT s₁.heap H) := fun b o e => base_of (KX b o e) (by
   cases q : H b with
   | none => rfl
   | some u =>
    have e' : b = a := hA b (by rw [q]; simp)
    subst e'
    rw [hK (by rw [q]; simp)] at e; cases e)
  have hM : Mod K mg (hidT s₁.heap H) := ⟨hKb, nsK hns, ⟨mb, nsK hb, hbb⟩, let ⟨mc, h1, h2⟩ := hlim; ⟨mc, nsK h1, h2⟩⟩
  have e0 : Env0 P w K mg (hidT s₁.heap H) callerA [] s₁ H := ⟨rfl, hM, fun b o e => of_hidT e, Nat.le_of_eq (hidT_size _ _), trivial, fun b hb => absurd (show b ∈ ([] : List Addr) from hb) (by simp), hok, .of_eq hg⟩
  refine codeAny_mono ((F _ hKb (nsK hns)).run callerA [] s₁ H ⟨[.ref a], []⟩ [.ref a] [.ref a] _ _ hr e0 (hbind s₁ (.ref a)) (.cons rfl .nil) (hsp H hO hS)) fun r s' h => ?_
  cases r with
  | error e => exact (hCX H e s' h).elim
  | ok fl =>
   cases fl with
   | next => exact False.elim h
   | brk => exact False.elim h
   | cont => exact False.elim h
   | ret u =>
    obtain ⟨v, H', os, bare, un, hok', r', q⟩ := h
    have q' : v = .bl true := q
    subst q'
    obtain rfl : u = Value.bool true := r'
    refine ⟨rfl, OldK.of_keep fun b o e => ?_, os, bare⟩
    cases q : H b with
    | none => exact un.keep b o e q (by intro z; exact absurd (show b ∈ ([] : List Addr) from z) (by simp)) (by simp)
    | some u =>
     rcases hO b with z | ⟨ob, xs, z⟩
     ·rw [q] at z; cases z
     ·have z2 := un.frzs b ob _ z
      obtain ⟨e1, _⟩ := hok b _ z
      obtain ⟨e2, _⟩ := hok' b _ z2
      rw [e] at e1; cases e1
      exact e2
 cases hk : K.lookup a with
 | some o =>
  -- the script is one of the module's own objects
  have e := KX a o hk
  rw [ha] at e
  cases e
  refine core (fun _ => none) (fun _ => .inl rfl) (.inr ⟨_, vs.toArray, _, hk, rfl, rfl, rfl, by rw [List.size_toArray, lenV]; exact hl, by simpa using rv⟩) (fun b u z => by have z' : (none : Option HO) = some u := z; cases z') (fun b z => absurd rfl z) fun z => absurd rfl z
 | none =>
  refine core (fun b => if b = a then some (.frz { cls := .type "list", data := .seq vs.toArray } (.lst (ns.map V.int))) else none) (fun b => ?_) (.inl (.inr ⟨{ cls := .type "list", data := .seq vs.toArray }, if_pos rfl⟩)) (fun b u z => ?_) (fun b z => ?_) fun _ => hk
  ·by_cases hb : b = a
   ·exact .inr ⟨_, _, if_pos hb⟩
   ·exact .inl (if_neg hb)
  ·by_cases hb : b = a
   ·have z' := (if_pos hb).symm.trans z
    cases z'
    subst hb
    exact ⟨ha, by rw [List.length_map]; exact hl, vs, _, rv, ha⟩
   ·have z' := (if_neg hb).symm.trans z
    cases z'
  ·by_cases hb : b = a
   ·exact hb
   ·exact absurd (if_neg hb) z
abbrev KOf {K : PySem.W.Frag} {h : Heap} (_ : K.In h) : PySem.W.Frag := K
theorem walk_of {l : PySem.W.OpenLaw} {n k : Nat} {q : Program} {loose : List Str} {XP : (Str → Option Value) → Heap → Prop} {YP : World → Heap → Prop} {d : DefRec} {K : Params → PySem.W.Frag} {CX : World → CXT} {sp : World → Sp} {x : Str}
  (hn : l.most = some n) (hn2 : n ≤ sizeLine) (hdf : d.params.defaults = []) (hr : Room k callerA)
  (hY : ∀ (w : World) (h : Heap), YP w h → (K w.params).In h)
  (F : ∀ (w : World) (mg : Str → Option Value) (fa : Addr) (h : Heap), (K w.params).In h → h.Ns mainGlobals mg → mg d.name = some (.ref fa) →
   ∃ fd : FuncData, (∀ (s : Shared) (u : Value), BindsTo s fd ⟨[u], []⟩ [(x, u)]) ∧
    ∀ base : Heap, (K w.params).In base → base.Ns mainGlobals mg → FnOk l.prog w (K w.params) mg base (CX w) k fa fd [x] (sp w))
  (hsp : ∀ (w : World) (H : Hp) (a : Addr) (ns : List Int), ns.length ≤ n → Only H → SqL (K w.params) H a (ns.map V.int) → sp w [.ref a] H (fun v _ => v = .bl true) fun _ _ _ => False)
  (hCX : ∀ (w : World) (H : Hp) (s : Shared) (e : Value) (s' : Shared), CX w [] H s (fun _ _ _ => False) e s' → False) :
  PySem.W.WalkO q loose XP YP l.row.toRowW d [] (fun f vs => PySem.call f vs) := by
 refine Att.attach_call hn hdf fun w s₀ s₁ mg mb fa o pm cd doc a vs ns G Y ho hd hcd hmg hobj hints hlen hg => ?_
 have KX := hY w _ Y
 obtain ⟨fd, hb, hF⟩ := F w mg fa _ KX G.T.g hmg
 exact law_call KX G.T.g G.T.b G.T.builtins G.T.nolimit hg hobj hints (Nat.le_trans hlen hn2) hr hF hb (fun H hO hS => hsp w H a ns hlen hO hS) fun H e s' => hCX w H s₁ e s'
end L2
/- THE LAST THEOREM (shape; LID, My.* are yours):
   My.Adr: a structure of the addresses that your layer names (classes, functions); My.Txt K t: a structure (Prop) of the equations over K;
   My.txt_mk : {K} {implicit addresses ..} (e1 : nsIn K mainGlobals "law" = some (some (.ref f))) (e2 : K.lookup f = some ⟨oc, od, .func (fnOf "law" "law" params body scope dV kV doc pm an cdv ct), sl⟩) (e3 : codeIn K cdv "law" = true) .. : ∃ t, My.Txt K t
set_option maxRecDepth 100000 in
set_option maxHeartbeats 0 in
theorem PySem.Challenge.cw_LID_holds : PySem.Challenge.rw_LID.Holds := by
 w_on; o_law; k_head; (case hw => w_witness2)
 k_fill
 refine L2.walk_of (l := PySem.Challenge.rw_LID) (n := 63) (k := 40) (x := "script") (CX := fun w => ..) (sp := fun _ => My.sp_law) rfl (by decide) rfl ⟨rfl, by decide, by decide⟩ (fun w h Y => PySem.W.kIn_of Y) ?F ?S ?C
 case F =>
  intro w mg fa h KX G hmg
  have T : ∃ t, My.Txt (L2.KOf KX) t := by
   dsimp only [L2.KOf]                          -- K must stand as «<heap const> w.params» for k_is
   refine' My.txt_mk ?e1 ?e2 ?e3 ..
   (case e1 => PySem.W.k_is)                    -- in the order: a name -> its address -> its object -> its parts
   (case e2 => PySem.W.k_is)
   ..
  obtain ⟨t, T⟩ := T
  have e0 := hmg.symm.trans (PySem.W.mg_of KX G T.law)
  cases e0                                       -- fa is the law's own address
  exact ⟨_, fun s u => .of_eq rfl, fun base kb nb => My.law_fn T kb nb⟩     -- if «.of_eq rfl» comes too early: refine' ⟨_, ?b, fun base kb nb => My.law_fn T kb nb⟩; exact fun s u => .of_eq rfl
 case S => exact fun w H a ns hl hO hS => ..
 case C => exact ..
(the tactic k_is has no namespace: write k_is) -/
namespace L2
open PySem PySem.Spec PyProof.Rows
def defArgs (s : Stmt) : Arguments := match s with
 | .FunctionDef _ a _ _ _ _ _ _ _ _ => a
 | _ => { posonlyargs := [], args := [], vararg := none, kwonlyargs := [], kw_defaults := [], kwarg := none, defaults := [] }
def defBody (s : Stmt) : List Stmt := match s with
 | .FunctionDef _ _ b _ _ _ _ _ _ _ => b
 | _ => []
def defScope (s : Stmt) : Scope := match s with
 | .FunctionDef _ _ _ _ _ _ sc _ _ _ => sc
 | _ => { kind := .function, names := [], isGenerator := false, isCoroutine := false }
abbrev CX0 : CXT := fun _ _ _ _ _ _ => False
abbrev E0 : XK := fun _ _ _ => False
theorem pass0 {X : Cx} : Passes CX0 X E0 := fun _ _ _ _ _ _ _ h => h.elim
structure Fun (K : PySem.W.Frag) (x qual : Str) (st : Stmt) (f : Addr) (fd : FuncData) : Prop where
 ex : ∃ (oc : Value) (od : Option Addr) (kV doc pm : Value) (an : Option Addr) (cdv ct : Value) (osl : Array (Option Value)),
  fd = PySem.W.fnOf x qual (defArgs st) (defBody st) (defScope st) .none kV doc pm an cdv ct ∧ K.lookup f = some ⟨oc, od, .func fd, osl⟩ ∧ PySem.W.codeIn K cdv qual = true
 kp : PySem.W.keepIn K (.ref f) = true
section
variable {P : Program} {w : World} {K : PySem.W.Frag} {mg : Str → Option Value} {base : Heap}
theorem Fun.ok {x qual : Str} {st : Stmt} {f : Addr} {fd : FuncData} {N ps : List Str} {k : Nat} {sp : Sp} (F : Fun K x qual st f fd) (S : FnScope N ps (defScope st)) (len : ∀ vs H Q E, sp vs H Q E → vs.length = ps.length)
  (hbody : ∀ (cdv : Value) (A : Around) (outer : List Env) (s : Shared) (H : Hp) (vs : List V) (Q : VK) (E : XK), Room k (A.deeper (envOfC qual (defScope st) s.heap.objs.size f cdv)) → sp vs H Q E →
   ∃ t, PSs (cxOf CX0 P w K mg base N qual (defScope st) f cdv A outer s H E).nox (defBody st) t ∧ t { nx := fun _ H' => Q .non H', rt := Q } (start N vs) H) : FnOk P w K mg base CX0 (k + 1) f fd ps sp := by
 obtain ⟨oc, od, kV, doc, pm, an, cdv, ct, osl, rfl, lk, hcd⟩ := F.ex
 refine fn_of lk hcd S len fun A outer s H vs Q E hr hsp => ?_
 obtain ⟨t, h, q⟩ := hbody cdv A outer s H vs Q E hr hsp
 exact ⟨t, h.nox, q⟩
theorem Fun.binds {x qual : Str} {st : Stmt} {f : Addr} {fd : FuncData} {ps : List Str} (F : Fun K x qual st f fd)
  (h : ∀ (kV doc pm : Value) (an : Option Addr) (cdv ct : Value) (us : List Value), us.length = ps.length → bindArgs (PySem.W.fnOf x qual (defArgs st) (defBody st) (defScope st) .none kV doc pm an cdv ct) ⟨us, []⟩ = pure (ps.zip us)) : Binds K fd ps [] := by
 obtain ⟨oc, od, kV, doc, pm, an, cdv, ct, osl, rfl, lk, hcd⟩ := F.ex
 exact .all (h kV doc pm an cdv ct)
theorem fun_mk {x qual : Str} {st : Stmt} {f : Addr} {oc : Value} {od an : Option Addr} {osl : Array (Option Value)} {kV doc pm cdv ct : Value} (l : K.lookup f = some ⟨oc, od, .func (PySem.W.fnOf x qual (defArgs st) (defBody st) (defScope st) .none kV doc pm an cdv ct), osl⟩)
  (c : PySem.W.codeIn K cdv qual = true) (k : PySem.W.keepIn K (.ref f) = true) : Fun K x qual st f (PySem.W.fnOf x qual (defArgs st) (defBody st) (defScope st) .none kV doc pm an cdv ct) := ⟨⟨oc, od, kV, doc, pm, an, cdv, ct, osl, rfl, l, c⟩, k⟩
end
theorem small1000 {n : Nat} (h : n ≤ 1000) : n < sizeLine := Nat.lt_of_le_of_lt h (by decide)
section
variable {X : Cx}
theorem pv (i : Nat) {x : Str} {pos : Pos} (hN : X.N[i]? = some x := by rfl) (hv : Vis X.env.scope x := by first | exact Or.inl rfl | exact Or.inr (Or.inl rfl) | exact Or.inr (Or.inr rfl)) (hd : (x == ("__debug__" : Str)) = false := by decide)
  (hcd : (x == ("__classdict__" : Str)) = false := by decide) : PE X (.Name x pos) (tVar i) := pe_var hN hv hd hcd
end
theorem iteF {A B : Prop} (h : B) : if false = true then A else B := by
 rw [if_neg Bool.false_ne_true]
 exact h
theorem iteT {A B : Prop} (h : A) : if true = true then A else B := by
 rw [if_pos rfl]
 exact h
theorem iteNS {c A B : Prop} [Decidable c] (hc : c) (h : B) : if (!decide c) = true then A else B := by
 rw [decide_eq_true hc]
 exact iteF h
def Same (H H' : Hp) : Prop := ∀ b o, H b = some o → H' b = some o
theorem Same.refl (H : Hp) : Same H H := fun _ _ h => h
theorem Same.trans {H H1 H2 : Hp} (a : Same H H1) (b : Same H1 H2) : Same H H2 := fun c o h => b c o (a c o h)
theorem Same.free {H H' : Hp} (e : Same H H') {l : Addr} (h : H' l = Option.none) : H l = Option.none := by
 cases q : H l with
 | none => rfl
 | some o =>
  rw [e l o q] at h
  cases h
section
variable {P : Program} {w : World} {A : Around} {R : Result → Shared → Prop} {s : Shared}
theorem comp_loop {elt tgt iter : Expr} {ifs : List Expr} {scope : Scope} {pos : Pos} {it acc : Value} {env : Env} (J : Nat → Shared → Prop)
  (turn : ∀ n s, J n s → wpAny (model P w) A (pyNext it) (fun r c₁ => match r with
   | none => R (.ok .next) c₁
   | some v => wpAny (model P w) A (letOwnedTupleGo tgt it v) (fun _ d₁ => wpAny (model P w) A (assign tgt env v) (fun _ c₂ =>
     wpAny (model P w) A (forIn ifs true fun c r => if r = true then do let ok ← isTrue c env (eval c env); pure (ForInStep.yield ok) else pure (ForInStep.yield r)) (fun ok c₃ =>
      if ok = true then wpAny (model P w) A (eval elt env) (fun x c₄ =>
       wpAny (model P w) A (call (.builtin "list.append") [acc, x]) (fun _ c₅ => ∃ m, m < n ∧ J m c₅) (notedBy (model P w) A env fun e s' => R (.error e) s') c₄) (notedBy (model P w) A env fun e s' => R (.error e) s') c₃
      else ∃ m, m < n ∧ J m c₃) (notedBy (model P w) A env fun e s' => R (.error e) s') c₂) (notedBy (model P w) A env fun e s' => R (.error e) s') d₁) (notedBy (model P w) A env fun e s' => R (.error e) s') c₁) (notedBy (model P w) A env fun e s' => R (.error e) s') s)
  (n : Nat) (hn : J n s) :
  codeAny (model P w) A (.compLoop (.ListComp elt [⟨tgt, iter, ifs, 0⟩] scope pos) 0 it acc env) R s := by
 refine codeAny_loop rfl J (fun n s hJ => ?_) n hn
 show wpAny _ A ((compTurn (.ListComp elt [⟨tgt, iter, ifs, 0⟩] scope pos) 0 it acc env).onRaise (fun x => do noteFrame x env; theTreesLotGoes x)) _ _ s
 refine wpAny_noted ?_
 rw [compTurn_list]
 refine wpAny_bind (wpAny_standAt (wpAny_bind (wpAny_mono (turn n s hJ) (fun r c₁ e₁ => ?_) fun _ _ z => z)))
 cases r with
 | none => exact wpAny_pure e₁
 | some v =>
  refine wpAny_bind (wpAny_mono e₁ (fun _ d₁ f₁ => ?_) fun _ _ z => z)
  refine wpAny_bind (wpAny_mono f₁ (fun _ c₂ e₂ => wpAny_bind (wpAny_mono e₂ (fun ok c₃ e₃ => ?_) fun _ _ z => z)) fun _ _ z => z)
  cases ok with
  | false => exact wpAny_pure ⟨rfl, e₃⟩
  | true =>
   exact wpAny_bind (wpAny_bind (wpAny_mono e₃ (fun x c₄ e₄ => wpAny_bind (wpAny_mono e₄ (fun _ c₅ e₅ => wpAny_pure (wpAny_pure ⟨rfl, e₅⟩)) fun _ _ z => z)) fun _ _ z => z))
end
def cloF (env : Env) : List (Str × NameKind) → List (Str × Addr) → List (Str × Addr)
 | [], acc => acc
 | (n, k) :: r, acc => if k = .free then cloF env r ((n, (env.cells.lookup n).getD 0) :: acc) else cloF env r acc
theorem closure_go {env : Env} : ∀ (names : List (Str × NameKind)) (acc : List (Str × Addr)), (∀ x ∈ names, x.2 = .free → ∃ c, env.cells.lookup x.1 = some c) →
  (forIn names acc (fun (x : Str × NameKind) (cs : List (Str × Addr)) => (if (x.2 == NameKind.free) = true then do let a ← cellOf env x.1; pure (ForInStep.yield ((x.1, a) :: cs)) else pure (ForInStep.yield cs) : Sem (ForInStep (List (Str × Addr))))) : Sem (List (Str × Addr))) = pure (cloF env names acc)
 | [], acc, _ => by simp [cloF]
 | (n, k) :: r, acc, h => by
  have ih := fun acc => closure_go (env := env) r acc fun x hx => h x (List.mem_cons_of_mem _ hx)
  rw [List.forIn_cons]
  by_cases hk : k = .free
  ·subst hk
   obtain ⟨c, hc⟩ := h (n, .free) List.mem_cons_self rfl
   have hc' : env.cells.lookup n = some c := hc
   have e : cellOf env n = pure c := by unfold cellOf; rw [hc']
   simp only [cloF, if_true, hc', Option.getD_some, beq_self_eq_true, e, pure_bind]
   exact ih _
  ·have hb : (k == NameKind.free) = false := by simpa using hk
   simp only [cloF, hk, if_false, hb, Bool.false_eq_true, pure_bind]
   exact ih _
theorem closure_eq {env : Env} {scope : Scope} (h : ∀ x ∈ scope.names, x.2 = .free → ∃ c, env.cells.lookup x.1 = some c) : closureFor scope env = pure (cloF env scope.names []) := by
 rw [← closure_go scope.names [] h]
 unfold closureFor
 simp only [bind_pure]
theorem cloF_lookup {env : Env} {y : Str} : ∀ (names : List (Str × NameKind)) (acc : List (Str × Addr)), (cloF env names acc).lookup y = if (y, NameKind.free) ∈ names then some ((env.cells.lookup y).getD 0) else acc.lookup y
 | [], acc => by simp [cloF]
 | (n, k) :: r, acc => by
  unfold cloF
  by_cases hk : k = .free
  ·subst hk
   rw [if_pos rfl, cloF_lookup r]
   by_cases hy : y = n
   ·subst hy
    simp [List.lookup_cons]
   ·have hb : (y == n) = false := by simpa using hy
    simp [List.lookup_cons, hb, hy]
  ·rw [if_neg hk, cloF_lookup r]
   have : ¬ ((y, NameKind.free) = (n, k)) := by
    intro e
    exact hk (Prod.mk.inj e).2.symm
   simp [this]
structure CScope (o sc : Scope) (TN F : List Str) : Prop where
 okind : o.kind = .function
 kind : sc.kind = .function
 nocell : ∀ y ∈ sc.names, y.2 ≠ .cell
 names : ∀ y ∈ sc.names, y.2 = .local → sc.names.lookup y.1 = some .local
 fr : ∀ y ∈ sc.names, y.2 = .free → o.names.lookup y.1 = some .cell ∧ sc.names.lookup y.1 = some .free
 ff : ∀ y ∈ F, (y, NameKind.free) ∈ sc.names
theorem relabel_free {env : Env} {y : Str} (hk : env.scope.kind = .function) (hc : env.kindOf y = some .cell) : ∀ {names : List (Str × NameKind)}, names.lookup y = some .free →
  (names.map fun (n, k) => if (k == NameKind.free && env.scope.kind == .function && env.kindOf n == some .cell) then (n, NameKind.cell) else (n, k)).lookup y = some .cell
 | [], h => by simp at h
 | (n, k) :: r, h => by
  have ih := @relabel_free env y hk hc r
  show List.lookup y ((if (k == NameKind.free && env.scope.kind == .function && env.kindOf n == some .cell) = true then (n, NameKind.cell) else (n, k)) :: _) = _
  cases hx : y == n with
  | true =>
   rw [List.lookup_cons, hx] at h
   cases h
   have e : y = n := by simpa using hx
   subst e
   rw [if_pos (by simp [hk, hc])]
   simp [List.lookup_cons]
  | false =>
   rw [List.lookup_cons, hx] at h
   by_cases hc' : (k == NameKind.free && env.scope.kind == .function && env.kindOf n == some .cell) = true
   ·rw [if_pos hc']; simp only [List.lookup_cons, hx]; exact ih h
   ·rw [if_neg hc']; simp only [List.lookup_cons, hx]; exact ih h
theorem relabel_from {env : Env} {y : Str} : ∀ {names : List (Str × NameKind)}, (∀ z ∈ names, z.2 ≠ .cell) →
    ((names.map fun (n, k) => if (k == NameKind.free && env.scope.kind == .function && env.kindOf n == some .cell) then (n, NameKind.cell) else (n, k)).lookup y = some .cell ∨
     (names.map fun (n, k) => if (k == NameKind.free && env.scope.kind == .function && env.kindOf n == some .cell) then (n, NameKind.cell) else (n, k)).lookup y = some .free) → (y, NameKind.free) ∈ names
  | [], _, h => by simp at h
  | (n, k) :: r, hn, h => by
    have ih := @relabel_from env y r fun z hz => hn z (List.mem_cons_of_mem _ hz)
    have h' : List.lookup y ((if (k == NameKind.free && env.scope.kind == .function && env.kindOf n == some .cell) = true then (n, NameKind.cell) else (n, k)) :: (r.map fun (n, k) => if (k == NameKind.free && env.scope.kind == .function && env.kindOf n == some .cell) then (n, NameKind.cell) else (n, k))) = some .cell ∨
      List.lookup y ((if (k == NameKind.free && env.scope.kind == .function && env.kindOf n == some .cell) = true then (n, NameKind.cell) else (n, k)) :: (r.map fun (n, k) => if (k == NameKind.free && env.scope.kind == .function && env.kindOf n == some .cell) then (n, NameKind.cell) else (n, k))) = some .free := h
    clear h
    cases hx : y == n with
    | true =>
      have e : y = n := by simpa using hx
      subst e
      by_cases hc' : (k == NameKind.free && env.scope.kind == .function && env.kindOf y == some .cell) = true
      · have hk : k = .free := by
          have := (Bool.and_eq_true _ _ ▸ (Bool.and_eq_true _ _ ▸ hc').1).1
          simpa using this
        subst hk
        exact List.mem_cons_self
      · rw [if_neg hc'] at h'
        simp only [List.lookup_cons, beq_self_eq_true] at h'
        rcases h' with h' | h'
        · cases h'
          exact absurd rfl (hn _ List.mem_cons_self)
        · cases h'
          exact List.mem_cons_self
    | false =>
      by_cases hc' : (k == NameKind.free && env.scope.kind == .function && env.kindOf n == some .cell) = true
      · rw [if_pos hc'] at h'; simp only [List.lookup_cons, hx] at h'; exact List.mem_cons_of_mem _ (ih h')
      · rw [if_neg hc'] at h'; simp only [List.lookup_cons, hx] at h'; exact List.mem_cons_of_mem _ (ih h')
def cxC (X : Cx) (N : List Str) (sc : Scope) (cl : List (Str × Addr)) (C : Addr) (fp : List Addr) (s₃ : Shared) (H₃ : Hp) (xe : Value → Shared → Prop) : Cx :=
 { X with N := N, s₀ := s₃, H₀ := H₃, env := compEnvC sc cl C X.env, outer := X.stack, ex := fp, fn := fun _ => false, pn := [], xe := xe }
def sub (ix : List Nat) (σ : St) : St := ix.map fun i => (σ[i]?).join
theorem inv_comp {X : Cx} {pins : List (Addr × Obj)} {σ : St} {H : Hp} {s : Shared} {sc : Scope} {TN F : List Str} {ix : List Nat} {fp : List Addr} {h4 : Heap} {tk : Nat} {m : Str → Option Value} {xe : Value → Shared → Prop}
  (S : CScope X.env.scope sc TN F) (hix : ix.map (fun i => X.N[i]?) = F.map some) (I : Inv X pins σ H s) (hf : ∀ b ∈ fp, FpOk X pins H b) (ho : ∀ b ∈ fp, ∃ o, s.heap.get? b = some o)
  (hk : ∀ b o, s.heap.get? b = some o → h4.get? b = some o) (hn : h4.Ns s.heap.objs.size m) :
  Inv (cxC X (TN ++ F) sc (cloF X.env sc.names []) s.heap.objs.size fp s H xe) [] (List.replicate TN.length none ++ sub ix σ) H { s with heap := h4, toks := tk } := by
 have cl : ∀ x c, (cloF X.env sc.names []).lookup x = some c → X.env.cells.lookup x = some c := fun x c e => by
  rw [cloF_lookup] at e
  by_cases hx : (x, NameKind.free) ∈ sc.names
  ·rw [if_pos hx] at e
   obtain ⟨c', hc'⟩ := I.ok.has x (.inl (S.fr _ hx rfl).1)
   rw [hc'] at e ⊢
   exact e
  ·rw [if_neg hx] at e
   cases e
 have cl' : ∀ x, (x, NameKind.free) ∈ sc.names → (cloF X.env sc.names []).lookup x = X.env.cells.lookup x := fun x hx => by
  rw [cloF_lookup, if_pos hx]
  obtain ⟨c', hc'⟩ := I.ok.has x (.inl (S.fr _ hx rfl).1)
  rw [hc']
  rfl
 have hlen : ix.length = F.length := by
  have := congrArg List.length hix
  simpa using this
 refine ⟨⟨I.ok.mod, S.kind, I.ok.glob, I.ok.blt, Nat.le_refl _, fun x y c h1 h2 => I.ok.inj x y c (cl x c h1) (cl y c h2), fun x hx => ?_, fun x c z => (nomatch z), I.ok.hd, I.ok.frames, .inl rfl, fun b hb => ⟨?_, fun x c e => (hf b hb).2.2.2.2.1 x c (cl x c e)⟩,
  I.bs, Nat.le_trans I.ok.bsz I.sz, fun b o e hb => ?_, fun b hb hfs => ?_, I.stack, I.stkFree⟩, rfl, I.bare, Un.kept hk, ⟨m, hn, fun i x v h1 h2 h3 => ?_⟩, fun x c e => ?_, I.hok.fresh (Nat.le_refl _), fun x c e => I.freeC x c (cl x c e), fun p hp => absurd (show p ∈ ([] : List (Addr × Obj)) from hp) (by simp), I.hok.kept hk, ?_⟩
 ·have hx' : (x, NameKind.free) ∈ sc.names := relabel_from (env := X.env) S.nocell hx
  obtain ⟨c, hc⟩ := I.ok.has x (.inl (S.fr _ hx' rfl).1)
  exact ⟨c, (cl' x hx').trans hc⟩
 ·obtain ⟨o, e⟩ := ho b hb
  exact Nat.ne_of_lt (Heap.lt_size e)
 ·rcases (hf b hb).2.2.2.1 with z | z
  ·exact I.ok.noex b o e z
  ·exact absurd (Nat.lt_of_lt_of_le (Heap.lt_size e) (Nat.le_trans I.ok.bsz z)) (Nat.lt_irrefl _)
 ·rcases List.mem_cons.mp (I.stkSub b hfs) with z | z
  ·exact (hf b hb).2.1 z
  ·exact (hf b hb).2.2.1 z
 ·have hi : TN.length ≤ i := by
   apply Nat.le_of_not_lt
   intro hlt
   rw [List.getElem?_append_left (by simpa using hlt), List.getElem?_replicate] at h2
   split at h2 <;> cases h2
  rw [List.getElem?_append_right (by simpa using hi), List.length_replicate] at h2
  have h1' : F[i - TN.length]? = some x := by
   have : (TN ++ F)[i]? = some x := h1
   rw [List.getElem?_append_right hi] at this
   exact this
  have e3 := congrArg (fun l => l[i - TN.length]?) hix
  simp only [List.getElem?_map, h1', Option.map_some] at e3
  unfold sub at h2
  rw [List.getElem?_map] at h2
  cases ej : ix[i - TN.length]? with
  | none => rw [ej] at h2; cases h2
  | some k =>
   rw [ej] at h2 e3
   have h2' : (σ[k]?).join = some v := Option.some.inj h2
   have e3' : X.N[k]? = some x := Option.some.inj e3
   have hσ : σ[k]? = some (some v) := by
    cases e : σ[k]? with
    | none => rw [e] at h2'; cases h2'
    | some q =>
     rw [e] at h2'
     have : q = some v := h2'
     rw [this]
   have hfr := S.ff x (List.mem_of_getElem? h1')
   have hcell := (S.fr _ hfr rfl).1
   obtain ⟨m0, hn0, hl0⟩ := I.loc
   obtain ⟨u, r, l⟩ := hl0 k x v e3' hσ (.inr (.inl hcell))
   refine ⟨u, r, ?_⟩
   rcases l with ⟨l1, _⟩ | ⟨_, c, hc, o, ho', hd⟩
   ·have l1' : X.env.scope.names.lookup x = some .local := l1
    rw [hcell] at l1'
    cases l1'
   ·exact .inr ⟨.inl (relabel_free (env := X.env) S.okind hcell (S.fr _ hfr rfl).2), c, (cl' x hfr).trans hc, o, hk c o ho', hd⟩
 ·obtain ⟨v, o, ho', hd⟩ := I.cell x c (cl x c e)
  exact ⟨v, o, hk c o ho', hd⟩
 ·show _ = (TN ++ F).length
  rw [List.length_append, List.length_append, List.length_replicate]
  unfold sub
  rw [List.length_map, hlen]
def PTs (X : Cx) (ifs : List Expr) (tc : TT) : Prop :=
 ∀ (pins : List (Addr × Obj)) (s : Shared) (σ : St) (H : Hp) (Q : Bool → Hp → Prop), Inv X pins σ H s → tc σ H Q →
  wpAny (model X.prog X.w) X.A (forIn ifs true fun c r => if r = true then do let ok ← isTrue c X.env (eval c X.env); pure (ForInStep.yield ok) else pure (ForInStep.yield r)) (TP X pins σ Q) X.xe s
def tAll : TT := fun _ H Q => Q true H
theorem pts_nil {X : Cx} : PTs X [] tAll := fun _ _ _ H _ I h => wpAny_tests_nil ⟨H, I, h⟩
theorem pts_one {X : Cx} {c : Expr} {tc : TT} (hc : PT X c tc) : PTs X [c] tc := fun pins s σ H Q I h => wpAny_tests_one (hc pins s σ H Q I h)
def CGo (J : It) (D : Addr) (g : TG) (tc : TT) (te : TE) (Q : VK) (σ : St) (H : Hp) : Prop :=
 ∃ W : Nat → Nat → St → List V → Hp → Prop, (∃ m, W 0 m σ [] (upd H D (.lst []))) ∧ ∀ i m τ ys H, W i m τ ys H → H D = some (.lst ys) ∧
  ((J.stop i H ∧ Q (.ref D) H) ∨ (J.go i H ∧ ∀ v H', J.yld i H v H' → g v τ H' fun τ2 H2 => tc τ2 H2 fun b H3 =>
   if b = true then te τ2 H3 fun y H4 => H4 D = some (.lst ys) ∧ ys.length < sizeLine ∧ ∃ m', m' < m ∧ W (i + 1) m' τ2 (ys ++ [y]) (upd H4 D (.lst (ys ++ [y])))
   else ∃ m', m' < m ∧ W (i + 1) m' τ2 ys H3))
def tComp (wi : TI) (n : Nat) (ix : List Nat) (g : TG) (tc : TT) (te : TE) : TE := fun σ H Q => wi σ H fun J H1 => ∀ D, H1 D = none → CGo J D g tc te Q (List.replicate n none ++ sub ix σ) H1
theorem append_ok {X : Cx} {pins : List (Addr × Obj)} {σ : St} {H : Hp} {s : Shared} {D : Addr} {ys : List V} {y : V} {u : Value} {Q : Value → Shared → Prop} {E : Value → Shared → Prop} (I : Inv X pins σ H s) (hD : H D = some (.lst ys)) (hz : ys.length < sizeLine) (r : RelV y u)
  (h : ∀ s', Inv X pins σ (upd H D (.lst (ys ++ [y]))) s' → Q .none s') : wpAny (model X.prog X.w) X.A (call (.builtin "list.append") [.ref D, u]) Q E s := by
 obtain ⟨z, its, n, rr, hl, e⟩ := I.lstM hD
 refine call_meets F.slot_list_append ⟨_, e, rfl⟩ F.entry_list_append (F.args_list_append_2 _ _) (PySem.list_append D its.toArray n u (by rw [List.size_toArray]; omega)) ⟨e, ?_⟩
 refine h _ (I.lset (its' := its ++ [u]) hD e (by simp) (rr.append (.cons r .nil)) ?_)
 rw [List.length_append, List.length_singleton]
 omega
theorem comp_block {X : Cx} {pins : List (Addr × Obj)} {σ : St} {H : Hp} {s : Shared} {sc : Scope} {TN F : List Str} {ix : List Nat} {elt tg iter : Expr} {ifs : List Expr} {pos : Pos} {g : TG} {tc : TT} {te : TE} {J : It} {fp : List Addr} {it : Addr} {tn : Nat → Heap → Prop} {Q : VK}
  {RR : Value → Addr → Result → Shared → Prop} {E : Value → Shared → Prop}
  (S : CScope X.env.scope sc TN F) (hix : ix.map (fun i => X.N[i]?) = F.map some) (hc : X.calm = true) (I : Inv X pins σ H s) (T : Turn X.prog X.w X.K tg J fp it tn) (st : tn 0 s.heap) (hf : ∀ b ∈ fp, FpOk X pins H b)
  (hg : ∀ cl C fp s3 H3 xe, PG (cxC X (TN ++ F) sc cl C fp s3 H3 xe) tg g) (ht : ∀ cl C fp s3 H3 xe, PTs (cxC X (TN ++ F) sc cl C fp s3 H3 xe) ifs tc) (he : ∀ cl C fp s3 H3 xe, PE (cxC X (TN ++ F) sc cl C fp s3 H3 xe) elt te)
  (hW : ∀ D, H D = none → CGo J D g tc te Q (List.replicate TN.length none ++ sub ix σ) H)
  (fin : ∀ D C H' s', Inv X pins σ H' s' → (∃ m, s'.heap.Ns C m) → H' C = none → C ≠ X.env.locals → X.s₀.heap.objs.size ≤ C → (∀ x c, X.env.cells.lookup x = some c → c ≠ C) → (∀ p ∈ X.pn ++ pins, p.1 ≠ C) → Q (.ref D) H' → RR (.ref D) C (.ok .next) s') :
  wpAny (model X.prog X.w) X.A (newList []) (fun acc s₃ => wpAny (model X.prog X.w) X.A (newFunctionEnv sc X.env.globals (cloF X.env sc.names []) [] X.env.qual none .none (some X.env)) (fun cenv s₄ =>
   codeAny (model X.prog X.w) X.A (.compStart (.ListComp elt [⟨tg, iter, ifs, 0⟩] sc pos) 0 (.ref it) acc { cenv with scope := relabel sc X.env }) (RR acc cenv.locals) s₄) E s₃) E s := by
 have hfo : ∀ b ∈ fp, ∃ o, s.heap.get? b = some o := fun b hb => let ⟨o, e, _⟩ := T.obj 0 _ st b hb; ⟨o, e⟩
 refine wpAny_newObj_type ?_
 obtain ⟨W, ⟨m0, w0⟩, go⟩ := hW s.heap.objs.size I.fresh
 have I3 : Inv X pins σ (upd H s.heap.objs.size (.lst [])) { s with heap := s.heap.push { cls := .type "list", data := .seq ([] : List Value).toArray } } := I.lnew (its := []) (ys := []) (t' := s.toks) .nil (Nat.zero_le _)
 generalize hs3 : ({ s with heap := s.heap.push { cls := .type "list", data := .seq ([] : List Value).toArray } } : Shared) = s3 at I3
 have hk3 : ∀ b o, s.heap.get? b = some o → s3.heap.get? b = some o := fun b o e => by
  rw [← hs3]
  exact Heap.get?_push_of_some _ e
 have hf3 : ∀ b ∈ fp, FpOk X pins (upd H s.heap.objs.size (.lst [])) b := fun b hb => by
  obtain ⟨o, e⟩ := hfo b hb
  exact ⟨by rw [upd_ne (Nat.ne_of_lt (Heap.lt_size e))]; exact (hf b hb).1, (hf b hb).2⟩
 have st3 : tn 0 s3.heap := T.keep 0 _ _ st fun b hb o e => hk3 b o e
 show wpAny _ _ _ _ _ s3
 refine wpAny_newFunctionEnv S.nocell (by intro y hy; simp at hy) (fun h4 hn4 hsb => ?_) S.kind
 have hk4 : ∀ b o, s3.heap.get? b = some o → h4.get? b = some o := fun b o e => (hsb.2 b (Nat.ne_of_lt (Heap.lt_size e))).trans (Heap.get?_push_of_some _ e)
 generalize hR : RR (.ref s.heap.objs.size) s3.heap.objs.size = R
 have loop : ∀ s4 : Shared, s4 = { s3 with heap := h4, toks := s3.toks + ([] : List (Str × Value)).length } →
   codeAny (model X.prog X.w) X.A (.compLoop (.ListComp elt [⟨tg, iter, ifs, 0⟩] sc pos) 0 (.ref it) (.ref s.heap.objs.size) (compEnvC sc (cloF X.env sc.names []) s3.heap.objs.size X.env)) R s4 := by
  rintro s4 rfl
  let X' : Cx := cxC X (TN ++ F) sc (cloF X.env sc.names []) s3.heap.objs.size fp s3 (upd H s.heap.objs.size (.lst [])) (notedBy (model X.prog X.w) X.A (compEnvC sc (cloF X.env sc.names []) s3.heap.objs.size X.env) fun e s' => R (.error e) s')
  have I4 : Inv X' [] (List.replicate TN.length none ++ sub ix σ) (upd H s.heap.objs.size (.lst [])) { s3 with heap := h4, toks := s3.toks + ([] : List (Str × Value)).length } :=
   inv_comp S hix I3 hf3 (fun b hb => let ⟨o, e⟩ := hfo b hb; ⟨o, hk3 b o e⟩) hk4 hn4
  have fpx : ∀ {H' : Hp}, (∀ b ∈ fp, H' b = none) → ∀ b ∈ fp, FpOk X' [] H' b := fun {H'} hn b hb => by
   refine ⟨hn b hb, (I4.ok.exf b hb).1, fun z => I4.ok.exfs b hb z, .inl hb, fun x c e => (I4.ok.exf b hb).2 x c e, fun p hp => absurd (show p ∈ ([] : List (Addr × Obj)) from hp) (by simp)⟩
  refine comp_loop (fun n s' => ∃ i τ ys H', Inv X' [] τ H' s' ∧ tn i s'.heap ∧ (∀ b ∈ fp, H' b = none) ∧ W i n τ ys H') ?_ m0 ⟨0, _, [], _, I4, T.keep 0 _ _ st3 fun b hb o e => hk4 b o e, fun b hb => (hf3 b hb).1, w0⟩
  rintro n s5 ⟨i, τ, ys, H5, I5, st5, fr5, w5⟩
  obtain ⟨hD, hgo⟩ := go i n τ ys H5 w5
  rcases hgo with ⟨stop, q⟩ | ⟨hgo, step⟩
  ·refine thn (T.done X' rfl rfl rfl hc i [] s5 τ H5 X'.xe I5 (fpx fr5) st5 stop) fun r s6 ⟨hr, I6⟩ => ?_
   subst hr
   show R (.ok .next) s6
   rw [← hR]
   have J6 : Inv X pins σ H5 s6 := I3.call' (ch := fp) I6.os I6.base I6.hok I6.bare fun b hb => ⟨(hf3 b hb).2.2.2.1, (hf3 b hb).2.1, (hf3 b hb).2.2.2.2.1, (hf3 b hb).2.2.2.2.2⟩
   refine fin s.heap.objs.size s3.heap.objs.size H5 s6 J6 (let ⟨m, hn, _⟩ := I6.loc; ⟨m, hn⟩) I6.free (Nat.ne_of_gt I3.lt) I3.sz (fun x c e z => ?_) (fun p hp z => ?_) q
   ·obtain ⟨v, o, ho, _⟩ := I3.cell x c e
    exact absurd (Heap.lt_size ho) (by rw [z]; exact Nat.lt_irrefl _)
   ·exact absurd (Heap.lt_size (I3.pin p hp).1) (by rw [z]; exact Nat.lt_irrefl _)
  ·refine thn (T.item X' rfl rfl rfl hc i [] s5 τ H5 X'.xe I5 (fpx fr5) st5 hgo) fun r s6 ⟨u, hr, h6⟩ => ?_
   subst hr
   refine thn h6 fun _ s7 ⟨v, H7, I7, r7, y7, st7, fr7⟩ => ?_
   have I7' := I7.pinned (fpx fr7) (T.obj _ _ st7)
   refine thn (hg _ _ _ _ _ _ _ s7 τ H7 v u _ I7' r7 (step v H7 y7)) fun _ s8 ⟨τ8, H8, I8, q8⟩ => ?_
   refine thn (ht _ _ _ _ _ _ _ s8 τ8 H8 _ I8 q8) fun ok s9 ⟨H9, I9, q9⟩ => ?_
   have again : ∀ {ys' : List V} {H' : Hp} {s' : Shared}, Inv X' ([] ++ pinsAt fp s7.heap) τ8 H' s' → (∃ m', m' < n ∧ W (i + 1) m' τ8 ys' H') → ∃ m, m < n ∧ ∃ i τ ys H'', Inv X' [] τ H'' s' ∧ tn i s'.heap ∧ (∀ b ∈ fp, H'' b = none) ∧ W i m τ ys H'' := fun {ys' H' s'} I' ⟨m', hm, w'⟩ => by
    refine ⟨m', hm, i + 1, τ8, ys', H', I'.unpinned, T.keep _ _ _ st7 fun b hb o e => (I'.pin (b, o) (List.mem_append_right _ (List.mem_append_right _ (mem_pinsAt hb e)))).1, fun b hb => ?_, w'⟩
    obtain ⟨o, e, d⟩ := T.obj _ _ st7 b hb
    exact (I'.pin (b, o) (List.mem_append_right _ (List.mem_append_right _ (mem_pinsAt hb e)))).2.1
   cases ok with
   | false =>
    exact again I9 q9
   | true =>
    refine thn (he _ _ _ _ _ _ _ s9 τ8 H9 _ I9 q9) fun x s10 ⟨y, H10, I10, r10, hD10, hz10, q10⟩ => ?_
    exact append_ok (X := X') I10 hD10 hz10 r10 fun s11 I11 => again I11 q10
 subst hR
 exact codeAny_compStart_list (loop _ rfl) (T.self X.A 0 _ _ _ (T.keep 0 _ _ st3 fun b hb o e => hk4 b o e) (loop _ rfl))
section
variable {X : Cx} {sc : Scope} {TN F : List Str} {ix : List Nat} {elt tg iter : Expr} {ifs : List Expr} {pos : Pos} {g : TG} {tc : TT} {te : TE} {wi : TI}
theorem closure_of (S : CScope X.env.scope sc TN F) {pins : List (Addr × Obj)} {σ : St} {H : Hp} {s : Shared} (I : Inv X pins σ H s) : closureFor sc X.env = pure (cloF X.env sc.names []) :=
 closure_eq fun x hx hk => I.ok.has x.1 (.inl (S.fr x hx hk).1)
theorem pe_comp (S : CScope X.env.scope sc TN F) (hix : ix.map (fun i => X.N[i]?) = F.map some) (hc : X.calm = true) (hi : PI X tg iter wi)
  (hg : ∀ cl C fp s3 H3 xe, PG (cxC X (TN ++ F) sc cl C fp s3 H3 xe) tg g) (ht : ∀ cl C fp s3 H3 xe, PTs (cxC X (TN ++ F) sc cl C fp s3 H3 xe) ifs tc) (he : ∀ cl C fp s3 H3 xe, PE (cxC X (TN ++ F) sc cl C fp s3 H3 xe) elt te)
  (hs : ∀ x, foldedSetIterable iter X.env x = pure x := by intro _; rfl) : PE X (.ListComp elt [⟨tg, iter, ifs, 0⟩] sc pos) (tComp wi TN.length ix g tc te) := by
 intro pins s σ H Q I h
 rw [eval_ListComp]
 refine wpAny_comprehension_free (use := none) rfl hs (closure_of S I) S.kind S.names (thn (hi pins s σ H _ I h) fun v s1 h1 => thn h1 fun itv s2 h2 => ?_)
 obtain ⟨it, fp, tn, J, H2, e, I2, T, st2, f2, q2⟩ := h2
 subst e
 refine comp_block (RR := fun acc C => compPost (model X.prog X.w) X.A X.xe none (EP X pins σ Q) acc C) S hix hc I2 T st2 f2 hg ht he q2 fun D C H' s' I' hn hC1 hC2 hC3 hC4 hC5 q => ?_
 obtain ⟨m, hn⟩ := hn
 exact ⟨m, hn, fun h' hs' => ⟨.ref D, H', I'.turned (t' := s'.toks) (fun b o hb e => (hs'.2 b hb).trans e) hC1 hC2 (.inr hC3) hC4 hC5, rfl, q⟩⟩
end
def seqAt (H : Hp) (p : Addr) : Option (List V) := match H p with
 | some (.lst xs) => some xs
 | some (.tup xs) => some xs
 | _ => none
def dAt (H : Hp) (x y : V) : Option V := match x, y with
 | .ref p, .int i => (seqAt H p).bind fun xs => atI xs i
 | _, _ => none
def rIxd : R2 := fun x y H Q => ∃ v, dAt H x y = some v ∧ Q v H
section
variable {X : Cx}
theorem ix_d : IxR X rIxd := by
 intro value slice pins s σ H x y v u Q I rx ry h hs
 refine ix_seq value slice pins s σ H x y v u Q I rx ry ?_ hs
 obtain ⟨z, e, q⟩ := h
 unfold dAt at e
 split at e
 case h_2 => cases e
 case h_1 p i =>
  unfold seqAt at e
  split at e
  case h_1 xs hp => exact .inl ⟨_, xs, _, z, rfl, rfl, SqL.of hp, e, q⟩
  case h_2 xs hp => exact .inr (.inl ⟨_, xs, _, z, rfl, rfl, SqT.of hp, e, q⟩)
  case h_3 => cases e
def dSet (H : Hp) (o i v : V) : Option Hp := match o, i with
 | .ref p, .int k => match H p with
  | some (.lst xs) => (ixN xs.length k).map fun j => upd H p (.lst (xs.set j v))
  | _ => none
 | _, _ => none
def rSetd : V → V → V → Hp → (Hp → Prop) → Prop := fun o i v H Q => ∃ H', dSet H o i v = some H' ∧ Q H'
theorem set_d : PSet X rSetd := by
 intro pins s σ H o i v ov iv u Q I ro ri rv h
 refine set_list pins s σ H o i v ov iv u Q I ro ri rv ?_
 obtain ⟨H', e, q⟩ := h
 unfold dSet at e
 split at e
 case h_2 => cases e
 case h_1 p k =>
  split at e
  case h_2 => cases e
  case h_1 xs hp =>
   cases ej : ixN xs.length k with
   | none => rw [ej] at e; cases e
   | some j =>
    rw [ej] at e
    cases e
    exact ⟨p, xs, k, j, rfl, rfl, hp, ej, q⟩
end
section
variable {σ : St} {H : Hp} {Q : VK} {D : Ends} {t u : TS} {te ta tb : TE} {tr : TA} {g : TG} {r : R2} {x y v : V} {c : TT} {QB : Bool → Hp → Prop} {QL : List V → Hp → Prop} {QG : St → Hp → Prop} {n : Nat}
theorem w_seq (h : t { D with nx := u D } σ H) : tSeq t u D σ H := h
theorem w_next (h : D.nx σ H) : tNext D σ H := h
theorem w_asg (h : te σ H fun x H1 => g x σ H1 D.nx) : tAsg te g D σ H := h
theorem w_gname {i : Nat} (h : QG (σ.set i (some v)) H) : gName i v σ H QG := h
theorem w_op (h : ta σ H fun x H1 => tb σ H1 fun y H2 => r x y H2 Q) : tOp r ta tb σ H Q := h
theorem w_var {i : Nat} (e : σ[i]? = some (some v)) (h : Q v H) : tVar i σ H Q := ⟨v, e, h⟩
theorem w_c (h : Q v H) : tC v σ H Q := h
theorem w_rI0 {k : Int → Int → V} {i j : Int} (h : Q (k i j) H) : rI0 k (.int i) (.int j) H Q := ⟨i, j, rfl, rfl, h⟩
theorem w_rI {C : Int → Int → Prop} {k : Int → Int → V} {i j : Int} (hc : C i j) (h : Q (k i j) H) : rI C k (.int i) (.int j) H Q := ⟨i, j, rfl, rfl, hc, h⟩
theorem w_ifs {b : TS} (h : c σ H fun b' H1 => if b' = true then t D σ H1 else b D σ H1) : tIfS c t b D σ H := h
theorem w_ife (h : c σ H fun b' H1 => if b' = true then ta σ H1 Q else tb σ H1 Q) : tIf c ta tb σ H Q := h
theorem w_test (h : te σ H fun x H' => ∃ k, x = .bl k ∧ QB k H') : tTest te σ H QB := h
theorem w_tb (h : te σ H fun x H' => ∃ k, x = .bl k ∧ QB k H') : tB te σ H QB := h
theorem w_bl {b : Bool} {P : Bool → Prop} (h : P b) : ∃ k, V.bl b = .bl k ∧ P k := ⟨b, rfl, h⟩
theorem w_not (h : c σ H fun b H1 => QB (!b) H1) : tNot c σ H QB := h
theorem w_ret (h : te σ H D.rt) : tRet te D σ H := h
theorem w_nil (h : QL [] H) : tNil σ H QL := h
theorem w_cons (h : te σ H fun x H1 => tr σ H1 fun xs H2 => QL (x :: xs) H2) : tCons te tr σ H QL := h
theorem w_lst (h : tr σ H fun xs H1 => xs.length ≤ sizeLine ∧ ∀ p, H1 p = none → Q (.ref p) (upd H1 p (.lst xs))) : tLst tr σ H Q := h
theorem w_tup (h : tr σ H fun xs H1 => xs.length ≤ sizeLine ∧ ∀ p, H1 p = none → Q (.ref p) (upd H1 p (.tup xs))) : tTup tr σ H Q := h
theorem w_cb {r : List V → Hp → VK → Prop} (h : tr σ H fun vs H1 => r vs H1 Q) : tCB r tr σ H Q := h
theorem w_call {sp : Sp} {dvs : List V} {E : XK} (h : tr σ H fun vs H1 => sp (vs ++ dvs) H1 Q E) : tCall sp dvs E tr σ H Q := h
theorem w_gsub {to ti : TE} {ts : TSet} (h : to σ H fun o H1 => ti σ H1 fun i H2 => ts o i v H2 fun H3 => QG σ H3) : gSub to ti ts v σ H QG := h
theorem w_ixL {p : Addr} {xs : List V} {i : Int} (hp : H p = some (.lst xs)) (e : atI xs i = some v) (h : Q v H) : rIxd (.ref p) (.int i) H Q := ⟨v, by simp only [dAt, seqAt, hp, Option.bind_some, e], h⟩
theorem w_set {p : Addr} {xs : List V} {i : Int} {j : Nat} {QH : Hp → Prop} (hp : H p = some (.lst xs)) (e : ixN xs.length i = some j) (h : QH (upd H p (.lst (xs.set j v)))) : rSetd (.ref p) (.int i) v H QH :=
 ⟨_, by simp only [dSet, hp, e, Option.map_some], h⟩
theorem w_or {c d : TT} (h : c σ H fun b H1 => if b = true then QB true H1 else d σ H1 QB) : tOr c d σ H QB := h
theorem iteD {p A B : Prop} [Decidable p] (h1 : p → A) (h2 : ¬ p → B) : if decide p = true then A else B := by
 by_cases h : p
 ·rw [decide_eq_true h, if_pos rfl]
  exact h1 h
 ·rw [decide_eq_false h, if_neg Bool.false_ne_true]
  exact h2 h
end
def Has (P : Program) (w : World) (K : PySem.W.Frag) (mg : Str → Option Value) (base : Heap) (k : Nat) (x : Str) (ps : List Str) (sp : Sp) : Prop :=
 ∃ f fd, FnOk P w K mg base CX0 k f fd ps sp ∧ mg x = some (.ref f) ∧ PySem.W.keepIn K (.ref f) = true ∧ Binds K fd ps []
theorem pe_fn {X : Cx} {k j : Nat} {x : Str} {ps : List Str} {sp : Sp} {e : Expr} {es : List Expr} {t : TA} {p pos : Pos} (h : Has X.prog X.w X.K X.mg X.base k x ps sp) (hr : Room j X.A) (hkj : k ≤ j) (ha : PA X (e :: es) t) (hg : Gl X x := by rfl)
  (hdb : (x == ("__debug__" : Str)) = false := by decide) (he : starEach (e :: es) X.env = (false, eval e X.env) :: starEach es X.env := by rfl) (hpl : (backTo pos (starEach es X.env)).any (·.1) = false := by rfl) :
  PE X (.Call (.Name x p) (e :: es) [] pos) (tCall sp [] E0 t) := by
 obtain ⟨f, fd, F, hm, hk, hb⟩ := h
 exact pe_call F (hr.mono hkj) hg hm hk hb .nil pass0 ha hdb he hpl
section
variable {lo : Int} {n : Nat} {D : Addr} {te : TE} {tc : TT} {Q : VK} {ρ : St} {H : Hp}
theorem cgo_range (Pv : Nat → List V → Hp → Prop) (h0 : Pv 0 [] (upd H D (.lst [])))
  (hs : ∀ i ys H', i < n → Pv i ys H' → H' D = some (.lst ys) → ∀ (R : V → Hp → Prop) (S : Hp → Prop), (∀ y H4, H4 D = some (.lst ys) → ys.length < sizeLine → Pv (i + 1) (ys ++ [y]) (upd H4 D (.lst (ys ++ [y]))) → R y H4) → (∀ H3, H3 D = some (.lst ys) → Pv (i + 1) ys H3 → S H3) →
   tc (some (.int (lo + i)) :: ρ) H' fun b H3 => if b = true then te (some (.int (lo + i)) :: ρ) H3 R else S H3)
  (hd : ∀ ys H', Pv n ys H' → H' D = some (.lst ys) → Q (.ref D) H') : CGo (Itr lo n) D (gName 0) tc te Q (none :: ρ) H := by
 refine ⟨fun i m τ ys H' => m = n - i ∧ i ≤ n ∧ (∃ tv, τ = tv :: ρ) ∧ Pv i ys H' ∧ H' D = some (.lst ys), ⟨n, by omega, Nat.zero_le _, ⟨_, rfl⟩, h0, upd_same⟩, ?_⟩
 rintro i m τ ys H' ⟨rfl, hi, ⟨tv, rfl⟩, hp, hD⟩
 refine ⟨hD, ?_⟩
 by_cases hlt : i < n
 ·refine .inr ⟨hlt, ?_⟩
  rintro v H'' ⟨rfl, rfl⟩
  show tc (some (.int (lo + i)) :: ρ) _ _
  exact hs i ys _ hlt hp hD _ _ (fun y H4 a b c => ⟨a, b, n - (i + 1), by omega, rfl, hlt, ⟨_, rfl⟩, c, upd_same⟩) fun H3 a c => ⟨n - (i + 1), by omega, rfl, hlt, ⟨_, rfl⟩, c, a⟩
 ·have e : i = n := by omega
  subst e
  exact .inl ⟨Nat.le_refl _, hd ys _ hp hD⟩
end
theorem w_all {σ : St} {H : Hp} {Q : Bool → Hp → Prop} (h : Q true H) : tAll σ H Q := h
def relabelS (sc o : Scope) : Scope :=
 { sc with names := sc.names.map fun (n, k) => if (k == .free && o.kind == .function && o.names.lookup n == some .cell) then (n, .cell) else (n, k) }
instance {sc : Scope} {x : Str} : Decidable (Vis sc x) := by unfold Vis; infer_instance
structure BScope (o sc : Scope) (TN F G : List Str) : Prop extends CScope o sc TN F where
 nd : (TN ++ F).Nodup
 vis : ∀ x ∈ TN ++ F, Vis (relabelS sc o) x
 loc : ∀ x ∈ TN, (relabelS sc o).names.lookup x = some .local
 gl : ∀ x ∈ G, (relabelS sc o).names.lookup x = some .globalImplicit
section
variable {X : Cx} {sc : Scope} {TN F G : List Str} {cl : List (Str × Addr)} {C : Addr} {fp : List Addr} {s3 : Shared} {H3 : Hp} {xe : Value → Shared → Prop} {x : Str} {pos : Pos}
theorem pvb (S : BScope X.env.scope sc TN F G) (i : Nat) (hN : (TN ++ F)[i]? = some x := by rfl) (hd : (x == ("__debug__" : Str)) = false := by decide) (hcd : (x == ("__classdict__" : Str)) = false := by decide) : PE (cxC X (TN ++ F) sc cl C fp s3 H3 xe) (.Name x pos) (tVar i) :=
 pe_var hN (S.vis x (List.mem_of_getElem? hN)) hd hcd
theorem pgb (S : BScope X.env.scope sc TN F G) (i : Nat) (hN : (TN ++ F)[i]? = some x := by rfl) (hT : TN[i]? = some x := by rfl) : PG (cxC X (TN ++ F) sc cl C fp s3 H3 xe) (.Name x pos) (gName i) :=
 pg_name S.nd hN (.inl (S.loc x (List.mem_of_getElem? hT))) (.inr (S.loc x (List.mem_of_getElem? hT)))
end
instance {sc : Scope} {x : Str} : Decidable (Loc sc x) := by unfold Loc; infer_instance
structure Nm (N : List Str) (sc : Scope) : Prop where
 nd : N.Nodup
 loc : ∀ x ∈ N, Loc sc x
section
variable {X : Cx} {x : Str} {pos : Pos}
theorem Loc.vis {sc : Scope} (h : Loc sc x) : Vis sc x := h.elim .inl fun z => .inr (.inl z)
theorem pvd (M : Nm X.N X.env.scope) (i : Nat) (hN : X.N[i]? = some x := by rfl) (hd : (x == ("__debug__" : Str)) = false := by decide) (hcd : (x == ("__classdict__" : Str)) = false := by decide) : PE X (.Name x pos) (tVar i) :=
 pe_var hN (M.loc x (List.mem_of_getElem? hN)).vis hd hcd
theorem ps_setD {e : Expr} {te : TE} {pos' : Pos} (M : Nm X.N X.env.scope) (i : Nat) (he : PE X e te) (hi : X.N[i]? = some x := by rfl) (hs : swapsWith e (some (.Name x pos')) pos.line X.env = pure false := by rfl) (hf : X.fn x = true := by rfl) :
  PS X (.Assign [.Name x pos'] e pos) (tAsg te (gName i)) := ps_set M.nd hi (M.loc x (List.mem_of_getElem? hi)) he hs (.inl hf)
theorem pgd (M : Nm X.N X.env.scope) (i : Nat) (hi : X.N[i]? = some x := by rfl) (hf : X.fn x = true := by rfl) : PG X (.Name x pos) (gName i) := pg_name M.nd hi (M.loc x (List.mem_of_getElem? hi)) (.inl hf)
end
section
variable {X : Cx} {l rest : List Stmt} {st : Stmt} {t u : TS} {e e' : Expr} {te : TE}
end
section
variable {ta : TA} {tl : TE} {n : Nat} {ix : List Nat} {g : TG} {tc : TT} {te : TE} {σ : St} {H : Hp} {Q : VK}
theorem w_compR (h : ta σ H fun vs H1 => ∃ j : Int, vs = [.int j] ∧ -(2 ^ 62) ≤ j ∧ j < 2 ^ 62 ∧ ∀ D, H1 D = none → CGo (Itr 0 j.toNat) D g tc te Q (List.replicate n none ++ sub ix σ) H1) : tComp (iRng1 ta) n ix g tc te σ H Q := h
end
def ForJ (J : It) (g : TG) (tb : TS) (D : Ends) (σ : St) (H1 : Hp) : Prop := ∃ W : Nat → Nat → St → Hp → Prop, (∃ m, W 0 m σ H1) ∧ ∀ i m σ H, W i m σ H →
 (J.stop i H ∧ D.nx σ H) ∨ (J.go i H ∧ ∃ N : St → Hp → Prop, (∀ σ' H', N σ' H' → ∃ m', m' < m ∧ W (i + 1) m' σ' H') ∧ ∀ x H', J.yld i H x H' → g x σ H' fun σ2 H2 => tb { D with nx := N, ct := N, bk := D.nx } σ2 H2)
theorem w_forR {ta : TA} {g : TG} {tb : TS} {D : Ends} {σ : St} {H : Hp} (h : ta σ H fun vs H1 => ∃ j : Int, vs = [.int j] ∧ -(2 ^ 62) ≤ j ∧ j < 2 ^ 62 ∧ ForJ (Itr 0 j.toNat) g tb D σ H1) : tFor (iRng1 ta) g tb D σ H := h
theorem w_forL {K : PySem.W.Frag} {tl : TE} {g : TG} {tb : TS} {D : Ends} {σ : St} {H : Hp} (h : tl σ H fun x H1 => ∃ a, x = .ref a ∧ (∃ xs, SqL K H1 a xs) ∧ ForJ (Itl K a) g tb D σ H1) : tFor (iList K tl) g tb D σ H := h
def isStar : Expr → Bool
 | .Starred .. => true
 | _ => false
theorem star1 {e : Expr} {es : List Expr} {env : Env} (h : isStar e = false) : starEach (e :: es) env = (false, eval e env) :: starEach es env := by
 cases e <;> first | rfl | cases h
theorem star_any {env : Env} {pos : Pos} : ∀ {es : List Expr}, es.all (fun e => !isStar e) = true → (backTo pos (starEach es env)).any (·.1) = false
 | [], _ => rfl
 | e :: es, h => by
  rw [List.all_cons, Bool.and_eq_true] at h; rw [star1 (by simpa using h.1)]
  cases es with
  | nil => rfl
  | cons a r =>
   have ih := star_any (env := env) (pos := pos) (es := a :: r) h.2
   rw [star1 (by simpa using (by simpa using h.2 : isStar a = false ∧ _).1)] at ih ⊢
   exact ih
section
variable {X : Cx} {e a : Expr} {es : List Expr} {te : TE} {t ta : TA} {x : Str} {p pos : Pos} {tg : Expr} {id T : String} {r : List V → Hp → VK → Prop}
theorem pa_c (ha : PE X e te) (hr : PA X es t) (h : isStar e = false := by rfl) : PA X (e :: es) (tCons te t) := pa_cons ha hr (star1 h)
theorem pi_r1 (hm : X.mg "range" = none) (ha : PA X [a] ta) (hg : Gl X "range" := by rfl) (h : isStar a = false := by rfl) : PI X tg (.Call (.Name "range" p) [a] [] pos) (iRng1 ta) := pi_range1 hg hm ha (star1 h)
theorem pe_cB (hc : CallR X (.builtin id) r) (hm : X.mg x = none) (hv : bootBuiltins x = some (.builtin id)) (ha : PA X (e :: es) t) (hg : Gl X x := by rfl) (h : isStar e = false := by rfl) (h2 : es.all (fun e => !isStar e) = true := by rfl) (hn : x ≠ "__name__" := by decide) (hdb : (x == ("__debug__" : Str)) = false := by decide) :
  PE X (.Call (.Name x p) (e :: es) [] pos) (tCB r t) := pe_callB hc hg hm hv ha hn hdb (star1 h) (star_any h2)
theorem pe_cT (hc : CallR X (.type T) r) (hm : X.mg x = none) (hv : bootBuiltins x = some (.type T)) (ha : PA X (e :: es) t) (hg : Gl X x := by rfl) (h : isStar e = false := by rfl) (h2 : es.all (fun e => !isStar e) = true := by rfl) (hn : x ≠ "__name__" := by decide) (hdb : (x == ("__debug__" : Str)) = false := by decide) :
  PE X (.Call (.Name x p) (e :: es) [] pos) (tCB r t) := pe_callTy hc hg hm hv ha hn hdb (star1 h) (star_any h2)
theorem pe_f {k j : Nat} {ps : List Str} {sp : Sp} (h : Has X.prog X.w X.K X.mg X.base k x ps sp) (hr : Room j X.A) (hkj : k ≤ j) (ha : PA X (e :: es) t) (hg : Gl X x := by rfl) (h1 : isStar e = false := by rfl) (h2 : es.all (fun e => !isStar e) = true := by rfl)
  (hdb : (x == ("__debug__" : Str)) = false := by decide) : PE X (.Call (.Name x p) (e :: es) [] pos) (tCall sp [] E0 t) := pe_fn h hr hkj ha hg hdb (star1 h1) (star_any h2)
end
end L2
namespace L2
theorem pa_1 {X : Cx} {e : PySem.Expr} {te : TE} (ha : PE X e te) (h : isStar e = false := by rfl) : PA X [e] (tCons te tNil) := pa_c ha pa_nil h
theorem pa_2 {X : Cx} {e e' : PySem.Expr} {te te' : TE} (ha : PE X e te) (hb : PE X e' te') (h : isStar e = false := by rfl) (h' : isStar e' = false := by rfl) : PA X [e, e'] (tCons te (tCons te' tNil)) := pa_c ha (pa_1 hb h') h
end L2
namespace L2
open PySem PySem.Spec PyProof.Rows
theorem w_drop {te : TE} {D : Ends} {σ : St} {H : Hp} (h : te σ H fun _ H1 => D.nx σ H1) : tDrop te D σ H := h
theorem w_bm {K : PySem.W.Frag} {T : String} {r : V → List V → Hp → VK → Prop} {to : TE} {t : TA} {σ : St} {H : Hp} {Q : VK} (h : to σ H fun x H1 => tyV K T x H1 ∧ t σ H1 fun xs H2 => r x xs H2 Q) : tBM K T r to t σ H Q := h
mutual
inductive RdV (H : Hp) : V → PyData → Prop
 | non : RdV H .non .none
 | bl (b : Bool) : RdV H (.bl b) (.bool b)
 | int (i : Int) : RdV H (.int i) (.int i)
 | str (x : Str) : RdV H (.str x) (.str x)
 | lst {p : Addr} {xs : List V} {ds : List PyData} : H p = some (.lst xs) → RdVs H xs ds → RdV H (.ref p) (.list ds)
 | tup {p : Addr} {xs : List V} {ds : List PyData} : H p = some (.tup xs) → RdVs H xs ds → RdV H (.ref p) (.tuple ds)
 | ftup {p : Addr} {o : Obj} {xs : List V} {ds : List PyData} : H p = some (.frz o (.tup xs)) → RdVs H xs ds → RdV H (.ref p) (.tuple ds)
inductive RdVs (H : Hp) : List V → List PyData → Prop
 | nil : RdVs H [] []
 | cons {v : V} {d : PyData} {vs : List V} {ds : List PyData} : RdV H v d → RdVs H vs ds → RdVs H (v :: vs) (d :: ds)
end
section
variable {X : Cx} {pins : List (Addr × Obj)} {σ : St} {H : Hp} {s : Shared}
mutual
theorem RdV.reads (I : Inv X pins σ H s) {v : V} {d : PyData} : RdV H v d → ∀ {u : Value}, RelV v u → ∃ as, Reads s.heap u d as
 | .non, u, r => by
  cases r
  exact ⟨[], .none⟩
 | .bl b, u, r => by
  cases r
  exact ⟨[], .bool b⟩
 | .int i, u, r => by
  obtain ⟨t, rfl⟩ := r
  exact ⟨[], .int i t⟩
 | .str x, u, r => by
  obtain ⟨t, rfl⟩ := r
  exact ⟨[], .str x t⟩
 | .lst (p := p) hp h, u, r => by
  cases r
  obtain ⟨its, n, rv, e, z⟩ := I.lst hp
  obtain ⟨as, q⟩ := RdVs.reads I h rv
  exact ⟨p :: as, .list e rfl rfl (by simpa using q)⟩
 | .tup (p := p) hp h, u, r => by
  cases r
  obtain ⟨z, its, rv, o, e, c, n, d⟩ := I.hok p _ hp
  obtain ⟨as, q⟩ := RdVs.reads I h rv
  exact ⟨as, .tuple e c d (by simpa using q)⟩
 | .ftup (p := p) hp h, u, r => by
  cases r
  obtain ⟨_, z, its, rv, o, e, c, n, d⟩ := I.hok p _ hp
  obtain ⟨as, q⟩ := RdVs.reads I h rv
  exact ⟨as, .tuple e c d (by simpa using q)⟩
theorem RdVs.reads (I : Inv X pins σ H s) {vs : List V} {ds : List PyData} : RdVs H vs ds → ∀ {us : List Value}, Vals vs us → ∃ as, ReadsAll s.heap us ds as
 | .nil, us, r => by
  cases r
  exact ⟨[], .nil⟩
 | .cons h hs, us, r => by
  cases r with
  | cons r1 r2 =>
   obtain ⟨as, q⟩ := RdV.reads I h r1
   obtain ⟨bs, q2⟩ := RdVs.reads I hs r2
   exact ⟨as ++ bs, .cons q q2⟩
end
end
theorem rdInts {H : Hp} : ∀ (ns : List Int), RdVs H (ns.map V.int) (ns.map PyData.int)
 | [] => .nil
 | n :: ns => .cons (.int n) (rdInts ns)
section
variable {X : Cx} {k : Nat}
def rRepr : List V → Hp → VK → Prop := fun xs H Q => ∃ v d, xs = [v] ∧ RdV H v d ∧ d.showable = true ∧ d.hasDict = false ∧ d.depth ≤ 50 ∧ d.shown.length ≤ sizeLine ∧ Q (.str d.shown) H
theorem call_repr (hr : Room k X.A) : CallR X (.builtin "repr") rRepr := by
 intro pins s σ H xs us Q I r h
 obtain ⟨v, d, rfl, hv, h1, h2, h3, h4, q⟩ := h
 obtain ⟨u, rfl, ru⟩ := r.one
 have hu := hr.units
 cases hv with
 | non =>
  cases ru
  exact PySem.P.repr_of_none ⟨.str _, H, I.tok _, ⟨_, rfl⟩, q⟩
 | bl b =>
  cases ru
  exact PySem.P.repr_of_bool ⟨.str _, H, I.tok _, ⟨_, rfl⟩, q⟩
 | int i =>
  obtain ⟨t, rfl⟩ := ru
  exact PySem.P.repr_of_int (by simpa [PyData.showable] using h1) ⟨.str _, H, I.tok _, ⟨_, rfl⟩, q⟩
 | str x =>
  obtain ⟨t, rfl⟩ := ru
  exact PySem.P.repr_of_str ⟨.str _, H, I.tok _, ⟨_, rfl⟩, q⟩ h4
 | lst hp hs =>
  obtain ⟨as, ra⟩ := RdV.reads I (.lst hp hs) ru
  cases ru
  exact repr_of_reads' ra h1 (fun z => by rw [h2] at z; cases z) hr.gd (by omega) (fun _ _ e => e) (fun h' u tk hk => ⟨.str _, H, I.kept hk, ⟨_, rfl⟩, q⟩) h4
 | tup hp hs =>
  obtain ⟨as, ra⟩ := RdV.reads I (.tup hp hs) ru
  cases ru
  exact repr_of_reads' ra h1 (fun z => by rw [h2] at z; cases z) hr.gd (by omega) (fun _ _ e => e) (fun h' u tk hk => ⟨.str _, H, I.kept hk, ⟨_, rfl⟩, q⟩) h4
 | ftup hp hs =>
  obtain ⟨as, ra⟩ := RdV.reads I (.ftup hp hs) ru
  cases ru
  exact repr_of_reads' ra h1 (fun z => by rw [h2] at z; cases z) hr.gd (by omega) (fun _ _ e => e) (fun h' u tk hk => ⟨.str _, H, I.kept hk, ⟨_, rfl⟩, q⟩) h4
end
theorem eqv_ints : ∀ (ns ms : List Int), PyData.eqvAll (ns.map PyData.int) (ms.map PyData.int) = decide (ns = ms)
 | [], [] => by simp only [List.map_nil, PyData.eqvAll, decide_true]
 | [], m :: ms => by simp [PyData.eqvAll]
 | n :: ns, [] => by simp [PyData.eqvAll]
 | n :: ns, m :: ms => by
  simp only [List.map_cons, PyData.eqvAll, PyData.eqv, eqv_ints ns ms]
  by_cases h : n = m
  ·subst h; simp
  ·simp [h]
theorem lay_ints : ∀ (ns : List Int), PyData.canLayAll0 (ns.map PyData.int) = true
 | [] => rfl
 | n :: ns => by simp [PyData.canLayAll0, PyData.canLay0, lay_ints ns]
theorem depth_ints : ∀ (ns : List Int), PyData.depthAll (ns.map PyData.int) = 0
 | [] => rfl
 | n :: ns => by simp [PyData.depthAll, PyData.depth, depth_ints ns]
section
variable {X : Cx}
end
section
variable {X : Cx}
theorem ints_of : ∀ {ns : List Int} {us : List Value}, Vals (ns.map V.int) us → ∃ xs : List (Int × Tok), us = xs.map (fun q => Value.int q.1 q.2) ∧ xs.map (·.1) = ns
 | [], us, r => by
  cases r
  exact ⟨[], rfl, rfl⟩
 | n :: ns, us, r => by
  cases r with
  | cons r1 r2 =>
   obtain ⟨t, rfl⟩ := r1
   obtain ⟨xs, rfl, e⟩ := ints_of r2
   exact ⟨(n, t) :: xs, rfl, by simp [e]⟩
end
section
variable {prog : Program} {w : World} {A : Around} {E : Value → Shared → Prop} {s : Shared}
end
section
variable {prog : Program} {w : World} {A : Around} {E : Value → Shared → Prop} {s : Shared}
end
section
variable {X : Cx} {pins : List (Addr × Obj)} {σ : St} {H : Hp} {s : Shared}
end
section
variable {X : Cx} {es : List Expr} {kt : Nat} {pt : Pos}
end
section
variable {prog : Program} {w : World} {A : Around} {E : Value → Shared → Prop} {s : Shared}
end
section
variable {prog : Program} {w : World} {A : Around} {E : Value → Shared → Prop} {s : Shared}
end
section
variable {X : Cx} {es : List Expr} {kt : Nat} {pt : Pos}
end
structure Apart3 (z TI TO i1 i2 i3 l1 l2 l3 : Addr) : Prop where
 nz : TI ≠ z ∧ TO ≠ z ∧ i1 ≠ z ∧ i2 ≠ z ∧ i3 ≠ z
 nI : TI ≠ TO ∧ TI ≠ i1 ∧ TI ≠ i2 ∧ TI ≠ i3
 nO : TO ≠ i1 ∧ TO ≠ i2 ∧ TO ≠ i3
 ni : i1 ≠ i2 ∧ i1 ≠ i3 ∧ i2 ≠ i3
 l1 : l1 ≠ z ∧ l1 ≠ TO ∧ l1 ≠ i1 ∧ l1 ≠ i2 ∧ l1 ≠ i3
 l2 : l2 ≠ z ∧ l2 ≠ TO ∧ l2 ≠ i1 ∧ l2 ≠ i2 ∧ l2 ≠ i3
 l3 : l3 ≠ z ∧ l3 ≠ TO ∧ l3 ≠ i1 ∧ l3 ≠ i2 ∧ l3 ≠ i3
section
variable {prog : Program} {w : World} {A : Around} {E : Value → Shared → Prop} {s : Shared}
end
section
variable {D : Addr} {te : TE} {tc : TT} {Q : VK} {ρ : St} {H : Hp}
end
section
variable {ta : TA} {tl : TE} {n : Nat} {ix : List Nat} {g : TG} {tc : TT} {te : TE} {σ : St} {H : Hp} {Q : VK}
theorem w_compL {K : PySem.W.Frag} (h : tl σ H fun x H1 => ∃ a, x = .ref a ∧ (∃ xs, SqL K H1 a xs) ∧ ∀ D, H1 D = none → CGo (Itl K a) D g tc te Q (List.replicate n none ++ sub ix σ) H1) : tComp (iList K tl) n ix g tc te σ H Q := h
end
section
variable {X : Cx}
def rIsI (K : PySem.W.Frag) : List V → Hp → VK → Prop := fun xs H Q => ∃ v n t b, xs = [v, .ty n] ∧ TyOf K H v t ∧ PySem.W.kitOne K t (.type n) = some b ∧ Q (.bl b) H
theorem call_isI : CallR X (.builtin "isinstance") (rIsI X.K) := by
 intro pins s σ H xs us Q I r h
 obtain ⟨v, n, t, b, rfl, ty, e, q⟩ := h
 cases r with
 | cons r1 r2 =>
  obtain ⟨u, rfl, ru⟩ := Vals.one r2
  cases ru
  exact isinst_ok I r1 ty e fun tk => ⟨.bl b, H, I.kept (t' := tk) fun _ _ e => e, rfl, q⟩
end
section
variable {σ : St} {H : Hp} {Q : VK} {te ta tb tc : TE} {r r' : R2} {tl th : TO}
theorem w_sl {r : V → Option Int → Option Int → Hp → VK → Prop} (h : te σ H fun x H1 => tl σ H1 fun l H2 => th σ H2 fun u H3 => r x l u H3 Q) : tSl r te tl th σ H Q := h
theorem w_nopart {QO : Option Int → Hp → Prop} (h : QO none H) : tNoPart σ H QO := h
theorem w_part {QO : Option Int → Hp → Prop} (h : te σ H fun x H1 => ∃ i, x = .int i ∧ QO (some i) H1) : tPart te σ H QO := h
end
theorem pgb_tup {X : Cx} {sc : Scope} {N : List Str} {cl : List (Str × Addr)} {C : Addr} {fp : List Addr} {s3 : Shared} {H3 : Hp} {xe : Value → Shared → Prop} {es : List Expr} {k n : Nat} {pos : Pos} {t : TGs} (hc : X.calm = true) (h : PGs (cxC X N sc cl C fp s3 H3 xe) es t)
  (hn : (assignEach es (cxC X N sc cl C fp s3 H3 xe).env).length = n := by rfl) (hst : (assignEach es (cxC X N sc cl C fp s3 H3 xe).env).findIdx? (·.1) = none := by rfl) : PG (cxC X N sc cl C fp s3 H3 xe) (.Tuple es k pos) (gTup X.K n t) := pg_tup (X := cxC X N sc cl C fp s3 H3 xe) hc h hn hst
end L2
namespace G2
open PySem L2
theorem md {i j : Int} (h : 0 < j) : 0 ≤ i % j ∧ i % j < j := ⟨Int.emod_nonneg _ (Int.ne_of_gt h), Int.emod_lt_of_pos _ h⟩
theorem mulL {i j : Int} (h1 : -4000000000 < i) (h2 : i < 4000000000) : CMul i j := .inl ⟨by omega, by omega⟩
theorem mulR {i j : Int} (h1 : -4000000000 < j) (h2 : j < 4000000000) : CMul i j := .inr ⟨by omega, by omega⟩
theorem ofI {r : Int} (h : 0 ≤ r) : ∃ n : Nat, r = (n : Int) := ⟨r.toNat, by omega⟩
structure TK (H H' : Hp) : Prop where
 t : ∀ q xs, H q = some (.tup xs) → H' q = some (.tup xs)
 f : ∀ q o u, H q = some (.frz o u) → H' q = some (.frz o u)
section
variable {p l : Addr} {H H' H'' : Hp} {o : HO}
theorem TK.trans (a : TK H H') (b : TK H' H'') : TK H H'' := ⟨fun q xs e => b.t q xs (a.t q xs e), fun q o u e => b.f q o u (a.f q o u e)⟩
theorem TK.lst {ys : List V} (h : H l = some (.lst ys)) : TK H (upd H l o) := ⟨fun q xs e => by rw [upd_ne (ne_of e h (by intro z; cases z))]; exact e, fun q ob u e => by rw [upd_ne (ne_of e h (by intro z; cases z))]; exact e⟩
theorem TK.same (k : Same H H') : TK H H' := ⟨fun _ _ e => k _ _ e, fun _ _ _ e => k _ _ e⟩
end
theorem _root_.L2.Same.new {H H' : Hp} {l : Addr} {o : HO} (k : Same H H') (h : H' l = none) : Same H (upd H' l o) := fun b u e => by
 rw [upd_ne (ne_of_none (k b u e) h)]
 exact k b u e
theorem _root_.L2.Same.put {H H' : Hp} {l : Addr} {o : HO} (k : Same H H') (h : H l = none) : Same H (upd H' l o) := fun b u e => by
 rw [upd_ne (ne_of_none e h)]
 exact k b u e
def SqF (K : PySem.W.Frag) (H : Hp) (a : Addr) (xs : List V) : Prop :=
 (∃ o, H a = some (.frz o (.lst xs))) ∨ ∃ (o : Obj) (its : Array Value) (n : Nat), K.lookup a = some o ∧ o.cls = .type "list" ∧ o.dict = none ∧ o.data = .seq its n ∧ its.size ≤ sizeLine ∧ Vals xs its.toList
theorem SqF.sq {K : PySem.W.Frag} {H : Hp} {a : Addr} {xs : List V} : SqF K H a xs → SqL K H a xs
 | .inl ⟨o, e⟩ => .inl (.inr ⟨o, e⟩)
 | .inr h => .inr h
theorem SqF.of {K : PySem.W.Frag} {H : Hp} {a : Addr} {xs : List V} (O : Only H) : SqL K H a xs → SqF K H a xs
 | .inl (.inl e) => by
  rcases O a with z | ⟨o, ys, z⟩
  ·rw [e] at z; cases z
  ·rw [e] at z; cases z
 | .inl (.inr h) => .inl h
 | .inr h => .inr h
structure Tp (H : Hp) (p l : Addr) (ns : List Int) : Prop where
 ex : ∃ c e : Int, H p = some (.lst [.ref l, .int c, .int e])
 hl : H l = some (.lst (ns.map V.int))
 ne : p ≠ l
section
variable {p l a : Addr} {H H' : Hp} {o : HO} {ns : List Int}
end
theorem log_small {n : Nat} (h : n < 1000000000000000) : n.log2 < 1920 := by
 by_cases h0 : n = 0
 ·subst h0
  decide
 ·exact (Nat.log2_lt h0).mpr (Nat.lt_of_lt_of_le h (by decide +kernel))
def Sm (i : Int) : Prop := -1000000000000000 < i ∧ i < 1000000000000000
theorem show_ints : ∀ (ns : List Int), (∀ n ∈ ns, Sm n) → PyData.showableAll (ns.map PyData.int) = true
 | [], _ => rfl
 | n :: ns, h => by
  obtain ⟨h0, h1⟩ := h n List.mem_cons_self
  have hs : n.natAbs.log2 < 1920 := log_small (by omega)
  simp only [List.map_cons, PyData.showableAll, PyData.showable, decide_eq_true hs, show_ints ns fun m hm => h m (List.mem_cons_of_mem _ hm), Bool.and_self]
theorem nodict_ints : ∀ (ns : List Int), PyData.hasDictAll (ns.map PyData.int) = false
 | [] => rfl
 | n :: ns => by simp only [List.map_cons, PyData.hasDictAll, PyData.hasDict, nodict_ints ns, Bool.or_self]
theorem len_int {n : Int} (h : Sm n) : (PyData.shown (.int n)).length ≤ 16 := by
 obtain ⟨h0, h1⟩ := h
 have := int_text_length_le10 (a := n) (k := 15) (by decide) (by omega)
 show (Str.ofString (toString n)).length ≤ 16
 rw [ofString_length]
 exact this
theorem len_ints : ∀ (ns : List Int), (∀ n ∈ ns, Sm n) → ((PyData.shownAll (ns.map PyData.int)).map (·.length)).sum ≤ 16 * ns.length ∧ (PyData.shownAll (ns.map PyData.int)).length = ns.length
 | [], _ => ⟨Nat.le_refl _, rfl⟩
 | n :: ns, h => by
  obtain ⟨i1, i2⟩ := len_ints ns fun m hm => h m (List.mem_cons_of_mem _ hm)
  have e := len_int (h n List.mem_cons_self)
  simp only [List.map_cons, PyData.shownAll, List.sum_cons, List.length_cons]
  exact ⟨by omega, by omega⟩
theorem len_tup (ds : List PyData) : (PyData.shown (.tuple ds)).length ≤ ((PyData.shownAll ds).map (·.length)).sum + 2 * (PyData.shownAll ds).length + 3 := tupleText_len_le _
structure Shw (d : PyData) (n h : Nat) : Prop where
 s : d.showable = true
 nd : d.hasDict = false
 p : d.depth ≤ h
 l : d.shown.length ≤ n
theorem Shw.up {d : PyData} {n h m i : Nat} (x : Shw d n h) (h1 : n ≤ m) (h2 : h ≤ i) : Shw d m i := ⟨x.s, x.nd, Nat.le_trans x.p h2, Nat.le_trans x.l h1⟩
theorem Shw.ints {ns : List Int} (h : ∀ n ∈ ns, Sm n) : Shw (.tuple (ns.map PyData.int)) (18 * ns.length + 3) 1 := ⟨by
  simp only [PyData.showable]
  exact show_ints ns h, by
  simp only [PyData.hasDict]
  exact nodict_ints ns, by
  show PyData.depthAll _ + 1 ≤ 1
  rw [depth_ints]
  decide, by
  have h1 := len_tup (ns.map PyData.int)
  obtain ⟨h2, h3⟩ := len_ints ns h
  omega⟩
theorem w_shw {H : Hp} {Q : VK} {v : V} {d : PyData} {n h : Nat} (r : RdV H v d) (x : Shw d n h) (hn : n ≤ 100000) (hh : h ≤ 50) (q : Q (.str d.shown) H) : rRepr [v] H Q :=
 ⟨v, d, rfl, r, x.s, x.nd, Nat.le_trans x.p hh, Nat.le_trans x.l (Nat.le_trans hn (by decide : 100000 ≤ sizeLine)), q⟩
end G2
namespace L2
open PySem PySem.Spec PyProof.Rows
end L2
namespace G2
open PySem L2
section
variable {D : Addr} {te : TE} {tc : TT} {Q : VK} {ρ : St} {H : Hp} {K : PySem.W.Frag} {a b : Addr}
end
section
variable {X : Cx} {k : Nat}
end
structure Fm where
 ins : List Int
 sts : List Int
 plus : Int
structure FmOk (n m : Nat) (B : Int) (f : Fm) : Prop where
 li : f.ins.length = n
 ls : f.sts.length = m
 bi : ∀ x ∈ f.ins, -B ≤ x ∧ x ≤ B
 bs : ∀ x ∈ f.sts, -B ≤ x ∧ x ≤ B
 bp : -B ≤ f.plus ∧ f.plus ≤ B
end G2
namespace L2
open PySem PySem.Spec PyProof.Rows
section
variable {prog : Program} {w : World} {A : Around} {E : Value → Shared → Prop} {s : Shared}
end
section
variable {X : Cx} {es : List Expr} {kt : Nat} {pt : Pos}
end
section
variable {X : Cx}
end
section
variable {X : Cx} {es : List Expr} {kt : Nat} {pt : Pos}
end
def isI (i : Int) : Value → Bool
 | .int a _ => a == i
 | _ => false
section
variable {X : Cx}
end
theorem cgo_list {D : Addr} {tc : TT} {te : TE} {Q : VK} {ρ : St} {H : Hp} {K : PySem.W.Frag} {a : Addr} {xs : List V} (Pv : Nat → List V → Hp → Prop) (h0 : Pv 0 [] (upd H D (.lst []))) (hl : ∀ i ys H', i ≤ xs.length → Pv i ys H' → SqL K H' a xs)
  (hs : ∀ i x ys H', xs[i]? = some x → Pv i ys H' → H' D = some (.lst ys) → ∀ (R : V → Hp → Prop) (S : Hp → Prop), (∀ y H4, H4 D = some (.lst ys) → ys.length < sizeLine → Pv (i + 1) (ys ++ [y]) (upd H4 D (.lst (ys ++ [y]))) → R y H4) → (∀ H3, H3 D = some (.lst ys) → Pv (i + 1) ys H3 → S H3) →
   tc (some x :: ρ) H' fun b H3 => if b = true then te (some x :: ρ) H3 R else S H3)
  (hd : ∀ ys H', Pv xs.length ys H' → H' D = some (.lst ys) → Q (.ref D) H') : CGo (Itl K a) D (gName 0) tc te Q (none :: ρ) H := by
 refine ⟨fun i m τ ys H' => m = xs.length - i ∧ i ≤ xs.length ∧ (∃ tv, τ = tv :: ρ) ∧ Pv i ys H' ∧ H' D = some (.lst ys), ⟨xs.length, by omega, Nat.zero_le _, ⟨_, rfl⟩, h0, upd_same⟩, ?_⟩
 rintro i m τ ys H' ⟨rfl, hi, ⟨tv, rfl⟩, hp, hD⟩
 refine ⟨hD, ?_⟩
 have sq := hl i ys H' hi hp
 by_cases hlt : i < xs.length
 ·refine .inr ⟨⟨xs, xs[i], sq, by simp [hlt]⟩, ?_⟩
  rintro v H'' ⟨rfl, hv⟩
  have hv' := hv xs sq
  show tc (some v :: ρ) _ _
  exact hs i v ys _ hv' hp hD _ _ (fun y H4 a b c => ⟨a, b, xs.length - (i + 1), by omega, rfl, hlt, ⟨_, rfl⟩, c, upd_same⟩) fun H3 a c => ⟨xs.length - (i + 1), by omega, rfl, hlt, ⟨_, rfl⟩, c, a⟩
 ·have e : i = xs.length := by omega
  subst e
  exact .inl ⟨⟨xs, sq, Nat.le_refl _⟩, hd ys _ hp hD⟩
section
variable {X : Cx}
end
section
variable {X : Cx} {es : List Expr} {kt : Nat} {pt : Pos}
end
section
variable {D : Addr} {te : TE} {tc : TT} {Q : VK} {ρ : St} {H : Hp}
end
end L2
namespace G2
open PySem L2
end G2
namespace L2
open PySem PySem.Spec PyProof.Rows
structure NScope (o sc : Scope) (TN F : List Str) : Prop where
 okind : o.kind = .function
 kind : sc.kind = .function
 names : ∀ y ∈ sc.names, y.2 = .local → sc.names.lookup y.1 = some .local
 clN : ∀ y ∈ sc.names, y.2 = .cell → sc.names.lookup y.1 = some .cell
 fr : ∀ y ∈ sc.names, y.2 = .free → o.names.lookup y.1 = some .cell ∧ sc.names.lookup y.1 = some .free
 ff : ∀ y ∈ F, (y, NameKind.free) ∈ sc.names
section
variable {X : Cx} {sc : Scope} {TN F : List Str} {ix : List Nat} {elt tg iter : Expr} {ifs : List Expr} {pos : Pos} {g : TG} {tc : TT} {te : TE} {wi : TI}
end
structure NBScope (o sc : Scope) (TN F G : List Str) : Prop extends NScope o sc TN F where
 nd : (TN ++ F).Nodup
 vis : ∀ x ∈ TN ++ F, Vis (relabelS sc o) x
 loc : ∀ x ∈ TN, (relabelS sc o).names.lookup x = some .local ∨ ((relabelS sc o).names.lookup x = some .cell ∧ sc.names.lookup x = some .cell)
 gl : ∀ x ∈ G, (relabelS sc o).names.lookup x = some .globalImplicit
section
variable {X : Cx} {sc : Scope} {TN F G : List Str} {cl : List (Str × Addr)} {C : Addr} {fp : List Addr} {s3 : Shared} {H3 : Hp} {xe : Value → Shared → Prop} {x : Str} {pos : Pos}
end
end L2
namespace PySem
open Sem (wp)
open Builtin
open AutoSeq1 (wpAny_loadPart')
end PySem
namespace L2
open PySem PySem.Spec PyProof.Rows
section
variable {X : Cx}
theorem rep_one (m : Nat) (c : Int) : (List.replicate m [V.int c]).flatten = (List.replicate m c).map V.int := by
 induction m with
 | zero => rfl
 | succ m ih => rw [List.replicate_succ, List.flatten_cons, ih, List.replicate_succ]; rfl
end
section
variable {prog : Program} {w : World} {A : Around} {E : Value → Shared → Prop} {s : Shared}
end
section
variable {prog : Program} {w : World} {A : Around} {E : Value → Shared → Prop} {s : Shared}
end
section
variable {X : Cx} {es : List Expr} {kt : Nat} {pt : Pos}
end
section
variable {D : Addr} {te : TE} {tc : TT} {Q : VK} {ρ : St} {H : Hp}
end
end L2
namespace HT
open PySem PyProof.Rows
section
variable {prog : Program} {w : World} {A : Around} {E : Value → Shared → Prop} {s : Shared}
end
end HT
namespace L2
open PySem PySem.Spec PyProof.Rows
section
variable {X : Cx}
def rCatG : R2 := fun x y H Q => ∃ a b xs ys, x = .ref a ∧ y = .ref b ∧ H a = some (.tup xs) ∧ H b = some (.tup ys) ∧ xs.length + ys.length ≤ 1000 ∧ ∀ q H', Same H H' → H' q = some (.tup (xs ++ ys)) → Q (.ref q) H'
theorem op_catG : OpR X (binaryOp .Add) rCatG := by
 intro pins s σ H x y v u Q I rx ry h
 obtain ⟨a, b, xs, ys, rfl, rfl, ha, hb, hz, q⟩ := h
 have hz' : xs.length + ys.length ≤ sizeLine := Nat.le_trans hz (by decide)
 by_cases hx : xs = []
 ·cases rx
  cases ry
  obtain ⟨its, r1, p1, _⟩ := I.tuple (SqT.of ha)
  obtain ⟨its2, r2, p2, _⟩ := I.tuple (SqT.of hb)
  obtain ⟨⟨cls, dd, data, sl⟩, ho, hc, n, hd⟩ := id p1
  obtain ⟨⟨cls2, dd2, data2, sl2⟩, ho2, hc2, n2, hd2⟩ := id p2
  simp only at hc hd hc2 hd2
  subst hc hd hc2 hd2
  have hv : its = [] := r1.nil_iff.mpr hx
  refine concat_meets ⟨_, ho, rfl⟩ ⟨_, ho2, rfl⟩ noFill_tuple_add seq_tuple_add PySem.F.slot_tuple_add PySem.F.entry_tuple_add (PySem.F.args_tuple_add_2 _ _)
   (tuple_addW0 a b its.toArray its2.toArray n n2 dd dd2 sl sl2 (by simp [hv])) ⟨ho, ho2, ?_⟩
  refine ⟨.ref b, H, I, rfl, q b H (Same.refl H) ?_⟩
  rw [hx, List.nil_append]
  exact hb
 ·refine op_catT pins s σ H _ _ v u Q I rx ry ⟨a, b, xs, ys, rfl, rfl, SqT.of ha, SqT.of hb, hx, hz', fun e => ?_, fun _ p hp => q p _ (Same.new (Same.refl H) hp) upd_same⟩
  refine q a H (Same.refl H) ?_
  rw [e, List.append_nil]
  exact ha
end
end L2
namespace PySem
open Sem (wp)
open Builtin
open AutoSeq1 (wpAny_loadPart')
end PySem
namespace L2
open PySem PySem.Spec PyProof.Rows
section
variable {X : Cx}
end
section
variable {X : Cx}
end
end L2
namespace G2
open PySem L2
theorem all_shw {n h : Nat} : ∀ ds : List PyData, (∀ d ∈ ds, Shw d n h) → PyData.showableAll ds = true ∧ PyData.hasDictAll ds = false ∧ PyData.depthAll ds ≤ h ∧ ((PyData.shownAll ds).map (·.length)).sum ≤ n * ds.length ∧ (PyData.shownAll ds).length = ds.length
 | [], _ => ⟨rfl, rfl, Nat.zero_le _, Nat.zero_le _, rfl⟩
 | d :: ds, k => by
  obtain ⟨h1, h2, h3, h4, h5⟩ := all_shw ds fun x hx => k x (List.mem_cons_of_mem _ hx)
  have e := k d List.mem_cons_self
  have e3 := e.p
  have e4 := e.l
  refine ⟨?_, ?_, ?_, ?_, ?_⟩
  ·simp only [PyData.showableAll, e.s, h1, Bool.and_self]
  ·simp only [PyData.hasDictAll, e.nd, h2, Bool.or_self]
  ·simp only [PyData.depthAll]
   omega
  ·simp only [PyData.shownAll, List.map_cons, List.sum_cons, List.length_cons, Nat.mul_succ]
   omega
  ·simp only [PyData.shownAll, List.length_cons, h5]
theorem Shw.lsts {n h : Nat} {ds : List PyData} (k : ∀ d ∈ ds, Shw d n h) : Shw (.list ds) ((n + 2) * ds.length + 3) (h + 1) := by
 obtain ⟨h1, h2, h3, h4, h5⟩ := all_shw ds k
 refine ⟨by simp only [PyData.showable]; exact h1, by simp only [PyData.hasDict]; exact h2, ?_, ?_⟩
 ·show PyData.depthAll _ + 1 ≤ h + 1
  omega
 ·have e : (PyData.shown (.list ds)).length ≤ ((PyData.shownAll ds).map (·.length)).sum + 2 * (PyData.shownAll ds).length + 3 := listText_len_le _
  rw [Nat.add_mul]
  omega
section
variable {D : Addr} {te : TE} {tc : TT} {Q : VK} {ρ : St} {H : Hp} {K : PySem.W.Frag} {a b : Addr}
end
end G2
namespace PySem.W
open PySem PySem.Calls PyProof.Rows
def KasT.eval {α : Type} (lt : Nat → Nat → Bool) : KasT α → α
 | .ret a => a
 | .ask i j k => (k (lt i j)).eval lt
inductive Nums : List Value → List Int → Prop
 | nil : Nums [] []
 | cons {i : Int} {t : Tok} {us : List Value} {ns : List Int} : Nums us ns → Nums (.int i t :: us) (i :: ns)
section
variable {prog : Program} {w : World} {A : Around} {E : Value → Shared → Prop} {s : Shared}
end
end PySem.W
namespace PySem
open Sem (wp)
open AutoSeq1 (wpAny_loadPart')
section
variable {prog : Program} {w : World} {A : Around} {E : Value → Shared → Prop} {s : Shared}
end
end PySem
namespace L2
open PySem PySem.Spec PyProof.Rows
section
variable {X : Cx} {k : Nat}
def RowsAt (H : Hp) : List Addr → List (List Int) → Prop
 | [], [] => True
 | a :: as, ks :: kss => H a = some (.tup (ks.map V.int)) ∧ RowsAt H as kss
 | _, _ => False
theorem RowsAt.tk {H H' : Hp} (k : ∀ q xs, H q = some (.tup xs) → H' q = some (.tup xs)) : ∀ {as : List Addr} {kss : List (List Int)}, RowsAt H as kss → RowsAt H' as kss
 | [], [], _ => trivial
 | a :: as, ks :: kss, h => ⟨k _ _ h.1, RowsAt.tk k h.2⟩
 | [], _ :: _, h => h.elim
 | _ :: _, [], h => h.elim
theorem RowsAt.len {H : Hp} : ∀ {as : List Addr} {kss : List (List Int)}, RowsAt H as kss → as.length = kss.length
 | [], [], _ => rfl
 | a :: as, ks :: kss, h => by rw [List.length_cons, List.length_cons, RowsAt.len h.2]
 | [], _ :: _, h => h.elim
 | _ :: _, [], h => h.elim
theorem RowsAt.at {H : Hp} : ∀ {as : List Addr} {kss : List (List Int)}, RowsAt H as kss → ∀ {i : Nat} {a : Addr}, as[i]? = some a → ∃ ks, kss[i]? = some ks ∧ H a = some (.tup (ks.map V.int))
 | a :: as, ks :: kss, h, 0, b, e => ⟨ks, rfl, by
  have : a = b := by simpa using e
  exact this ▸ h.1⟩
 | a :: as, ks :: kss, h, i + 1, b, e => by
  obtain ⟨k', h1, h2⟩ := RowsAt.at h.2 (i := i) (a := b) (by simpa using e)
  exact ⟨k', by simpa using h1, h2⟩
 | [], [], _, i, b, e => by simp at e
 | [], _ :: _, h, _, _, _ => h.elim
 | _ :: _, [], h, _, _, _ => h.elim
theorem RowsAt.app {H : Hp} : ∀ {as bs : List Addr} {ks ls : List (List Int)}, RowsAt H as ks → RowsAt H bs ls → RowsAt H (as ++ bs) (ks ++ ls)
 | [], _, [], _, _, h => h
 | a :: as, _, k :: ks, _, h, h' => ⟨h.1, RowsAt.app h.2 h'⟩
 | [], _, _ :: _, _, h, _ => h.elim
 | _ :: _, _, [], _, h, _ => h.elim
theorem Vals.getD {xs : List V} {us : List Value} (r : Vals xs us) (i : Nat) : RelV (xs.getD i .non) (us.getD i .none) := by
 induction r generalizing i with
 | nil => rfl
 | cons h _ ih =>
  cases i with
  | zero => simpa using h
  | succ i => simpa using ih i
theorem Vals.perm {xs : List V} {us : List Value} (r : Vals xs us) : ∀ p : List Nat, Vals (p.map fun i => xs.getD i .non) (p.map fun i => us.getD i .none)
 | [] => .nil
 | i :: p => .cons (Vals.getD r i) (Vals.perm r p)
end
section
variable {X : Cx}
end
def rSumT : List V → Hp → VK → Prop := fun xs H Q => ∃ (p : Addr) (ns : List Int), xs = [.ref p] ∧ H p = some (.tup (ns.map V.int)) ∧ Q (.int ns.sum) H
theorem call_sumT {X : Cx} {k : Nat} (hr : Room k X.A) : CallR X (.builtin "sum") rSumT := by
 intro pins s σ H xs us Q I r h
 obtain ⟨p, ns, rfl, hp, q⟩ := h
 obtain ⟨u, rfl, ru⟩ := r.one
 cases ru
 obtain ⟨its, rv, pl, hz⟩ := I.tuple (SqT.of hp)
 obtain ⟨ys, rfl, hy⟩ := ints_of rv
 have ht : s.heap.IsTuple p (intItems ys.toArray) := by
  obtain ⟨o, e, c, n, d⟩ := pl
  exact ⟨o, e, c, n, by rw [d]; simp [intItems]⟩
 have hlt : p < s.heap.objs.size := by obtain ⟨_, e, _⟩ := ht; exact Heap.lt_size e
 refine call_sum_walkG (wpAny_pyIter_tuple ht ?_)
 refine ⟨_, _, _, _, _, _, numAt ys.toArray, rfl, Walks.tuple (A := X.A.in1) hr.hd s.heap.objs.size p (Nat.ne_of_lt hlt) (intItems ys.toArray), ?_, ?_, (fun _ _ => intItems_at), fun h' tk t' hk => ?_⟩
 ·exact ⟨⟨_, Heap.get?_push_size _ rfl, rfl, rfl⟩, ht.at fun o e => Heap.get?_push_of_some _ e⟩
 ·intro b hb
  show b < (s.heap.push _).objs.size
  rw [Heap.size_push]
  rcases List.mem_cons.mp hb with rfl | hb
  ·exact Nat.lt_succ_self _
  ·rw [List.mem_singleton.mp hb]
   exact Nat.lt_succ_of_lt hlt
 ·have kp : ∀ b o, s.heap.get? b = some o → h'.get? b = some o := fun b o e => hk b o (by
   intro hm
   have := Heap.lt_size e
   rw [List.mem_singleton.mp hm] at this
   exact absurd this (Nat.lt_irrefl _)) (Heap.get?_push_of_some _ e)
  refine ⟨.int ns.sum, H, I.kept kp, ⟨t', ?_⟩, q⟩
  congr 1
  have hlen : ys.length = ns.length := by rw [← hy, List.length_map]
  rw [preSum_eq]
  simp [hy, hlen, intItems]
section
variable {κ : Type} [DecidableEq κ]
end
section
variable {P : Program} {w : World} {H : Hp} {h : Heap} {a : Addr}
end
section
variable {X : Cx} {pins : List (Addr × Obj)} {σ : St} {H : Hp} {s : Shared} {a : Addr} {y v : V} {u r : Value} {o : Option V} {A : Around} {E : Value → Shared → Prop}
end
section
variable {X : Cx} {pins : List (Addr × Obj)} {σ : St} {H : Hp} {s : Shared} {a : Addr} {kvs : List (Key × V)} {k : Key} {u : Value} {A : Around} {E : Value → Shared → Prop}
end
section
variable {X : Cx} {o i e value : Expr} {pos pos' tpos : Pos} {td ty tv : TE}
end
section
variable {X : Cx} {pos : Pos}
end
structure M1 (X : Cx) (o : Expr) (m : Str) (apos : Pos) (e : Expr) (cpos : Pos) : Prop where
 base : attributeBase o m X.env (eval o X.env) = eval o X.env
 few : ((backTo cpos (starEach [e] X.env)).all (fun x => !x.1) && (backToKw cpos (keywordEach [] X.env)).all (fun x => x.1.isSome)
  && decide (([e] : List Expr).length + ([] : List Keyword).length + (if ([] : List Keyword).isEmpty then 0 else 1) < 30)) = true
 line : (apos.endLine == cpos.line) = true
 trees : backTo cpos (starEach [e] X.env) = [(false, eval e X.env)]
structure M2 (X : Cx) (o : Expr) (m : Str) (apos : Pos) (e f : Expr) (cpos : Pos) : Prop where
 base : attributeBase o m X.env (eval o X.env) = eval o X.env
 few : ((backTo cpos (starEach [e, f] X.env)).all (fun x => !x.1) && (backToKw cpos (keywordEach [] X.env)).all (fun x => x.1.isSome)
  && decide (([e, f] : List Expr).length + ([] : List Keyword).length + (if ([] : List Keyword).isEmpty then 0 else 1) < 30)) = true
 line : (apos.endLine == cpos.line) = true
 trees : backTo cpos (starEach [e, f] X.env) = [(false, eval e X.env), (false, eval f X.env)]
section
variable {X : Cx} {pins : List (Addr × Obj)} {σ : St} {H : Hp} {s : Shared} {a : Addr} {y d : V} {u r : Value} {o : Option V} {A : Around} {E : Value → Shared → Prop}
end
section
variable {X : Cx} {o e f : Expr} {apos cpos : Pos} {td ty tx : TE}
end
section
variable {X : Cx} {pins : List (Addr × Obj)} {σ : St} {H : Hp} {s : Shared} {a : Addr} {kvs : List (Key × V)} {A : Around} {E : Value → Shared → Prop}
end
section
variable {X : Cx} {pins : List (Addr × Obj)} {σ : St} {H : Hp} {s : Shared} {a : Addr} {y : V} {u : Value} {A : Around} {E : Value → Shared → Prop}
end
section
variable {X : Cx} {pins : List (Addr × Obj)} {σ : St} {H : Hp} {s : Shared} {a o : Addr} {kvs more : List (Key × V)} {A : Around} {E : Value → Shared → Prop}
end
section
variable {X : Cx} {k : Nat}
end
end L2
namespace PySem.SeqAt
open PySem.MeetsSeq PySem PySem.Spec
section
variable {A : Around} {s : Shared}
end
end PySem.SeqAt
namespace HT
open PySem PySem.Spec PyProof.Rows
section
variable {prog : Program} {w : World} {A : Around} {E : Value → Shared → Prop} {s : Shared}
end
end HT
namespace L2
open PySem PySem.Spec PyProof.Rows
inductive Th where
 | non
 | bl (b : Bool)
 | int (i : Int)
 | str (s : Str)
 | tup (ts : List Th)
 | lst
 | dct
mutual
inductive ThAt (H : Hp) : V → Th → Prop
 | non : ThAt H .non .non
 | bl (b : Bool) : ThAt H (.bl b) (.bl b)
 | int (i : Int) : ThAt H (.int i) (.int i)
 | str (s : Str) : ThAt H (.str s) (.str s)
 | tup {p : Addr} {vs : List V} {ts : List Th} : H p = some (.tup vs) → ThsAt H vs ts → ThAt H (.ref p) (.tup ts)
 | lst {p : Addr} {vs : List V} : H p = some (.lst vs) → ThAt H (.ref p) .lst
 | dct {p : Addr} {kvs : List (Key × V)} : H p = some (.dK kvs) → ThAt H (.ref p) .dct
inductive ThsAt (H : Hp) : List V → List Th → Prop
 | nil : ThsAt H [] []
 | cons {v : V} {t : Th} {vs : List V} {ts : List Th} : ThAt H v t → ThsAt H vs ts → ThsAt H (v :: vs) (t :: ts)
end
structure KS (H H' : Hp) : Prop where
 t : ∀ q xs, H q = some (.tup xs) → H' q = some (.tup xs)
 l : ∀ q xs, H q = some (.lst xs) → ∃ ys, H' q = some (.lst ys)
 d : ∀ q xs, H q = some (.dK xs) → ∃ ys, H' q = some (.dK ys)
section
variable {H H' H'' : Hp} {a : Addr}
mutual
theorem ThAt.ks (k : KS H H') {v : V} {t : Th} : ThAt H v t → ThAt H' v t
 | .non => .non
 | .bl b => .bl b
 | .int i => .int i
 | .str s => .str s
 | .tup h hs => .tup (k.t _ _ h) (ThsAt.ks k hs)
 | .lst h => let ⟨_, h'⟩ := k.l _ _ h; .lst h'
 | .dct h => let ⟨_, h'⟩ := k.d _ _ h; .dct h'
theorem ThsAt.ks (k : KS H H') {vs : List V} {ts : List Th} : ThsAt H vs ts → ThsAt H' vs ts
 | .nil => .nil
 | .cons h hs => .cons (ThAt.ks k h) (ThsAt.ks k hs)
end
end
def Th.tn : Th → String
 | .non => "NoneType"
 | .bl _ => "bool"
 | .int _ => "int"
 | .str _ => "str"
 | .tup _ => "tuple"
 | .lst => "list"
 | .dct => "dict"
theorem ThAt.ty {K : PySem.W.Frag} {H : Hp} {v : V} {t : Th} (h : ThAt H v t) : TyOf K H v (.type t.tn) := by
 cases h with
 | non => exact .non
 | bl b => exact .bl b
 | int i => exact .int i
 | str s => exact .str s
 | tup h _ => exact .tup h
 | lst h => exact .lst h
 | dct h => exact .dK h
def Th.isI : Th → Bool
 | .bl _ => true
 | .int _ => true
 | _ => false
def Th.isL : Th → Bool
 | .lst => true
 | _ => false
def rIsTh (n : String) (f : Th → Bool) : List V → Hp → VK → Prop := fun xs H Q => ∃ v t, xs = [v, .ty n] ∧ ThAt H v t ∧ Q (.bl (f t)) H
section
variable {X : Cx} {k : Nat}
theorem is_th {n : String} {f : Th → Bool} (hk : ∀ t : Th, PySem.W.kitOne X.K (.type t.tn) (.type n) = some (f t)) : CallR X (.builtin "isinstance") (rIsTh n f) := fun pins s σ H xs us Q I r h => by
 obtain ⟨v, t, e, ht, q⟩ := h
 exact call_isI pins s σ H xs us Q I r ⟨v, n, _, f t, e, ht.ty, hk t, q⟩
theorem is_lst : CallR X (.builtin "isinstance") (rIsTh "list" Th.isL) := is_th fun t => by cases t <;> rfl
end
end L2
set_option maxHeartbeats 4000000
namespace SM
open PySem PySem.W PyProof.Rows
structure PS where
 a : Array Nat
 pend : Array (Nat × Nat × Nat)
 gal : Nat
abbrev PM (β : Type) := PS → Option (β × PS)
def real (κ : SortKind) (it : Array Keyed) (p : PS) : SortSt := SortSt.mk' κ (p.a.map (kas_item it)) p.pend p.gal none
structure Env where
 prog : Program
 w : World
 A : Around
 E : Value → Shared → Prop
 κ : SortKind
 it : Array Keyed
 n : Nat
 lt : Nat → Nat → Bool
 Ok : Shared → Prop
 cmp : ∀ i j s, Ok s → i < n → j < n → ∀ C : Bool → Shared → Prop, (∀ s', Ok s' → C (lt i j) s') → kas_cmp prog w A κ it i j C s
variable {e : Env}
def Rl (e : Env) {α β : Type} (m : StateT SortSt Sem α) (f : PM β) (φ : β → α) : Prop :=
 ∀ (s : Shared) (Q : α → SortSt → Shared → Prop) (p p' : PS) (b : β), e.Ok s → f p = some (b, p') → (∀ s', e.Ok s' → Q (φ b) (real e.κ e.it p') s') → kasC (model e.prog e.w) e.A e.E m Q (real e.κ e.it p) s
def pbind {β γ : Type} (f : PM β) (g : β → PM γ) : PM γ := fun p => match f p with
 | some (b, p') => g b p'
 | none => none
theorem Rl.bind {α β γ δ : Type} {m : StateT SortSt Sem α} {k : α → StateT SortSt Sem γ} {f : PM β} {g : β → PM δ} {φ : β → α} {ψ : δ → γ} (h1 : Rl e m f φ) (h2 : ∀ b, Rl e (k (φ b)) (g b) ψ) : Rl e (m >>= k) (pbind f g) ψ := by
 intro s Q p p' d ok hf q
 unfold pbind at hf
 cases hp : f p with
 | none => rw [hp] at hf; cases hf
 | some r =>
  obtain ⟨b, p1⟩ := r
  rw [hp] at hf
  exact kasC_bind (h1 s _ p p1 b ok hp fun s' ok' => h2 b s' Q p1 p' d ok' hf q)
theorem Rl.pure {α β : Type} {x : α} {b : β} {φ : β → α} (h : φ b = x) : Rl e (Pure.pure x) (fun p => some (b, p)) φ := by
 intro s Q p p' d ok hf q
 cases hf
 exact kasC_pure (by rw [← h]; exact q s ok)
theorem Rl.get : Rl e (MonadState.get : StateT SortSt Sem SortSt) (fun p => some (p, p)) (real e.κ e.it) := by
 intro s Q p p' d ok hf q
 cases hf
 exact kasC_get (q s ok)
theorem Rl.mod {F : SortSt → SortSt} {G : PS → PS} (h : ∀ p, F (real e.κ e.it p) = real e.κ e.it (G p)) : Rl e (modify F : StateT SortSt Sem PUnit) (fun p => some ((), G p)) (fun _ => PUnit.unit) := by
 intro s Q p p' d ok hf q
 cases hf
 refine kasC_modify ?_
 rw [h]
 exact q s ok
theorem Rl.rule {r : String} : Rl e (liftM (PySem.rule r) : StateT SortSt Sem Unit) (fun p => some ((), p)) id := by
 intro s Q p p' d ok hf q
 cases hf
 exact kasC_lift (wpAny_rule (q s ok))
theorem Rl.never {α β : Type} {m : StateT SortSt Sem α} {φ : β → α} : Rl e m (fun _ => none) φ := by
 intro s Q p p' d ok hf q
 cases hf
def smap {α β : Type} (φ : β → α) : ForInStep β → ForInStep α
 | .done b => .done (φ b)
 | .yield b => .yield (φ b)
def ploop {β : Type} (g : Nat → β → PM (ForInStep β)) : List Nat → β → PM β
 | [], b => fun p => some (b, p)
 | x :: l, b => pbind (g x b) fun r => match r with
  | .done b' => fun p => some (b', p)
  | .yield b' => ploop g l b'
theorem Rl.loop {α β : Type} {φ : β → α} {body : Nat → α → StateT SortSt Sem (ForInStep α)} {g : Nat → β → PM (ForInStep β)} (h : ∀ x b, Rl e (body x (φ b)) (g x b) (smap φ)) : ∀ (l : List Nat) (b : β), Rl e (forIn l (φ b) body) (ploop g l b) φ
 | [], b => by
  intro s Q p p' d ok hf q
  cases hf
  exact kasC_nil (q s ok)
 | x :: l, b => by
  intro s Q p p' d ok hf q
  unfold ploop pbind at hf
  cases hp : g x b p with
  | none => rw [hp] at hf; cases hf
  | some r =>
   obtain ⟨c, p1⟩ := r
   rw [hp] at hf
   refine kasC_cons (h x b s _ p p1 c ok hp fun s' ok' => ?_)
   cases c with
   | done b' => cases hf; exact q s' ok'
   | yield b' => exact Rl.loop h l b' s' Q p1 p' d ok' hf q
theorem Rl.range {α β : Type} {φ : β → α} {body : Nat → α → StateT SortSt Sem (ForInStep α)} {g : Nat → β → PM (ForInStep β)} {i j : Nat} {a : α} {b : β} (ha : φ b = a) (h : ∀ x b, Rl e (body x (φ b)) (g x b) (smap φ)) : Rl e (forIn [i:j] a body) (ploop g (List.range' i (j - i)) b) φ := by
 subst ha
 intro s Q p p' d ok hf q
 exact kasC_range (Rl.loop h _ b s Q p p' d ok hf q)
theorem Rl.elem {a : Array Keyed} {p0 : Array Nat} {i : Nat} (h : p0.map (kas_item e.it) = a) : Rl e (elem' a i) (fun p => (p0[i]?).map fun x => (x, p)) (kas_item e.it) := by
 subst h
 intro s Q p p' b ok hf q
 rw [elem'_eq]
 dsimp only at hf
 cases hi : p0[i]? with
 | none => rw [hi] at hf; cases hf
 | some x =>
  rw [hi] at hf
  cases hf
  have : (p0.map (kas_item e.it))[i]? = some (kas_item e.it b) := by rw [Array.getElem?_map, hi]; rfl
  rw [this]
  exact kasC_pure (q s ok)
theorem Rl.lt {i j : Nat} : Rl e (lt' (kas_item e.it i) (kas_item e.it j)) (fun p => if i < e.n ∧ j < e.n then some (some (e.lt i j), p) else none) id := by
 intro s Q p p' d ok hf q
 dsimp only at hf
 by_cases h : i < e.n ∧ j < e.n
 ·rw [if_pos h] at hf
  cases hf
  rw [lt'_eq]
  refine kasC_bind (kasC_get ?_)
  refine kasC_bind (kasC_lift (wpAny_attempt (wpAny_mono (e.cmp i j s ok h.1 h.2 (fun c s' => Q (some c) (real e.κ e.it p) s') fun s' ok' => q s' ok') (fun c s' hc => ?_) fun _ _ hF => hF.elim)))
  exact kasC_pure hc
 ·rw [if_neg h] at hf
  cases hf
theorem Rl.ite {α β : Type} {c : Prop} {dc : Decidable c} {m1 m2 : StateT SortSt Sem α} {f1 f2 : PM β} {φ : β → α} (h1 : Rl e m1 f1 φ) (h2 : Rl e m2 f2 φ) : Rl e (if c then m1 else m2) (if c then f1 else f2) φ := by
 by_cases h : c
 ·rw [if_pos h, if_pos h]; exact h1
 ·rw [if_neg h, if_neg h]; exact h2
def popt {γ β : Type} (b : Option γ) (fs : γ → PM β) (fn : PM β) : PM β := match b with
 | some r => fs r
 | none => fn
theorem Rl.bindO {α β γ δ : Type} {m : StateT SortSt Sem (Option α)} {k : Option α → StateT SortSt Sem γ} {f : PM (Option β)} {gs : β → PM δ} {gn : PM δ} {φ : β → α} {ψ : δ → γ} (h1 : Rl e m f (Option.map φ)) (hs : ∀ r, Rl e (k (some (φ r))) (gs r) ψ) (hn : Rl e (k none) gn ψ) : Rl e (m >>= k) (pbind f fun c => popt c gs gn) ψ := Rl.bind h1 fun c => by
 cases c with
 | some r => exact hs r
 | none => exact hn
theorem Rl.bindPO {α β γ δ ρ σ : Type} {m : StateT SortSt Sem (Option ρ × α)} {k : Option ρ × α → StateT SortSt Sem γ} {f : PM (Option σ × β)} {gs : σ → β → PM δ} {gn : β → PM δ} {χ : σ → ρ} {φ : β → α} {ψ : δ → γ} (h1 : Rl e m f (fun c => (c.1.map χ, φ c.2))) (hs : ∀ r x, Rl e (k (some (χ r), φ x)) (gs r x) ψ) (hn : ∀ x, Rl e (k (none, φ x)) (gn x) ψ) : Rl e (m >>= k) (pbind f fun c => popt c.1 (fun r => gs r c.2) (gn c.2)) ψ := Rl.bind h1 fun c => by
 obtain ⟨c, x⟩ := c
 cases c with
 | some r => exact hs r x
 | none => exact hn x
abbrev oid {β : Type} : Option β → Option β := Option.map id
theorem oid_eq {β : Type} (b : Option β) : oid b = b := by cases b <;> rfl
theorem Rl.same {α β : Type} {m : StateT SortSt Sem α} {f : PM β} {φ ψ : β → α} (h : Rl e m f φ) (hφ : ∀ b, φ b = ψ b) : Rl e m f ψ := by
 rw [show ψ = φ from funext fun b => (hφ b).symm]
 exact h
def gallop' : Bool → Keyed → Array Keyed → Nat → Nat → Nat → StateT SortSt Sem (Option Nat) := sortPriv% PySem.Builtin.gallop
theorem Rl.pureD {α β : Type} {x : α} {b : β} {φ : β → α} (h : φ b = x) : Rl e (Pure.pure (ForInStep.done x)) (fun p => some (ForInStep.done b, p)) (smap φ) := Rl.pure (by rw [smap, h])
theorem Rl.pureY {α β : Type} {x : α} {b : β} {φ : β → α} (h : φ b = x) : Rl e (Pure.pure (ForInStep.yield x)) (fun p => some (ForInStep.yield b, p)) (smap φ) := Rl.pure (by rw [smap, h])
def pbey (e : Env) (left : Bool) (key : Nat) (arr : Array Nat) (i : Nat) : PM (Option Bool) := fun p => match arr[i]? with
 | none => none
 | some x => if x < e.n ∧ key < e.n then some (some (if left = true then e.lt x key else !e.lt key x), p) else none
theorem Rl.bey {left : Bool} {key : Nat} {arr : Array Nat} {i : Nat} : Rl e (do
  let x ← elem' (arr.map (kas_item e.it)) i
  if left = true then lt' x (kas_item e.it key) else do
   let c ← lt' (kas_item e.it key) x
   Pure.pure (c.map fun x => !x)) (pbey e left key arr i) oid := by
 refine Rl.same (φ := id) ?_ fun b => (oid_eq b).symm
 intro s Q p p' d ok hf q
 unfold pbey at hf
 cases hi : arr[i]? with
 | none => rw [hi] at hf; cases hf
 | some x =>
  rw [hi] at hf
  dsimp only at hf
  by_cases h : x < e.n ∧ key < e.n
  ·rw [if_pos h] at hf
   cases hf
   refine kasC_bind (Rl.elem rfl s _ p p x ok (by simp [hi]) fun s1 ok1 => ?_)
   cases left with
   | true =>
    rw [if_pos rfl]
    refine Rl.lt s1 _ p p _ ok1 (if_pos h) fun s2 ok2 => ?_
    exact q s2 ok2
   | false =>
    rw [if_neg (by decide)]
    refine kasC_bind (Rl.lt s1 _ p p _ ok1 (if_pos ⟨h.2, h.1⟩) fun s2 ok2 => ?_)
    exact kasC_pure (q s2 ok2)
  ·rw [if_neg h] at hf
   cases hf
end SM
set_option maxHeartbeats 400000
namespace SM
open PySem PySem.W PyProof.Rows
def gallopS (e : Env) (left : Bool) (key : Nat) (arr : Array Nat) (base n hint : Nat) : {f : PM (Option Nat) // Rl e (gallop' left (kas_item e.it key) (arr.map (kas_item e.it)) base n hint) f id} := by
 refine' ⟨_, ?h⟩
 case' h => delta gallop'
 case' h => with_unfolding_all refine' Rl.bindO (φ := id) Rl.bey (fun r => ?ks) ?kn
 case kn => exact Rl.pure rfl
 case' ks => dsimp only [id]
 case' ks => refine' Rl.ite ?p1 ?p2
 case' p1 => refine' Rl.bindPO (χ := id) (φ := id) (Rl.range (b := (none, 0, 1)) rfl fun x c => ?l1) (fun c x => ?t1s) (fun x => ?t1n)
 case' p2 => refine' Rl.bindPO (χ := id) (φ := id) (Rl.range (b := (none, 0, 1)) rfl fun x c => ?l2) (fun c x => ?t2s) (fun x => ?t2n)
 case' l1 => dsimp only [id]
 case' l2 => dsimp only [id]
 case' l1 => refine' Rl.ite (Rl.pureD (b := (none, c.2)) rfl) (Rl.bindO (φ := id) Rl.bey (fun d => ?l3s) ?l3n)
 case' l2 => refine' Rl.ite (Rl.pureD (b := (none, c.2)) rfl) (Rl.bindO (φ := id) Rl.bey (fun d => ?l4s) ?l4n)
 case l3n => exact Rl.pureD (b := (some none, c.2)) rfl
 case l4n => exact Rl.pureD (b := (some none, c.2)) rfl
 case l3s => exact Rl.ite (Rl.pureD (b := (none, c.2)) rfl) (Rl.pureY (b := (none, _, _)) rfl)
 case l4s => exact Rl.ite (Rl.pureD (b := (none, c.2)) rfl) (Rl.pureY (b := (none, _, _)) rfl)
 case t1s => exact Rl.pure rfl
 case t2s => exact Rl.pure rfl
 case' t1n => dsimp only [id]
 case' t2n => dsimp only [id]
 case' t1n => refine' Rl.bindPO (χ := id) (φ := id) (Rl.range (b := (none, _, _)) rfl fun x c => ?b1) (fun c x => ?u1s) (fun x => ?u1n)
 case' t2n => refine' Rl.bindPO (χ := id) (φ := id) (Rl.range (b := (none, _, _)) rfl fun x c => ?b2) (fun c x => ?u2s) (fun x => ?u2n)
 case' b1 => dsimp only [id]
 case' b2 => dsimp only [id]
 case' b1 => refine' Rl.ite (Rl.pureD (b := (none, c.2)) rfl) (Rl.bindO (φ := id) Rl.bey (fun d => ?b3s) ?b3n)
 case' b2 => refine' Rl.ite (Rl.pureD (b := (none, c.2)) rfl) (Rl.bindO (φ := id) Rl.bey (fun d => ?b4s) ?b4n)
 case b3n => exact Rl.pureD (b := (some none, c.2)) rfl
 case b4n => exact Rl.pureD (b := (some none, c.2)) rfl
 case b3s => exact Rl.ite (Rl.pureY (b := (none, _, _)) rfl) (Rl.pureY (b := (none, _, _)) rfl)
 case b4s => exact Rl.ite (Rl.pureY (b := (none, _, _)) rfl) (Rl.pureY (b := (none, _, _)) rfl)
 case u1s => exact Rl.pure rfl
 case u2s => exact Rl.pure rfl
 case u1n => exact Rl.pure rfl
 case u2n => exact Rl.pure rfl
end SM
set_option maxHeartbeats 4000000
namespace SM
open PySem PySem.W PyProof.Rows
def mergeHi' : Array Keyed → Array Keyed → StateT SortSt Sem (Array Keyed) := sortPriv% PySem.Builtin.mergeHi
def setMinGallop' : Nat → StateT SortSt Sem Unit := sortPriv% PySem.Builtin.setMinGallop
abbrev am (e : Env) (a : Array Nat) : Array Keyed := a.map (kas_item e.it)
theorem am1 {e : Env} {x : Nat} : #[kas_item e.it x] = Array.map (kas_item e.it) #[x] := by simp
theorem ampush {e : Env} {x : Nat} {arr : Array Nat} : (Array.map (kas_item e.it) arr).push (kas_item e.it x) = Array.map (kas_item e.it) (arr.push x) := by simp
abbrev RR (e : Env) {T : Type} (x : Nat × Nat × Array Nat × T) : Nat × Nat × Array Keyed × T := (x.1, x.2.1, am e x.2.2.1, x.2.2.2)
variable {e : Env}
abbrev RO (e : Env) {T : Type} (c : Option (Array Nat) × Nat × Nat × Array Nat × T) : Option (Array Keyed) × Nat × Nat × Array Keyed × T := (Option.map (am e) c.1, RR e c.2)
theorem Rl.dS {T : Type} {X Y : Array Nat} {i j : Nat} {t : T} : Rl e (Pure.pure (ForInStep.done (some (am e X), i, j, am e Y, t))) (fun p => some (ForInStep.done (some X, i, j, Y, t), p)) (smap (RO e)) := Rl.pureD (φ := RO e) (b := (some X, i, j, Y, t)) rfl
theorem Rl.dN {T : Type} {Y : Array Nat} {i j : Nat} {t : T} : Rl e (Pure.pure (ForInStep.done (none, i, j, am e Y, t))) (fun p => some (ForInStep.done (none, i, j, Y, t), p)) (smap (RO e)) := Rl.pureD (φ := RO e) (b := (none, i, j, Y, t)) rfl
theorem Rl.yN {T : Type} {Y : Array Nat} {i j : Nat} {t : T} : Rl e (Pure.pure (ForInStep.yield (none, i, j, am e Y, t))) (fun p => some (ForInStep.yield (none, i, j, Y, t), p)) (smap (RO e)) := Rl.pureY (φ := RO e) (b := (none, i, j, Y, t)) rfl
theorem Rl.smg {g : Nat} : Rl e (setMinGallop' g) (fun p => some ((), { p with gal := g })) id := Rl.mod (F := _) (G := fun p => { p with gal := g }) fun p => rfl
theorem Rl.gal {left : Bool} {key : Nat} {arr : Array Nat} {base n hint : Nat} : Rl e (gallop' left (kas_item e.it key) (am e arr) base n hint) (gallopS e left key arr base n hint).1 oid := Rl.same (φ := id) (gallopS e left key arr base n hint).2 fun b => (oid_eq b).symm
theorem Rl.ltO {i j : Nat} : Rl e (lt' (kas_item e.it i) (kas_item e.it j)) (fun p => if i < e.n ∧ j < e.n then some (some (e.lt i j), p) else none) oid := Rl.same (φ := id) Rl.lt fun b => (oid_eq b).symm
def mergeHiS (e : Env) (a b : Array Nat) : {f : PM (Array Nat) // Rl e (mergeHi' (am e a) (am e b)) f (am e)} := by
 refine' ⟨_, ?h⟩
 case' h => delta mergeHi'
 case' h => with_unfolding_all refine' Rl.bind (φ := id) Rl.rule (fun _ => ?k1)
 case' k1 => refine' Rl.bind (φ := kas_item e.it) (Rl.elem rfl) (fun x0 => ?k2)
 case' k2 => ((try dsimp only [id, RR]); (try simp only [am, am1, ampush, Array.size_map, ← Array.map_append, ← Array.map_extract, ← Array.map_reverse]))
 case' k2 => refine' Rl.ite (Rl.pure rfl) (Rl.ite (Rl.pure rfl) ?k3)
 case' k3 => refine' Rl.bind (φ := real e.κ e.it) Rl.get (fun p0 => ?k4)
 case' k4 => refine' Rl.bindPO (χ := am e) (φ := RR e) (Rl.range (b := (none, _, _, _, _)) rfl fun x c => ?l1) (fun r x => ?l2) (fun x => ?l3)
 case l2 => exact Rl.pure rfl
 case l3 => exact Rl.never
 case' l1 => ((try dsimp only [id, RR]); (try simp only [am, am1, ampush, Array.size_map, ← Array.map_append, ← Array.map_extract, ← Array.map_reverse]))
 case' l1 => refine' Rl.bindPO (χ := am e) (φ := RR e) (Rl.range (b := (none, _, _, _, _)) rfl fun x d => ?m1) (fun r x => ?m2) (fun x => ?m3)
 case m2 => exact Rl.pureD (b := (some _, _, _, _, _)) rfl
 case' m1 => ((try dsimp only [id, RR]); (try simp only [am, am1, ampush, Array.size_map, ← Array.map_append, ← Array.map_extract, ← Array.map_reverse]))
 case m1 =>
  repeat (any_goals (first
  | exact Rl.dN
  | exact Rl.dS
  | exact Rl.yN
  | exact Rl.pure rfl
  | (refine' Rl.ite ?_ ?_)
  | (refine' Rl.bind (φ := id) Rl.rule (fun _ => ?_) <;> ((try dsimp only [id, RR]); (try simp only [am, am1, ampush, Array.size_map, ← Array.map_append, ← Array.map_extract, ← Array.map_reverse])))
  | (refine' Rl.bind (φ := id) Rl.smg (fun _ => ?_) <;> ((try dsimp only [id, RR]); (try simp only [am, am1, ampush, Array.size_map, ← Array.map_append, ← Array.map_extract, ← Array.map_reverse])))
  | (refine' Rl.bind (φ := kas_item _) (Rl.elem rfl) (fun _ => ?_) <;> ((try dsimp only [id, RR]); (try simp only [am, am1, ampush, Array.size_map, ← Array.map_append, ← Array.map_extract, ← Array.map_reverse])))
  | (refine' Rl.bindO (φ := id) Rl.ltO (fun _ => ?_) ?_ <;> ((try dsimp only [id, RR]); (try simp only [am, am1, ampush, Array.size_map, ← Array.map_append, ← Array.map_extract, ← Array.map_reverse])))
  | (refine' Rl.bindO (φ := id) Rl.gal (fun _ => ?_) ?_ <;> ((try dsimp only [id, RR]); (try simp only [am, am1, ampush, Array.size_map, ← Array.map_append, ← Array.map_extract, ← Array.map_reverse])))))
 case' m3 => ((try dsimp only [id, RR]); (try simp only [am, am1, ampush, Array.size_map, ← Array.map_append, ← Array.map_extract, ← Array.map_reverse]))
 case' m3 => refine' Rl.bind (φ := id) Rl.rule (fun _ => ?m4)
 case' m4 => ((try dsimp only [id, RR]); (try simp only [am, am1, ampush, Array.size_map, ← Array.map_append, ← Array.map_extract, ← Array.map_reverse]))
 case' m4 => refine' Rl.bindPO (χ := am e) (φ := RR e) (Rl.range (b := (none, _, _, _, _)) rfl fun x d => ?n1) (fun r x => ?n2) (fun x => ?n3)
 case n2 => exact Rl.pureD (b := (some _, _, _, _, _)) rfl
 case' n1 => ((try dsimp only [id, RR]); (try simp only [am, am1, ampush, Array.size_map, ← Array.map_append, ← Array.map_extract, ← Array.map_reverse]))
 case n1 =>
  repeat (any_goals (first
  | exact Rl.dN
  | exact Rl.dS
  | exact Rl.yN
  | exact Rl.pure rfl
  | (refine' Rl.ite ?_ ?_)
  | (refine' Rl.bind (φ := id) Rl.rule (fun _ => ?_) <;> ((try dsimp only [id, RR]); (try simp only [am, am1, ampush, Array.size_map, ← Array.map_append, ← Array.map_extract, ← Array.map_reverse])))
  | (refine' Rl.bind (φ := id) Rl.smg (fun _ => ?_) <;> ((try dsimp only [id, RR]); (try simp only [am, am1, ampush, Array.size_map, ← Array.map_append, ← Array.map_extract, ← Array.map_reverse])))
  | (refine' Rl.bind (φ := kas_item _) (Rl.elem rfl) (fun _ => ?_) <;> ((try dsimp only [id, RR]); (try simp only [am, am1, ampush, Array.size_map, ← Array.map_append, ← Array.map_extract, ← Array.map_reverse])))
  | (refine' Rl.bindO (φ := id) Rl.ltO (fun _ => ?_) ?_ <;> ((try dsimp only [id, RR]); (try simp only [am, am1, ampush, Array.size_map, ← Array.map_append, ← Array.map_extract, ← Array.map_reverse])))
  | (refine' Rl.bindO (φ := id) Rl.gal (fun _ => ?_) ?_ <;> ((try dsimp only [id, RR]); (try simp only [am, am1, ampush, Array.size_map, ← Array.map_append, ← Array.map_extract, ← Array.map_reverse])))))
 case' n3 => ((try dsimp only [id, RR]); (try simp only [am, am1, ampush, Array.size_map, ← Array.map_append, ← Array.map_extract, ← Array.map_reverse]))
 case n3 =>
  repeat (any_goals (first
  | exact Rl.dN
  | exact Rl.dS
  | exact Rl.yN
  | exact Rl.pure rfl
  | (refine' Rl.ite ?_ ?_)
  | (refine' Rl.bind (φ := id) Rl.rule (fun _ => ?_) <;> ((try dsimp only [id, RR]); (try simp only [am, am1, ampush, Array.size_map, ← Array.map_append, ← Array.map_extract, ← Array.map_reverse])))
  | (refine' Rl.bind (φ := id) Rl.smg (fun _ => ?_) <;> ((try dsimp only [id, RR]); (try simp only [am, am1, ampush, Array.size_map, ← Array.map_append, ← Array.map_extract, ← Array.map_reverse])))
  | (refine' Rl.bind (φ := kas_item _) (Rl.elem rfl) (fun _ => ?_) <;> ((try dsimp only [id, RR]); (try simp only [am, am1, ampush, Array.size_map, ← Array.map_append, ← Array.map_extract, ← Array.map_reverse])))
  | (refine' Rl.bindO (φ := id) Rl.ltO (fun _ => ?_) ?_ <;> ((try dsimp only [id, RR]); (try simp only [am, am1, ampush, Array.size_map, ← Array.map_append, ← Array.map_extract, ← Array.map_reverse])))
  | (refine' Rl.bindO (φ := id) Rl.gal (fun _ => ?_) ?_ <;> ((try dsimp only [id, RR]); (try simp only [am, am1, ampush, Array.size_map, ← Array.map_append, ← Array.map_extract, ← Array.map_reverse])))))
end SM
set_option maxHeartbeats 4000000
namespace SM
open PySem PySem.W PyProof.Rows
variable {e : Env}
abbrev T3 := Nat × Nat × Nat
def ptwo {β : Type} (o1 o2 : Option T3) (f : Nat → Nat → Nat → Nat → Nat → Nat → PM β) : PM β := match o1, o2 with
 | some x, some y => f x.1 x.2.1 x.2.2 y.1 y.2.1 y.2.2
 | _, _ => fun _ => none
theorem Rl.two {α β : Type} {M : Option T3 × Option T3 → (Nat → Nat → Nat → Nat → Nat → Nat → StateT SortSt Sem α) → (Option T3 × Option T3 → StateT SortSt Sem α) → StateT SortSt Sem α} {o1 o2 : Option T3} {P : Nat → Nat → Nat → Nat → Nat → Nat → StateT SortSt Sem α} {B : Option T3 × Option T3 → StateT SortSt Sem α} {f : Nat → Nat → Nat → Nat → Nat → Nat → PM β} {φ : β → α} (h : ∀ x1 x2 x3 y1 y2 y3, Rl e (P x1 x2 x3 y1 y2 y3) (f x1 x2 x3 y1 y2 y3) φ) (hM : ∀ x1 x2 x3 y1 y2 y3, M (some (x1, x2, x3), some (y1, y2, y3)) P B = P x1 x2 x3 y1 y2 y3) : Rl e (M (o1, o2) P B) (ptwo o1 o2 f) φ := by
 cases o1 with
 | none => exact Rl.never
 | some x =>
  cases o2 with
  | none => exact Rl.never
  | some y =>
   obtain ⟨x1, x2, x3⟩ := x
   obtain ⟨y1, y2, y3⟩ := y
   rw [hM]
   exact h _ _ _ _ _ _
def pone {β : Type} (o : Option T3) (f : Nat → Nat → Nat → PM β) (g : PM β) : PM β := match o with
 | some x => f x.1 x.2.1 x.2.2
 | none => g
theorem Rl.one {α β : Type} {M : Option T3 → (Nat → Nat → Nat → StateT SortSt Sem α) → (Option T3 → StateT SortSt Sem α) → StateT SortSt Sem α} {o : Option T3} {P : Nat → Nat → Nat → StateT SortSt Sem α} {B : Option T3 → StateT SortSt Sem α} {f : Nat → Nat → Nat → PM β} {g : PM β} {φ : β → α} (h : ∀ x1 x2 x3, Rl e (P x1 x2 x3) (f x1 x2 x3) φ) (hn : Rl e (B none) g φ) (hM : ∀ x1 x2 x3, M (some (x1, x2, x3)) P B = P x1 x2 x3) (hN : M none P B = B none) : Rl e (M o P B) (pone o f g) φ := by
 cases o with
 | none => rw [hN]; exact hn
 | some x =>
  obtain ⟨x1, x2, x3⟩ := x
  rw [hM]
  exact h _ _ _
theorem Rl.set {S : SortSt} (p1 : PS) (h : real e.κ e.it p1 = S) : Rl e (MonadStateOf.set S : StateT SortSt Sem PUnit) (fun _ => some ((), p1)) (fun _ => PUnit.unit) := by
 intro s Q p p' d ok hf q
 cases hf
 subst h
 exact kasC_modify (f := fun _ => real e.κ e.it p1) (q s ok)
theorem fold_set {x : Nat} (f : Nat → Keyed) : ∀ (l : List (Nat × Nat)) (a : Array Nat), List.foldl (fun (a : Array Keyed) (y : Keyed × Nat) => a.setIfInBounds (x + y.2) y.1) (a.map f) (l.map fun y => (f y.1, y.2)) = (List.foldl (fun (a : Array Nat) (y : Nat × Nat) => a.setIfInBounds (x + y.2) y.1) a l).map f
 | [], a => rfl
 | y :: l, a => by
  rw [List.map_cons, List.foldl_cons, List.foldl_cons, ← fold_set f l, Array.map_setIfInBounds]
theorem zip_am (f : Nat → Keyed) (b : Array Nat) : (b.map f).toList.zipIdx = b.toList.zipIdx.map fun y => (f y.1, y.2) := by
 rw [Array.toList_map, List.zipIdx_map]
 rfl
def pltAt (e : Env) (i j : Nat) : PM (Option Bool) := fun p => match p.a[i]?, p.a[j]? with
 | some x, some y => if x < e.n ∧ y < e.n then some (some (e.lt x y), p) else none
 | _, _ => none
theorem Rl.ltAt {i j : Nat} : Rl e (ltAt' i j) (pltAt e i j) oid := by
 refine Rl.same (φ := id) ?_ fun b => (oid_eq b).symm
 intro s Q p p' d ok hf q
 unfold pltAt at hf
 cases hx : p.a[i]? with
 | none => rw [hx] at hf; cases hf
 | some x =>
  cases hy : p.a[j]? with
  | none => rw [hx, hy] at hf; cases hf
  | some y =>
   rw [hx, hy] at hf
   dsimp only at hf
   rw [ltAt'_eq]
   refine kasC_bind (kasC_get ?_)
   refine kasC_bind (Rl.elem (p0 := p.a) rfl s _ p p x ok (by simp [hx]) fun s1 ok1 => ?_)
   refine kasC_bind (Rl.elem (p0 := p.a) rfl s1 _ p p y ok1 (by simp [hy]) fun s2 ok2 => ?_)
   exact Rl.lt s2 _ p p' d ok2 hf q
theorem Rl.down {src dst : Nat} : Rl e (moveDown' src dst) (fun p => some ((), { p with a := bubble p.a src (src - dst) })) (fun _ => PUnit.unit) := Rl.mod (F := _) (G := fun p => { p with a := bubble p.a src (src - dst) }) fun p => by
 show SortSt.mk' e.κ _ p.pend p.gal none = SortSt.mk' e.κ ((bubble p.a src (src - dst)).map (kas_item e.it)) p.pend p.gal none
 exact congrArg (fun a => SortSt.mk' e.κ a p.pend p.gal none) (kas_swaps_map (kas_item e.it) (fun k => src - k) (fun k => src - k - 1) _ p.a)
def mergeAtS (e : Env) (i : Nat) : {f : PM Bool // Rl e (mergeAt' i) f id} := by
 refine' ⟨_, ?h⟩
 case' h => delta mergeAt'
 case' h => with_unfolding_all refine' Rl.bind (φ := real e.κ e.it) Rl.get (fun p0 => ?k1)
 case' k1 => dsimp only [real]
 case' k1 => refine' Rl.two (fun sa na pw sb nb pv => ?k2) ?hM
 case hM => intros; rfl
 case' k2 => refine' Rl.bind (Rl.set ⟨p0.a, (p0.pend.setIfInBounds i (sa, na + nb, pw)).eraseIdxIfInBounds (i + 1), p0.gal⟩ rfl) (fun _ => ?k3)
 case' k3 => refine' Rl.bind (φ := kas_item e.it) (Rl.elem (p0 := p0.a) rfl) (fun x0 => ?k4)
 case' k4 => refine' Rl.bindO (φ := id) (Rl.gal (arr := p0.a)) (fun k => ?k5) (Rl.pure (b := false) rfl)
 case' k5 => dsimp only [id]
 case' k5 => refine' Rl.ite (Rl.pure (b := true) rfl) ?k6
 case' k6 => refine' Rl.bind (φ := kas_item e.it) (Rl.elem (p0 := p0.a) rfl) (fun x1 => ?k7)
 case' k7 => refine' Rl.bindO (φ := id) (Rl.gal (arr := p0.a)) (fun nc => ?k8) (Rl.pure (b := false) rfl)
 case' k8 => dsimp only [id]
 case' k8 => refine' Rl.ite (Rl.pure (b := true) rfl) ?k9
 case' k9 => simp only [← Array.map_extract]
 case' k9 => refine' Rl.ite Rl.never ?k10
 case' k10 => refine' Rl.bind (φ := am e) (mergeHiS e _ _).2 (fun r => ?k11)
 case' k11 => refine' Rl.bind (Rl.mod (G := fun p => { p with a := List.foldl (fun (a : Array Nat) (y : Nat × Nat) => a.setIfInBounds (sa + k + y.2) y.1) p.a r.toList.zipIdx }) (fun p => ?k12)) (fun _ => ?k13)
 case k12 => exact congrArg (fun a => SortSt.mk' e.κ a p.pend p.gal none) ((congrArg (fun l => List.foldl _ (p.a.map (kas_item e.it)) l) (zip_am (kas_item e.it) r)).trans (fold_set (kas_item e.it) _ p.a))
 case' k13 => refine' Rl.bind (φ := real e.κ e.it) Rl.get (fun p1 => ?k14)
 case k14 => exact Rl.pure (b := true) rfl
def countRunS (e : Env) (lo nrem : Nat) : {f : PM (Option Nat) // Rl e (countRun' lo nrem) f id} := by
 refine' ⟨_, ?h⟩
 case' h => rw [countRun'_eq]
 case' h => refine' Rl.bindPO (χ := id) (φ := id) (Rl.range (b := (none, 1)) rfl fun x c => ?l1) (fun r x => Rl.pure rfl) (fun x => ?k2)
 case' l1 => dsimp only [id]
 case' l1 => refine' Rl.bindO (φ := id) Rl.ltAt (fun d => ?l2) (Rl.pureD (b := (some none, c.2)) rfl)
 case l2 => exact Rl.ite (Rl.pureD (b := (none, c.2)) rfl) (Rl.pureY (b := (none, _)) rfl)
 case' k2 => dsimp only [id]
 case' k2 => refine' Rl.ite (Rl.pure rfl) (Rl.ite ?k3 Rl.never)
 case' k3 => refine' Rl.bindO (φ := id) Rl.ltAt (fun d => ?k4) (Rl.pure rfl)
 case k4 => exact Rl.ite (Rl.pure rfl) Rl.never
def binarySortS (e : Env) (lo n ok : Nat) : {f : PM Bool // Rl e (binarySort' lo n ok) f id} := by
 refine' ⟨_, ?h⟩
 case' h => rw [binarySort'_eq]
 case' h => refine' Rl.bindPO (χ := id) (φ := id) (Rl.range (b := (none, ())) rfl fun x c => ?l1) (fun r x => Rl.pure rfl) (fun x => Rl.pure rfl)
 case' l1 => dsimp only [id]
 case' l1 => refine' Rl.bindPO (χ := id) (φ := id) (Rl.range (b := (none, 0, x)) rfl fun y c => ?m1) (fun r y => Rl.pureD (b := (some _, ())) rfl) (fun y => ?m2)
 case' m1 => dsimp only [id]
 case' m1 => refine' Rl.ite (Rl.pureD (b := (none, c.2)) rfl) (Rl.bindO (φ := id) Rl.ltAt (fun d => ?m3) (Rl.pureD (b := (some false, c.2)) rfl))
 case m3 => exact Rl.ite (Rl.pureY (b := (none, _, _)) rfl) (Rl.pureY (b := (none, _, _)) rfl)
 case' m2 => dsimp only [id]
 case m2 => exact Rl.bind Rl.down fun _ => Rl.pureY (b := (none, ())) rfl
end SM
set_option maxHeartbeats 4000000
namespace SM
open PySem PySem.W PyProof.Rows
variable {e : Env}
theorem Rl.pushP {lo n : Nat} {φ : SortSt → SortSt} (h : ∀ p, φ (real e.κ e.it p) = real e.κ e.it { p with pend := p.pend.push (lo, n, 0) }) : Rl e (modify φ : StateT SortSt Sem PUnit) (fun p => some ((), { p with pend := p.pend.push (lo, n, 0) })) (fun _ => PUnit.unit) := Rl.mod h
theorem Rl.mergeAt {i : Nat} : Rl e (mergeAt' i) (mergeAtS e i).1 id := (mergeAtS e i).2
theorem Rl.bins {lo n ok : Nat} : Rl e (binarySort' lo n ok) (binarySortS e lo n ok).1 id := (binarySortS e lo n ok).2
theorem Rl.count {lo n : Nat} : Rl e (countRun' lo n) (countRunS e lo n).1 oid := Rl.same (φ := id) (countRunS e lo n).2 fun b => (oid_eq b).symm
def sortRunsS (e : Env) : {f : PM Unit // Rl e sortRuns' f id} := by
 refine' ⟨_, ?h⟩
 case' h => rw [sortRuns'_eq]
 case' h => refine' Rl.bind (φ := real e.κ e.it) Rl.get (fun p0 => ?k1)
 case' k1 => dsimp only [real, arrOf]
 case' k1 => simp only [Array.size_map]
 case' k1 => refine' Rl.bindPO (χ := id) (φ := id) (Rl.range (b := (none, 0)) rfl fun x c => ?l1) (fun r x => Rl.pure rfl) (fun x => ?k2)
 case' l1 => dsimp only [id]
 case' l1 => refine' Rl.ite (Rl.pureD (b := (none, c.2)) rfl) ?l2
 case' l2 => refine' Rl.bindO (φ := id) Rl.count (fun n => ?l3) (Rl.pureD (b := (some (), c.2)) rfl)
 case' l3 => dsimp only [id]
 case' l3 => refine' Rl.ite ?l4 ?l5
 case' l4 => refine' Rl.bind (φ := id) Rl.rule (fun _ => ?l6)
 case' l6 => refine' Rl.bind (φ := id) Rl.bins (fun d => ?l7)
 case' l7 => dsimp only [id]
 case' l7 => refine' Rl.ite (Rl.pureD (b := (some (), c.2)) rfl) ?l8
 case' l5 => refine' Rl.bind (φ := real e.κ e.it) Rl.get (fun p1 => ?m1)
 case' l8 => refine' Rl.bind (φ := real e.κ e.it) Rl.get (fun p1 => ?m2)
 case' m1 => dsimp only [real, pendingOf]
 case' m2 => dsimp only [real, pendingOf]
 case' m1 => refine' Rl.one (fun s1 n1 q1 => ?m1s) ?m1n ?hM1 ?hN1
 case hM1 => intros; rfl
 case hN1 => rfl
 case' m2 => refine' Rl.one (fun s1 n1 q1 => ?m2s) ?m2n ?hM2 ?hN2
 case hM2 => intros; rfl
 case hN2 => rfl
 case m1n => exact Rl.bind (Rl.pushP fun p => rfl) fun _ => Rl.pureY (b := (none, _)) rfl
 case m2n => exact Rl.bind (Rl.pushP fun p => rfl) fun _ => Rl.pureY (b := (none, _)) rfl
 case' m1s => refine' Rl.bindPO (χ := id) (φ := id) (Rl.range (b := (none, ())) rfl fun x c => ?w1) (fun r x => Rl.pureD (b := (some (), c.2)) rfl) (fun x => ?v1)
 case' m2s => refine' Rl.bindPO (χ := id) (φ := id) (Rl.range (b := (none, ())) rfl fun x c => ?w2) (fun r x => Rl.pureD (b := (some (), c.2)) rfl) (fun x => ?v2)
 case' w1 => refine' Rl.bind (φ := real e.κ e.it) Rl.get (fun p2 => ?w3)
 case' w2 => refine' Rl.bind (φ := real e.κ e.it) Rl.get (fun p2 => ?w4)
 case' w3 => dsimp only [real, pendingOf]
 case' w4 => dsimp only [real, pendingOf]
 case' w3 => refine' Rl.one (fun u1 u2 u3 => ?w5) (Rl.pureD (b := (none, ())) rfl) ?hM3 ?hN3
 case hM3 => intros; rfl
 case hN3 => rfl
 case' w4 => refine' Rl.one (fun u1 u2 u3 => ?w6) (Rl.pureD (b := (none, ())) rfl) ?hM4 ?hN4
 case hM4 => intros; rfl
 case hN4 => rfl
 case w5 => exact Rl.ite (Rl.pureD (b := (none, ())) rfl) (Rl.bind (φ := id) Rl.mergeAt fun d => Rl.ite (Rl.pureD (b := (some (), ())) rfl) (Rl.pureY (b := (none, ())) rfl))
 case w6 => exact Rl.ite (Rl.pureD (b := (none, ())) rfl) (Rl.bind (φ := id) Rl.mergeAt fun d => Rl.ite (Rl.pureD (b := (some (), ())) rfl) (Rl.pureY (b := (none, ())) rfl))
 case v1 => exact Rl.bind (Rl.mod (G := fun p => { p with pend := p.pend.modify (p.pend.size - 1) fun y => (y.1, y.2.1, power' p0.a.size (2 * s1 + n1) (2 * s1 + n1 + n1 + n) p0.a.size) }) fun p => rfl) fun _ => Rl.bind (Rl.pushP fun p => rfl) fun _ => Rl.pureY (b := (none, _)) rfl
 case v2 => exact Rl.bind (Rl.mod (G := fun p => { p with pend := p.pend.modify (p.pend.size - 1) fun y => (y.1, y.2.1, power' p0.a.size (2 * s1 + n1) (2 * s1 + n1 + n1 + min (p0.a.size - c.2) (minRun' p0.a.size p0.a.size 0)) p0.a.size) }) fun p => rfl) fun _ => Rl.bind (Rl.pushP fun p => rfl) fun _ => Rl.pureY (b := (none, _)) rfl
 case' k2 => dsimp only [id]
 case' k2 => refine' Rl.bindPO (χ := id) (φ := id) (Rl.range (b := (none, ())) rfl fun x c => ?z1) (fun r x => Rl.pure rfl) (fun x => Rl.pure rfl)
 case' z1 => refine' Rl.bind (φ := real e.κ e.it) Rl.get (fun p2 => ?z2)
 case' z2 => dsimp only [real, pendingOf]
 case z2 => exact Rl.ite (Rl.pureD (b := (none, ())) rfl) (Rl.bind (φ := id) Rl.mergeAt fun d => Rl.ite (Rl.pureD (b := (some (), ())) rfl) (Rl.pureY (b := (none, ())) rfl))
end SM
set_option maxHeartbeats 400000
namespace SM
open PySem PySem.W PyProof.Rows
def rws : Nat → List (List Int)
 | 0 => [[]]
 | n + 1 => (rws n).flatMap fun r => (List.range 5).map fun (i : Nat) => r ++ [(i : Int)]
def ltP (ks : List (Int × List Int)) (i j : Nat) : Bool := if (ks.getD i (0, [])).1 = (ks.getD j (0, [])).1 then HT.lexLt (ks.getD i (0, [])).2 (ks.getD j (0, [])).2 else decide ((ks.getD i (0, [])).1 < (ks.getD j (0, [])).1)
def keyed (n : Nat) : List (Int × List Int) := (rws n).map fun r => (r.sum, r)
def st0 (n : Nat) : PS := ⟨(List.range n).toArray, #[], 7⟩
def ordr (n : Nat) : List Nat := (List.range 13).flatMap fun (s : Nat) => (List.range (5 ^ n)).filter fun i => decide (((keyed n).getD i (0, [])).1 = (s : Int))
theorem real0 {κ : SortKind} {vs : List Value} : real κ (vs.toArray.zip vs.toArray) (st0 vs.length) = SortSt.mk' κ (vs.toArray.zip vs.toArray) #[] 7 none := by
 refine congrArg (fun a => SortSt.mk' κ a #[] 7 none) ?_
 show (List.range vs.length).toArray.map (kas_item (vs.toArray.zip vs.toArray)) = _
 refine Array.ext (by simp) fun i h1 h2 => ?_
 have hi : i < vs.length := by simpa using h1
 simp [kas_item, Array.getD_eq_getD_getElem?, hi]
theorem lexLt_refl : ∀ r : List Int, HT.lexLt r r = false
 | [] => rfl
 | x :: r => by rw [HT.lexLt_cons, if_pos rfl]; exact lexLt_refl r
end SM
namespace PySem.W
open PySem PySem.Calls PyProof.Rows
section
variable {prog : Program} {w : World} {A : Around} {E : Value → Shared → Prop} {s : Shared}
theorem ints_fun : ∀ {us : List Value} {ns ms : List Int}, IntsAre us ns → IntsAre us ms → ns = ms
 | _, _, _, .nil, .nil => rfl
 | _, _, _, .cons n t h1, .cons _ _ h2 => by rw [ints_fun h1 h2]
theorem ints_len : ∀ {us : List Value} {ns : List Int}, IntsAre us ns → us.length = ns.length
 | _, _, .nil => rfl
 | _, _, .cons n t h1 => by rw [List.length_cons, List.length_cons, ints_len h1]
theorem ints_at : ∀ {us : List Value} {ns : List Int} (j : Nat), IntsAre us ns → (h : j < us.length) → ∃ t, us[j] = .int (ns.getD j 0) t
 | _, _, j, .nil, h => absurd h (Nat.not_lt_zero _)
 | _, _, 0, .cons n t h1, h => ⟨t, rfl⟩
 | _, _, j + 1, .cons n t h1, h => ints_at j h1 (Nat.lt_of_succ_lt_succ h)
theorem eq_of_all {ns ms : List Int} (h : (((List.range (min ns.length ms.length)).all fun j => ns.getD j 0 == ms.getD j 0) && ns.length == ms.length) = true) : ns = ms := by
 rw [Bool.and_eq_true] at h
 have hl : ns.length = ms.length := by simpa using h.2
 refine List.ext_getElem hl fun i h1 h2 => ?_
 have := List.all_eq_true.mp h.1 i (by rw [List.mem_range]; omega)
 simpa [List.getD_eq_getElem?_getD, h1, h2] using this
theorem eq_rowsAt {a b : Addr} {its jts : Array Value} {ns ms : List Int} (h1 : IsTup s.heap a its) (h2 : IsTup s.heap b jts) (i1 : IntsAre its.toList ns) (i2 : IntsAre jts.toList ms) (hu : A.units < cLine) : ∃ c : Bool, SeqAt.EqAt A s (.ref a) (.ref b) c ∧ (c = true → ns = ms) := by
 by_cases hab : a = b
 ·subst hab
  obtain ⟨o, ho, hc, n, hd⟩ := h1
  obtain ⟨o', ho', hc', n', hd'⟩ := h2
  rw [ho] at ho'
  cases ho'
  rw [hd] at hd'
  cases hd'
  exact ⟨true, SeqAt.EqAt.same _, fun _ => ints_fun i1 i2⟩
 ·have e := SeqAt.EqAt.of_refs hab (SeqAt.RcAt.tuples (A := A) (s := s) (e := fun j => ns.getD j 0 == ms.getD j 0) h1 h2 hu fun j b1 b2 => by
   obtain ⟨t, e1⟩ := ints_at j i1 (by simpa using b1)
   obtain ⟨u, e2⟩ := ints_at j i2 (by simpa using b2)
   rw [Array.getElem_toList] at e1 e2
   rw [e1, e2]
   exact SeqAt.EqAt.int_int _ _ _ _)
  refine ⟨_, e, fun h => eq_of_all ?_⟩
  rw [← Array.length_toList, ← Array.length_toList, ints_len i1, ints_len i2] at h
  exact h
theorem small_out : ∀ (vs : List Value), vs.length < 2 → Array.map (fun (x : Value × Value) => x.snd) (vs.toArray.zip vs.toArray) = List.toArray ((List.range vs.length).map fun i => vs.getD i Value.none)
 | [], _ => by simp
 | [v], _ => by simp
 | _ :: _ :: _, h => absurd h (by simp)
theorem sorted_pairs {l : Addr} {vs : List Value} {ks : List (Int × List Int)} {p : List Nat} {Q : Value → Shared → Prop} (hu : A.units + 64 < cLine) (hl : s.heap.IsList l vs.toArray) (hk : vs.length = ks.length) (hn : vs.length ≤ 1000) (h1 : vs.length < 2 → p = List.range vs.length)
  (h2 : 2 ≤ vs.length → ∀ e : SM.Env, e.n = vs.length → e.lt = SM.ltP ks → ∃ p', (SM.sortRunsS e).1 (SM.st0 vs.length) = some ((), p') ∧ p'.a.toList = p) (hpl : p.length = vs.length)
  (hrow : ∀ (i : Nat) (v : Value) (k : Int × List Int), vs[i]? = some v → ks[i]? = some k → ∃ a o its n, v = .ref a ∧ s.heap.get? a = some o ∧ o.cls = .type "tuple" ∧ o.data = .seq its n ∧ ∃ t r jts, its = #[.int k.1 t, .ref r] ∧ IsTup s.heap r jts ∧ IntsAre jts.toList k.2)
  (h : ∀ D h' c, s.heap.objs.size ≤ D → (∀ b o, s.heap.get? b = some o → h'.get? b = some o) → h'.get? D = some (seqObj "list" (p.map fun i => vs.getD i Value.none).toArray c) → Q (.ref D) { s with heap := h' }) :
  wpAny (model prog w) A (call (.builtin "sorted") [.ref l]) Q E s := by
 refine Calls.call_function_entry kind_sorted plain_sorted entry_sorted (args_sorted1 _) ?_
 unfold Builtin.«sorted»
 refine wpAny_bind (m := checkCount "sorted" 1 1 _) (wpAny_pure ?_)
 refine wpAny_bind (collect_list hl ?_ (by rw [sizeLine_eq]; omega))
 refine wpAny_bind (wpAny_newList ?_ (by rw [sizeLine_eq]; omega))
 have hsz : ((s.heap.push (seqObj "list" #[] 0)).update s.heap.objs.size (Obj.mapSeq (· ++ vs.toArray))).objs.size = s.heap.objs.size + 1 := by rw [Heap.size_update, size_push']
 have keep1 : ∀ b o, s.heap.get? b = some o → (((s.heap.push (seqObj "list" #[] 0)).update s.heap.objs.size (Obj.mapSeq (· ++ vs.toArray))).push (seqObj "list" vs.toArray 0)).get? b = some o := fun b o q => by
  have hlt : b < s.heap.objs.size := Heap.lt_size q
  rw [Heap.get?_push_ne _ _ _ (by rw [hsz]; exact Nat.ne_of_lt (Nat.lt_succ_of_lt hlt)), Heap.get?_update_ne _ _ _ _ (Nat.ne_of_lt hlt), Heap.get?_push_ne _ _ _ (Nat.ne_of_lt hlt)]
  exact q
 have hoL : (((s.heap.push (seqObj "list" #[] 0)).update s.heap.objs.size (Obj.mapSeq (· ++ vs.toArray))).push (seqObj "list" vs.toArray 0)).get? (s.heap.objs.size + 1) = some (seqObj "list" vs.toArray 0) := by rw [← hsz]; exact Heap.get?_push_size _ rfl
 show wpAny _ _ _ _ _ { s with heap := ((s.heap.push (seqObj "list" #[] 0)).update s.heap.objs.size (Obj.mapSeq (· ++ vs.toArray))).push (seqObj "list" vs.toArray 0) }
 rw [hsz]
 generalize ((s.heap.push (seqObj "list" #[] 0)).update s.heap.objs.size (Obj.mapSeq (· ++ vs.toArray))).push (seqObj "list" vs.toArray 0) = g1 at keep1 hoL ⊢
 have hDlt : s.heap.objs.size + 1 < g1.objs.size := Heap.lt_size hoL
 refine wpAny_bind (wpAny_holding (wpAny_call_entry slot_list_sort ⟨_, hoL, rfl⟩ entry_list_sort ?body (args_list_sort _)))
 case body =>
  rw [list_sort_plain]
  refine wpAny_bind (listItems_at hoL rfl ?_)
  refine wpAny_bind (listUpdate_at hoL rfl ?_ (by rw [List.size_toArray, sizeLine_eq]; omega) (Nat.zero_le _))
  obtain ⟨e1, ho1⟩ : ∃ e1, (g1.update (s.heap.objs.size + 1) (Obj.mapSeq fun _ => (#[] : Array Value))).get? (s.heap.objs.size + 1) = some (seqObj "list" #[] e1) := ⟨_, get?_update_seq hoL fun _ => #[]⟩
  have keep2 : ∀ b o, s.heap.get? b = some o → (g1.update (s.heap.objs.size + 1) (Obj.mapSeq fun _ => (#[] : Array Value))).get? b = some o := fun b o q => by
   rw [Heap.get?_update_ne _ _ _ _ (Nat.ne_of_lt (Nat.lt_succ_of_lt (Heap.lt_size q)))]
   exact keep1 b o q
  show wpAny _ _ _ _ _ { s with heap := g1.update (s.heap.objs.size + 1) (Obj.mapSeq fun _ => (#[] : Array Value)) }
  generalize g1.update (s.heap.objs.size + 1) (Obj.mapSeq fun _ => (#[] : Array Value)) = g2 at keep2 ho1 ⊢
  refine wpAny_bind (seqEpoch_at ho1 rfl ?_)
  refine wpAny_bind (wpAny_newTuple ?_ (by show vs.length ≤ _; rw [sizeLine_eq]; omega))
  refine wpAny_bind (wpAny_newList ?_ (Nat.zero_le _))
  refine wpAny_holding ?_
  show wpAny (model prog w) _ _ _ _ { s with heap := (g2.push (seqObj "tuple" vs.toArray 0)).push (seqObj "list" #[] 0) }
  dsimp only
  have ho3 : ((g2.push (seqObj "tuple" vs.toArray 0)).push (seqObj "list" #[] 0)).get? (s.heap.objs.size + 1) = some (seqObj "list" #[] e1) := Heap.get?_push_of_some _ (Heap.get?_push_of_some _ ho1)
  have keep3 : ∀ b o, s.heap.get? b = some o → ((g2.push (seqObj "tuple" vs.toArray 0)).push (seqObj "list" #[] 0)).get? b = some o := fun b o q => Heap.get?_push_of_some _ (Heap.get?_push_of_some _ (keep2 b o q))
  generalize (g2.push (seqObj "tuple" vs.toArray 0)).push (seqObj "list" #[] 0) = g3 at keep3 ho3 ⊢
  have hsz' : (List.toArray (p.map fun i => vs.getD i Value.none)).size = vs.length := by rw [List.size_toArray, List.length_map, hpl]
  obtain ⟨c2, hc2⟩ : ∃ c2, (g3.update (s.heap.objs.size + 1) (Obj.mapSeq fun _ => List.toArray (p.map fun i => vs.getD i Value.none))).get? (s.heap.objs.size + 1) = some (seqObj "list" (List.toArray (p.map fun i => vs.getD i Value.none)) c2) := ⟨_, get?_update_seq ho3 fun _ => List.toArray (p.map fun i => vs.getD i Value.none)⟩
  by_cases hn2 : vs.toArray.size < 2
  ·rw [if_pos hn2, if_pos hn2]
   refine wpAny_bind (wpAny_pure ?_)
   refine wpAny_bind (wpAny_pure (a := ((), SortSt.mk' general' (vs.toArray.zip vs.toArray) #[] 7 none)) ?_)
   dsimp only
   have hl2 : vs.length < 2 := by rw [List.size_toArray] at hn2; exact hn2
   have hout : Array.map (fun x => x.snd) (arrOf (SortSt.mk' general' (vs.toArray.zip vs.toArray) #[] 7 none)) = (List.toArray (p.map fun i => vs.getD i Value.none)) := by
    rw [h1 hl2]
    exact small_out vs hl2
   rw [hout]
   refine wpAny_bind (seqEpoch_at ho3 rfl ?_)
   refine wpAny_bind (listUpdate_at ho3 rfl ?_ (Nat.zero_le _) (Nat.le_trans (Nat.le_of_eq hsz') (by rw [sizeLine_eq]; omega)))
   simp only [bne_self_eq_false, Bool.false_eq_true, if_false]
   refine wpAny_pure ⟨_, rfl, wpAny_pure ⟨_, rfl, h _ _ c2 (Nat.le_succ _) (fun b o q => ?_) hc2⟩⟩
   rw [Heap.get?_update_ne _ _ _ _ (Nat.ne_of_lt (Nat.lt_succ_of_lt (Heap.lt_size q)))]
   exact keep3 b o q
  rw [if_neg hn2, if_neg hn2]
  replace hn2 : 2 ≤ vs.length := by rw [List.size_toArray] at hn2; omega
  have rows : ∀ (i : Nat), i < vs.length → ∃ a o its n, vs.getD i Value.none = .ref a ∧ g3.get? a = some o ∧ o.cls = .type "tuple" ∧ o.data = .seq its n ∧ ∃ t r jts, its = #[.int (ks.getD i (0, [])).1 t, .ref r] ∧ IsTup g3 r jts ∧ IntsAre jts.toList (ks.getD i (0, [])).2 := fun i hi => by
   have hi' : i < ks.length := by omega
   obtain ⟨a, o, its, n, e1, e2, e3, e4, t, r, jts, e5, ⟨o', f1, f2, f3⟩, e7⟩ := hrow i vs[i] ks[i] (by simp [hi]) (by simp [hi'])
   exact ⟨a, o, its, n, by simp [hi, e1], keep3 _ _ e2, e3, e4, t, r, jts, by simpa [hi'] using e5, ⟨o', keep3 _ _ f1, f2, f3⟩, by simpa [hi'] using e7⟩
  have firsts : ∀ (us : List Value), (∀ v ∈ us, v ∈ vs) → ∃ fs, KatTups g3 us fs ∧ fs.length = us.length ∧ ∀ f ∈ fs, ∃ i t, f = Value.int i t := by
   intro us
   induction us with
   | nil => exact fun _ => ⟨[], trivial, rfl, fun f h => nomatch h⟩
   | cons v us ih =>
    intro hm
    obtain ⟨fs, t1, t2, t3⟩ := ih fun x hx => hm x (List.mem_cons_of_mem _ hx)
    obtain ⟨i, hi, rfl⟩ := List.getElem_of_mem (hm v List.mem_cons_self)
    obtain ⟨a, o, its, n, e1, e2, e3, e4, t, r, jts, rfl, _⟩ := rows i hi
    have ev : vs[i] = .ref a := by simpa [hi] using e1
    rw [ev]
    exact ⟨.int _ t :: fs, KatTups.cons e2 e3 e4 rfl t1, by rw [List.length_cons, t2]; rfl, fun f hf => by
      rcases List.mem_cons.mp hf with rfl | hf
      ·exact ⟨_, _, rfl⟩
      ·exact t3 f hf⟩
  obtain ⟨fs, t1, t2, t3⟩ := firsts vs fun _ h => h
  refine wpAny_bind (kat_kind (T := .type "int") t1 (by omega) (fun f hf => by
   obtain ⟨i, t, rfl⟩ := t3 f hf
   exact Looks.of_pure rfl) (by decide) ?_)
  have hcmp : ∀ i j C, C (SM.ltP ks i j) ({ s with heap := g3 } : Shared) → i < vs.length → j < vs.length → kas_ask prog w A.in1.in1 (tuples' (Value.type "int" != Value.type "tuple")) vs i j C { s with heap := g3 } := fun i j C hC hi hj => by
   unfold kas_ask
   obtain ⟨a, o, its, n, e1, e2, e3, e4, t, r, jts, rfl, e6, e7⟩ := rows i hi
   obtain ⟨a', o', its', n', e1', e2', e3', e4', t', r', jts', rfl, e6', e7'⟩ := rows j hj
   rw [e1, e1']
   refine kat_lt e2 e4 e2' e4' ?_
   refine kat_cons (SeqAt.EqAt.int_int _ t _ t' prog w _ _ ?_)
   unfold SM.ltP at hC
   by_cases hxy : (ks.getD i (0, [])).1 = (ks.getD j (0, [])).1
   ·rw [if_pos hxy] at hC
    rw [show ((ks.getD i (0, [])).1 == (ks.getD j (0, [])).1) = true from beq_iff_eq.mpr hxy]
    refine kat_yes ?_
    obtain ⟨c, ec, hcc⟩ := eq_rowsAt (s := { s with heap := g3 }) (A := A.in1.in1) e6 e6' e7 e7' (by show A.units + 1 + 1 < _; omega)
    refine kat_cons (ec prog w _ _ (kat_go (fun hct => ?_) fun hcf => ?_))
    ·rw [hcc hct, SM.lexLt_refl] at hC
     exact kat_yes (kat_nil hC)
    ·exact kat_no (kat_one _ _ (HT.lt_tupInts e6 e6' e7 e7' (by show A.units + 1 + 1 < _; omega) hC))
   ·rw [if_neg hxy] at hC
    rw [show ((ks.getD i (0, [])).1 == (ks.getD j (0, [])).1) = false from beq_eq_false_iff_ne.mpr hxy]
    exact kat_no (oneLt_int hC)
  let ev : SM.Env := ⟨prog, w, A.in1.in1, fun _ _ => False, tuples' (Value.type "int" != Value.type "tuple"), vs.toArray.zip vs.toArray, vs.length, SM.ltP ks, fun s' => s' = { s with heap := g3 }, fun i j s' hs hi hj C hC => by
   subst hs
   have := hcmp i j C (hC _ rfl) hi hj
   rw [kas_ask_eq] at this
   exact this⟩
  obtain ⟨p', hp1, hp2⟩ := h2 hn2 ev rfl rfl
  have run := (SM.sortRunsS ev).2 { s with heap := g3 } (fun _ st' s' => st' = SM.real (tuples' (Value.type "int" != Value.type "tuple")) (vs.toArray.zip vs.toArray) p' ∧ s' = { s with heap := g3 }) (SM.st0 vs.length) p' () rfl hp1 fun s' e => ⟨rfl, e⟩
  rw [show SM.real ev.κ ev.it (SM.st0 vs.length) = _ from SM.real0] at run
  refine wpAny_bind (wpAny_mono run ?_ fun _ _ e => e.elim)
  rintro ⟨⟨⟩, st'⟩ s' ⟨rfl, rfl⟩
  dsimp only
  have hout := kat_snds (vs := vs) (ks := vs) rfl (st := SM.real (tuples' (Value.type "int" != Value.type "tuple")) (vs.toArray.zip vs.toArray) p') (p := p'.a) rfl
  rw [hp2] at hout
  rw [hout]
  refine wpAny_bind (seqEpoch_at ho3 rfl ?_)
  refine wpAny_bind (listUpdate_at ho3 rfl ?_ (Nat.zero_le _) (Nat.le_trans (Nat.le_of_eq hsz') (by rw [sizeLine_eq]; omega)))
  simp only [bne_self_eq_false, Bool.false_eq_true, if_false]
  refine wpAny_pure ⟨_, rfl, wpAny_pure ⟨_, rfl, h _ _ c2 (Nat.le_succ _) (fun b o q => ?_) hc2⟩⟩
  rw [Heap.get?_update_ne _ _ _ _ (Nat.ne_of_lt (Nat.lt_succ_of_lt (Heap.lt_size q)))]
  exact keep3 b o q
end
end PySem.W
namespace SM
def SortsTo (ks : List (Int × List Int)) (p : List Nat) : Prop := (ks.length < 2 → p = List.range ks.length) ∧ (2 ≤ ks.length → ∀ e : SM.Env, e.n = ks.length → e.lt = SM.ltP ks → ∃ p', (SM.sortRunsS e).1 (SM.st0 ks.length) = some ((), p') ∧ p'.a.toList = p) ∧ p.length = ks.length ∧ ∀ i ∈ p, i < ks.length
theorem run_of {o : Option (Unit × PS)} {p : List Nat} (h : o.map (fun r => r.2.a.toList) = some p) : ∃ p', o = some ((), p') ∧ p'.a.toList = p := by
 cases o with
 | none => cases h
 | some r =>
  obtain ⟨u, p'⟩ := r
  exact ⟨p', rfl, Option.some.inj h⟩
theorem run1 (e : Env) (hn : e.n = 5) (hl : e.lt = ltP (keyed 1)) : ((sortRunsS e).1 (st0 5)).map (fun r => r.2.a.toList) = some (ordr 1) := by
 cases e with | mk prog w A E κ it n lt Ok cmp =>
 cases hn
 cases hl
 kernel_rfl
theorem run2 (e : Env) (hn : e.n = 25) (hl : e.lt = ltP (keyed 2)) : ((sortRunsS e).1 (st0 25)).map (fun r => r.2.a.toList) = some (ordr 2) := by
 cases e with | mk prog w A E κ it n lt Ok cmp =>
 cases hn
 cases hl
 kernel_rfl
theorem pb_step {β γ : Type} {f : PM β} {g : β → PM γ} {p p1 : PS} {b : β} {r : Option (γ × PS)} (h1 : f p = some (b, p1)) (h2 : g b p1 = r) : pbind f g p = r := by
 unfold pbind
 rw [h1]
 exact h2
theorem map_step {o r : Option (Unit × PS)} {l : List Nat} (h0 : o = r) (h1 : r.map (fun r => r.2.a.toList) = some l) : o.map (fun r => r.2.a.toList) = some l := by rw [h0]; exact h1
theorem pl_y {β : Type} {g : Nat → β → PM (ForInStep β)} {x : Nat} {L l : List Nat} {b b' : β} {p p1 : PS} {r : Option (β × PS)} (hL : L = x :: l) (h1 : g x b p = some (.yield b', p1)) (h2 : ploop g l b' p1 = r) : ploop g L b p = r := by
 subst hL
 unfold ploop
 exact pb_step h1 h2
theorem pl_d {β : Type} {g : Nat → β → PM (ForInStep β)} {x : Nat} {l : List Nat} {b b' : β} {p p1 : PS} (h1 : g x b p = some (.done b', p1)) : ploop g (x :: l) b p = some (b', p1) := by
 unfold ploop
 exact pb_step h1 rfl
def ordS (a n : Nat) : List Nat := (List.range 13).flatMap fun (s : Nat) => (List.range' a n).filter fun i => decide (((keyed 3).getD i (0, [])).1 = (s : Int))
def st1 : PS := ⟨(ordS 0 63 ++ List.range' 63 62).toArray, #[(0, 63, 0)], 7⟩
def st2 : PS := ⟨(ordS 0 63 ++ ordS 63 62).toArray, #[(0, 63, 1), (63, 62, 0)], 7⟩
noncomputable def partsG (e : Env) : {gk : (PS → Nat → Option Unit × Nat → PM (ForInStep (Option Unit × Nat))) × (PS → Option Unit × Nat → PM Unit) // (sortRunsS e).1 = pbind (fun p => some (p, p)) fun p0 => pbind (ploop (gk.1 p0) (List.range' 0 (p0.a.size - 0)) (none, 0)) (gk.2 p0)} := ⟨(_, _), rfl⟩
theorem run3a (e : Env) (hn : e.n = 125) (hl : e.lt = ltP (keyed 3)) : (partsG e).1.1 (st0 125) 0 (none, 0) (st0 125) = some (.yield (none, 63), st1) := by
 cases e with | mk prog w A E κ it n lt Ok cmp =>
 cases hn
 cases hl
 kernel_rfl
theorem run3b (e : Env) (hn : e.n = 125) (hl : e.lt = ltP (keyed 3)) : (partsG e).1.1 (st0 125) 1 (none, 63) st1 = some (.yield (none, 125), st2) := by
 cases e with | mk prog w A E κ it n lt Ok cmp =>
 cases hn
 cases hl
 kernel_rfl
theorem run3d (e : Env) (hn : e.n = 125) (hl : e.lt = ltP (keyed 3)) : (partsG e).1.1 (st0 125) 2 (none, 125) st2 = some (.done (none, 125), st2) := by
 cases e with | mk prog w A E κ it n lt Ok cmp =>
 cases hn
 cases hl
 kernel_rfl
theorem run3c (e : Env) (hn : e.n = 125) (hl : e.lt = ltP (keyed 3)) : ((partsG e).1.2 (st0 125) (none, 125) st2).map (fun r => r.2.a.toList) = some (ordr 3) := by
 cases e with | mk prog w A E κ it n lt Ok cmp =>
 cases hn
 cases hl
 kernel_rfl
theorem run3 (e : Env) (hn : e.n = 125) (hl : e.lt = ltP (keyed 3)) : ((sortRunsS e).1 (st0 125)).map (fun r => r.2.a.toList) = some (ordr 3) := by
 have h1 := run3a e hn hl
 have h2 := run3b e hn hl
 have h3 := run3c e hn hl
 have h4 := run3d e hn hl
 rw [(partsG e).2]
 generalize (partsG e).1 = gk at h1 h2 h3 h4 ⊢
 refine map_step (pb_step (b := st0 125) (p1 := st0 125) rfl (pb_step (b := (none, 125)) (p1 := st2) (pl_y (x := 0) (l := 1 :: 2 :: List.range' 3 122) ?b0 h1 (pl_y (x := 1) (l := 2 :: List.range' 3 122) rfl h2 (pl_d h4))) rfl)) h3
 decide +kernel
theorem len_k : ∀ d ≤ 3, (keyed d).length = 5 ^ d := by decide +kernel
theorem ord_k : ∀ d ≤ 3, (ordr d).length = 5 ^ d ∧ ∀ i ∈ ordr d, i < 5 ^ d := by decide +kernel
theorem sorts_to {d : Nat} (hd : d ≤ 3) : SortsTo (keyed d) (ordr d) := by
 have h1 := len_k d hd
 have h2 := ord_k d hd
 unfold SortsTo
 rw [h1]
 refine ⟨fun h => ?_, fun h e he hl => ?_, h2.1, h2.2⟩
 ·match d, hd, h with
  | 0, _, _ => decide +kernel
  | 1, _, h => exact absurd h (by decide)
  | 2, _, h => exact absurd h (by decide)
  | 3, _, h => exact absurd h (by decide)
  | d + 4, h, _ => omega
 ·match d, hd, h with
  | 0, _, h => exact absurd h (by decide)
  | 1, _, _ => exact run_of (run1 e he hl)
  | 2, _, _ => exact run_of (run2 e he hl)
  | 3, _, _ => exact run_of (run3 e he hl)
  | d + 4, h, _ => omega
end SM
namespace L2
open PySem PySem.Spec PyProof.Rows
section
variable {X : Cx} {k : Nat}
def PrAt (H : Hp) (as rs : List Addr) (ks : List (Int × List Int)) : Prop := as.length = ks.length ∧ rs.length = ks.length ∧ ∀ (i : Nat) (a r : Addr) (k : Int × List Int), as[i]? = some a → rs[i]? = some r → ks[i]? = some k → H a = some (.tup [.int k.1, .ref r]) ∧ H r = some (.tup (k.2.map V.int))
def rSortP : List V → Hp → VK → Prop := fun xs H Q => ∃ (l : Addr) (as rs : List Addr) (ks : List (Int × List Int)) (p : List Nat), xs = [.ref l] ∧ H l = some (.lst (as.map V.ref)) ∧ PrAt H as rs ks ∧ ks.length ≤ 1000 ∧ SM.SortsTo ks p ∧ ∀ D, H D = none → Q (.ref D) (upd H D (.lst (p.map fun i => (as.map V.ref).getD i .non)))
theorem call_sortP (hr : Room k X.A) : CallR X (.builtin "sorted") rSortP := by
 intro pins s σ H xs us Q I r h
 obtain ⟨l, as, rs, ks, p, rfl, hl, ⟨l1, l2, hp⟩, hn, ⟨s1, s2, s3, s4⟩, q⟩ := h
 obtain ⟨u, rfl, ru⟩ := r.one
 cases ru
 obtain ⟨its, rv, pl, hz⟩ := I.list (SqL.of hl)
 have hlen : its.length = ks.length := by rw [← rv.length, List.length_map, l1]
 refine PySem.W.sorted_pairs (ks := ks) (p := p) hr.units pl.isList hlen (by omega) (by rw [hlen]; exact s1) (by rw [hlen]; exact s2) (by rw [hlen]; exact s3) (fun i v kk hv hk => ?_) fun D h' c hD hk hd => ?_
 ·have hi : i < ks.length := (List.getElem?_eq_some_iff.mp hk).1
  obtain ⟨e1, e2⟩ := hp i as[i] rs[i] kk (by simp [show i < as.length by omega]) (by simp [show i < rs.length by omega]) hk
  obtain ⟨jts, r2, pt, _⟩ := I.tuple (SqT.of e1)
  obtain ⟨o, ho, hc, n, hd⟩ := pt
  obtain ⟨kts, r3, pt3, _⟩ := I.tuple (SqT.of e2)
  cases r2 with
  | cons q1 q2 =>
  cases q2 with
  | cons q3 q4 =>
  cases q4
  obtain ⟨t, rfl⟩ := q1
  cases q3
  refine ⟨as[i], o, _, n, ?_, ho, hc, hd, t, rs[i], kts.toArray, rfl, pt3, by simpa using intsAre_of r3⟩
  have := Vals.getD rv i
  rw [show (as.map V.ref).getD i .non = V.ref as[i] by simp [show i < as.length by omega]] at this
  have hv' : its.getD i .none = v := by rw [List.getD_eq_getElem?_getD, hv]; rfl
  rw [hv'] at this
  exact this
 ·refine ⟨.ref D, _, I.laid (t' := s.toks) hk hD ?_, rfl, q D (I.hok.fresh hD)⟩
  exact ⟨by rw [List.length_map, s3]; exact Nat.le_of_lt (small1000 hn), _, c, Vals.perm rv _, hd⟩
theorem prs_fil {as rs : List Addr} {ks : List (Int × List Int)} (c : Int → Bool) {D : Addr} {tc : TT} {te : TE} {Q : VK} {ρ : L2.St} {H : Hp} {K : PySem.W.Frag} {a : Addr} (ha : H a = some (.lst (as.map V.ref))) (hp : PrAt H as rs ks) (hn : ks.length ≤ 1000)
  (hc : ∀ (x : Int) (r : Addr) (H' : Hp) (R : Bool → Hp → Prop), R (c x) H' → tc (some (.int x) :: some (.ref r) :: ρ) H' R) (he : ∀ (x : Int) (r : Addr) (H' : Hp) (R : V → Hp → Prop), R (.ref r) H' → te (some (.int x) :: some (.ref r) :: ρ) H' R)
  (q : ∀ H' bs, Same H H' → H' D = some (.lst (bs.map V.ref)) → RowsAt H' bs ((ks.filter fun x => c x.1).map (·.2)) → Q (.ref D) H') (hD : H D = none) : CGo (Itl K a) D (gTup K 2 (gCons (gName 0) (gCons (gName 1) gNil))) tc te Q (none :: none :: ρ) H := by
 obtain ⟨l1, l2, hx⟩ := hp
 refine ⟨fun i m τ ys H' => m = ks.length - i ∧ i ≤ ks.length ∧ (∃ tv tw, τ = tv :: tw :: ρ) ∧ (∃ bs : List Addr, ys = bs.map V.ref ∧ bs.length ≤ i ∧ RowsAt H' bs (((ks.take i).filter fun x => c x.1).map (·.2))) ∧ Same H H' ∧ H' D = some (.lst ys), ⟨ks.length, by omega, Nat.zero_le _, ⟨_, _, rfl⟩, ⟨[], rfl, Nat.zero_le _, trivial⟩, Same.new (Same.refl H) hD, upd_same⟩, ?_⟩
 rintro i m τ ys H' ⟨rfl, hi, ⟨tv, tw, rfl⟩, ⟨bs, rfl, hb, hB⟩, K', hDz⟩
 refine ⟨hDz, ?_⟩
 have sq : SqL K H' a (as.map V.ref) := SqL.of (K' _ _ ha)
 by_cases hlt : i < ks.length
 ·have hlt' : i < as.length := by omega
  have hlt2 : i < rs.length := by omega
  refine .inr ⟨⟨_, .ref as[i], sq, by simp [hlt']⟩, ?_⟩
  rintro w' H'' ⟨rfl, hw⟩
  have hw' := hw _ sq
  rw [List.getElem?_map, List.getElem?_eq_getElem hlt'] at hw'
  cases hw'
  obtain ⟨e1, e2⟩ := hx i as[i] rs[i] ks[i] (by simp [hlt']) (by simp [hlt2]) (by simp [hlt])
  have tk : (ks.take (i + 1)) = ks.take i ++ [ks[i]] := by rw [List.take_add_one, List.getElem?_eq_getElem hlt]; rfl
  refine ⟨as[i], _, rfl, SqT.of (K' _ _ e1), rfl, _, _, rfl, _, _, rfl, rfl, ?_⟩
  refine hc _ _ _ _ ?_
  by_cases hcx : c ks[i].1 = true
  ·rw [if_pos hcx]
   refine he _ _ _ _ ⟨hDz, by rw [List.length_map]; exact small1000 (by omega), ks.length - (i + 1), by omega, rfl, hlt, ⟨_, _, rfl⟩, ⟨bs ++ [rs[i]], by rw [List.map_append]; rfl, by rw [List.length_append, List.length_singleton]; omega, ?_⟩, K'.put hD, upd_same⟩
   have kt : ∀ q xs, H'' q = some (.tup xs) → upd H'' D (.lst (bs.map V.ref ++ [V.ref rs[i]])) q = some (.tup xs) := fun q xs e => by
    rw [upd_ne (ne_of e hDz (by intro z; cases z))]
    exact e
   rw [tk, List.filter_append, List.map_append]
   refine RowsAt.app (RowsAt.tk kt hB) ?_
   rw [List.filter_cons, if_pos hcx]
   exact ⟨kt _ _ (K' _ _ e2), trivial⟩
  ·rw [if_neg hcx]
   refine ⟨ks.length - (i + 1), by omega, rfl, hlt, ⟨_, _, rfl⟩, ⟨bs, rfl, by omega, ?_⟩, K', hDz⟩
   rw [tk, List.filter_append, List.map_append, List.filter_cons, if_neg hcx]
   simpa using hB
 ·have e : i = ks.length := by omega
  subst e
  refine .inl ⟨⟨_, sq, by simp [l1]⟩, q H' bs K' hDz ?_⟩
  rw [List.take_of_length_le (Nat.le_refl _)] at hB
  exact hB
theorem PrAt.perm {H : Hp} {as rs : List Addr} {ks : List (Int × List Int)} (h : PrAt H as rs ks) {p : List Nat} (hp : ∀ i ∈ p, i < ks.length) : PrAt H (p.map fun i => as.getD i 0) (p.map fun i => rs.getD i 0) (p.map fun i => ks.getD i (0, [])) ∧ (p.map fun i => (as.map V.ref).getD i .non) = (p.map fun i => as.getD i 0).map V.ref := by
 obtain ⟨l1, l2, h⟩ := h
 refine ⟨⟨by simp, by simp, fun i a r kk e1 e2 e3 => ?_⟩, ?_⟩
 ·rw [List.getElem?_map] at e1 e2 e3
  cases hi : p[i]? with
  | none => rw [hi] at e1; cases e1
  | some j =>
   rw [hi] at e1 e2 e3
   have hj := hp j (List.mem_of_getElem? hi)
   cases e1
   cases e2
   cases e3
   exact h j _ _ _ (by simp [show j < as.length by omega]) (by simp [show j < rs.length by omega]) (by simp [hj])
 ·rw [List.map_map]
  refine List.map_congr_left fun i hi => ?_
  have : i < as.length := by rw [l1]; exact hp i hi
  simp [this]
end
end L2
namespace K44
open PySem L2 G2
local macro_rules | `(tactic| walk_at "v") => `(tactic| repeat (with_reducible first
  | refine w_seq ?_ | refine w_asg ?_ | refine w_gname ?_ | refine w_op ?_ | refine w_var rfl ?_ | refine w_c ?_ | refine w_rI0 ?_ | refine w_ifs ?_ | refine w_ife ?_ | refine w_test ?_ | refine w_tb ?_ | refine w_bl ?_ | refine w_not ?_ | refine w_ret ?_ | refine w_retN ?_
  | refine w_nil ?_ | refine w_cons ?_ | refine w_lst ?_ | refine w_tup ?_ | refine w_cb ?_ | refine w_call ?_ | refine w_gsub ?_ | refine w_and ?_ | refine w_or ?_ | refine w_next ?_ | refine w_all ?_ | refine w_vals ?_ | refine w_compR ?_ | refine w_compT ?_ | refine w_forR ?_ | refine w_forT ?_ | refine w_forL ?_ | refine w_drop ?_ | refine w_bm ?_ | refine w_compZ ?_ | refine w_compL ?_ | refine w_chain ?_ | refine w_sl ?_ | refine w_nopart ?_ | refine w_part ?_ | refine w_unI ?_ | refine iteT ?_ | refine iteF ?_))
def top (i : Nat) : Stmt := PySem.Challenge.pw_dropsums_k44_small_beginnings.main.body.getD i (.Pass ⟨0, 0, 0, 0⟩)
abbrev sFeed : Stmt := top 6
abbrev sDraw : Stmt := top 7
structure Blt (mg : Str → Option Value) : Prop where
 len : mg "len" = none
 range : mg "range" = none
 tuple : mg "tuple" = none
 list : mg "list" = none
 int : mg "int" = none
 min : mg "min" = none
 max : mg "max" = none
 zip : mg "zip" = none
 srt : mg "sorted" = none
 sum : mg "sum" = none
 repr : mg "repr" = none
 isi : mg "isinstance" = none
structure Tq (H : Hp) (p l : Addr) (ns : List Int) (n : Nat) : Prop where
 ex : ∃ c e f : Int, H p = some (.lst [.ref l, .int c, .int e, .int f]) ∧ 0 ≤ f ∧ f ≤ (n : Int)
 hl : H l = some (.lst (ns.map V.int))
 ne : p ≠ l
 pos : 0 < ns.length
 l64 : ns.length ≤ 64
section
variable {p l a : Addr} {H H' : Hp} {o : HO} {ns : List Int} {n n' : Nat}
theorem Tq.draw (t : Tq H p l ns n) {c e f : Int} (h0 : 0 ≤ f) (h1 : f ≤ (n' : Int)) : Tq (upd H p (.lst [.ref l, .int c, .int e, .int f])) p l ns n' := ⟨⟨c, e, f, upd_same, h0, h1⟩, by rw [upd_ne (Ne.symm t.ne)]; exact t.hl, t.ne, t.pos, t.l64⟩
theorem Tq.np (t : Tq H p l ns n) (h : H a = none) : p ≠ a := let ⟨_, _, _, e, _⟩ := t.ex; ne_of_none e h
theorem Tq.nl (t : Tq H p l ns n) (h : H a = none) : l ≠ a := ne_of_none t.hl h
theorem Tq.put (t : Tq H p l ns n) (h1 : p ≠ a) (h2 : l ≠ a) : Tq (upd H a o) p l ns n := by
 obtain ⟨c, e, f, hp, r⟩ := t.ex
 exact ⟨⟨c, e, f, by rw [upd_ne h1]; exact hp, r⟩, by rw [upd_ne h2]; exact t.hl, t.ne, t.pos, t.l64⟩
theorem Tq.same (t : Tq H p l ns n) (k : Same H H') : Tq H' p l ns n := by
 obtain ⟨c, e, f, hp, r⟩ := t.ex
 exact ⟨⟨c, e, f, k _ _ hp, r⟩, k _ _ t.hl, t.ne, t.pos, t.l64⟩
end
def spFeed (K : PySem.W.Frag) : Sp := fun vs H Q _ => ∃ (a : Addr) (ns : List Int), vs = [.ref a] ∧ SqL K H a (ns.map V.int) ∧ ∀ p l (ms : List Int) H', Tq H' p l ms 0 → Same H H' → Q (.ref p) H'
def spDraw : Sp := fun vs H Q _ => ∃ (p l : Addr) (ns : List Int) (n : Nat) (m : Int), vs = [.ref p, .int m] ∧ Tq H p l ns n ∧ n ≤ 100000 ∧ 0 < m ∧ m < 1000000 ∧ ∀ (r c e f : Int), 0 ≤ r → r < m → 0 ≤ f → f ≤ ((n + 1 : Nat) : Int) → Q (.int r) (upd H p (.lst [.ref l, .int c, .int e, .int f]))
theorem op_eqS {X : Cx} {k : Nat} (hr : Room k X.A) : OpR X (compareOp .Eq) (fun x y H Q => ∃ a z ns, x = .ref a ∧ y = .ref z ∧ SqL X.K H a (ns.map V.int) ∧ H z = some (.lst []) ∧ Q (.bl (decide (ns = []))) H) := by
 intro pins s σ H x y v u Q I rx ry h
 obtain ⟨a, z, ns, rfl, rfl, ha, hz, q⟩ := h
 obtain ⟨bs, rb⟩ := (RdV.lst hz .nil).reads I ry
 cases rx
 obtain ⟨its, r, ht, _⟩ := I.list ha
 obtain ⟨cs, rc⟩ := (rdInts (H := H) ns).reads I r
 obtain ⟨o, e, c, n, d⟩ := ht.isList
 have ra : Reads s.heap (.ref a) (.list (ns.map PyData.int)) (a :: cs) := .list e c d (by simpa using rc)
 have hu := hr.units
 have hd : (PyData.list (ns.map PyData.int)).depth ≤ 60 := by
  show PyData.depthAll _ + 1 ≤ 60
  rw [depth_ints]
  decide
 refine SeqAt.compareEq_reads ra rb (lay_ints ns) rfl (by omega) ⟨.bl _, H, I, rfl, ?_⟩
 have e' : PyData.eqv (.list (ns.map PyData.int)) (.list []) = decide (ns = []) := eqv_ints ns []
 rw [e']
 exact q
abbrev nDraw : List Str := ["_law_feed_here", "_law_many", "_law_found", "_law_cell", "_law_turn", "_law_mixed"]
theorem nmDraw : Nm nDraw (defScope sDraw) := ⟨by decide +kernel, by decide +kernel⟩
theorem scDraw : FnScope nDraw ["_law_feed_here", "_law_many"] (defScope sDraw) := ⟨rfl, rfl, rfl, by decide +kernel, rfl, by decide +kernel, by decide +kernel⟩
abbrev nFeed : List Str := ["_law_script"]
theorem nmFeed : Nm nFeed (defScope sFeed) := ⟨by decide +kernel, by decide +kernel⟩
theorem scFeed : FnScope nFeed ["_law_script"] (defScope sFeed) := ⟨rfl, rfl, rfl, by decide +kernel, rfl, by decide +kernel, by decide +kernel⟩
section
variable {P : Program} {w : World} {K : PySem.W.Frag} {mg : Str → Option Value} {base : Heap}
set_option maxHeartbeats 4000000 in
theorem ok_Draw {f : Addr} {fd : FuncData} (B : Blt mg) (F : Fun K "_law_draw" "_law_draw" sDraw f fd) : FnOk P w K mg base CX0 1 f fd ["_law_feed_here", "_law_many"] spDraw := by
 refine F.ok scDraw (fun vs H Q E h => ?_) (fun cdv A outer s H vs Q E hr h => ?_)
 ·obtain ⟨p, l, ns, n, m, rfl, _⟩ := h
  rfl
 ·obtain ⟨p, l, ns, n, m, rfl, T, hn, hm, hm2, k⟩ := h
  refine' ⟨_, ?hb, ?rd⟩
  case hb =>
   refine' pss_cons ?s1 ?r1
   case' r1 => refine' pss_cons ?s2 ?r2
   case' r2 => refine' pss_cons ?s3 ?r3
   case' r3 => refine' pss_cons ?s4 ?r4
   case' r4 => refine' pss_cons ?s5 ?r5
   case' r5 => refine' pss_cons ?s6 ?r6
   case' r6 => refine' pss_cons ?s7 ?r7
   case' r7 => refine' pss_cons ?s8 ?r8
   case' r8 => refine' pss_one ?s9
   case s1 => exact ps_asg (pe_op op_add (pe_ix ix_d (pvd nmDraw 0) pe_int (fun _ _ => rfl)) pe_int) (pg_sub (pvd nmDraw 0) pe_int set_d)
   case s2 =>
    refine' ps_if (pt_cmpR op_gt (pe_ix ix_d (pvd nmDraw 0) pe_int (fun _ _ => rfl)) pe_int (nomark _)) ?a0 pss_nil
    case' a0 => refine' pss_cons ?a1 ?b1
    case' b1 => refine' pss_cons ?a2 ?b2
    case' b2 => refine' pss_one ?a3
    case a1 => exact ps_setD nmDraw 2 (pe_op op_mod (pe_ix ix_d (pvd nmDraw 0) pe_int (fun _ _ => rfl)) (pvd nmDraw 1))
    case a2 => exact ps_asg (pe_op op_fdiv (pe_ix ix_d (pvd nmDraw 0) pe_int (fun _ _ => rfl)) (pvd nmDraw 1)) (pg_sub (pvd nmDraw 0) pe_int set_d)
    case a3 => exact ps_ret (pvd nmDraw 2)
   case s3 =>
    refine' ps_setD nmDraw 3 ?c1
    case' c1 => refine' pe_ix ix_d (pe_ix ix_d (pvd nmDraw 0) pe_int (fun _ _ => rfl)) ?c2 (fun _ _ => rfl)
    case' c2 => refine' pe_op op_mod (pe_ix ix_d (pvd nmDraw 0) pe_int (fun _ _ => rfl)) ?c3
    case c3 => exact pe_cB call_len_seq B.len PySem.boot_len (pa_1 (pe_ix ix_d (pvd nmDraw 0) pe_int (fun _ _ => rfl)))
   case s4 => exact ps_asg (pe_op op_add (pe_ix ix_d (pvd nmDraw 0) pe_int (fun _ _ => rfl)) pe_int) (pg_sub (pvd nmDraw 0) pe_int set_d)
   case s5 =>
    refine' ps_if (pt_cmpR op_ge (pvd nmDraw 3) (pe_op op_pow pe_int pe_int) (nomark _)) ?d0 pss_nil
    case' d0 => refine' pss_cons ?d1 ?e1
    case' e1 => refine' pss_one ?d2
    case d1 => exact ps_asg (pe_op op_fdiv (pvd nmDraw 3) (pvd nmDraw 1)) (pg_sub (pvd nmDraw 0) pe_int set_d)
    case d2 => exact ps_ret (pe_op op_mod (pvd nmDraw 3) (pvd nmDraw 1))
   case s6 =>
    refine' ps_setD nmDraw 4 ?f1
    case' f1 => refine' pe_op op_add ?f2 pe_int
    case' f2 => refine' pe_op op_add ?f3 ?f4
    case f3 => exact pe_op op_mul (pe_op op_mul pe_int (pe_ix ix_d (pvd nmDraw 0) pe_int (fun _ _ => rfl))) (pe_ix ix_d (pvd nmDraw 0) pe_int (fun _ _ => rfl))
    case f4 => exact pe_op op_mul pe_int (pe_ix ix_d (pvd nmDraw 0) pe_int (fun _ _ => rfl))
   case s7 =>
    refine' ps_setD nmDraw 5 ?g1
    case g1 => exact pe_op op_mod (pe_op op_mul (pe_op op_add (pe_op op_mod (pvd nmDraw 3) pe_int) pe_int) (pvd nmDraw 4)) pe_int
   case s8 =>
    refine' ps_setD nmDraw 5 ?h1
    case h1 => exact pe_op op_add (pe_op op_mul (pvd nmDraw 5) (pe_op op_add (pe_op op_mod (pvd nmDraw 5) pe_int) pe_int)) (pe_ix ix_d (pvd nmDraw 0) pe_int (fun _ _ => rfl))
   case s9 => exact ps_ret (pe_op op_mod (pe_op op_fdiv (pe_op op_mod (pvd nmDraw 5) pe_int) pe_int) (pvd nmDraw 1))
  case rd =>
   obtain ⟨c, e, f, hp, f0, f1⟩ := T.ex
   have hne := T.ne
   have hl := T.hl
   have hpos := T.pos
   walk_at "v"
   refine w_ixL hp rfl ?_
   walk_at "v"
   refine w_set hp rfl ?_
   walk_at "v"
   refine w_ixL upd_same rfl ?_
   walk_at "v"
   refine iteD (fun _ => ?_) (fun _ => ?_)
   ·walk_at "v"
    refine w_ixL upd_same rfl ?_
    walk_at "v"
    refine w_rI hm ?_
    walk_at "v"
    refine w_ixL upd_same rfl ?_
    walk_at "v"
    refine w_rI ⟨hm, by omega⟩ ?_
    walk_at "v"
    refine w_set upd_same rfl ?_
    walk_at "v"
    rw [upd_upd]
    exact k _ _ _ _ (md hm).1 (md hm).2 (by omega) (by omega)
   ·walk_at "v"
    refine w_ixL upd_same rfl ?_
    walk_at "v"
    refine w_ixL upd_same rfl ?_
    walk_at "v"
    refine w_ixL upd_same rfl ?_
    walk_at "v"
    have hl1 : ∀ {o : HO}, upd H p o l = some (.lst (ns.map V.int)) := by
     intro o
     rw [upd_ne (Ne.symm hne)]
     exact hl
    refine ⟨l, _, rfl, .inl (SqL.of hl1), ?_⟩
    rw [List.length_map]
    have hp0 : (0 : Int) < (ns.length : Int) := by omega
    refine w_rI hp0 ?_
    obtain ⟨x, hx, hat⟩ : ∃ x, x ∈ ns ∧ atI (ns.map V.int) (c % (ns.length : Int)) = some (.int x) := by
     obtain ⟨j, hj⟩ := ofI (md (i := c) hp0).1
     have hj2 := (md (i := c) hp0).2
     rw [hj] at hj2 ⊢
     have hjl : j < ns.length := by omega
     exact ⟨ns[j], List.getElem_mem hjl, atI_nat (by simp [hjl])⟩
    refine w_ixL hl1 hat ?_
    walk_at "v"
    refine w_ixL upd_same rfl ?_
    walk_at "v"
    refine w_set upd_same rfl ?_
    rw [upd_upd]
    walk_at "v"
    refine w_rI ⟨by decide, by decide, by decide⟩ ?_
    walk_at "v"
    refine iteD (fun _ => ?_) (fun _ => ?_)
    ·walk_at "v"
     refine w_rI ⟨hm, by omega⟩ ?_
     walk_at "v"
     refine w_set upd_same rfl ?_
     rw [upd_upd]
     walk_at "v"
     refine w_rI hm ?_
     exact k _ _ _ _ (md hm).1 (md hm).2 (by omega) (by omega)
    ·walk_at "v"
     refine w_ixL upd_same rfl ?_
     refine w_rI (mulL (by decide) (by decide)) ?_
     walk_at "v"
     refine w_ixL upd_same rfl ?_
     refine w_rI (mulR (by omega) (by omega)) ?_
     walk_at "v"
     refine w_ixL upd_same rfl ?_
     refine w_rI (mulL (by decide) (by decide)) ?_
     walk_at "v"
     generalize 31 * (f + 1) * (f + 1) + 7919 * (f + 1) + 1 = tn
     refine w_rI (by decide) ?_
     walk_at "v"
     have q1 := md (i := x) (j := 2147483629) (by decide)
     refine w_rI (mulL (by omega) (by omega)) ?_
     walk_at "v"
     refine w_rI (by decide) ?_
     generalize hy : (x % 2147483629 + 1) * tn % 2147483647 = y
     have h1 := md (i := (x % 2147483629 + 1) * tn) (j := 2147483647) (by decide)
     rw [hy] at h1
     walk_at "v"
     refine w_rI (by decide) ?_
     walk_at "v"
     refine w_rI (mulL (by omega) (by omega)) ?_
     walk_at "v"
     refine w_ixL upd_same rfl ?_
     walk_at "v"
     refine w_rI (by decide) ?_
     walk_at "v"
     refine w_rI ⟨by decide, by decide⟩ ?_
     walk_at "v"
     refine w_rI hm ?_
     exact k _ _ _ _ (md hm).1 (md hm).2 (by omega) (by omega)
set_option maxHeartbeats 4000000 in
theorem ok_Feed {f : Addr} {fd : FuncData} (B : Blt mg) (F : Fun K "_law_feed" "_law_feed" sFeed f fd) : FnOk P w K mg base CX0 1 f fd ["_law_script"] (spFeed K) := by
 refine F.ok scFeed (fun vs H Q E h => ?_) (fun cdv A outer s H vs Q E hr h => ?_)
 ·obtain ⟨a, ns, rfl, _⟩ := h
  rfl
 ·obtain ⟨a, ns, rfl, hS, k⟩ := h
  refine' ⟨_, ?hb, ?rd⟩
  case hb =>
   refine' pss_one ?s1
   case' s1 => refine' ps_ret ?p1
   case' p1 => refine' pe_lst ?p2
   case' p2 => refine' pa_c ?p3 ?p4
   case p4 => exact pa_c pe_int (pa_2 pe_int pe_int)
   case' p3 => refine' pe_op op_cat ?p5 ?p6
   case p5 => exact pe_slice sl_list (pvd nmFeed 0) po_none (po_some pe_int)
   case' p6 => refine' pe_op op_rep (pe_lst (pa_1 pe_int)) ?p7
   case' p7 => refine' pe_cT call_int1 B.int PyProof.Rows.boot_int ?p8
   case' p8 => refine' pa_1 ?p9
   case p9 => exact pe_cmpR (op_eqS hr) (pvd nmFeed 0) (pe_lst pa_nil) (nomark _)
  case rd =>
   walk_at "v"
   refine ⟨_, rfl, ?_⟩
   refine ⟨a, _, rfl, hS, fun l1 hl1 => ?_⟩
   have hcut : cutV (ns.map V.int) none (some 63) = (ns.take 63).map V.int := by
    unfold cutV HT.sIx
    dsimp only
    rw [if_neg (by decide : ¬ (63 : Int) < 0), List.drop_zero, Nat.sub_zero, List.map_take, List.length_map]
    show List.take (min 63 ns.length) _ = _
    by_cases h : ns.length ≤ 63
    ·rw [Nat.min_eq_right h, List.take_of_length_le (by rw [List.length_map]; omega), List.take_of_length_le (by rw [List.length_map]; omega)]
    ·rw [Nat.min_eq_left (by omega)]
   rw [hcut]
   have K1 : Same H (upd H l1 (.lst ((ns.take 63).map V.int))) := Same.new (Same.refl H) hl1
   have e1 : upd H l1 (.lst ((ns.take 63).map V.int)) l1 = some (.lst ((ns.take 63).map V.int)) := upd_same
   have S1 : SqL K (upd H l1 (.lst ((ns.take 63).map V.int))) a (ns.map V.int) := by
    rcases hS with (e | ⟨o, e⟩) | h
    ·exact .inl (.inl (K1 _ _ e))
    ·exact .inl (.inr ⟨o, K1 _ _ e⟩)
    ·exact .inr h
   generalize upd H l1 (.lst ((ns.take 63).map V.int)) = H1 at K1 e1 S1 ⊢
   walk_at "v"
   refine ⟨by show 1 ≤ sizeLine; decide, fun z0 hz0 => ?_⟩
   have K2 : Same H1 (upd H1 z0 (.lst [.int 0])) := Same.new (Same.refl H1) hz0
   have e2 : upd H1 z0 (.lst [.int 0]) z0 = some (.lst [.int 0]) := upd_same
   have S2 : SqL K (upd H1 z0 (.lst [.int 0])) a (ns.map V.int) := by
    rcases S1 with (e | ⟨o, e⟩) | h
    ·exact .inl (.inl (K2 _ _ e))
    ·exact .inl (.inr ⟨o, K2 _ _ e⟩)
    ·exact .inr h
   generalize upd H1 z0 (.lst [.int 0]) = H2 at K2 e2 S2 ⊢
   walk_at "v"
   refine ⟨Nat.zero_le _, fun z1 hz1 => ?_⟩
   have K3 : Same H2 (upd H2 z1 (.lst [])) := Same.new (Same.refl H2) hz1
   have e3 : upd H2 z1 (.lst []) z1 = some (.lst []) := upd_same
   have S3 : SqL K (upd H2 z1 (.lst [])) a (ns.map V.int) := by
    rcases S2 with (e | ⟨o, e⟩) | h
    ·exact .inl (.inl (K3 _ _ e))
    ·exact .inl (.inr ⟨o, K3 _ _ e⟩)
    ·exact .inr h
   generalize upd H2 z1 (.lst []) = H3 at K3 e3 S3 ⊢
   refine ⟨a, z1, ns, rfl, rfl, S3, e3, ?_⟩
   walk_at "v"
   refine .inr ⟨_, rfl, ?_⟩
   obtain ⟨j, hj, hj1, hjn⟩ : ∃ j : Nat, (if decide (ns = []) = true then (1 : Int) else 0) = (j : Int) ∧ j ≤ 1 ∧ (ns = [] → j = 1) := by
    by_cases h : ns = []
    ·exact ⟨1, by simp [h], by omega, fun _ => rfl⟩
    ·exact ⟨0, by simp [h], by omega, fun z => absurd z h⟩
   rw [hj]
   refine ⟨z0, _, _, rfl, rfl, K3 _ _ e2, by omega, by omega, by rw [Int.toNat_natCast]; exact Nat.le_of_lt (small1000 (by simp; omega)), fun z2 hz2 => ?_⟩
   rw [Int.toNat_natCast, rep_one]
   have K4 : Same H3 (upd H3 z2 (.lst ((List.replicate j (0 : Int)).map V.int))) := Same.new (Same.refl H3) hz2
   have e4 : upd H3 z2 (.lst ((List.replicate j (0 : Int)).map V.int)) z2 = some (.lst ((List.replicate j (0 : Int)).map V.int)) := upd_same
   generalize upd H3 z2 (.lst ((List.replicate j (0 : Int)).map V.int)) = H4 at K4 e4 ⊢
   have K14 := (K2.trans K3).trans K4
   refine ⟨l1, z2, _, _, rfl, rfl, K14 _ _ e1, e4, Nat.le_of_lt (small1000 (by simp; omega)), fun l hl => ?_⟩
   rw [← List.map_append]
   have K5 : Same H (upd H4 l (.lst ((ns.take 63 ++ List.replicate j (0 : Int)).map V.int))) := (K1.trans K14).new hl
   have e5 : upd H4 l (.lst ((ns.take 63 ++ List.replicate j (0 : Int)).map V.int)) l = some (.lst ((ns.take 63 ++ List.replicate j (0 : Int)).map V.int)) := upd_same
   generalize upd H4 l (.lst ((ns.take 63 ++ List.replicate j (0 : Int)).map V.int)) = H5 at K5 e5 ⊢
   walk_at "v"
   refine ⟨by show 4 ≤ sizeLine; decide, fun p hp => ?_⟩
   have nlp : l ≠ p := ne_of_none e5 hp
   refine k p l (ns.take 63 ++ List.replicate j 0) _ ⟨⟨0, 0, 0, upd_same, by decide, by decide⟩, by rw [upd_ne nlp]; exact e5, Ne.symm nlp, ?_, ?_⟩ (K5.new hp)
   ·rw [List.length_append, List.length_take, List.length_replicate]
    cases ns with
    | nil => rw [hjn rfl]; decide
    | cons x xs => rw [List.length_cons]; omega
   ·rw [List.length_append, List.length_take, List.length_replicate]
    omega
end
section
variable {p l a : Addr} {H H' H'' : Hp} {o : HO} {ns : List Int}
end
end K44
namespace K44
open PySem L2 G2
theorem nob {H : Hp} {a : Addr} (o : HO) (h : H a = none) : ∃ H2, upd H a o = H2 ∧ Same H H2 ∧ H2 a = some o := ⟨_, rfl, Same.new (Same.refl _) h, upd_same⟩
theorem nop {H G : Hp} {a : Addr} (o : HO) (M : Same H G) (h : H a = none) : ∃ H2, upd G a o = H2 ∧ Same H H2 ∧ H2 a = some o := ⟨_, rfl, M.put h, upd_same⟩
local macro_rules | `(tactic| walk_at "v") => `(tactic| repeat (with_reducible first
  | refine w_seq ?_ | refine w_asg ?_ | refine w_gname ?_ | refine w_op ?_ | refine w_var rfl ?_ | refine w_c ?_ | refine w_rI0 ?_ | refine w_ifs ?_ | refine w_ife ?_ | refine w_test ?_ | refine w_tb ?_ | refine w_bl ?_ | refine w_not ?_ | refine w_ret ?_ | refine w_retN ?_
  | refine w_nil ?_ | refine w_cons ?_ | refine w_lst ?_ | refine w_tup ?_ | refine w_cb ?_ | refine w_call ?_ | refine w_gsub ?_ | refine w_and ?_ | refine w_or ?_ | refine w_next ?_ | refine w_all ?_ | refine w_vals ?_ | refine w_compR ?_ | refine w_compT ?_ | refine w_forR ?_ | refine w_forT ?_ | refine w_forL ?_ | refine w_drop ?_ | refine w_bm ?_ | refine w_compZ ?_ | refine w_compL ?_ | refine w_chain ?_ | refine w_sl ?_ | refine w_nopart ?_ | refine w_part ?_ | refine w_unI ?_ | refine iteT ?_ | refine iteF ?_))
abbrev sCt : Stmt := top 1
abbrev sSa : Stmt := top 4
abbrev nCt : List Str := ["many", "total", "tuples", "first"]
theorem nmCt : Nm nCt (defScope sCt) := ⟨by decide +kernel, by decide +kernel⟩
theorem scCt : FnScope nCt ["many", "total"] (defScope sCt) := ⟨rfl, rfl, rfl, by decide +kernel, rfl, by decide +kernel, by decide +kernel⟩
abbrev nSa : List Str := ["many", "small", "total"]
theorem nmSa : Nm nSa (defScope sSa) := ⟨by decide +kernel, by decide +kernel⟩
theorem scSa : FnScope nSa ["many"] (defScope sSa) := ⟨rfl, rfl, rfl, by decide +kernel, rfl, by decide +kernel, by decide +kernel⟩
def Kn (mg : Str → Option Value) (x : Str) (i : Int) : Prop := ∃ t, mg x = some (Value.int i t)
theorem pe_k {X : Cx} {x : Str} {i : Int} {pos : Pos} (h : Kn X.mg x i) (hg : Gl X x := by rfl) (hd : (x == ("__debug__" : Str)) = false := by decide) : PE X (.Name x pos) (tC (.int i)) := by
 obtain ⟨t, e⟩ := h
 exact pe_glob hg e ⟨t, rfl⟩ hd
def extC (s : Stmt) : Scope := match s with
 | .Expr (.Call _ [.ListComp _ _ sc _] _ _) _ => sc
 | _ => { kind := .function, names := [], isGenerator := false, isCoroutine := false }
def forBody (s : Stmt) : List Stmt := match s with
 | .For _ _ b _ _ => b
 | _ => []
abbrev cCt : Scope := extC ((forBody ((defBody sCt).getD 2 (.Pass ⟨0, 0, 0, 0⟩))).getD 0 (.Pass ⟨0, 0, 0, 0⟩))
theorem bsCt : BScope (defScope sCt) cCt ["rest"] ["first"] [] := { okind := by decide +kernel, kind := by decide +kernel, nocell := by decide +kernel, names := by decide +kernel, fr := by decide +kernel, ff := by decide +kernel, nd := by decide +kernel, vis := by decide +kernel, loc := by decide +kernel, gl := by decide +kernel }
def ct : Nat → Nat → List (List Int)
 | 0, n => if n = 0 then [[]] else []
 | d + 1, n => (List.range (n + 1)).flatMap fun f => (ct d (n - f)).map fun r => (f : Int) :: r
def sm (d : Nat) : List (List Int) := (List.range 5).flatMap (ct d)
structure BltK (mg : Str → Option Value) : Prop extends Blt mg where
 moK : Kn mg "MOST_TOGETHER" 4
theorem _root_.L2.RowsAt.tks {H H' : Hp} (k : TK H H') {as : List Addr} {ks : List (List Int)} (h : RowsAt H as ks) : RowsAt H' as ks := RowsAt.tk k.t h
def spC : Nat → Sp
 | 0 => fun _ _ _ _ => False
 | d + 1 => fun vs H Q _ => ∃ n : Nat, vs = [.int (d : Int), .int (n : Int)] ∧ n ≤ 4 ∧ d ≤ 3 ∧ ∀ l as H', Same H H' → H l = none → H' l = some (.lst (as.map V.ref)) → RowsAt H' as (ct d n) → Q (.ref l) H'
def spCg : Sp := fun vs H Q E => ∃ d : Nat, d ≤ 3 ∧ spC (d + 1) vs H Q E
def spSa : Sp := fun vs H Q _ => ∃ d : Nat, vs = [.int (d : Int)] ∧ d ≤ 3 ∧ ∀ l as H', Same H H' → H l = none → H' l = some (.lst (as.map V.ref)) → RowsAt H' as (sm d) → Q (.ref l) H'
theorem ct_all : ∀ d < 4, ∀ n < 5, (ct d n).length ≤ 15 ∧ ∀ ks ∈ ct d n, ks.length ≤ 3 := by decide +kernel
theorem ct_len (d n : Nat) (h : d ≤ 3) (h' : n ≤ 4) : (ct d n).length ≤ 15 := (ct_all d (by omega) n (by omega)).1
theorem flat_take {α β : Type} (f : α → List β) (xs : List α) {i : Nat} {x : α} (h : xs[i]? = some x) : (xs.take (i + 1)).flatMap f = (xs.take i).flatMap f ++ f x := by
 rw [List.take_add_one, h, List.flatMap_append]
 simp
section
variable {P : Program} {w : World} {K : PySem.W.Frag} {mg : Str → Option Value} {base : Heap}
theorem fn_no {f : Addr} {fd : FuncData} {k : Nat} {ps : List Str} : FnOk P w K mg base CX0 k f fd ps (spC 0) := ⟨fun _ _ _ _ h => h.elim, fun _ _ _ _ _ _ _ _ _ _ _ _ _ h => h.elim⟩
set_option maxHeartbeats 4000000 in
theorem ok_Ct {f : Addr} {fd : FuncData} {d : Nat} (B : Blt mg) (fR : Has P w K mg base (d + 1) "counts_together" ["many", "total"] (spC d)) (F : Fun K "counts_together" "counts_together" sCt f fd) : FnOk P w K mg base CX0 (d + 2) f fd ["many", "total"] (spC (d + 1)) := by
 refine F.ok scCt (fun vs H Q E h => ?_) (fun cdv A outer s H vs Q E hr h => ?_)
 ·obtain ⟨n, rfl, _⟩ := h
  rfl
 ·obtain ⟨n, rfl, n2, d3, k⟩ := h
  refine' ⟨_, ?hb, ?rd⟩
  case hb =>
   refine' pss_cons ?s1 ?r1
   case' r1 => refine' pss_cons ?s2 ?r2
   case' r2 => refine' pss_cons ?s3 ?r3
   case' r3 => refine' pss_one ?s4
   case s1 =>
    refine' ps_if (pt_cmpR op_eq (pvd nmCt 0) pe_int (nomark _)) ?a1 pss_nil
    case' a1 => refine' pss_one ?a2
    case' a2 => refine' ps_ret ?a3
    case a3 => exact pe_ifExp (pt_cmpR op_eq (pvd nmCt 1) pe_int (nomark _)) (pe_lst (pa_1 (pe_tup pa_nil))) (pe_lst pa_nil)
   case s2 => exact ps_setD nmCt 2 (pe_lst pa_nil)
   case s3 =>
    refine' ps_for PassesOwn.never rfl (pi_r1 B.range (pa_1 (pe_op op_add (pvd nmCt 1) pe_int))) (pgd nmCt 3) ?b1
    case' b1 => refine' pss_one ?b2
    case' b2 => refine' ps_expr ?b3
    case' b3 => refine' pe_bm PySem.F.plainAttrs_list PySem.F.slot_list_extend PySem.F.type_list_extend mt_extend (pvd nmCt 2) ?b4
    case' b4 => refine' pa_1 ?b5
    case b5 =>
     refine' pe_comp (ix := [3]) bsCt.toCScope rfl rfl ?h3 ?h4 ?h5 ?h6
     case h3 => exact pi_list (pe_f fR hr (by omega) (pa_2 (pe_op op_sub (pvd nmCt 0) pe_int) (pe_op op_sub (pvd nmCt 1) (pvd nmCt 3))))
     case h4 => exact fun _ _ _ _ _ _ => pgb bsCt 0
     case h5 => exact fun _ _ _ _ _ _ => pts_nil
     case h6 => exact fun _ _ _ _ _ _ => pe_op op_catG (pe_tup (pa_1 (pvb bsCt 1))) (pvb bsCt 0)
   case s4 => exact ps_ret (pvd nmCt 2)
  case rd =>
   walk_at "v"
   refine ⟨rfl, ?_⟩
   walk_at "v"
   cases d with
   | zero =>
    refine iteT ?_
    walk_at "v"
    refine ⟨rfl, ?_⟩
    walk_at "v"
    refine iteD (fun hn => ?_) (fun hn => ?_)
    ·have n0 : n = 0 := by
      have : (n : Int) = 0 := V.int.inj hn
      omega
     subst n0
     walk_at "v"
     refine ⟨Nat.zero_le _, fun q hq => ?_⟩
     obtain ⟨H1, q, K1, e1⟩ := nob (.tup []) hq; rw [q]; clear q
     walk_at "v"
     refine ⟨by show 1 ≤ sizeLine; decide, fun l hl => ?_⟩
     refine k l [q] _ (K1.new hl) (Same.free K1 hl) upd_same ⟨?_, trivial⟩
     rw [upd_ne (ne_of_none e1 hl)]
     exact e1
    ·walk_at "v"
     refine ⟨Nat.zero_le _, fun l hl => ?_⟩
     refine k l [] _ (Same.new (Same.refl _) hl) hl upd_same ?_
     have : ct 0 n = [] := by
      unfold ct
      rw [if_neg (fun z => hn (by rw [z]; rfl))]
     rw [this]
     trivial
   | succ d =>
    refine iteD (fun z => ?_) (fun _ => ?_)
    ·exfalso
     have : ((d + 1 : Nat) : Int) = 0 := V.int.inj z
     omega
    walk_at "v"
    refine ⟨Nat.zero_le _, fun tl htl => ?_⟩
    obtain ⟨H1, q, K1, e1⟩ := nob (.lst []) htl; rw [q]; clear q
    walk_at "v"
    refine ⟨_, rfl, by omega, by omega, ?_⟩
    rw [show ((n : Int) + 1).toNat = n + 1 by omega]
    refine for_range (n := n + 1) (fun i σ H' => ∃ (u3 : Option V) (as : List Addr), σ = [some (.int ((d + 1 : Nat) : Int)), some (.int (n : Int)), some (.ref tl), u3] ∧ H' tl = some (.lst (as.map V.ref)) ∧ RowsAt H' as ((List.range i).flatMap fun f => (ct d (n - f)).map fun r => (f : Int) :: r) ∧ as.length ≤ 15 * i ∧ Same H H') ⟨_, [], rfl, e1, trivial, Nat.zero_le _, K1⟩ ?_ ?_
    ·rintro i σ H2 hi ⟨u3, as, rfl, e2, hA, hal, K2⟩
     rw [Int.zero_add]
     have hsub : ((n : Int) - (i : Int)) = ((n - i : Nat) : Int) := by omega
     have hsub1 : (((d + 1 : Nat) : Int) - 1) = (d : Int) := by omega
     walk_at "v"
     refine ⟨.inl ⟨rfl, _, SqL.of e2⟩, ?_⟩
     walk_at "v"
     rw [hsub, hsub1]
     refine ⟨n - i, rfl, by omega, by omega, fun l bs H3 K3 hl e3 hB => ?_⟩
     have hbl := hB.len
     have hb6 := ct_len d (n - i) (by omega) (by omega)
     refine ⟨l, rfl, ⟨_, SqL.of e3⟩, fun D hD => ?_⟩
     refine cgo_list (xs := bs.map V.ref) (ρ := [some (.int (i : Int))]) (fun j zs H' => ∃ cs : List Addr, zs = cs.map V.ref ∧ RowsAt H' cs (((ct d (n - i)).take j).map fun r => (i : Int) :: r) ∧ Same H3 H') ⟨[], rfl, trivial, Same.new (Same.refl _) hD⟩ (fun j zs H' _ ⟨_, _, _, k'⟩ => SqL.of (k' _ _ e3)) ?_ ?_
     ·rintro j x zs H' hx ⟨cs, rfl, hC, K'⟩ hDz R S kR _
      have hj : j < bs.length := by
       have := (List.getElem?_eq_some_iff.mp hx).1
       simpa using this
      have ex : x = .ref bs[j] := by
       rw [List.getElem?_map, List.getElem?_eq_getElem hj] at hx
       exact (Option.some.inj hx).symm
      subst ex
      obtain ⟨ks, hk1, hk2⟩ := hB.at (i := j) (a := bs[j]) (by simp [hj])
      have hcl := hC.len
      rw [List.length_map, List.length_take] at hcl
      walk_at "v"
      refine ⟨by show 1 ≤ sizeLine; decide, fun z hz => ?_⟩
      have KZ : Same H' (upd H' z (.tup [.int (i : Int)])) := Same.new (Same.refl _) hz
      have eZ : upd H' z (.tup [.int (i : Int)]) z = some (.tup [.int (i : Int)]) := upd_same
      generalize upd H' z (.tup [.int (i : Int)]) = HZ at KZ eZ ⊢
      walk_at "v"
      have hk3 := KZ _ _ (K' _ _ hk2)
      refine ⟨z, bs[j], _, _, rfl, rfl, eZ, hk3, ?_, fun q HQ KQ eQ => ?_⟩
      ·have := (ct_all d (by omega) (n - i) (by omega)).2 ks (List.mem_of_getElem? hk1)
       rw [List.length_map]
       show 1 + _ ≤ 1000
       omega
      have KA := KZ.trans KQ
      have hDq := KA _ _ hDz
      have tk : TK HQ (upd HQ D (.lst (cs.map V.ref ++ [.ref q]))) := TK.lst hDq
      refine kR _ _ hDq (by rw [List.length_map]; exact small1000 (by omega)) ⟨cs ++ [q], by rw [List.map_append]; rfl, ?_, (K'.trans KA).put hD⟩
      rw [List.take_add_one, hk1, List.map_append]
      exact RowsAt.app (hC.tks ((TK.same KA).trans tk)) ⟨tk.t _ _ eQ, trivial⟩
     ·rintro zs H4 ⟨cs, rfl, hC, K4⟩ hDz
      rw [List.length_map, List.take_of_length_le (by rw [hbl]; exact Nat.le_refl _)] at hC
      have hcl := hC.len
      rw [List.length_map] at hcl
      have e4 := K4 _ _ (K3 _ _ e2)
      walk_at "v"
      refine ⟨tl, D, _, _, rfl, rfl, e4, hDz, Nat.le_of_lt (small1000 (by rw [List.length_map, List.length_map]; omega)), ?_⟩
      have tk : TK H4 (upd H4 tl (.lst (as.map V.ref ++ cs.map V.ref))) := TK.lst e4
      refine ⟨_, as ++ cs, rfl, by rw [upd_same, List.map_append], ?_, by rw [List.length_append]; omega, ((K2.trans K3).trans K4).put htl⟩
      rw [List.range_succ, List.flatMap_append]
      refine RowsAt.app (hA.tks ((TK.same (K3.trans K4)).trans tk)) ?_
      have := hC.tks tk
      simpa using this
    ·rintro σ H2 ⟨u3, as, rfl, e2, hA, hal, K2⟩
     walk_at "v"
     exact k tl as H2 K2 htl e2 hA
theorem fn_any {f : Addr} {fd : FuncData} {k : Nat} {ps : List Str} (h : ∀ d, d ≤ 3 → FnOk P w K mg base CX0 k f fd ps (spC (d + 1))) : FnOk P w K mg base CX0 k f fd ps spCg :=
 ⟨fun vs H Q E ⟨d, hd, q⟩ => (h d hd).len vs H Q E q, fun A outer s H args us vs Q E hr he hb hv ⟨d, hd, q⟩ => (h d hd).run A outer s H args us vs Q E hr he hb hv q⟩
set_option maxHeartbeats 4000000 in
theorem ok_Sa {f : Addr} {fd : FuncData} (B : BltK mg) (fC : Has P w K mg base 5 "counts_together" ["many", "total"] spCg) (F : Fun K "small_amounts" "small_amounts" sSa f fd) : FnOk P w K mg base CX0 6 f fd ["many"] spSa := by
 refine F.ok scSa (fun vs H Q E h => ?_) (fun cdv A outer s H vs Q E hr h => ?_)
 ·obtain ⟨d, rfl, _⟩ := h
  rfl
 ·obtain ⟨d, rfl, d3, k⟩ := h
  refine' ⟨_, ?hb, ?rd⟩
  case hb =>
   refine' pss_cons ?s1 ?r1
   case' r1 => refine' pss_cons ?s2 ?r2
   case' r2 => refine' pss_one ?s6
   case s1 => exact ps_setD nmSa 1 (pe_lst pa_nil)
   case s2 =>
    refine' ps_for PassesOwn.never rfl (pi_r1 B.range (pa_1 (pe_op op_add (pe_k B.moK) pe_int))) (pgd nmSa 2) ?a1
    case' a1 => refine' pss_one ?a2
    case' a2 => refine' ps_expr ?a3
    case' a3 => refine' pe_bm PySem.F.plainAttrs_list PySem.F.slot_list_extend PySem.F.type_list_extend mt_extend (pvd nmSa 1) ?a4
    case a4 => exact pa_1 (pe_f fC hr (by decide) (pa_2 (pvd nmSa 0) (pvd nmSa 2)))
   case s6 => exact ps_ret (pvd nmSa 1)
  case rd =>
   walk_at "v"
   refine ⟨Nat.zero_le _, fun sl hsl => ?_⟩
   obtain ⟨H1, q, K1, e1⟩ := nob (.lst []) hsl; rw [q]; clear q
   walk_at "v"
   refine ⟨_, rfl, by decide, by decide, ?_⟩
   rw [show ((4 : Int) + 1).toNat = 5 from rfl]
   refine for_range (n := 5) (fun i σ H' => ∃ (u2 : Option V) (as : List Addr), σ = [some (.int (d : Int)), some (.ref sl), u2] ∧ H' sl = some (.lst (as.map V.ref)) ∧ RowsAt H' as ((List.range i).flatMap (ct d)) ∧ as.length ≤ 15 * i ∧ Same H H') ⟨_, [], rfl, e1, trivial, Nat.zero_le _, K1⟩ ?_ ?_
   ·rintro i σ H2 hi ⟨u2, as, rfl, e2, hA, hal, K2⟩
    rw [Int.zero_add]
    walk_at "v"
    refine ⟨.inl ⟨rfl, _, SqL.of e2⟩, ?_⟩
    walk_at "v"
    refine ⟨d, d3, i, rfl, by omega, d3, fun l bs H3 K3 hl e3 hB => ?_⟩
    have hbl := hB.len
    have hb6 := ct_len d i d3 (by omega)
    have e2' := K3 _ _ e2
    refine ⟨sl, l, _, _, rfl, rfl, e2', e3, Nat.le_of_lt (small1000 (by rw [List.length_map, List.length_map]; omega)), ?_⟩
    have tk : TK H3 (upd H3 sl (.lst (as.map V.ref ++ bs.map V.ref))) := TK.lst e2'
    refine ⟨_, as ++ bs, rfl, by rw [upd_same, List.map_append], ?_, by rw [List.length_append]; omega, (K2.trans K3).put hsl⟩
    rw [List.range_succ, List.flatMap_append]
    refine RowsAt.app (hA.tks ((TK.same K3).trans tk)) ?_
    have := hB.tks tk
    simpa using this
   ·rintro σ H2 ⟨u2, as, rfl, e2, hA, hal, K2⟩
    walk_at "v"
    exact k sl as H2 K2 hsl e2 hA
end
abbrev sDu : Stmt := top 8
abbrev nDu : List Str := ["_law_many", "_law_rows", "_law_k", "_law_longer", "_law_row"]
theorem nmDu : Nm nDu (defScope sDu) := ⟨by decide +kernel, by decide +kernel⟩
theorem scDu : FnScope nDu ["_law_many"] (defScope sDu) := ⟨rfl, rfl, rfl, by decide +kernel, rfl, by decide +kernel, by decide +kernel⟩
def retC (s : Stmt) : Scope := match s with
 | .Return (some (.ListComp _ _ sc _)) _ => sc
 | _ => { kind := .function, names := [], isGenerator := false, isCoroutine := false }
def retI (s : Stmt) : Scope := match s with
 | .Return (some (.ListComp _ [⟨_, .Call _ [.ListComp _ _ sc _] _ _, _, _⟩] _ _)) _ => sc
 | _ => { kind := .function, names := [], isGenerator := false, isCoroutine := false }
abbrev cDu : Scope := extC ((forBody ((forBody ((defBody sDu).getD 1 (.Pass ⟨0, 0, 0, 0⟩))).getD 1 (.Pass ⟨0, 0, 0, 0⟩))).getD 0 (.Pass ⟨0, 0, 0, 0⟩))
abbrev cDo : Scope := retC ((defBody sDu).getD 2 (.Pass ⟨0, 0, 0, 0⟩))
abbrev cDi : Scope := retI ((defBody sDu).getD 2 (.Pass ⟨0, 0, 0, 0⟩))
theorem bsDu : BScope (defScope sDu) cDu ["_law_number"] ["_law_row"] [] := { okind := by decide +kernel, kind := by decide +kernel, nocell := by decide +kernel, names := by decide +kernel, fr := by decide +kernel, ff := by decide +kernel, nd := by decide +kernel, vis := by decide +kernel, loc := by decide +kernel, gl := by decide +kernel }
theorem bsDo : BScope (defScope sDu) cDo ["_law_size", "_law_row"] [] [] := { okind := by decide +kernel, kind := by decide +kernel, nocell := by decide +kernel, names := by decide +kernel, fr := by decide +kernel, ff := by decide +kernel, nd := by decide +kernel, vis := by decide +kernel, loc := by decide +kernel, gl := by decide +kernel }
theorem bsDi : BScope (defScope sDu) cDi ["_law_row"] [] ["sum"] := { okind := by decide +kernel, kind := by decide +kernel, nocell := by decide +kernel, names := by decide +kernel, fr := by decide +kernel, ff := by decide +kernel, nd := by decide +kernel, vis := by decide +kernel, loc := by decide +kernel, gl := by decide +kernel }
theorem rws_all : ∀ d < 4, (SM.rws d).length ≤ 125 ∧ ∀ r ∈ SM.rws d, r.length ≤ 3 := by decide +kernel
theorem due_sm : ∀ d < 4, (((SM.ordr d).map fun i => (SM.keyed d).getD i (0, [])).filter fun x => decide (x.1 < 5)).map (·.2) = sm d := by decide +kernel
def spDu : Sp := fun vs H Q _ => ∃ d : Nat, vs = [.int (d : Int)] ∧ d ≤ 3 ∧ ∀ l as H', Same H H' → H l = none → H' l = some (.lst (as.map V.ref)) → RowsAt H' as (sm d) → Q (.ref l) H'
def stG (r : List Int) : List (List Int) := (List.range 5).map fun (x : Nat) => r ++ [(x : Int)]
section
variable {P : Program} {w : World} {K : PySem.W.Frag} {mg : Str → Option Value} {base : Heap}
set_option maxHeartbeats 4000000 in
theorem ok_Du {f : Addr} {fd : FuncData} (B : BltK mg) (F : Fun K "_law_due" "_law_due" sDu f fd) : FnOk P w K mg base CX0 1 f fd ["_law_many"] spDu := by
 refine F.ok scDu (fun vs H Q E h => ?_) (fun cdv A outer s H vs Q E hr h => ?_)
 ·obtain ⟨d, rfl, _⟩ := h
  rfl
 ·obtain ⟨d, rfl, d3, k⟩ := h
  refine' ⟨_, ?hb, ?rd⟩
  case hb =>
   refine' pss_cons ?s1 ?r1
   case' r1 => refine' pss_cons ?s2 ?r2
   case' r2 => refine' pss_one ?s3
   case s1 => exact ps_setD nmDu 1 (pe_lst (pa_1 (pe_tup pa_nil)))
   case' s3 => refine' ps_ret ?t1
   case t1 =>
    refine' pe_comp (ix := []) bsDo.toCScope rfl rfl ?t2 ?t3 ?t4 ?t5
    case' t2 => refine' pi_list ?t6
    case' t6 => refine' pe_cB (call_sortP hr) B.srt PyProof.Rows.boot_sorted ?t7
    case' t7 => refine' pa_1 ?t8
    case t8 =>
     refine' pe_comp (ix := []) bsDi.toCScope rfl rfl (pi_list (pvd nmDu 1)) ?u4 ?u5 ?u6
     case u4 => exact fun _ _ _ _ _ _ => pgb bsDi 0
     case u5 => exact fun _ _ _ _ _ _ => pts_nil
     case u6 => exact fun _ _ _ _ _ _ => pe_tup (pa_2 (pe_cB (call_sumT hr) B.sum PyProof.Rows.boot_sum (pa_1 (pvb bsDi 0))) (pvb bsDi 0))
    case t3 =>
     intro _ _ _ _ _ _
     refine' pgb_tup (n := 2) rfl ?z1
     case' z1 => refine' pgs_cons ?z2 ?z3
     case z2 => exact pgb bsDo 0
     case' z3 => refine' pgs_cons ?z4 pgs_nil
     case z4 => exact pgb bsDo 1
    case t4 =>
     intro _ _ _ _ _ _
     refine' pts_one ?y1
     case y1 => exact pt_cmpR op_lt (pvb bsDo 0) pe_int (nomark _)
    case t5 => exact fun _ _ _ _ _ _ => pvb bsDo 1
   case s2 =>
    refine' ps_for PassesOwn.never rfl (pi_r1 B.range (pa_1 (pvd nmDu 0))) (pgd nmDu 2) ?a1
    case' a1 => refine' pss_cons ?a2 ?a3
    case a2 => exact ps_setD nmDu 3 (pe_lst pa_nil)
    case' a3 => refine' pss_cons ?a4 ?a5
    case' a5 => refine' pss_one ?a6
    case a6 => exact ps_setD nmDu 1 (pvd nmDu 3)
    case' a4 => refine' ps_for PassesOwn.never rfl (pi_list (pvd nmDu 1)) (pgd nmDu 4) ?b1
    case' b1 => refine' pss_one ?b2
    case' b2 => refine' ps_expr ?b3
    case' b3 => refine' pe_bm PySem.F.plainAttrs_list PySem.F.slot_list_extend PySem.F.type_list_extend mt_extend (pvd nmDu 3) ?b4
    case' b4 => refine' pa_1 ?b5
    case b5 =>
     refine' pe_comp (ix := [4]) bsDu.toCScope rfl rfl ?h3 ?h4 ?h5 ?h6
     case h3 => exact pi_r1 B.range (pa_1 pe_int)
     case h4 => exact fun _ _ _ _ _ _ => pgb bsDu 0
     case h5 => exact fun _ _ _ _ _ _ => pts_nil
     case h6 => exact fun _ _ _ _ _ _ => pe_op op_catG (pvb bsDu 1) (pe_tup (pa_1 (pvb bsDu 0)))
  case rd =>
   walk_at "v"
   refine ⟨Nat.zero_le _, fun q0 hq0 => ?_⟩
   obtain ⟨H0, q, K0, e0⟩ := nob (.tup []) hq0; rw [q]; clear q
   walk_at "v"
   refine ⟨by show 1 ≤ sizeLine; decide, fun l0 hl0 => ?_⟩
   have K1 : Same H0 (upd H0 l0 (.lst [.ref q0])) := Same.new (Same.refl _) hl0
   have e1 : upd H0 l0 (.lst [.ref q0]) l0 = some (.lst [.ref q0]) := upd_same
   have h0l : H l0 = none := Same.free K0 hl0
   generalize upd H0 l0 (.lst [.ref q0]) = H1 at K1 e1 ⊢
   walk_at "v"
   refine ⟨_, rfl, by omega, by omega, ?_⟩
   rw [Int.toNat_natCast]
   refine for_range (n := d) (fun i σ H' => ∃ (u3 u4 u5 : Option V) (rl' : Addr) (as : List Addr), σ = [some (.int (d : Int)), some (.ref rl'), u3, u4, u5] ∧ H' rl' = some (.lst (as.map V.ref)) ∧ RowsAt H' as (SM.rws i) ∧ Same H H') ⟨_, _, _, l0, [q0], rfl, e1, ⟨K1 _ _ e0, trivial⟩, K0.trans K1⟩ ?_ ?_
   ·rintro i σ H2 hi ⟨u3, u4, u5, rl', as, rfl, e2, hA, K2⟩
    rw [Int.zero_add]
    have hall := rws_all i (by omega)
    have hal := hA.len
    have h25 : (SM.rws i).length ≤ 25 := by
     have : ∀ j < 3, (SM.rws j).length ≤ 25 := by decide +kernel
     exact this i (by omega)
    walk_at "v"
    refine ⟨Nat.zero_le _, fun lg hlg => ?_⟩
    have K3 : Same H2 (upd H2 lg (.lst [])) := Same.new (Same.refl _) hlg
    have e3 : upd H2 lg (.lst []) lg = some (.lst []) := upd_same
    have nrl : rl' ≠ lg := ne_of_none e2 hlg
    have h0g : H lg = none := Same.free K2 hlg
    generalize upd H2 lg (.lst []) = H3 at K3 e3 ⊢
    have e23 := K3 _ _ e2
    have hA3 := hA.tks (TK.same K3)
    walk_at "v"
    refine ⟨rl', rfl, ⟨_, SqL.of e23⟩, ?_⟩
    refine for_list (xs := as.map V.ref) (fun j σ H' => ∃ (u5 : Option V) (bs : List Addr), σ = [some (.int (d : Int)), some (.ref rl'), some (.int (i : Int)), some (.ref lg), u5] ∧ H' lg = some (.lst (bs.map V.ref)) ∧ RowsAt H' bs (((SM.rws i).take j).flatMap stG) ∧ bs.length ≤ 5 * j ∧ (∀ q o, q ≠ lg → H3 q = some o → H' q = some o)) ⟨_, [], rfl, e3, trivial, Nat.zero_le _, fun q o _ h => h⟩ (fun j σ H' _ ⟨_, _, _, _, _, _, k'⟩ => SqL.of (k' _ _ nrl e23)) ?_ ?_
    ·rintro j x σ H4 hx ⟨u5, bs, rfl, e4, hB, hbl, k4⟩
     have hj : j < as.length := by
      have := (List.getElem?_eq_some_iff.mp hx).1
      simpa using this
     have ex : x = .ref as[j] := by
      rw [List.getElem?_map, List.getElem?_eq_getElem hj] at hx
      exact (Option.some.inj hx).symm
     subst ex
     have TK34 : TK H3 H4 := ⟨fun q xs e => k4 _ _ (ne_of e e3 (by intro z; cases z)) e, fun q o u e => k4 _ _ (ne_of e e3 (by intro z; cases z)) e⟩
     obtain ⟨r, hr1, hr2⟩ := (hA3.tks TK34).at (i := j) (a := as[j]) (by simp [hj])
     generalize as[j] = ra at hr2 ⊢
     have hrb := hall.2 r (List.mem_of_getElem? hr1)
     walk_at "v"
     refine ⟨.inl ⟨rfl, _, SqL.of e4⟩, ?_⟩
     walk_at "v"
     refine ⟨_, rfl, by decide, by decide, fun D hD => ?_⟩
     rw [show ((5 : Int)).toNat = 5 from rfl]
     refine cgo_range (ρ := [some (.ref ra)]) (fun y zs H' => ∃ cs : List Addr, zs = cs.map V.ref ∧ RowsAt H' cs ((List.range y).map fun (x : Nat) => r ++ [(x : Int)]) ∧ Same H4 H') ⟨[], rfl, trivial, Same.new (Same.refl _) hD⟩ ?_ ?_
     ·rintro y zs H' hy ⟨cs, rfl, hC, K'⟩ hDz R S kR _
      rw [Int.zero_add]
      have hcl := hC.len
      rw [List.length_map, List.length_range] at hcl
      walk_at "v"
      refine ⟨by show 1 ≤ sizeLine; decide, fun z hz => ?_⟩
      have KZ : Same H' (upd H' z (.tup [.int (y : Int)])) := Same.new (Same.refl _) hz
      have eZ : upd H' z (.tup [.int (y : Int)]) z = some (.tup [.int (y : Int)]) := upd_same
      generalize upd H' z (.tup [.int (y : Int)]) = HZ at KZ eZ ⊢
      refine ⟨ra, z, _, _, rfl, rfl, KZ _ _ (K' _ _ hr2), eZ, by rw [List.length_map]; show _ + 1 ≤ 1000; omega, fun q HQ KQ eQ => ?_⟩
      have KA := KZ.trans KQ
      have hDq := KA _ _ hDz
      have tk : TK HQ (upd HQ D (.lst (cs.map V.ref ++ [.ref q]))) := TK.lst hDq
      refine kR _ _ hDq (by rw [List.length_map]; exact small1000 (by omega)) ⟨cs ++ [q], by rw [List.map_append]; rfl, ?_, (K'.trans KA).put hD⟩
      rw [List.range_succ, List.map_append]
      refine RowsAt.app (hC.tks ((TK.same KA).trans tk)) ⟨?_, trivial⟩
      rw [tk.t _ _ eQ, List.map_append]
      rfl
     ·rintro zs H5 ⟨cs, rfl, hC, K5⟩ hDz
      have hcl := hC.len
      rw [List.length_map, List.length_range] at hcl
      have e5 := K5 _ _ e4
      walk_at "v"
      refine ⟨lg, D, _, _, rfl, rfl, e5, hDz, Nat.le_of_lt (small1000 (by rw [List.length_map, List.length_map]; omega)), ?_⟩
      have tk : TK H5 (upd H5 lg (.lst (bs.map V.ref ++ cs.map V.ref))) := TK.lst e5
      refine ⟨_, bs ++ cs, rfl, by rw [upd_same, List.map_append], ?_, by rw [List.length_append]; omega, fun q o hq h => by rw [upd_ne hq]; exact K5 _ _ (k4 q o hq h)⟩
      rw [flat_take _ _ hr1]
      exact RowsAt.app (hB.tks ((TK.same K5).trans tk)) (hC.tks tk)
    ·rintro σ H4 ⟨u5, bs, rfl, e4, hB, hbl, k4⟩
     rw [List.length_map, List.take_of_length_le (by rw [hal]; exact Nat.le_refl _)] at hB
     walk_at "v"
     exact ⟨_, _, _, lg, bs, rfl, e4, hB, fun q o h => k4 q o (ne_of_none h h0g) ((K2.trans K3) q o h)⟩
   ·rintro σ H2 ⟨u3, u4, u5, rl', as, rfl, e2, hA, K2⟩
    have hall := rws_all d (by omega)
    have hal := hA.len
    walk_at "v"
    refine ⟨rl', rfl, ⟨_, SqL.of e2⟩, fun D hD => ?_⟩
    refine cgo_list (xs := as.map V.ref) (ρ := []) (fun j zs H' => ∃ cs : List Addr, zs = cs.map V.ref ∧ cs.length = j ∧ (∀ (i : Nat) (c r : Addr) (kk : List Int), cs[i]? = some c → as[i]? = some r → (SM.rws d)[i]? = some kk → H' c = some (.tup [.int kk.sum, .ref r])) ∧ Same H2 H') ⟨[], rfl, rfl, fun i c r kk h => by simp at h, Same.new (Same.refl _) hD⟩ (fun j zs H' _ ⟨_, _, _, _, k'⟩ => SqL.of (k' _ _ e2)) ?_ ?_
    ·rintro j x zs H' hx ⟨cs, rfl, hcl, hC, K'⟩ hDz R S kR _
     have hj : j < as.length := by
      have := (List.getElem?_eq_some_iff.mp hx).1
      simpa using this
     have ex : x = .ref as[j] := by
      rw [List.getElem?_map, List.getElem?_eq_getElem hj] at hx
      exact (Option.some.inj hx).symm
     subst ex
     obtain ⟨kk, hk1, hk2⟩ := hA.at (i := j) (a := as[j]) (by simp [hj])
     walk_at "v"
     refine ⟨as[j], kk, rfl, K' _ _ hk2, ?_⟩
     walk_at "v"
     refine ⟨by show 2 ≤ sizeLine; decide, fun z hz => ?_⟩
     have KZ : Same H' (upd H' z (.tup [.int kk.sum, .ref as[j]])) := Same.new (Same.refl _) hz
     have eZ : upd H' z (.tup [.int kk.sum, .ref as[j]]) z = some (.tup [.int kk.sum, .ref as[j]]) := upd_same
     have nzD : z ≠ D := fun e => by rw [e, hDz] at hz; cases hz
     generalize upd H' z (.tup [.int kk.sum, .ref as[j]]) = HZ at KZ eZ ⊢
     have hDq := KZ _ _ hDz
     have tk : TK HZ (upd HZ D (.lst (cs.map V.ref ++ [.ref z]))) := TK.lst hDq
     refine kR _ _ hDq (by rw [List.length_map]; exact small1000 (by omega)) ⟨cs ++ [z], by rw [List.map_append]; rfl, by rw [List.length_append, hcl]; rfl, fun i c r kk' h1 h2 h3 => ?_, (K'.trans KZ).put hD⟩
     by_cases hi : i < cs.length
     ·rw [List.getElem?_append_left hi] at h1
      exact tk.t _ _ (KZ _ _ (hC i c r kk' h1 h2 h3))
     ·have hi' : i < (cs ++ [z]).length := (List.getElem?_eq_some_iff.mp h1).1
      rw [List.length_append, List.length_singleton] at hi'
      obtain rfl : i = j := by omega
      rw [List.getElem?_append_right (by omega), hcl, Nat.sub_self] at h1
      cases h1
      rw [hk1] at h3
      cases h3
      rw [List.getElem?_eq_getElem hj] at h2
      cases h2
      exact tk.t _ _ eZ
    ·rintro zs H3 ⟨cs, rfl, hcl, hC, K3⟩ hDz
     rw [List.length_map] at hcl
     have hkl := SM.len_k d d3
     have hkl' : (SM.keyed d).length = (SM.rws d).length := by unfold SM.keyed; rw [List.length_map]
     have hP : PrAt H3 cs as (SM.keyed d) := ⟨by omega, by omega, fun i a r kk h1 h2 h3 => by
      unfold SM.keyed at h3
      rw [List.getElem?_map] at h3
      cases hq : (SM.rws d)[i]? with
      | none => rw [hq] at h3; cases h3
      | some kr =>
       rw [hq] at h3
       cases h3
       obtain ⟨kr', g1, g2⟩ := hA.at h2
       rw [hq] at g1
       cases g1
       exact ⟨hC i a r kr h1 h2 hq, K3 _ _ g2⟩⟩
     refine ⟨D, cs, as, SM.keyed d, SM.ordr d, rfl, hDz, hP, by omega, SM.sorts_to d3, fun D2 hD2 => ?_⟩
     obtain ⟨hP2, hE⟩ := hP.perm (p := SM.ordr d) (by rw [hkl]; exact (SM.ord_k d d3).2)
     rw [hE]
     obtain ⟨H4, q, K4, e4⟩ := nob (.lst (((SM.ordr d).map fun i => cs.getD i 0).map V.ref)) hD2; rw [q]; clear q
     refine ⟨D2, rfl, ⟨_, SqL.of e4⟩, fun D3 hD3 => ?_⟩
     refine prs_fil (ρ := []) (fun x => decide (x < 5)) e4 (rs := (SM.ordr d).map fun i => as.getD i 0) (ks := (SM.ordr d).map fun i => (SM.keyed d).getD i (0, [])) ⟨hP2.1, hP2.2.1, fun i a r kk h1 h2 h3 => ⟨K4 _ _ (hP2.2.2 i a r kk h1 h2 h3).1, K4 _ _ (hP2.2.2 i a r kk h1 h2 h3).2⟩⟩ ?_ (fun x r H' R h => ?_) (fun x r H' R h => ?_) (fun H' bs K' eD hB => ?_) hD3
     ·rw [List.length_map, (SM.ord_k d d3).1]
      omega
     ·walk_at "v"
      exact h
     ·walk_at "v"
      exact h
     ·rw [due_sm d (by omega)] at hB
      exact k D3 bs H' (((K2.trans K3).trans K4).trans K') (Same.free ((K2.trans K3).trans K4) hD3) eD hB
end
abbrev sLaw : Stmt := top 9
abbrev nLaw : List Str := ["_law_script", "_law_feed_here", "_law_k", "_law_many", "_law_turn", "_law_found"]
theorem nmLaw : Nm nLaw (defScope sLaw) := ⟨by decide +kernel, by decide +kernel⟩
theorem scLaw : FnScope nLaw ["_law_script"] (defScope sLaw) := ⟨rfl, rfl, rfl, by decide +kernel, rfl, by decide +kernel, by decide +kernel⟩
theorem w_bm0 {K : PySem.W.Frag} {T : String} {r : V → List V → Hp → VK → Prop} {to : TE} {σ : St} {H : Hp} {Q : VK} (h : to σ H fun x H1 => tyV K T x H1 ∧ r x [] H1 Q) : tBM0 K T r to σ H Q := h
def rwD (r : List Int) : PyData := .tuple (r.map PyData.int)
theorem rows_rd {H : Hp} : ∀ {as : List Addr} {ks : List (List Int)}, RowsAt H as ks → RdVs H (as.map V.ref) (ks.map rwD)
 | [], [], _ => .nil
 | a :: as, ks :: kss, h => .cons (.tup h.1 (rdInts ks)) (rows_rd h.2)
 | [], _ :: _, h => h.elim
 | _ :: _, [], h => h.elim
theorem sm_all : ∀ d < 4, (sm d).length ≤ 35 ∧ ∀ r ∈ sm d, r.length ≤ 3 ∧ ∀ x ∈ r, 0 ≤ x ∧ x ≤ 4 := by decide +kernel
theorem sm_shw {d : Nat} (hd : d ≤ 3) : Shw (.list ((sm d).map rwD)) 3000 2 := by
 obtain ⟨h1, h2⟩ := sm_all d (by omega)
 refine (Shw.lsts (n := 57) (h := 1) fun y hy => ?_).up ?_ (Nat.le_refl _)
 ·obtain ⟨r, hr, rfl⟩ := List.mem_map.mp hy
  obtain ⟨h3, h4⟩ := h2 r hr
  exact (Shw.ints fun n hn => by have := h4 n hn; exact ⟨by omega, by omega⟩).up (by omega) (Nat.le_refl _)
 ·rw [List.length_map]
  omega
def spLaw (K : PySem.W.Frag) : Sp := fun vs H Q _ => ∃ (a : Addr) (ns : List Int), vs = [.ref a] ∧ SqF K H a (ns.map V.int) ∧ ns.length ≤ 63 ∧ ∀ H', Q (.bl true) H'
section
variable {P : Program} {w : World} {K : PySem.W.Frag} {mg : Str → Option Value} {base : Heap}
set_option maxHeartbeats 4000000 in
theorem ok_Law {f : Addr} {fd : FuncData} (B : BltK mg) (fF : Has P w K mg base 1 "_law_feed" ["_law_script"] (spFeed K)) (D : Has P w K mg base 1 "_law_draw" ["_law_feed_here", "_law_many"] spDraw) (fD : Has P w K mg base 1 "_law_due" ["_law_many"] spDu) (fS : Has P w K mg base 6 "small_amounts" ["many"] spSa) (F : Fun K "law" "law" sLaw f fd) : FnOk P w K mg base CX0 7 f fd ["_law_script"] (spLaw K) := by
 refine F.ok scLaw (fun vs H Q E h => ?_) (fun cdv A outer s H vs Q E hr h => ?_)
 ·obtain ⟨a, ns, rfl, _⟩ := h
  rfl
 ·obtain ⟨a, ns, rfl, hS, hn, k⟩ := h
  refine' ⟨_, ?hb, ?rd⟩
  case hb =>
   refine' pss_cons ?s1 ?r1
   case' r1 => refine' pss_cons ?s2 ?r2
   case' r2 => refine' pss_one ?s3
   case s1 => exact ps_setD nmLaw 1 (pe_f fF hr (by decide) (pa_1 (pvd nmLaw 0)))
   case s3 => exact ps_ret pe_bl
   case s2 =>
    refine' ps_for PassesOwn.never rfl (pi_r1 B.range (pa_1 pe_int)) (pgd nmLaw 2) ?a1
    case' a1 => refine' pss_cons ?a2 ?a3
    case a2 => exact ps_setD nmLaw 3 (pe_f D hr (by decide) (pa_2 (pvd nmLaw 1) pe_int))
    case' a3 => refine' pss_one ?a4
    case a4 =>
     refine' ps_for PassesOwn.never rfl (pi_r1 B.range (pa_1 pe_int)) (pgd nmLaw 4) ?b1
     case' b1 => refine' pss_cons ?t1 ?u1
     case' u1 => refine' pss_cons ?t2 ?u2
     case' u2 => refine' pss_cons ?t5 ?u3
     case' u3 => refine' pss_one ?t6
     case t1 => exact ps_setD nmLaw 5 (pe_f fS hr (by decide) (pa_1 (pvd nmLaw 3)))
     case t2 =>
      refine' ps_if ?c1 (pss_one (ps_ret pe_bl)) pss_nil
      case' c1 => refine' PW.pt ?c2
      case' c2 => refine' pw_or ?c3 ?c4
      case c3 => exact pt_not (pt_val (pe_cB is_lst B.isi PyProof.Rows.boot_isinstance (pa_2 (pvd nmLaw 5) (pe_bltn (v := .ty "list") rfl B.list PyProof.Rows.boot_list rfl))))
      case' c4 => refine' pw_or1 ?c5
      case' c5 => refine' pt_cmpR op_ne ?d6 ?d7 (nomark _)
      case d6 => exact pe_cB (call_repr hr) B.repr PyProof.Rows.boot_repr (pa_1 (pvd nmLaw 5))
      case d7 => exact pe_cB (call_repr hr) B.repr PyProof.Rows.boot_repr (pa_1 (pe_f fD hr (by decide) (pa_1 (pvd nmLaw 3))))
     case t5 => exact ps_expr (pe_bm0 PySem.F.plainAttrs_list PySem.F.slot_list_reverse PySem.F.type_list_reverse mt_reverse (pvd nmLaw 5))
     case t6 => exact ps_expr (pe_bm PySem.F.plainAttrs_list PySem.F.slot_list_append PySem.F.type_list_append mt_append (pvd nmLaw 5) (pa_1 (pe_tup pa_nil)))
  case rd =>
   walk_at "v"
   refine ⟨a, ns, rfl, hS.sq, fun p l ms H1 T1 _ => ?_⟩
   walk_at "v"
   refine ⟨3, rfl, by decide, by decide, ?_⟩
   refine for_range (n := 3) (fun i σ H' => ∃ u2 u3 u4 u5 : Option V, σ = [some (.ref a), some (.ref p), u2, u3, u4, u5] ∧ Tq H' p l ms i) ⟨_, _, _, _, rfl, T1⟩ ?_ ?_
   ·rintro i σ H2 hi ⟨u2, u3, u4, u5, rfl, T2⟩
    walk_at "v"
    refine ⟨p, l, ms, _, 4, rfl, T2, by omega, by decide, by decide, fun r c e f r0 r1 f0 f1 => ?_⟩
    have T3 := T2.draw (n' := i + 1) (c := c) (e := e) (f := f) f0 f1
    generalize upd H2 p (.lst [.ref l, .int c, .int e, .int f]) = H3 at T3 ⊢
    obtain ⟨m, rfl⟩ := ofI r0
    have m3 : m ≤ 3 := by omega
    walk_at "v"
    refine ⟨2, rfl, by decide, by decide, ?_⟩
    refine for_range (n := 2) (fun j σ H' => ∃ u2 u4 u5 : Option V, σ = [some (.ref a), some (.ref p), u2, some (.int (m : Int)), u4, u5] ∧ Tq H' p l ms (i + 1)) ⟨_, _, _, rfl, T3⟩ ?_ ?_
    ·rintro j σ H4 hj ⟨u2, u4, u5, rfl, T4⟩
     walk_at "v"
     refine ⟨m, rfl, m3, fun fl bs H5 K5 hfl e5 hB => ?_⟩
     have npf := T4.np hfl
     have nlf := T4.nl hfl
     have T5 := T4.same K5
     have hbl := hB.len
     have h35 := (sm_all m (by omega)).1
     walk_at "v"
     refine ⟨_, .lst, rfl, .lst e5, ?_⟩
     walk_at "v"
     refine iteF ?_
     walk_at "v"
     refine w_shw (.lst e5 (rows_rd hB)) (sm_shw m3) (by decide) (by decide) ?_
     walk_at "v"
     refine ⟨m, rfl, m3, fun dl cs H6 K6 hdl e6 hC => ?_⟩
     walk_at "v"
     refine w_shw (.lst e6 (rows_rd hC)) (sm_shw m3) (by decide) (by decide) ?_
     walk_at "v"
     refine ⟨rfl, ?_⟩
     walk_at "v"
     refine iteNS rfl ?_
     have T6 := T5.same K6
     have e56 := K6 _ _ e5
     walk_at "v"
     refine w_bm0 ?_
     walk_at "v"
     refine ⟨.inl ⟨rfl, _, SqL.of e56⟩, ?_⟩
     refine ⟨fl, _, rfl, rfl, e56, ?_⟩
     have T7 : Tq (upd H6 fl (.lst (bs.map V.ref).reverse)) p l ms (i + 1) := T6.put npf nlf
     have e7 : upd H6 fl (.lst (bs.map V.ref).reverse) fl = some (.lst (bs.map V.ref).reverse) := upd_same
     generalize upd H6 fl (.lst (bs.map V.ref).reverse) = H7 at T7 e7 ⊢
     walk_at "v"
     refine ⟨.inl ⟨rfl, _, SqL.of e7⟩, ?_⟩
     walk_at "v"
     refine ⟨Nat.zero_le _, fun w hw => ?_⟩
     have K8 : Same H7 (upd H7 w (.tup [])) := Same.new (Same.refl _) hw
     generalize upd H7 w (.tup []) = H8 at K8 ⊢
     refine ⟨fl, _, _, rfl, rfl, K8 _ _ e7, ?_, ?_⟩
     ·rw [List.length_reverse, List.length_map]
      exact small1000 (by omega)
     exact ⟨_, _, _, rfl, (T7.same K8).put npf nlf⟩
    ·rintro σ H4 ⟨u2, u4, u5, rfl, T4⟩
     exact ⟨_, _, _, _, rfl, T4⟩
   ·rintro σ H2 ⟨u2, u3, u4, u5, rfl, T2⟩
    walk_at "v"
    exact k _
end
theorem all_mk {l : PySem.W.OpenLaw} {w : World} {K : PySem.W.Frag} {h : Heap} {mg : Str → Option Value} {fa f1 f2 f3 f4 f5 f6 : Addr} (X : K.In h) (G : h.Ns mainGlobals mg) (hfa : mg "law" = some (.ref fa))
  {od1 an1 od2 an2 od3 an3 od4 an4 od5 an5 od6 an6 : Option Addr} {sl1 sl2 sl3 sl4 sl5 sl6 : Array (Option Value)} {oc1 kV1 dc1 pm1 cd1 ct1 oc2 kV2 dc2 pm2 cd2 ct2 oc3 kV3 dc3 pm3 cd3 ct3 oc4 kV4 dc4 pm4 cd4 ct4 oc5 kV5 dc5 pm5 cd5 ct5 oc6 kV6 dc6 pm6 cd6 ct6 : Value} {t1 : Tok}
  (a1 : PySem.W.nsIn K mainGlobals "_law_feed" = some (some (.ref f1))) (l1 : K.lookup f1 = some ⟨oc1, od1, .func (PySem.W.fnOf "_law_feed" "_law_feed" (defArgs sFeed) (defBody sFeed) (defScope sFeed) .none kV1 dc1 pm1 an1 cd1 ct1), sl1⟩) (c1 : PySem.W.codeIn K cd1 "_law_feed" = true) (k1 : PySem.W.keepIn K (.ref f1) = true)
  (a2 : PySem.W.nsIn K mainGlobals "_law_draw" = some (some (.ref f2))) (l2 : K.lookup f2 = some ⟨oc2, od2, .func (PySem.W.fnOf "_law_draw" "_law_draw" (defArgs sDraw) (defBody sDraw) (defScope sDraw) .none kV2 dc2 pm2 an2 cd2 ct2), sl2⟩) (c2 : PySem.W.codeIn K cd2 "_law_draw" = true) (k2 : PySem.W.keepIn K (.ref f2) = true)
  (a3 : PySem.W.nsIn K mainGlobals "counts_together" = some (some (.ref f3))) (l3 : K.lookup f3 = some ⟨oc3, od3, .func (PySem.W.fnOf "counts_together" "counts_together" (defArgs sCt) (defBody sCt) (defScope sCt) .none kV3 dc3 pm3 an3 cd3 ct3), sl3⟩) (c3 : PySem.W.codeIn K cd3 "counts_together" = true) (k3 : PySem.W.keepIn K (.ref f3) = true)
  (a4 : PySem.W.nsIn K mainGlobals "small_amounts" = some (some (.ref f4))) (l4 : K.lookup f4 = some ⟨oc4, od4, .func (PySem.W.fnOf "small_amounts" "small_amounts" (defArgs sSa) (defBody sSa) (defScope sSa) .none kV4 dc4 pm4 an4 cd4 ct4), sl4⟩) (c4 : PySem.W.codeIn K cd4 "small_amounts" = true) (k4 : PySem.W.keepIn K (.ref f4) = true)
  (a5 : PySem.W.nsIn K mainGlobals "_law_due" = some (some (.ref f5))) (l5 : K.lookup f5 = some ⟨oc5, od5, .func (PySem.W.fnOf "_law_due" "_law_due" (defArgs sDu) (defBody sDu) (defScope sDu) .none kV5 dc5 pm5 an5 cd5 ct5), sl5⟩) (c5 : PySem.W.codeIn K cd5 "_law_due" = true) (k5 : PySem.W.keepIn K (.ref f5) = true)
  (a6 : PySem.W.nsIn K mainGlobals "law" = some (some (.ref f6))) (l6 : K.lookup f6 = some ⟨oc6, od6, .func (PySem.W.fnOf "law" "law" (defArgs sLaw) (defBody sLaw) (defScope sLaw) .none kV6 dc6 pm6 an6 cd6 ct6), sl6⟩) (c6 : PySem.W.codeIn K cd6 "law" = true) (k6 : PySem.W.keepIn K (.ref f6) = true)
  (z1 : PySem.W.nsIn K mainGlobals "len" = some none) (z2 : PySem.W.nsIn K mainGlobals "range" = some none) (z3 : PySem.W.nsIn K mainGlobals "tuple" = some none) (z4 : PySem.W.nsIn K mainGlobals "list" = some none) (z5 : PySem.W.nsIn K mainGlobals "int" = some none) (z6 : PySem.W.nsIn K mainGlobals "min" = some none) (z7 : PySem.W.nsIn K mainGlobals "max" = some none) (z8 : PySem.W.nsIn K mainGlobals "zip" = some none) (z9 : PySem.W.nsIn K mainGlobals "sorted" = some none) (z10 : PySem.W.nsIn K mainGlobals "sum" = some none) (z11 : PySem.W.nsIn K mainGlobals "repr" = some none) (z12 : PySem.W.nsIn K mainGlobals "isinstance" = some none)
  (g1 : PySem.W.nsIn K mainGlobals "MOST_TOGETHER" = some (some (.int (4) t1))) :
  ∃ fd : FuncData, (∀ (s : Shared) (v : Value), BindsTo s fd ⟨[v], []⟩ [("_law_script", v)]) ∧ ∀ base : Heap, K.In base → base.Ns mainGlobals mg → FnOk l.prog w K mg base CX0 7 fa fd ["_law_script"] (spLaw K) := by
 have e := hfa.symm.trans (PySem.W.mg_of X G a6)
 cases e
 have F1 := fun_mk (st := sFeed) l1 c1 k1
 have b1 := F1.binds (ps := ["_law_script"]) fun _ _ _ _ _ _ us hl => match us, hl with | [_], _ => rfl
 have m1 := PySem.W.mg_of X G a1
 have F2 := fun_mk (st := sDraw) l2 c2 k2
 have b2 := F2.binds (ps := ["_law_feed_here", "_law_many"]) fun _ _ _ _ _ _ us hl => match us, hl with | [_, _], _ => rfl
 have m2 := PySem.W.mg_of X G a2
 have F3 := fun_mk (st := sCt) l3 c3 k3
 have b3 := F3.binds (ps := ["many", "total"]) fun _ _ _ _ _ _ us hl => match us, hl with | [_, _], _ => rfl
 have m3 := PySem.W.mg_of X G a3
 have F4 := fun_mk (st := sSa) l4 c4 k4
 have b4 := F4.binds (ps := ["many"]) fun _ _ _ _ _ _ us hl => match us, hl with | [_], _ => rfl
 have m4 := PySem.W.mg_of X G a4
 have F5 := fun_mk (st := sDu) l5 c5 k5
 have b5 := F5.binds (ps := ["_law_many"]) fun _ _ _ _ _ _ us hl => match us, hl with | [_], _ => rfl
 have m5 := PySem.W.mg_of X G a5
 have F6 := fun_mk (st := sLaw) l6 c6 k6
 have y1 := PySem.W.mg_none_of X G z1
 have y2 := PySem.W.mg_none_of X G z2
 have y3 := PySem.W.mg_none_of X G z3
 have y4 := PySem.W.mg_none_of X G z4
 have y5 := PySem.W.mg_none_of X G z5
 have y6 := PySem.W.mg_none_of X G z6
 have y7 := PySem.W.mg_none_of X G z7
 have y8 := PySem.W.mg_none_of X G z8
 have y9 := PySem.W.mg_none_of X G z9
 have y10 := PySem.W.mg_none_of X G z10
 have y11 := PySem.W.mg_none_of X G z11
 have y12 := PySem.W.mg_none_of X G z12
 have B : BltK mg := ⟨⟨y1, y2, y3, y4, y5, y6, y7, y8, y9, y10, y11, y12⟩, ⟨_, PySem.W.mg_of X G g1⟩⟩
 refine ⟨PySem.W.fnOf "law" "law" (defArgs sLaw) (defBody sLaw) (defScope sLaw) .none kV6 dc6 pm6 an6 cd6 ct6, fun s v => .of_eq rfl, fun base _ _ => ?_⟩
 have H1 : Has l.prog w K mg base 1 "_law_feed" ["_law_script"] (spFeed K) := ⟨_, _, ok_Feed B.toBlt F1, m1, k1, b1⟩
 have H2 : Has l.prog w K mg base 1 "_law_draw" ["_law_feed_here", "_law_many"] spDraw := ⟨_, _, ok_Draw B.toBlt F2, m2, k2, b2⟩
 have C0 : Has l.prog w K mg base 1 "counts_together" ["many", "total"] (spC 0) := ⟨_, _, fn_no, m3, k3, b3⟩
 have C1 : Has l.prog w K mg base 2 "counts_together" ["many", "total"] (spC 1) := ⟨_, _, ok_Ct B.toBlt C0 F3, m3, k3, b3⟩
 have C2 : Has l.prog w K mg base 3 "counts_together" ["many", "total"] (spC 2) := ⟨_, _, ok_Ct B.toBlt C1 F3, m3, k3, b3⟩
 have C3 : Has l.prog w K mg base 4 "counts_together" ["many", "total"] (spC 3) := ⟨_, _, ok_Ct B.toBlt C2 F3, m3, k3, b3⟩
 have C4 : Has l.prog w K mg base 5 "counts_together" ["many", "total"] (spC 4) := ⟨_, _, ok_Ct B.toBlt C3 F3, m3, k3, b3⟩
 have CC : ∀ d, d ≤ 3 → FnOk l.prog w K mg base CX0 5 f3 (PySem.W.fnOf "counts_together" "counts_together" (defArgs sCt) (defBody sCt) (defScope sCt) .none kV3 dc3 pm3 an3 cd3 ct3) ["many", "total"] (spC (d + 1)) := fun d hd => match d, hd with
  | 0, _ => (ok_Ct B.toBlt C0 F3).mono (by decide)
  | 1, _ => (ok_Ct B.toBlt C1 F3).mono (by decide)
  | 2, _ => (ok_Ct B.toBlt C2 F3).mono (by decide)
  | 3, _ => (ok_Ct B.toBlt C3 F3).mono (by decide)
 have H3 : Has l.prog w K mg base 5 "counts_together" ["many", "total"] spCg := ⟨_, _, fn_any CC, m3, k3, b3⟩
 have H4 : Has l.prog w K mg base 6 "small_amounts" ["many"] spSa := ⟨_, _, ok_Sa B H3 F4, m4, k4, b4⟩
 have H5 : Has l.prog w K mg base 1 "_law_due" ["_law_many"] spDu := ⟨_, _, ok_Du B F5, m5, k5, b5⟩
 exact ok_Law B H1 H2 H5 H4 F6
theorem walk {l : PySem.W.OpenLaw} {q : Program} {loose : List Str} {XP : (Str → Option Value) → Heap → Prop} {YP : World → Heap → Prop} {d : DefRec} {K : Params → PySem.W.Frag} (hn : l.most = some 63) (hdf : d.params.defaults = [])
  (hY : ∀ (w : World) (h : Heap), YP w h → (K w.params).In h)
  (F : ∀ (w : World) (mg : Str → Option Value) (fa : Addr) (h : Heap), (K w.params).In h → h.Ns mainGlobals mg → mg d.name = some (.ref fa) →
   ∃ fd : FuncData, (∀ (s : Shared) (u : Value), BindsTo s fd ⟨[u], []⟩ [("_law_script", u)]) ∧ ∀ base : Heap, (K w.params).In base → base.Ns mainGlobals mg → FnOk l.prog w (K w.params) mg base CX0 7 fa fd ["_law_script"] (spLaw (K w.params))) :
  PySem.W.WalkO q loose XP YP l.row.toRowW d [] (fun f vs => PySem.call f vs) :=
 L2.walk_of (n := 63) (k := 7) (x := "_law_script") (CX := fun _ => CX0) (sp := fun w => spLaw (K w.params)) hn (by decide) hdf ⟨rfl, by decide, by decide, rfl⟩ hY F (fun _ H a ns hl hO hS => ⟨a, ns, rfl, SqF.of hO hS, hl, fun _ => rfl⟩) fun _ _ _ _ _ z => z
def dEo (P : Params) (x : Str) (t : Nat) (v : Value) : DictEntry := ⟨PyData.keyHash P x, .str x t, v⟩
def cO (n : Str) (t : Nat) (q : Str) (t1 t2 : Nat) (l a f : Int) (r s x y z : Value) (k : Int) (t3 : Nat) : Obj :=
 ⟨.type "code", none, .fields #[.str n t, .str q t1, .str "/claim/cut.py" t2, .int l 0, .int a 0, .int 0 0, .int 0 0, .int f 0, r, .bool true, .int 181 0, s, .none, x, y, z, .int k 0, .int l 0, .str "/claim/cut.py" t3], #[]⟩
def fO (n q : Str) (s : Stmt) (m : Str) (t c : Nat) : Obj := ⟨.type "function", none, .func (PySem.W.fnOf n q (defArgs s) (defBody s) (defScope s) .none .none .none (.str m t) none (.ref c) .none), #[]⟩
def KK : Params → PySem.W.Frag := fun P =>
 (nat_lit 3, ⟨(.type "dict"), none, (.dict #[dEo P "__name__" 165 (.str "law_dropsums_k44_small_beginnings" 208), dEo P "__doc__" 166 .none, dEo P "__package__" 167 .none, dEo P "__loader__" 168 (.builtin "__main__.__loader__#opaque"), dEo P "__spec__" 169 .none, dEo P "__annotations__" 170 (.ref 6), dEo P "__builtins__" 171 (.ref 4), dEo P "__file__" 173 (.str "/claim/cut.py" 172), dEo P "__cached__" 174 .none, dEo P "counts_together" 194 (.ref 19), dEo P "MOST_TOGETHER" 198 (.int 4 197), dEo P "small_amounts" 207 (.ref 26), dEo P "_law_feed" 216 (.ref 33), dEo P "_law_draw" 228 (.ref 40), dEo P "_law_due" 234 (.ref 45), dEo P "law" 246 (.ref 52)] 16), #[]⟩) ::
 (nat_lit 6, ⟨(.type "dict"), none, (.dict #[] 0), #[]⟩) ::
 (nat_lit 18, cO "counts_together" 189 "counts_together" 190 191 2 2 3 (.ref 15) (.ref 16) .none .none (.ref 17) 192 193) ::
 (nat_lit 19, fO "counts_together" "counts_together" (top 1) "dropsums.wholes" 187 18) ::
 (nat_lit 25, cO "small_amounts" 199 "small_amounts" 200 201 11 1 3 (.ref 20) (.ref 21) (.ref 22) (.ref 23) (.ref 24) 205 206) ::
 (nat_lit 26, fO "small_amounts" "small_amounts" (top 4) "dropsums.faulting" 195 25) ::
 (nat_lit 32, cO "_law_feed" 210 "_law_feed" 211 212 17 1 3 (.ref 27) (.ref 28) (.ref 29) (.ref 30) (.ref 31) 214 215) ::
 (nat_lit 33, fO "_law_feed" "_law_feed" (top 6) "law_dropsums_k44_small_beginnings" 208 32) ::
 (nat_lit 39, cO "_law_draw" 217 "_law_draw" 218 219 19 2 3 (.ref 34) (.ref 35) (.ref 36) (.ref 37) (.ref 38) 226 227) ::
 (nat_lit 40, fO "_law_draw" "_law_draw" (top 7) "law_dropsums_k44_small_beginnings" 208 39) ::
 (nat_lit 44, cO "_law_due" 229 "_law_due" 230 231 34 1 3 (.ref 41) (.ref 42) .none .none (.ref 43) 232 233) ::
 (nat_lit 45, fO "_law_due" "_law_due" (top 8) "law_dropsums_k44_small_beginnings" 208 44) ::
 (nat_lit 51, cO "law" 235 "law" 236 237 42 1 3 (.ref 46) (.ref 47) (.ref 48) (.ref 49) (.ref 50) 244 245) ::
 (nat_lit 52, fO "law" "law" (top 9) "law_dropsums_k44_small_beginnings" 208 51) :: []
def KA : List Addr := 3 :: 6 :: 18 :: 19 :: 25 :: 26 :: 32 :: 33 :: 39 :: 40 :: 44 :: 45 :: 51 :: 52 :: []
theorem ke : ∀ P, KA = (KK P).map (·.1) := fun _ => by kernel_rfl
def VW : Program := { PySem.Challenge.pw_dropsums_k44_small_beginnings with main := { PySem.Challenge.pw_dropsums_k44_small_beginnings.main with body := ([1, 3, 4, 6, 7, 8, 9] : List Nat).map top } }
abbrev RR := PySem.Challenge.rw_dropsums_k44_small_beginnings.row
theorem said0 : PySem.Challenge.rw_dropsums_k44_small_beginnings.wellSaid = true := by decide +kernel
theorem left0 : PySem.W.LeftO RR.prog VW [] (fun s => PySem.W.xlAt VW [] s && PySem.W.recOk (PySem.W.RowW.records RR.toRowW) s) (PySem.W.Hook.obs (PySem.W.kHook KK KA ke)) (PySem.W.Hook.val (PySem.W.kHook KK KA ke)) 880 := fun w => by kernel_rfl
end K44
open PySem PySem.W PyProof.Rows
set_option maxRecDepth 100000 in
set_option maxHeartbeats 0 in
theorem PySem.Challenge.cw_dropsums_k44_small_beginnings_holds : PySem.Challenge.rw_dropsums_k44_small_beginnings.Holds := by
 w_on
 refine PySem.W.holds_law K44.said0 fun said => ?_
 refine PySem.W.holds_open (q := K44.VW) (loose := []) (Xt := fun s => PySem.W.xlAt K44.VW [] s && PySem.W.recOk (PySem.W.RowW.records K44.RR.toRowW) s) (XP := PySem.W.XL K44.VW []) (Yf := PySem.W.Hook.obs (PySem.W.kHook K44.KK K44.KA K44.ke)) (Ya := PySem.W.Hook.val (PySem.W.kHook K44.KK K44.KA K44.ke)) (YP := PySem.W.Hook.says (PySem.W.kHook K44.KK K44.KA K44.ke)) (N := 880) K44.left0 (PySem.W.Hook.of _) (PySem.W.Hook.keeps _) (fun s e => PySem.W.xl_of s (Bool.and_eq_true_iff.mp e).1) PySem.W.XL.keeps (by rfl) (by rfl) (by rfl) (fun s e => PySem.W.recFacts_of (Bool.and_eq_true_iff.mp e).2) (by rfl) said (by decide +kernel) ⟨rfl, rfl, rfl, rfl, rfl, by decide +kernel⟩ ?hw ?hc
 case hw => w_witness2
 k_fill
 refine K44.walk (l := PySem.Challenge.rw_dropsums_k44_small_beginnings) rfl rfl (fun w h Y => PySem.W.kIn_of Y) ?F
 case F =>
  intro w mg fa h KX G hmg
  refine' K44.all_mk KX G hmg ?a1 ?l1 ?c1 ?k1 ?a2 ?l2 ?c2 ?k2 ?a3 ?l3 ?c3 ?k3 ?a4 ?l4 ?c4 ?k4 ?a5 ?l5 ?c5 ?k5 ?a6 ?l6 ?c6 ?k6 ?z1 ?z2 ?z3 ?z4 ?z5 ?z6 ?z7 ?z8 ?z9 ?z10 ?z11 ?z12 ?g1
  (case a1 => k_is)
  (case l1 => k_is)
  (case c1 => k_is)
  (case k1 => k_is)
  (case a2 => k_is)
  (case l2 => k_is)
  (case c2 => k_is)
  (case k2 => k_is)
  (case a3 => k_is)
  (case l3 => k_is)
  (case c3 => k_is)
  (case k3 => k_is)
  (case a4 => k_is)
  (case l4 => k_is)
  (case c4 => k_is)
  (case k4 => k_is)
  (case a5 => k_is)
  (case l5 => k_is)
  (case c5 => k_is)
  (case k5 => k_is)
  (case a6 => k_is)
  (case l6 => k_is)
  (case c6 => k_is)
  (case k6 => k_is)
  (case z1 => k_is)
  (case z2 => k_is)
  (case z3 => k_is)
  (case z4 => k_is)
  (case z5 => k_is)
  (case z6 => k_is)
  (case z7 => k_is)
  (case z8 => k_is)
  (case z9 => k_is)
  (case z10 => k_is)
  (case z11 => k_is)
  (case z12 => k_is)
  (case g1 => k_is)
