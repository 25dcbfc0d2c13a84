import PyProof.Rows.All
import Wide.All
import OpenK.AllK
import Wide.FinOn
import Lean
import PyProof.EqAt
import PyProof.EqKinds
import PyProof.TupleCall
import PyProof.Rows.SumAny
import PyProof.Draws
import PyProof.ZipIter
import PyProof.EnumMake
import PyProof.Rows.ZipGen
import PyProof.FitsInt
import PyProof.ReprLen
import KE.IntBitsLaws
import PyProof.NeData
import PyProof.ConsumeWalk
import PyProof.WalkInts
import PyProof.Rows.SeqMore
import PyProof.ListMulRoad
import PyProof.DictUpdate
import KE.KRevSl
import PyProof.MeetsStr
import PyProof.StrBlockG
import PyProof.CallStr
import KE.KIntText
import PyProof.StrLawsTight
import PyProof.StrLawsChain
import PyProof.StrLawsJoin
import PyProof.StrWalks
import KE.KSortTup
import PyProof.TupleOfStr
import PyProof.ListRange
import PyProof.SliceStr
import PyProof.StrBlockI
import PyProof.SeqRoads
import PyProof.NsDelKeeps
import PyProof.RulesAs
import KE.KIsAll
import PyProof.Rows.SetFrom
import PyProof.WalksMore
import PyProof.FactsAll.subtypes_4
import PyProof.MeetsStr2
import PyProof.Rows.Range3
import PyProof.StrLawsRepr
import PySem.Challenge.RW_dropsums_k93_whole_what_stays_for_all
-- CHANGE: your row's module here, as the last of these rows
set_option Elab.async false
set_option linter.all false
set_option maxRecDepth 100000
namespace L2
open PySem PySem.Spec PyProof.Rows
noncomputable abbrev Key := Sum Int Str
noncomputable def keyIs : Key → Value → Bool
 | .inl k, v => Value.isInt k v
 | .inr x, v => Value.isStrOf x v
noncomputable def keyH (w : World) : Key → Int
 | .inl k => hashInt k
 | .inr x => hashStr w x
theorem keyIs_shape : ∀ {k : Key} {v : Value}, keyIs k v = true → (∃ i t, k = Sum.inl i ∧ v = Value.int i t) ∨ (∃ x t, k = Sum.inr x ∧ v = Value.str x t)
 | .inl i, v, h => by
  obtain ⟨t, e⟩ := Value.isInt_shape (k := i) (v := v) h
  exact .inl ⟨i, t, rfl, e⟩
 | .inr x, v, h => by
  obtain ⟨t, e⟩ := Value.isStrOf_shape (x := x) (v := v) h
  exact .inr ⟨x, t, rfl, e⟩
theorem key_ll (a b : Int) : decide ((Sum.inl a : Key) = Sum.inl b) = (a == b) := by
 by_cases e : a = b
 ·subst e; simp
 ·have h : ¬ (Sum.inl a : Key) = Sum.inl b := fun q => e (Sum.inl.inj q)
  rw [decide_eq_false h]
  exact (beq_eq_false_iff_ne.mpr e).symm
theorem key_rr (a b : Str) : decide ((Sum.inr a : Key) = Sum.inr b) = decide (a = b) := by
 by_cases e : a = b
 ·subst e; simp
 ·have h : ¬ (Sum.inr a : Key) = Sum.inr b := fun q => e (Sum.inr.inj q)
  rw [decide_eq_false h, decide_eq_false e]
theorem key_lr (a : Int) (b : Str) : decide ((Sum.inl a : Key) = Sum.inr b) = false := decide_eq_false (fun q => nomatch q)
theorem key_rl (a : Str) (b : Int) : decide ((Sum.inr a : Key) = Sum.inl b) = false := decide_eq_false (fun q => nomatch q)
noncomputable def mixKind (prog : Program) (w : World) : PySem.KeyKind prog w Key where
 is := keyIs
 hash := keyH w
 inj := fun v a b ha hb => by
  rcases keyIs_shape ha with ⟨i, t, rfl, rfl⟩ | ⟨x, t, rfl, rfl⟩
  ·rcases keyIs_shape hb with ⟨j, u, rfl, e⟩ | ⟨y, u, rfl, e⟩
   ·injection e with e1 _; rw [e1]
   ·exact nomatch e
  ·rcases keyIs_shape hb with ⟨j, u, rfl, e⟩ | ⟨y, u, rfl, e⟩
   ·exact nomatch e
   ·injection e with e1 _; rw [e1]
 byValue := fun k v h => by
  rcases keyIs_shape h with ⟨i, t, rfl, rfl⟩ | ⟨x, t, rfl, rfl⟩ <;> rfl
 pyHash := fun hv h => by
  rcases keyIs_shape hv with ⟨i, t, rfl, rfl⟩ | ⟨x, t, rfl, rfl⟩
  ·exact wpAny_pyHash_int h
  ·exact wpAny_pyHash_str h
 eqBool := fun hu hv h => by
  rcases keyIs_shape hu with ⟨i, t, rfl, rfl⟩ | ⟨x, t, rfl, rfl⟩
  ·rcases keyIs_shape hv with ⟨j, u, rfl, rfl⟩ | ⟨y, u, rfl, rfl⟩
   ·rw [key_ll] at h; exact wpAny_eqBool_int h
   ·rw [key_lr] at h; exact SeqAt.EqAt.int_str i t y u _ _ _ _ h
  ·rcases keyIs_shape hv with ⟨j, u, rfl, rfl⟩ | ⟨y, u, rfl, rfl⟩
   ·rw [key_rl] at h; exact SeqAt.EqAt.str_int x t j u _ _ _ _ h
   ·rw [key_rr] at h; exact wpAny_eqBool_str h
 «strs» := fun k x t v h => by
  rcases keyIs_shape h with ⟨i, u, rfl, e⟩ | ⟨y, u, rfl, e⟩
  ·exact nomatch e
  ·injection e with e1 _
   subst e1
   cases v <;> rfl
inductive V where
 | non | bl (b : Bool) | int (i : Int) | str (x : Str) | byt (b : Array UInt8) | flt (b : UInt64) | ref (a : Addr) | ty (n : String)
 deriving DecidableEq
noncomputable def RelV : V → Value → Prop
 | .non, u => u = Value.none
 | .bl b, u => u = Value.bool b
 | .int i, u => ∃ t, u = Value.int i t
 | .str x, u => ∃ t, u = Value.str x t
 | .byt b, u => ∃ t, u = Value.bytes b t
 | .flt b, u => ∃ t, u = Value.float b t
 | .ref a, u => u = Value.ref a
 | .ty n, u => u = Value.type n
noncomputable abbrev Vals : List V → List Value → Prop := Paired RelV
theorem Vals.length {xs : List V} {us : List Value} (r : Vals xs us) : xs.length = us.length := Paired.length r
theorem Vals.get : ∀ {xs : List V} {us : List Value} {i : Nat} {x : V}, Vals xs us → xs[i]? = some x → ∃ u, us[i]? = some u ∧ RelV x u
 | _, _, _, _, .nil, e => by simp at e
 | _, _, 0, _, .cons r _, e => by simp at e; subst e; exact ⟨_, rfl, r⟩
 | _, _, i + 1, x, .cons _ t, e => by
  obtain ⟨u, h1, h2⟩ := Vals.get (i := i) (x := x) t (by simpa using e)
  exact ⟨u, by simpa using h1, h2⟩
theorem Vals.set {x : V} {u : Value} (r : RelV x u) : ∀ {xs : List V} {us : List Value} (i : Nat), Vals xs us → Vals (xs.set i x) (us.set i u)
 | _, _, _, .nil => .nil
 | _, _, 0, .cons _ t => .cons r t
 | _, _, i + 1, .cons q t => .cons q (Vals.set r i t)
theorem Vals.append : ∀ {xs ys : List V} {us ws : List Value}, Vals xs us → Vals ys ws → Vals (xs ++ ys) (us ++ ws)
 | _, _, _, _, .nil, s => s
 | _, _, _, _, .cons r t, s => .cons r (Vals.append t s)
theorem Vals.take : ∀ {xs : List V} {us : List Value} (n : Nat), Vals xs us → Vals (xs.take n) (us.take n)
 | _, _, 0, _ => .nil
 | _, _, _ + 1, .nil => .nil
 | _, _, n + 1, .cons r t => .cons r (Vals.take n t)
theorem Vals.drop : ∀ {xs : List V} {us : List Value} (n : Nat), Vals xs us → Vals (xs.drop n) (us.drop n)
 | _, _, 0, r => r
 | _, _, _ + 1, .nil => .nil
 | _, _, n + 1, .cons _ t => Vals.drop n t
noncomputable def RelO : Option V → Option Value → Prop
 | some v, some u => RelV v u
 | none, none => True
 | _, _ => False
noncomputable def KV {κ : Type} : List (κ × V) → List (κ × Value) → Prop := Paired fun (p : κ × V) (q : κ × Value) => p.1 = q.1 ∧ RelV p.2 q.2
noncomputable def kV : Key → V
 | .inl i => .int i
 | .inr x => .str x
inductive HO where
 | lst (xs : List V)
 | tup (xs : List V)
 | dK (kvs : List (Key × V)) | dT (kvs : List (List Key × V))
 | set (S : Int → Bool) (n : Nat)
 | ins (C dx : Addr) (fs : List (Str × V))
 | own (x : Addr)
 | xd (fs : List (Str × V))
 | met (f x : Addr)
 | rng (lo hi : Int)
 | frz (o : Obj) (u : HO)
 | tbl (ps : Array Value)
 | ext (φ : Heap → Prop)
noncomputable abbrev Hp := Addr → Option HO
noncomputable def upd (H : Hp) (a : Addr) (o : HO) : Hp := fun b => if b = a then some o else H b
theorem upd_same {H : Hp} {a : Addr} {o : HO} : upd H a o a = some o := by unfold upd; rw [if_pos rfl]
theorem upd_ne {H : Hp} {a b : Addr} {o : HO} (h : b ≠ a) : upd H a o b = H b := by unfold upd; rw [if_neg h]
theorem upd_upd {H : Hp} {a : Addr} {o u : HO} : upd (upd H a o) a u = upd H a u := by
 funext b; unfold upd; split <;> rfl
theorem ne_of {H : Hp} {a b : Addr} {o u : HO} (h : H a = some o) (h' : H b = some u) (d : o ≠ u) : a ≠ b := by
 intro e; subst e; rw [h] at h'; exact d (Option.some.inj h')
theorem ne_of_none {H : Hp} {a b : Addr} {o : HO} (h : H a = some o) (h' : H b = none) : a ≠ b := by
 intro e; subst e; rw [h] at h'; cases h'
section
variable (P : Program) (w : World)
noncomputable def ObjOk (H : Hp) (h : Heap) (a : Addr) : HO → Prop
 | .lst xs => xs.length ≤ sizeLine ∧ ∃ (its : List Value) (n : Nat), Vals xs its ∧ h.get? a = some { cls := .type "list", data := .seq its.toArray n }
 | .tup xs => xs.length ≤ sizeLine ∧ ∃ its : List Value, Vals xs its ∧ IsTup h a its.toArray
 | .dK kvs => kvs.length ≤ sizeLine ∧ (a == sysModules) = false ∧ ∃ vs, KV kvs vs ∧ h.DictOf (mixKind P w) a vs
 | .dT kvs => kvs.length ≤ sizeLine ∧ (a == sysModules) = false ∧ ∃ xs : List (List Key × Addr × Value),
   Paired (fun (p : List Key × V) (q : List Key × Addr × Value) => p.1 = q.1 ∧ H q.2.1 = some (.tup (p.1.map kV)) ∧ RelV p.2 q.2.2) kvs xs ∧
   ∃ o es ep, h.get? a = some o ∧ o.ExactDict ∧ o.data = .dict es ep ∧ es.toList = xs.map (entryOfKey (tupleKind (mixKind P w))) ∧ (xs.map (·.1)).Nodup
 | .set S n => h.SetOf (intKind P w) a S n
 | .ins C dx fs => H dx = some (.own a) ∧ fs.length ≤ 1000 ∧ dx ≠ a ∧ h.get? a = some (PySem.W.instObj C dx) ∧
   ∃ mA, h.Ns1 dx mA ∧ (∀ f, RelO (fs.lookup f) (mA f)) ∧ PySem.Within mA (fs.map (·.1))
 | .own _ => ∃ o, h.get? a = some o
 | .xd fs => ∃ mA, h.Ns1 a mA ∧ ∀ f, RelO (fs.lookup f) (mA f)
 | .rng lo hi => ∃ t u v, h.get? a = some { cls := .type "range", data := .fields #[.int lo t, .int hi u, .int 1 v] }
 | .frz o u => h.get? a = some o ∧ ObjOk H h a u
 | .tbl ps => h.get? a = some { cls := .none, data := .fields ps }
 | .met f x => h.get? a = some (PySem.W.methodObj (.ref f) (.ref x))
 | .ext φ => φ h ∧ (∃ o, h.get? a = some o) ∧ ∀ h1 h2 : Heap, φ h1 → (∀ o, h1.get? a = some o → h2.get? a = some o) → φ h2
noncomputable def HOk (H : Hp) (h : Heap) : Prop := ∀ a o, H a = some o → ObjOk P w H h a o
end
section
variable {P : Program} {w : World} {H H' : Hp} {h h' : Heap} {a : Addr} {o : HO}
theorem ObjOk.lt (x : ObjOk P w H h a o) : a < h.objs.size := by
 cases o with
 | lst xs => obtain ⟨_, _, _, _, e⟩ := x; exact Heap.lt_size e
 | tup xs => obtain ⟨_, _, _, p⟩ := x; exact p.lt
 | dK kvs => obtain ⟨_, _, _, _, o, _, _, e, _⟩ := x; exact Heap.lt_size e
 | dT kvs => obtain ⟨_, _, _, _, o, _, _, e, _⟩ := x; exact Heap.lt_size e
 | set S n => obtain ⟨o, _, _, _, e, _⟩ := x; exact Heap.lt_size e
 | ins C dx fs => obtain ⟨_, _, _, e, _⟩ := x; exact Heap.lt_size e
 | own y => obtain ⟨_, e⟩ := x; exact Heap.lt_size e
 | xd fs => obtain ⟨_, ⟨_, _, _, e, _⟩, _⟩ := x; exact Heap.lt_size e
 | rng lo hi => obtain ⟨_, _, _, e⟩ := x; exact Heap.lt_size e
 | frz ob u => obtain ⟨e, _⟩ := x; exact Heap.lt_size e
 | tbl ps => exact Heap.lt_size (show h.get? a = some _ from x)
 | met f y => exact Heap.lt_size (show h.get? a = some _ from x)
 | ext φ => obtain ⟨_, ⟨_, e⟩, _⟩ := x; exact Heap.lt_size e
theorem Paired.mapP {α β : Type} {F G : α → β → Prop} : ∀ {l₁ : List α} {l₂ : List β}, Paired F l₁ l₂ → (∀ a b, F a b → G a b) → Paired G l₁ l₂
 | _, _, .nil, _ => .nil
 | _, _, .cons r t, f => .cons (f _ _ r) (Paired.mapP t f)
theorem ObjOk.stay (x : ObjOk P w H h a o) (k : ∀ b u, (b = a ∨ H b = some (.own a)) → h.get? b = some u → h'.get? b = some u)
  (ho : ∀ b, H b = some (.own a) → H' b = some (.own a)) (ht : ∀ b xs, H b = some (.tup xs) → H' b = some (.tup xs)) : ObjOk P w H' h' a o := by
 induction o with
 | lst xs => obtain ⟨z, its, n, r, e⟩ := x; exact ⟨z, its, n, r, k _ _ (.inl rfl) e⟩
 | tup xs => obtain ⟨z, its, r, ob, e, c⟩ := x; exact ⟨z, its, r, ob, k _ _ (.inl rfl) e, c⟩
 | dK kvs => obtain ⟨z, y, vs, r, ob, es, ep, e, c⟩ := x; exact ⟨z, y, vs, r, ob, es, ep, k _ _ (.inl rfl) e, c⟩
 | dT kvs =>
  obtain ⟨z, y, xs, r, ob, es, ep, e, c⟩ := x
  exact ⟨z, y, xs, Paired.mapP r fun p q z => ⟨z.1, ht _ _ z.2.1, z.2.2⟩, ob, es, ep, k _ _ (.inl rfl) e, c⟩
 | set S n => obtain ⟨ob, es, ep, t, e, c⟩ := x; exact ⟨ob, es, ep, t, k _ _ (.inl rfl) e, c⟩
 | ins C dx fs =>
  obtain ⟨d, z, ne, e, mA, ⟨od, es, ep, e2, c⟩, r⟩ := x
  exact ⟨ho _ d, z, ne, k _ _ (.inl rfl) e, mA, ⟨od, es, ep, k _ _ (.inr d) e2, c⟩, r⟩
 | own y => obtain ⟨ob, e⟩ := x; exact ⟨ob, k _ _ (.inl rfl) e⟩
 | xd fs => obtain ⟨mA, ⟨od, es, ep, e, c⟩, r⟩ := x; exact ⟨mA, ⟨od, es, ep, k _ _ (.inl rfl) e, c⟩, r⟩
 | rng lo hi => obtain ⟨t, u, v, e⟩ := x; exact ⟨t, u, v, k _ _ (.inl rfl) e⟩
 | frz ob u ih => obtain ⟨e, q⟩ := x; exact ⟨k _ _ (.inl rfl) e, ih q⟩
 | tbl ps =>
  have e : h.get? a = some { cls := .none, data := .fields ps } := x
  show h'.get? a = some { cls := .none, data := .fields ps }
  exact k a _ (.inl rfl) e
 | met f y =>
  have e : h.get? a = some (PySem.W.methodObj (.ref f) (.ref y)) := x
  show h'.get? a = some (PySem.W.methodObj (.ref f) (.ref y))
  exact k a _ (.inl rfl) e
 | ext φ => obtain ⟨p, ⟨o, e⟩, st⟩ := x; exact ⟨st _ _ p fun o q => k _ _ (.inl rfl) q, ⟨o, k _ _ (.inl rfl) e⟩, st⟩
theorem HOk.lt (x : HOk P w H h) (e : H a = some o) : a < h.objs.size := (x a o e).lt
theorem HOk.fresh (x : HOk P w H h) (e : h.objs.size ≤ a) : H a = none := by
 cases q : H a with
 | none => rfl
 | some u => exact absurd (Nat.lt_of_lt_of_le (x.lt q) e) (Nat.lt_irrefl _)
theorem HOk.kept (x : HOk P w H h) (k : ∀ b u, h.get? b = some u → h'.get? b = some u) : HOk P w H h' := fun a o e =>
 (x a o e).stay (fun b u _ q => k b u q) (fun _ q => q) fun _ _ q => q
theorem HOk.laid (x : HOk P w H h) (k : ∀ b u, h.get? b = some u → h'.get? b = some u) (hp : h.objs.size ≤ a) (new : ObjOk P w (upd H a o) h' a o) : HOk P w (upd H a o) h' := fun b u e => by
 have hn := x.fresh hp
 by_cases hb : b = a
 ·subst hb; rw [upd_same] at e; cases e; exact new
 ·rw [upd_ne hb] at e
  exact (x b u e).stay (fun c v _ q => k c v q) (fun c q => by rw [upd_ne (ne_of_none q hn)]; exact q) fun c xs q => by rw [upd_ne (ne_of_none q hn)]; exact q
end
noncomputable def Rd (H : Hp) (a : Addr) (u : HO) : Prop := H a = some u ∨ ∃ o, H a = some (.frz o u)
theorem Rd.of {H : Hp} {a : Addr} {u : HO} (h : H a = some u) : Rd H a u := .inl h
theorem Rd.ok {P : Program} {w : World} {H : Hp} {h : Heap} {a : Addr} {u : HO} (r : Rd H a u) (x : HOk P w H h) : ObjOk P w H h a u := by
 rcases r with r | ⟨o, r⟩
 ·exact x a u r
 ·obtain ⟨_, q⟩ := x a _ r
  exact q
noncomputable def Mut : Option HO → Prop
 | some (.lst _) => True
 | some (.dK _) => True
 | some (.dT _) => True
 | some (.set _ _) => True
 | some (.ins _ _ _) => True
 | some (.ext _) => True
 | _ => False
section
variable {P : Program} {w : World} {H : Hp} {h h' : Heap} {x e : Addr} {o' : HO}
theorem HOk.write (ok : HOk P w H h) (mu : Mut (H x)) (he : e = x ∨ H e = some (.own x)) (k : ∀ b u, b ≠ e → h.get? b = some u → h'.get? b = some u) (heo : ∃ u, h'.get? e = some u)
  (new : ObjOk P w (upd H x o') h' x o') : HOk P w (upd H x o') h' := fun b u q => by
 have nown : ∀ c y, H c = some (.own y) → c ≠ x := fun c y r z => by subst z; rw [r] at mu; exact mu
 have ntup : ∀ c xs, H c = some (.tup xs) → c ≠ x := fun c xs r z => by subst z; rw [r] at mu; exact mu
 by_cases hb : b = x
 ·subst hb; rw [upd_same] at q; cases q; exact new
 ·rw [upd_ne hb] at q
  by_cases hbe : b = e
  ·have q' : H b = some (.own x) := by
    rcases he with z | z
    ·exact absurd (hbe.trans z) hb
    ·rw [hbe]; exact z
   rw [q] at q'; cases q'
   obtain ⟨v, hv⟩ := heo
   exact ⟨v, by rw [hbe]; exact hv⟩
  ·refine (ok b u q).stay (fun c v hc r => k c v ?_ r) (fun c r => by rw [upd_ne (nown c b r)]; exact r) fun c xs r => by rw [upd_ne (ntup c xs r)]; exact r
   rcases hc with rfl | hc
   ·exact hbe
   ·rintro rfl
    rcases he with z | z
    ·exact nown c b hc z
    ·rw [hc] at z; cases z; exact hb rfl
end
structure Un (fs ex : List Addr) (H H' : Hp) (h h' : Heap) : Prop where
 keep : ∀ b o, h.get? b = some o → H b = none → b ∉ fs → b ∉ ex → h'.get? b = some o
 slot : ∀ b o, h.get? b = some o → H b = none → b ∈ fs → b ∉ ex → ∃ sl, h'.get? b = some { o with slots := sl }
 free : ∀ b o, h.get? b = some o → H b = none → b ∉ ex → H' b = none
 there : ∀ b o, h.get? b = some o → b ∉ ex → ∃ o', h'.get? b = some o'
 tups : ∀ b xs, H b = some (.tup xs) → H' b = some (.tup xs)
 frzs : ∀ b o u, H b = some (.frz o u) → H' b = some (.frz o u)
 tbls : ∀ b ps, H b = some (.tbl ps) → ∃ more, H' b = some (.tbl (ps ++ more))
section
variable {fs fs' ex ex' : List Addr} {H H1 H2 : Hp} {h h1 h2 h' : Heap} {a x e : Addr} {o : HO}
theorem Un.any (u : Un fs ex H H1 h h1) {b : Addr} {ob : Obj} (q : h.get? b = some ob) (n : H b = none) (hx : b ∉ ex) : ∃ sl, h1.get? b = some { ob with slots := sl } := by
 by_cases hb : b ∈ fs
 ·exact u.slot b ob q n hb hx
 ·exact ⟨ob.slots, u.keep b ob q n hb hx⟩
theorem Un.trans (a : Un fs ex H H1 h h1) (b : Un fs ex H1 H2 h1 h2) : Un fs ex H H2 h h2 where
 keep := fun c ob q n hc hx => b.keep c ob (a.keep c ob q n hc hx) (a.free c ob q n hx) hc hx
 slot := fun c ob q n hc hx => by
  obtain ⟨sl, e1⟩ := a.slot c ob q n hc hx
  obtain ⟨sl', e2⟩ := b.slot c _ e1 (a.free c ob q n hx) hc hx
  exact ⟨sl', e2⟩
 free := fun c ob q n hx => by
  obtain ⟨o', e1⟩ := a.there c ob q hx
  exact b.free c o' e1 (a.free c ob q n hx) hx
 there := fun c ob q hx => by
  obtain ⟨o', e1⟩ := a.there c ob q hx
  exact b.there c o' e1 hx
 tups := fun c xs q => b.tups c xs (a.tups c xs q)
 frzs := fun c ob xs q => b.frzs c ob xs (a.frzs c ob xs q)
 tbls := fun c ps q => by
  obtain ⟨m1, e1⟩ := a.tbls c ps q
  obtain ⟨m2, e2⟩ := b.tbls c _ e1
  exact ⟨m1 ++ m2, by rw [e2, Array.append_assoc]⟩
theorem Un.kept (k : ∀ b u, h.get? b = some u → h'.get? b = some u) : Un fs ex H H h h' :=
 ⟨fun b ob q _ _ _ => k b ob q, fun b ob q _ _ _ => ⟨ob.slots, k b ob q⟩, fun _ _ _ n _ => n, fun b ob q _ => ⟨ob, k b ob q⟩, fun _ _ q => q, fun _ _ _ q => q, fun _ ps q => ⟨#[], by rw [q]; simp⟩⟩
theorem Un.refl : Un fs ex H H h h := Un.kept fun _ _ q => q
theorem Un.laid (k : ∀ b u, h.get? b = some u → h'.get? b = some u) (hp : h.objs.size ≤ a) (hn : H a = none) : Un fs ex H (upd H a o) h h' where
 keep := fun b u q _ _ _ => k b u q
 slot := fun b u q _ _ _ => ⟨u.slots, k b u q⟩
 free := fun b u q n _ => by rw [upd_ne (Nat.ne_of_lt (Nat.lt_of_lt_of_le (Heap.lt_size q) hp))]; exact n
 there := fun b u q _ => ⟨u, k b u q⟩
 tups := fun b xs q => by rw [upd_ne (ne_of_none q hn)]; exact q
 frzs := fun b u xs q => by rw [upd_ne (ne_of_none q hn)]; exact q
 tbls := fun b ps q => ⟨#[], by rw [upd_ne (ne_of_none q hn), q]; simp⟩
theorem Un.write (mu : Mut (H x)) (he : e = x ∨ H e = some (.own x)) (k : ∀ b u, b ≠ e → h.get? b = some u → h'.get? b = some u) (heo : ∃ u, h'.get? e = some u) : Un fs ex H (upd H x o) h h' := by
 have hx : ∀ b, H b = none → b ≠ x := fun b n z => by subst z; rw [n] at mu; exact mu
 have hb : ∀ b, H b = none → b ≠ e := fun b n z => by
  subst z
  rcases he with r | r
  ·exact hx b n r
  ·rw [n] at r; cases r
 have hm : ∀ b u, H b = some u → ¬ Mut (some u) → b ≠ x := fun b u q nm z => by subst z; rw [q] at mu; exact nm mu
 refine ⟨fun b u q n _ _ => k b u (hb b n) q, fun b u q n _ _ => ⟨u.slots, k b u (hb b n) q⟩, fun b u q n _ => by rw [upd_ne (hx b n)]; exact n, fun b u q _ => ?_,
  fun b xs q => by rw [upd_ne (hm b _ q fun z => z)]; exact q, fun b u xs q => by rw [upd_ne (hm b _ q fun z => z)]; exact q, fun b ps q => ⟨#[], by rw [upd_ne (hm b _ q fun z => z), q]; simp⟩⟩
 by_cases hbe : b = e
 ·subst hbe; exact heo
 ·exact ⟨u, k b u hbe q⟩
theorem Un.mono (u : Un fs ex H H1 h h1) (hs : ∀ b ∈ fs, b ∈ fs') (hx : ∀ b ∈ ex, b ∈ ex') : Un fs' ex' H H1 h h1 :=
 ⟨fun b ob q n hb he => u.keep b ob q n (fun z => hb (hs b z)) fun z => he (hx b z), fun _ _ q n _ he => u.any q n fun z => he (hx _ z), fun b ob q n he => u.free b ob q n fun z => he (hx b z), fun b ob q he => u.there b ob q fun z => he (hx b z), u.tups, u.frzs, u.tbls⟩
end
noncomputable def trk (h : Heap) (H : Hp) : List Addr := (List.range h.objs.size).filter fun a => (H a).isSome
noncomputable def hidT (h : Heap) (H : Hp) : Heap := PySem.W.hideAll h (trk h H)
theorem hidT_size (h : Heap) (H : Hp) : (hidT h H).objs.size = h.objs.size := PySem.W.hideAll_size _ _
theorem hidT_get {h : Heap} {H : Hp} {b : Addr} {o : Obj} (e : h.get? b = some o) (n : H b = none) : (hidT h H).get? b = some o :=
 PySem.W.hideAll_get _ e fun hm => by
  have q : (H b).isSome = true := (List.mem_filter.mp hm).2
  rw [n] at q; simp at q
theorem of_hidT {h : Heap} {H : Hp} {b : Addr} {o : Obj} (e : (hidT h H).get? b = some o) : h.get? b = some o ∧ H b = none := by
 have e' : h.get? b = some o := PySem.W.of_hideAll (trk h H) e
 refine ⟨e', ?_⟩
 cases q : H b with
 | none => rfl
 | some x =>
  have hm : b ∈ trk h H := List.mem_filter.mpr ⟨List.mem_range.mpr (Heap.lt_size e'), by simp [q]⟩
  have z : (hidT h H).get? b = none := PySem.W.hideAll_none (trk h H) hm
  rw [z] at e; cases e
noncomputable def allNews (g h : Heap) (L : Addr) : List (Addr × Obj) := (List.range h.objs.size).filterMap fun a => if a = L ∨ (g.get? a).isSome = true then none else (h.get? a).map fun o => (a, o)
noncomputable def rest (g h : Heap) (L d : Addr) : List (Addr × Obj) := (allNews g h L).filter fun p => decide (p.1 ≠ d)
structure Mod (K : PySem.W.Frag) (mg : Str → Option Value) (base : Heap) : Prop where
 kin : K.In base
 glob : base.Ns mainGlobals mg
 blt : ∃ mb, base.Ns builtinsNs mb ∧ ∀ x : Str, x ≠ "__name__" → mb x = bootBuiltins x
 nolimit : base.NoLimit
structure Cx where
 prog : Program
 w : World
 K : PySem.W.Frag
 mg : Str → Option Value
 base : Heap
 A : Around
 N : List Str
 s₀ : Shared
 H₀ : Hp
 env : Env
 outer : List Env
 stack : List Env
 ex : List Addr
 fn : Str → Bool
 calm : Bool
 pn : List (Addr × Obj)
 xe : Value → Shared → Prop
noncomputable def frs (l : List Env) : List Addr := l.filterMap (·.frame)
noncomputable abbrev Cx.fs (X : Cx) : List Addr := frs X.outer
noncomputable def Vis (sc : Scope) (x : Str) : Prop := sc.names.lookup x = some .local ∨ sc.names.lookup x = some .cell ∨ sc.names.lookup x = some .free
noncomputable def Loc (sc : Scope) (x : Str) : Prop := sc.names.lookup x = some .local ∨ sc.names.lookup x = some .cell
noncomputable def Look (env : Env) (h : Heap) (m : Str → Option Value) (x : Str) (u : Value) : Prop :=
 (env.kindOf x = some .local ∧ m x = some u) ∨ ((env.kindOf x = some .cell ∨ env.kindOf x = some .free) ∧ ∃ c, env.cells.lookup x = some c ∧ h.IsCell c (some u))
structure Cx.Ok (X : Cx) : Prop where
 mod : Mod X.K X.mg X.base
 kind : X.env.scope.kind = .function
 glob : X.env.globals = mainGlobals
 blt : X.env.builtins = builtinsNs
 above : X.s₀.heap.objs.size ≤ X.env.locals
 inj : ∀ x y c, X.env.cells.lookup x = some c → X.env.cells.lookup y = some c → x = y
 has : ∀ x, (X.env.kindOf x = some .cell ∨ X.env.kindOf x = some .free) → ∃ c, X.env.cells.lookup x = some c
 cab : ∀ x c, X.fn x = true → X.env.cells.lookup x = some c → X.s₀.heap.objs.size ≤ c
 hd : X.calm = true → X.A.handled = none
 frames : X.A.frames = some X.stack
 stk : X.stack = X.outer ∨ (X.stack = X.env :: X.outer ∧ X.env.frame = some X.env.locals)
 exf : ∀ b ∈ X.ex, b ≠ X.env.locals ∧ ∀ x c, X.env.cells.lookup x = some c → c ≠ b
 bs : ∀ b o, X.base.get? b = some o → X.s₀.heap.get? b = some o ∧ X.H₀ b = none
 bsz : X.base.objs.size ≤ X.s₀.heap.objs.size
 noex : ∀ b o, X.base.get? b = some o → b ∉ X.ex
 exfs : ∀ b ∈ X.ex, b ∉ X.fs
 funs : X.s₀.heap.FunFrames X.base X.outer
 frf : ∀ b ∈ X.fs, X.H₀ b = none
structure Inv (X : Cx) (pins : List (Addr × Obj)) (σ : List (Option V)) (H : Hp) (s : Shared) : Prop where
 ok : X.Ok
 os : s.os = X.s₀.os
 bare : AllBare s.gens
 base : Un X.fs X.ex X.H₀ H X.s₀.heap s.heap
 loc : ∃ m, s.heap.Ns X.env.locals m ∧ ∀ (i : Nat) (x : Str) (v : V), X.N[i]? = some x → σ[i]? = some (some v) → Vis X.env.scope x → ∃ u, RelV v u ∧ Look X.env s.heap m x u
 cell : ∀ x c, X.env.cells.lookup x = some c → ∃ v, s.heap.IsCell c v
 free : H X.env.locals = none
 freeC : ∀ x c, X.env.cells.lookup x = some c → H c = none
 pin : ∀ p ∈ X.pn ++ pins, s.heap.get? p.1 = some p.2 ∧ H p.1 = none ∧ p.1 ≠ X.env.locals ∧ p.1 ∉ X.fs ∧ ∀ v, p.2.data ≠ .cell v
 hok : HOk X.prog X.w H s.heap
 len : σ.length = X.N.length
section
variable {X : Cx} {pins : List (Addr × Obj)} {σ : List (Option V)} {H H' : Hp} {s : Shared} {h' : Heap}
theorem Cx.Ok.nofr (ok : X.Ok) {b : Addr} {o : Obj} (e : X.base.get? b = some o) : b ∉ X.fs := fun hb => by
 have := (ok.funs.mem hb).1
 rw [e] at this; cases this
theorem Inv.bs (I : Inv X pins σ H s) : ∀ b o, X.base.get? b = some o → s.heap.get? b = some o ∧ H b = none := fun b o e =>
 ⟨I.base.keep b o (I.ok.bs b o e).1 (I.ok.bs b o e).2 (I.ok.nofr e) (I.ok.noex b o e), I.base.free b o (I.ok.bs b o e).1 (I.ok.bs b o e).2 (I.ok.noex b o e)⟩
theorem Inv.bk (I : Inv X pins σ H s) : ∀ b o, X.base.get? b = some o → s.heap.get? b = some o := fun b o e => (I.bs b o e).1
theorem Inv.mod (I : Inv X pins σ H s) : Mod X.K X.mg X.base := I.ok.mod
theorem Inv.kIn (I : Inv X pins σ H s) : X.K.In s.heap := I.ok.mod.kin.keeps I.bk
theorem Inv.nolimit (I : Inv X pins σ H s) : s.heap.NoLimit := I.ok.mod.nolimit.keeps I.bk
theorem Inv.fr (I : Inv X pins σ H s) : ∃ m, Fr X.base X.env.locals s.heap m :=
 let ⟨m, hn, _⟩ := I.loc
 ⟨m, hn, I.bk, Nat.le_trans I.ok.bsz I.ok.above⟩
theorem Inv.lt (I : Inv X pins σ H s) : X.env.locals < s.heap.objs.size := let ⟨_, hn, _⟩ := I.loc; hn.lt
theorem Inv.sz (I : Inv X pins σ H s) : X.s₀.heap.objs.size ≤ s.heap.objs.size := Nat.le_trans I.ok.above (Nat.le_of_lt I.lt)
theorem Inv.nofs (I : Inv X pins σ H s) {a : Addr} (h : s.heap.objs.size ≤ a) : a ∉ X.fs := fun hb => by
 obtain ⟨_, o, ho, _⟩ := I.ok.funs.mem hb
 exact absurd (Nat.lt_of_lt_of_le (Heap.lt_size ho) (Nat.le_trans I.sz h)) (Nat.lt_irrefl _)
theorem Inv.cne (I : Inv X pins σ H s) : ∀ x c, X.env.cells.lookup x = some c → c ≠ X.env.locals := fun x c e z => by
 obtain ⟨v, o, ho, hd⟩ := I.cell x c e
 obtain ⟨m, ⟨o', es, ep, ho', hd', _⟩, _⟩ := I.loc
 rw [z, ho'] at ho; cases ho; rw [hd'] at hd; cases hd
theorem Inv.funs (I : Inv X pins σ H s) : s.heap.FunFrames X.base X.outer := by
 have all : ∀ (l : List Env), (∀ b ∈ frs l, b ∈ X.fs) → X.s₀.heap.FunFrames X.base l → s.heap.FunFrames X.base l := by
  intro l
  induction l with
  | nil => intro _ _; trivial
  | cons env r ih =>
   intro hs hl
   obtain ⟨hk, ⟨L, o, hf, hn, ho, hd⟩, hr⟩ := hl
   have hL : L ∈ X.fs := hs L (by unfold frs; rw [List.filterMap_cons, hf]; exact List.mem_cons_self)
   obtain ⟨sl, e⟩ := I.base.slot L o ho (I.ok.frf L hL) hL fun z => I.ok.exfs L z hL
   exact ⟨hk, ⟨L, _, hf, hn, e, hd⟩, ih (fun b hb => hs b (by unfold frs; rw [List.filterMap_cons, hf]; exact List.mem_cons_of_mem _ hb)) hr⟩
 exact all X.outer (fun _ hb => hb) I.ok.funs
theorem Inv.stack (I : Inv X pins σ H s) : s.heap.FunFrames X.base X.stack := by
 rcases I.ok.stk with e | ⟨e, hf⟩
 ·rw [e]; exact I.funs
 ·rw [e]
  obtain ⟨m, hn, _⟩ := I.loc
  refine .cons (by rw [I.ok.kind]; decide) hf hn ?_ I.funs
  exact Heap.get?_none_of_le (Nat.le_trans I.ok.bsz I.ok.above)
theorem Inv.stkSub (I : Inv X pins σ H s) : ∀ b ∈ frs X.stack, b ∈ X.env.locals :: X.fs := fun b hb => by
 rcases I.ok.stk with e | ⟨e, hf⟩
 ·rw [e] at hb; exact List.mem_cons_of_mem _ hb
 ·rw [e] at hb
  unfold frs at hb
  rw [List.filterMap_cons, hf] at hb
  exact hb
theorem Inv.stkFree (I : Inv X pins σ H s) : ∀ b ∈ frs X.stack, H b = none := fun b hb => by
 rcases List.mem_cons.mp (I.stkSub b hb) with e | hb
 ·rw [e]; exact I.free
 ·obtain ⟨_, o, ho, _⟩ := I.ok.funs.mem hb
  exact I.base.free b o ho (I.ok.frf b hb) fun z => I.ok.exfs b z hb
theorem Inv.step {g' : Array GenState} {t' : Nat} {d' : Drawn} {ch : List Addr} (I : Inv X pins σ H s)
  (hch : ∀ b ∈ ch, (b ∈ X.ex ∨ X.s₀.heap.objs.size ≤ b) ∧ b ≠ X.env.locals ∧ (∀ x c, X.env.cells.lookup x = some c → c ≠ b) ∧ ∀ p ∈ X.pn ++ pins, p.1 ≠ b)
  (keep : ∀ b o, b ≠ X.env.locals → b ∉ X.fs → b ∉ ch → s.heap.get? b = some o → H b = none → h'.get? b = some o)
  (slot : ∀ b o, b ≠ X.env.locals → b ∈ X.fs → b ∉ ch → s.heap.get? b = some o → H b = none → ∃ sl, h'.get? b = some { o with slots := sl }) (free : ∀ b o, b ∉ ch → s.heap.get? b = some o → H b = none → H' b = none)
  (there : ∀ b o, b ∉ ch → s.heap.get? b = some o → ∃ o', h'.get? b = some o')
  (tups : ∀ b xs, H b = some (.tup xs) → H' b = some (.tup xs)) (frzs : ∀ b o u, H b = some (.frz o u) → H' b = some (.frz o u)) (tbls : ∀ b ps, H b = some (.tbl ps) → ∃ more, H' b = some (.tbl (ps ++ more)))
  (ns : ∀ m, s.heap.Ns X.env.locals m → h'.Ns X.env.locals m) (hok : HOk X.prog X.w H' h') (hg : AllBare g') :
  Inv X pins σ H' { s with heap := h', gens := g', drawn := d', toks := t' } := by
 have neL : ∀ b o, X.s₀.heap.get? b = some o → b ≠ X.env.locals := fun b o e => Nat.ne_of_lt (Nat.lt_of_lt_of_le (Heap.lt_size e) I.ok.above)
 have neC : ∀ b o, X.s₀.heap.get? b = some o → b ∉ X.ex → b ∉ ch := fun b o e hx hb => by
  rcases (hch b hb).1 with z | z
  ·exact hx z
  ·exact absurd (Nat.lt_of_lt_of_le (Heap.lt_size e) z) (Nat.lt_irrefl _)
 have cellK : ∀ x c, X.env.cells.lookup x = some c → ∀ v, s.heap.IsCell c v → h'.IsCell c v := fun x c e v ⟨o, ho, hd⟩ => by
  have nch : c ∉ ch := fun z => (hch c z).2.2.1 x c e rfl
  by_cases hc : c ∈ X.fs
  ·obtain ⟨sl, q⟩ := slot c o (I.cne x c e) hc nch ho (I.freeC x c e)
   exact ⟨_, q, hd⟩
  ·exact ⟨o, keep c o (I.cne x c e) hc nch ho (I.freeC x c e), hd⟩
 refine ⟨I.ok, I.os, hg, ⟨fun b o e n hb hx => ?_, fun b o e n hb hx => ?_, fun b o e n hx => ?_, fun b o e hx => ?_, fun b xs e => tups b xs (I.base.tups b xs e), fun b o xs e => frzs b o xs (I.base.frzs b o xs e), fun b ps e => ?_⟩, ?_, fun x c e => ?_, ?_, fun x c e => ?_, fun p hp => ?_, hok, I.len⟩
 ·exact keep b o (neL b o e) hb (neC b o e hx) (I.base.keep b o e n hb hx) (I.base.free b o e n hx)
 ·obtain ⟨sl, e1⟩ := I.base.slot b o e n hb hx
  obtain ⟨sl', e2⟩ := slot b _ (neL b o e) hb (neC b o e hx) e1 (I.base.free b o e n hx)
  exact ⟨sl', e2⟩
 ·obtain ⟨o', e1⟩ := I.base.there b o e hx
  exact free b o' (neC b o e hx) e1 (I.base.free b o e n hx)
 ·obtain ⟨o', e1⟩ := I.base.there b o e hx
  exact there b o' (neC b o e hx) e1
 ·obtain ⟨m1, e1⟩ := I.base.tbls b ps e
  obtain ⟨m2, e2⟩ := tbls b _ e1
  exact ⟨m1 ++ m2, by rw [e2, Array.append_assoc]⟩
 ·obtain ⟨m, hn, hl⟩ := I.loc
  refine ⟨m, ns m hn, fun i x v e1 e2 e3 => ?_⟩
  obtain ⟨u, r, l⟩ := hl i x v e1 e2 e3
  refine ⟨u, r, ?_⟩
  rcases l with l | ⟨k, c, e, z⟩
  ·exact .inl l
  ·exact .inr ⟨k, c, e, cellK x c e _ z⟩
 ·obtain ⟨v, z⟩ := I.cell x c e
  exact ⟨v, cellK x c e v z⟩
 ·obtain ⟨m, ⟨o, _, _, ho, _⟩, _⟩ := I.loc
  exact free _ o (fun z => (hch _ z).2.1 rfl) ho I.free
 ·obtain ⟨v, o, ho, hd⟩ := I.cell x c e
  exact free c o (fun z => (hch c z).2.2.1 x c e rfl) ho (I.freeC x c e)
 ·obtain ⟨e, n, ne, nf, d⟩ := I.pin p hp
  have nch : p.1 ∉ ch := fun z => (hch p.1 z).2.2.2 p hp rfl
  exact ⟨keep p.1 p.2 ne nf nch e n, free p.1 p.2 nch e n, ne, nf, d⟩
theorem Inv.un {t' : Nat} (I : Inv X pins σ H s) (u : Un X.fs [] H H' s.heap h') (hok : HOk X.prog X.w H' h') : Inv X pins σ H' { s with heap := h', toks := t' } := by
 obtain ⟨m, ⟨o, es, ep, ho, r⟩, _⟩ := id I.loc
 obtain ⟨sl, hL⟩ := u.any ho I.free (by simp)
 exact I.step (g' := s.gens) (d' := s.drawn) (ch := []) (fun _ z => nomatch z) (fun b o _ hb _ e n => u.keep b o e n hb (by simp)) (fun b o _ hb _ e n => u.slot b o e n hb (by simp)) (fun b o _ e n => u.free b o e n (by simp)) (fun b o _ e => u.there b o e (by simp)) u.tups u.frzs u.tbls (fun m' hm => by
  obtain ⟨o', es', ep', ho', r'⟩ := hm
  rw [ho] at ho'; cases ho'
  exact ⟨_, es', ep', hL, r'⟩) hok I.bare
theorem Inv.call {g' : Array GenState} {t' : Nat} {d' : Drawn} {ch : List Addr} (I : Inv X pins σ H s) (u : Un (frs X.stack) ch H H' s.heap h') (hok : HOk X.prog X.w H' h') (hg : AllBare g')
  (hch : ∀ b ∈ ch, (b ∈ X.ex ∨ X.s₀.heap.objs.size ≤ b) ∧ b ≠ X.env.locals ∧ (∀ x c, X.env.cells.lookup x = some c → c ≠ b) ∧ ∀ p ∈ X.pn ++ pins, p.1 ≠ b) :
  Inv X pins σ H' { s with heap := h', gens := g', drawn := d', toks := t' } := by
 obtain ⟨m, ⟨o, es, ep, ho, r⟩, _⟩ := id I.loc
 obtain ⟨sl, hL⟩ := u.any ho I.free fun z => (hch _ z).2.1 rfl
 exact I.step (ch := ch) hch (fun b o hL hb hc e n => u.keep b o e n (fun z => (List.mem_cons.mp (I.stkSub b z)).elim hL hb) hc) (fun b o _ _ hc e n => u.any e n hc) (fun b o hc e n => u.free b o e n hc) (fun b o hc e => u.there b o e hc) u.tups u.frzs u.tbls (fun m' hm => by
  obtain ⟨o', es', ep', ho', r'⟩ := hm
  rw [ho] at ho'; cases ho'
  exact ⟨_, es', ep', hL, r'⟩) hok hg
theorem Inv.turned {t' : Nat} {it : Addr} (I : Inv X pins σ H s) (k : ∀ b o, b ≠ it → s.heap.get? b = some o → h'.get? b = some o) (hn : H it = none) (hL : it ≠ X.env.locals)
  (h1 : it ∈ X.ex ∨ X.s₀.heap.objs.size ≤ it) (h2 : ∀ x c, X.env.cells.lookup x = some c → c ≠ it) (h3 : ∀ p ∈ X.pn ++ pins, p.1 ≠ it) : Inv X pins σ H { s with heap := h', toks := t' } := by
 have nit : ∀ b u, H b = some u → b ≠ it := fun b u e z => by rw [z, hn] at e; cases e
 refine I.step (g' := s.gens) (d' := s.drawn) (ch := [it]) (fun b hb => ?_) (fun b o _ _ hc e _ => k b o (fun z => hc (by simp [z])) e) (fun b o _ _ hc e _ => ⟨o.slots, k b o (fun z => hc (by simp [z])) e⟩) (fun _ _ _ _ n => n)
  (fun b o hc e => ⟨o, k b o (fun z => hc (by simp [z])) e⟩) (fun _ _ e => e) (fun _ _ _ e => e) (fun b ps e => ⟨#[], by rw [e]; simp⟩) (fun m hm => ?_) (fun b u e => ?_) I.bare
 ·have e : b = it := by simpa using hb
  subst e
  exact ⟨h1, hL, h2, h3⟩
 ·obtain ⟨o, es, ep, ho, r⟩ := hm
  exact ⟨o, es, ep, k _ o (Ne.symm hL) ho, r⟩
 ·refine (I.hok b u e).stay (fun c v hc q => k c v ?_ q) (fun _ q => q) fun _ _ q => q
  rcases hc with z | z
  ·rw [z]; exact nit b u e
  ·exact nit c _ z
theorem Inv.tok (I : Inv X pins σ H s) (t : Nat) : Inv X pins σ H { s with toks := t } := I.un (h' := s.heap) (t' := t) Un.refl I.hok
theorem Inv.kept {t' : Nat} (I : Inv X pins σ H s) (k : ∀ b u, s.heap.get? b = some u → h'.get? b = some u) : Inv X pins σ H { s with heap := h', toks := t' } := I.un (Un.kept k) (I.hok.kept k)
theorem Inv.laid {a : Addr} {o : HO} {t' : Nat} (I : Inv X pins σ H s) (k : ∀ b u, s.heap.get? b = some u → h'.get? b = some u) (hp : s.heap.objs.size ≤ a) (new : ObjOk X.prog X.w (upd H a o) h' a o) :
  Inv X pins σ (upd H a o) { s with heap := h', toks := t' } := I.un (Un.laid k hp (I.hok.fresh hp)) (I.hok.laid k hp new)
theorem Inv.write {x e : Addr} {o : HO} {t' : Nat} (I : Inv X pins σ H s) (mu : Mut (H x)) (he : e = x ∨ H e = some (.own x)) (k : ∀ b u, b ≠ e → s.heap.get? b = some u → h'.get? b = some u) (heo : ∃ u, h'.get? e = some u)
  (new : ObjOk X.prog X.w (upd H x o) h' x o) : Inv X pins σ (upd H x o) { s with heap := h', toks := t' } := I.un (Un.write mu he k heo) (I.hok.write mu he k heo new)
theorem Inv.pins_of {pins' : List (Addr × Obj)} (I : Inv X pins σ H s) (h : ∀ p ∈ pins', s.heap.get? p.1 = some p.2 ∧ H p.1 = none ∧ p.1 ≠ X.env.locals ∧ p.1 ∉ X.fs ∧ ∀ v, p.2.data ≠ .cell v) : Inv X pins' σ H s :=
 ⟨I.ok, I.os, I.bare, I.base, I.loc, I.cell, I.free, I.freeC, fun p hp => (List.mem_append.mp hp).elim (fun z => I.pin p (List.mem_append_left _ z)) (h p), I.hok, I.len⟩
theorem nodup_ix {N : List Str} (hN : N.Nodup) {i j : Nat} {x : Str} (a : N[i]? = some x) (b : N[j]? = some x) : i = j := by
 obtain ⟨h1, e1⟩ := List.getElem?_eq_some_iff.mp a
 obtain ⟨h2, e2⟩ := List.getElem?_eq_some_iff.mp b
 exact (List.getElem_inj hN).mp (e1.trans e2.symm)
theorem store_ok2 {M : Model} {A : Around} {E : Value → Shared → Prop} {i : Nat} {x : Str} {v : V} {u : Value} {Q : Unit → Shared → Prop} (I : Inv X pins σ H s) (hN : X.N.Nodup) (hi : X.N[i]? = some x) (hx : Loc X.env.scope x) (r : RelV v u)
  (h : ∀ s', Inv X pins (σ.set i (some v)) H s' → (∃ a, Heap.SameBut a s.heap s'.heap ∧ (a = X.env.locals ∨ X.env.cells.lookup x = some a)) → Q () s') (hf : X.fn x = true ∨ X.env.scope.names.lookup x = some .local := by first | exact .inl rfl | exact .inr rfl | assumption) : wpAny M A (storeName X.env x u) Q E s := by
 obtain ⟨m, hn, hl⟩ := id I.loc
 have hcls : (X.env.scope.kind == .class || (X.env.scope.kind == .module && X.env.locals != X.env.globals)) = false := by rw [I.ok.kind]; rfl
 have hiσ : i < σ.length := by rw [I.len]; exact (List.getElem?_eq_some_iff.mp hi).1
 have cne := I.cne
 have tracked : ∀ {a : Addr} {h' : Heap}, (∃ o, s.heap.get? a = some o ∧ H a = none) → Heap.SameBut a s.heap h' → HOk X.prog X.w H h' := fun {a h'} ha hs b ob e => by
  obtain ⟨_, _, hfree⟩ := ha
  refine (I.hok b ob e).stay (fun c w' hc q => (hs.2 c ?_).trans q) (fun _ q => q) fun _ _ q => q
  rintro rfl
  rcases hc with rfl | hc
  ·rw [hfree] at e; cases e
  ·rw [hfree] at hc; cases hc
 rcases hx with hk | hk
 ·refine wpAny_storeName_local hk hn (fun h' hn' hs => ?_) hcls
  obtain ⟨oL, _, _, hoL, _⟩ := id hn
  refine h _ ⟨I.ok, I.os, I.bare, ⟨fun b o e n hb hx => ?_, fun b o e n hb hx => ?_, I.base.free, fun b o e hx => ?_, I.base.tups, I.base.frzs, I.base.tbls⟩, ⟨_, hn', fun j y v' e1 e2 e3 => ?_⟩, fun y c e => ?_, I.free, I.freeC, fun p hp => ?_, tracked ⟨oL, hoL, I.free⟩ hs, by simpa using I.len⟩ ⟨_, hs, .inl rfl⟩
  ·exact (hs.2 b (Nat.ne_of_lt (Nat.lt_of_lt_of_le (Heap.lt_size e) I.ok.above))).trans (I.base.keep b o e n hb hx)
  ·obtain ⟨sl, e1⟩ := I.base.slot b o e n hb hx
   exact ⟨sl, (hs.2 b (Nat.ne_of_lt (Nat.lt_of_lt_of_le (Heap.lt_size e) I.ok.above))).trans e1⟩
  ·obtain ⟨o', e1⟩ := I.base.there b o e hx
   exact ⟨o', (hs.2 b (Nat.ne_of_lt (Nat.lt_of_lt_of_le (Heap.lt_size e) I.ok.above))).trans e1⟩
  ·by_cases hj : j = i
   ·subst hj
    rw [hi] at e1; cases e1
    rw [List.getElem?_set_self hiσ] at e2
    cases e2
    exact ⟨u, r, .inl ⟨hk, by simp⟩⟩
   ·rw [List.getElem?_set_ne (Ne.symm hj)] at e2
    obtain ⟨u', r', q⟩ := hl j y v' e1 e2 e3
    refine ⟨u', r', ?_⟩
    rcases q with ⟨k, e⟩ | ⟨k, c, e, z⟩
    ·refine .inl ⟨k, ?_⟩
     have : y ≠ x := fun e => hj (nodup_ix hN e1 (e ▸ hi))
     simp [this, e]
    ·exact .inr ⟨k, c, e, z.sameBut hs (cne y c e)⟩
  ·obtain ⟨w', z⟩ := I.cell y c e
   exact ⟨w', z.sameBut hs (cne y c e)⟩
  ·obtain ⟨e, n, ne, nf, d⟩ := I.pin p hp
   exact ⟨(hs.2 p.1 ne).trans e, n, ne, nf, d⟩
 ·have hfn : X.fn x = true := by
   rcases hf with z | z
   ·exact z
   ·rw [z] at hk; cases hk
  obtain ⟨c, hc⟩ := I.ok.has x (.inl hk)
  obtain ⟨w', z⟩ := I.cell x c hc
  refine wpAny_storeName_cell I.ok.kind hk hc z (fun h' hc' hs => ?_)
  obtain ⟨oc, hoc, hocd⟩ := id z
  refine h { s with heap := h' } ⟨I.ok, I.os, I.bare, ⟨fun b o e n hb hx => ?_, fun b o e n hb hx => ?_, I.base.free, fun b o e hx => ?_, I.base.tups, I.base.frzs, I.base.tbls⟩, ⟨m, hn.sameBut hs (Ne.symm (cne x c hc)), fun j y v' e1 e2 e3 => ?_⟩, fun y c' e => ?_, I.free, I.freeC, fun p hp => ?_, tracked ⟨oc, hoc, I.freeC x c hc⟩ hs, by simpa using I.len⟩ ⟨c, hs, .inr hc⟩
  ·exact (hs.2 b (Nat.ne_of_lt (Nat.lt_of_lt_of_le (Heap.lt_size e) (I.ok.cab x c hfn hc)))).trans (I.base.keep b o e n hb hx)
  ·obtain ⟨sl, e1⟩ := I.base.slot b o e n hb hx
   exact ⟨sl, (hs.2 b (Nat.ne_of_lt (Nat.lt_of_lt_of_le (Heap.lt_size e) (I.ok.cab x c hfn hc)))).trans e1⟩
  ·obtain ⟨o', e1⟩ := I.base.there b o e hx
   exact ⟨o', (hs.2 b (Nat.ne_of_lt (Nat.lt_of_lt_of_le (Heap.lt_size e) (I.ok.cab x c hfn hc)))).trans e1⟩
  ·by_cases hj : j = i
   ·subst hj
    rw [hi] at e1; cases e1
    rw [List.getElem?_set_self hiσ] at e2
    cases e2
    exact ⟨u, r, .inr ⟨.inl hk, c, hc, hc'⟩⟩
   ·rw [List.getElem?_set_ne (Ne.symm hj)] at e2
    obtain ⟨u', r', q⟩ := hl j y v' e1 e2 e3
    refine ⟨u', r', ?_⟩
    rcases q with q | ⟨k, c', e, z'⟩
    ·exact .inl q
    ·refine .inr ⟨k, c', e, z'.sameBut hs ?_⟩
     rintro rfl
     exact hj (nodup_ix hN e1 (I.ok.inj _ _ _ e hc ▸ hi))
  ·by_cases hcc : c' = c
   ·subst hcc; exact ⟨_, hc'⟩
   ·obtain ⟨w2, z2⟩ := I.cell y c' e
    exact ⟨w2, z2.sameBut hs hcc⟩
  ·obtain ⟨e, n, ne, nf, d⟩ := I.pin p hp
   refine ⟨(hs.2 p.1 ?_).trans e, n, ne, nf, d⟩
   intro q
   rw [q, hoc] at e
   have q' : oc = p.2 := Option.some.inj e
   exact d w' (by rw [← q']; exact hocd)
theorem store_ok {M : Model} {A : Around} {E : Value → Shared → Prop} {i : Nat} {x : Str} {v : V} {u : Value} {Q : Unit → Shared → Prop} (I : Inv X pins σ H s) (hN : X.N.Nodup) (hi : X.N[i]? = some x) (hx : Loc X.env.scope x) (r : RelV v u)
  (h : ∀ s', Inv X pins (σ.set i (some v)) H s' → Q () s') (hf : X.fn x = true ∨ X.env.scope.names.lookup x = some .local := by first | exact .inl rfl | exact .inr rfl | assumption) : wpAny M A (storeName X.env x u) Q E s :=
 store_ok2 I hN hi hx r (fun s' I' _ => h s' I') hf
theorem Inv.call' {s' : Shared} {ch : List Addr} (I : Inv X pins σ H s) (ho : s'.os = s.os) (u : Un (frs X.stack) ch H H' s.heap s'.heap) (hok : HOk X.prog X.w H' s'.heap) (hg : AllBare s'.gens)
  (hch : ∀ b ∈ ch, (b ∈ X.ex ∨ X.s₀.heap.objs.size ≤ b) ∧ b ≠ X.env.locals ∧ (∀ x c, X.env.cells.lookup x = some c → c ≠ b) ∧ ∀ p ∈ X.pn ++ pins, p.1 ≠ b) : Inv X pins σ H' s' := by
 obtain ⟨h', g', d', t', o'⟩ := s'
 have e : o' = s.os := ho
 subst e
 exact I.call (g' := g') (t' := t') (d' := d') u hok hg hch
end
noncomputable abbrev XK := Value → Option Addr → Hp → Prop
noncomputable abbrev St := List (Option V)
noncomputable abbrev VK := V → Hp → Prop
noncomputable abbrev TE := St → Hp → VK → Prop
noncomputable abbrev TT := St → Hp → (Bool → Hp → Prop) → Prop
noncomputable abbrev TA := St → Hp → (List V → Hp → Prop) → Prop
structure Ends where
 nx : St → Hp → Prop
 rt : VK
 bk : St → Hp → Prop := fun _ _ => False
 ct : St → Hp → Prop := fun _ _ => False
noncomputable abbrev TS := Ends → St → Hp → Prop
noncomputable def EP (X : Cx) (pins : List (Addr × Obj)) (σ : St) (Q : VK) (u : Value) (s' : Shared) : Prop := ∃ v H', Inv X pins σ H' s' ∧ RelV v u ∧ Q v H'
noncomputable def TP (X : Cx) (pins : List (Addr × Obj)) (σ : St) (Q : Bool → Hp → Prop) (b : Bool) (s' : Shared) : Prop := ∃ H', Inv X pins σ H' s' ∧ Q b H'
noncomputable def AP (X : Cx) (pins : List (Addr × Obj)) (σ : St) (Q : List V → Hp → Prop) (us : List Value) (s' : Shared) : Prop := ∃ vs H', Inv X pins σ H' s' ∧ Vals vs us ∧ Q vs H'
noncomputable def SP (X : Cx) (pins : List (Addr × Obj)) (D : Ends) (f : Flow) (s' : Shared) : Prop :=
 match f with
 | .next => ∃ σ' H', Inv X pins σ' H' s' ∧ D.nx σ' H'
 | .brk => ∃ σ' H', Inv X pins σ' H' s' ∧ D.bk σ' H'
 | .cont => ∃ σ' H', Inv X pins σ' H' s' ∧ D.ct σ' H'
 | .ret u => ∃ v σ' H', Inv X pins σ' H' s' ∧ RelV v u ∧ D.rt v H'
noncomputable def PE (X : Cx) (e : Expr) (t : TE) : Prop :=
 ∀ (pins : List (Addr × Obj)) (s : Shared) (σ : St) (H : Hp) (Q : VK), Inv X pins σ H s → t σ H Q → wpAny (model X.prog X.w) X.A (eval e X.env) (EP X pins σ Q) X.xe s
noncomputable def PT (X : Cx) (e : Expr) (t : TT) : Prop :=
 ∀ (pins : List (Addr × Obj)) (s : Shared) (σ : St) (H : Hp) (Q : Bool → Hp → Prop), Inv X pins σ H s → t σ H Q → wpAny (model X.prog X.w) X.A (isTrue e X.env (eval e X.env)) (TP X pins σ Q) X.xe s
noncomputable def PW (X : Cx) (e : Expr) (t : TT) : Prop :=
 ∀ (whole : Sem Value) (pins : List (Addr × Obj)) (s : Shared) (σ : St) (H : Hp) (Q : Bool → Hp → Prop), Inv X pins σ H s → t σ H Q → wpAny (model X.prog X.w) X.A (isTrue e X.env whole) (TP X pins σ Q) X.xe s
theorem PW.pt {X : Cx} {e : Expr} {t : TT} (h : PW X e t) : PT X e t := h _
noncomputable def PA (X : Cx) (es : List Expr) (t : TA) : Prop :=
 ∀ (pos : Pos) (pins : List (Addr × Obj)) (s : Shared) (σ : St) (H : Hp) (Q : List V → Hp → Prop), Inv X pins σ H s → t σ H Q → wpAny (model X.prog X.w) X.A (spliced (backTo pos (starEach es X.env))) (AP X pins σ Q) X.xe s
noncomputable def PS (X : Cx) (st : Stmt) (t : TS) : Prop :=
 ∀ (pins : List (Addr × Obj)) (s : Shared) (σ : St) (H : Hp) (D : Ends), Inv X pins σ H s → t D σ H → wpAny (model X.prog X.w) X.A (exec st X.env) (SP X pins D) X.xe s
noncomputable def PSs (X : Cx) (st : List Stmt) (t : TS) : Prop :=
 ∀ (pins : List (Addr × Obj)) (s : Shared) (σ : St) (H : Hp) (D : Ends), Inv X pins σ H s → t D σ H → wpAny (model X.prog X.w) X.A (execs st X.env) (SP X pins D) X.xe s
theorem thn {α : Type} {t : Sem α} {Q Q' : α → Shared → Prop} {M : Model} {A : Around} {E : Value → Shared → Prop} {s : Shared} (h : wpAny M A t Q E s) (hQ : ∀ a s, Q a s → Q' a s) : wpAny M A t Q' E s := wpAny_mono h hQ fun _ _ x => x
section
variable {X : Cx}
noncomputable def tVar (i : Nat) : TE := fun σ H Q => ∃ v, σ[i]? = some (some v) ∧ Q v H
noncomputable def tC (v : V) : TE := fun _ H Q => Q v H
theorem pe_var {i : Nat} {x : Str} {pos : Pos} (hN : X.N[i]? = some x) (hv : Vis X.env.scope x) (hd : (x == ("__debug__" : Str)) = false := by decide) (hcd : (x == ("__classdict__" : Str)) = false := by decide) : PE X (.Name x pos) (tVar i) := by
 intro pins s σ H Q I h
 obtain ⟨v, e, h⟩ := h
 obtain ⟨m, hn, hl⟩ := I.loc
 obtain ⟨u, r, l⟩ := hl i x v hN e hv
 have fin : EP X pins σ Q u s := ⟨v, H, I, r, h⟩
 rcases l with ⟨hk, hm⟩ | ⟨hk, c, hc, hcell⟩
 ·exact wpAny_Name (wpAny_loadName_local I.ok.kind hk hn hm fin) hd
 ·rcases hk with hk | hk
  ·exact wpAny_Name (wpAny_loadName_cell I.ok.kind hk hc hcell fin) hd
  ·exact wpAny_Name (wpAny_loadName_free I.ok.kind hk hc hcell fin hcd) hd
theorem pe_int {i j pos} : PE X (.Constant (.int i) j pos) (tC (.int i)) := fun _ _ _ H _ I h => wpAny_Constant_int ⟨.int i, H, I.tok _, ⟨_, rfl⟩, h⟩
theorem pe_bl {b j pos} : PE X (.Constant (.bool b) j pos) (tC (.bl b)) := fun _ _ _ H _ I h => Constant_bool ⟨.bl b, H, I, rfl, h⟩
theorem pe_non {j pos} : PE X (.Constant .none j pos) (tC .non) := fun _ _ _ H _ I h => Constant_none ⟨.non, H, I, rfl, h⟩
theorem pe_str {x j pos} : PE X (.Constant (.str x) j pos) (tC (.str x)) := fun _ _ _ H _ I h => Calls.Constant_str ⟨.str x, H, I.tok _, ⟨_, rfl⟩, h⟩
noncomputable def Gl (X : Cx) (x : Str) : Prop := X.env.kindOf x = some .globalImplicit
theorem ld_glob {E : Value → Shared → Prop} {pins : List (Addr × Obj)} {s : Shared} {σ : St} {H : Hp} {x : Str} {u : Value} {pos : Pos} {Q : Value → Shared → Prop} (I : Inv X pins σ H s) (hg : Gl X x) (hm : X.mg x = some u) (h : Q u s)
  (hd : (x == ("__debug__" : Str)) = false := by decide) : wpAny (model X.prog X.w) X.A (eval (.Name x pos) X.env) Q E s :=
 Calls.Name_function_global I.ok.kind hg (Calls.loadGlobal_global (by rw [I.ok.glob]; exact I.mod.glob.keeps I.bk) hm h) hd
theorem ld_blt {E : Value → Shared → Prop} {pins : List (Addr × Obj)} {s : Shared} {σ : St} {H : Hp} {x : Str} {u : Value} {pos : Pos} {Q : Value → Shared → Prop} (I : Inv X pins σ H s) (hg : Gl X x) (hm : X.mg x = none) (hv : bootBuiltins x = some u) (h : Q u s)
  (hn : x ≠ "__name__" := by decide) (hd : (x == ("__debug__" : Str)) = false := by decide) : wpAny (model X.prog X.w) X.A (eval (.Name x pos) X.env) Q E s := by
 obtain ⟨mb, h1, h2⟩ := I.mod.blt
 exact Calls.Name_function_global I.ok.kind hg (Calls.loadGlobal_builtin (by rw [I.ok.glob]; exact I.mod.glob.keeps I.bk) hm (by rw [I.ok.blt]; exact h1.keeps I.bk) ((h2 x hn).trans hv) h) hd
theorem pe_glob {x : Str} {v : V} {u : Value} {pos : Pos} (hg : Gl X x) (hm : X.mg x = some u) (r : RelV v u) (hd : (x == ("__debug__" : Str)) = false := by decide) : PE X (.Name x pos) (tC v) :=
 fun _ _ _ H _ I h => ld_glob I hg hm ⟨v, H, I, r, h⟩ hd
variable {a b : Expr} {ta tb : TE} {pos : Pos}
noncomputable def PC (X : Cx) (op : CmpOp) (a b : Expr) (t : TE) : Prop :=
 ∀ (pins : List (Addr × Obj)) (s : Shared) (σ : St) (H : Hp) (Q : VK), Inv X pins σ H s → t σ H Q →
  wpAny (model X.prog X.w) X.A (eval a X.env) (fun v s₁ => wpAny (model X.prog X.w) X.A (eval b X.env) (fun u s₂ => wpAny (model X.prog X.w) X.A (compareOp op v u) (EP X pins σ Q) X.xe s₂) X.xe s₁) X.xe s
theorem nobehind (b : Expr) {op : CmpOp} (h : op ≠ .In) (h2 : op ≠ .NotIn) : behindInMarks op b = false := by
 have e1 : (op == CmpOp.In) = false := by cases op <;> first | rfl | exact absurd rfl h
 have e2 : (op == CmpOp.NotIn) = false := by cases op <;> first | rfl | exact absurd rfl h2
 cases b <;> simp [behindInMarks, e1, e2]
noncomputable def tIsN (ta : TE) : TE := fun σ H Q => ta σ H fun x H1 => Q (.bl (decide (x = .non))) H1
noncomputable def tNotN (ta : TE) : TE := fun σ H Q => ta σ H fun x H1 => Q (.bl (!decide (x = .non))) H1
theorem RelV.none_iff {x : V} {v : Value} (r : RelV x v) : (v == Value.none) = decide (x = .non) := by
 cases x with
 | non => cases r; rfl
 | bl _ => cases r; rfl
 | int _ => obtain ⟨t, rfl⟩ := r; rfl
 | str _ => obtain ⟨t, rfl⟩ := r; rfl
 | byt _ => obtain ⟨t, rfl⟩ := r; rfl
 | flt _ => obtain ⟨t, rfl⟩ := r; rfl
 | ref _ => cases r; rfl
 | ty _ => cases r; rfl
theorem pc_isN {j pos'} (ha : PE X a ta) : PC X .Is a (.Constant .none j pos') (tIsN ta) := by
 intro pins s σ H Q I h
 refine thn (ha pins s σ H _ I h) fun v s1 ⟨x, H1, I1, r1, q1⟩ => ?_
 exact Constant_none (is_none_gen ⟨.bl _, H1, I1, by rw [r1.none_iff]; rfl, q1⟩)
theorem pc_notN {j pos'} (ha : PE X a ta) : PC X .IsNot a (.Constant .none j pos') (tNotN ta) := by
 intro pins s σ H Q I h
 refine thn (ha pins s σ H _ I h) fun v s1 ⟨x, H1, I1, r1, q1⟩ => ?_
 exact Constant_none (isnot_none_gen ⟨.bl _, H1, I1, by rw [r1.none_iff]; rfl, q1⟩)
noncomputable def tB (t : TE) : TT := fun σ H Q => t σ H fun x H1 => ∃ c, x = .bl c ∧ Q c H1
theorem pe_cmp {op : CmpOp} {t : TE} (h : PC X op a b t) (h1 : behindInMarks op b = false := by first | exact nobehind _ (by decide) (by decide) | rfl) : PE X (.Compare a [op] [b] pos) t := fun pins s σ H Q I hw => wpAny_Compare1 (h pins s σ H Q I hw) h1
theorem pt_cmp {op : CmpOp} {t : TE} (h : PC X op a b t) (h1 : behindInMarks op b = false := by first | exact nobehind _ (by decide) (by decide) | rfl) : PT X (.Compare a [op] [b] pos) (tB t) := by
 intro pins s σ H Q I hw
 refine wpAny_isTrue_Compare1 (thn (h pins s σ H _ I hw) fun v s1 h1 => thn h1 fun u s2 h2 => thn h2 fun c s3 ⟨x, H1, I1, r1, q1⟩ => ?_) h1
 obtain ⟨d, rfl, q⟩ := q1
 cases r1
 exact wpAny_truthy_bool ⟨H1, I1, q⟩
theorem pt_val {e : Expr} {t : TE} (h : PE X e t) (he : ∀ whole, isTrue e X.env whole = (do let v ← whole; standAt e.pos; holding [v] (truthy v)) := by intro _; rfl) : PT X e (tB t) := by
 intro pins s σ H Q I hw
 refine isTrue_plain (thn (h pins s σ H _ I hw) fun v s1 ⟨x, H1, I1, r1, q1⟩ => ?_) (he _)
 obtain ⟨d, rfl, q⟩ := q1
 cases r1
 exact wpAny_truthy_bool ⟨H1, I1, q⟩
variable {tA tB' : TT} {rest : List Expr}
noncomputable def tOr (t u : TT) : TT := fun σ H Q => t σ H fun c H1 => if c = true then Q true H1 else u σ H1 Q
noncomputable def tNot (t : TT) : TT := fun σ H Q => t σ H fun c H1 => Q (!c) H1
theorem pw_or1 (ha : PT X a tA) : PW X (.BoolOp .Or [a] pos) tA := by
 intro wh pins s σ H Q I h
 refine isTrue_or (thn (ha pins s σ H Q I h) fun c s1 e => ?_)
 cases c with
 | false => exact isTrue_or_nil e
 | true => exact e
theorem pw_or (ha : PT X a tA) (hb : PW X (.BoolOp .Or (b :: rest) pos) tB') : PW X (.BoolOp .Or (a :: b :: rest) pos) (tOr tA tB') := by
 intro wh pins s σ H Q I h
 refine isTrue_or (thn (ha pins s σ H _ I h) fun c s1 ⟨H1, I1, q1⟩ => ?_)
 cases c with
 | true => exact ⟨H1, I1, q1⟩
 | false => exact hb wh pins s1 σ H1 Q I1 q1
theorem pt_not (ha : PT X a tA) : PT X (.UnaryOp .Not a pos) (tNot tA) := by
 intro pins s σ H Q I h
 exact isTrue_not (ha pins s σ H (fun c H1 => Q (!c) H1) I h)
noncomputable def tAndV (ta tb : TE) : TE := fun σ H Q => ta σ H fun x H1 => ∃ c, x = .bl c ∧ if c = true then tb σ H1 Q else Q (.bl false) H1
theorem pe_one {op} {t : TE} (h : PE X a t) : PE X (.BoolOp op [a] pos) t := fun pins s σ H Q I hw => BoolOp_one (h pins s σ H Q I hw)
theorem pe_and (ha : PE X a ta) (hb : PE X (.BoolOp .And (b :: rest) pos) tb) : PE X (.BoolOp .And (a :: b :: rest) pos) (tAndV ta tb) := by
 intro pins s σ H Q I h
 refine BoolOp_and (thn (ha pins s σ H _ I h) fun v s1 ⟨x, H1, I1, r1, q1⟩ => ?_)
 obtain ⟨c, rfl, q1⟩ := q1
 cases r1
 refine wpAny_truthy_bool ?_
 cases c with
 | true => exact hb pins s1 σ H1 Q I1 q1
 | false => exact ⟨.bl false, H1, I1, rfl, q1⟩
noncomputable def tIf (t : TT) (ta tb : TE) : TE := fun σ H Q => t σ H fun c H1 => if c = true then ta σ H1 Q else tb σ H1 Q
theorem pe_ifExp {c : Expr} (hc : PT X c tA) (ha : PE X a ta) (hb : PE X b tb) : PE X (.IfExp c a b pos) (tIf tA ta tb) := by
 intro pins s σ H Q I h
 refine wpAny_IfExp (thn (hc pins s σ H _ I h) fun d s1 ⟨H1, I1, q1⟩ => ?_)
 cases d with
 | true => exact ha pins s1 σ H1 Q I1 q1
 | false => exact hb pins s1 σ H1 Q I1 q1
end
noncomputable def SqL (K : PySem.W.Frag) (H : Hp) (a : Addr) (xs : List V) : Prop :=
 Rd H a (.lst xs) ∨
  ∃ (o : Obj) (its : Array Value) (n : Nat), K.lookup a = some o ∧ o.cls = .type "list" ∧ o.dict = none ∧ o.data = .seq its n ∧ its.size ≤ sizeLine ∧ Vals xs its.toList
noncomputable def SqT (K : PySem.W.Frag) (H : Hp) (a : Addr) (xs : List V) : Prop :=
 Rd H a (.tup xs) ∨
  ∃ (o : Obj) (its : Array Value) (n : Nat), K.lookup a = some o ∧ o.cls = .type "tuple" ∧ o.data = .seq its n ∧ its.size ≤ sizeLine ∧ Vals xs its.toList
noncomputable def absV : Value → Option V
 | .none => some .non
 | .bool b => some (.bl b)
 | .int i _ => some (.int i)
 | .str x _ => some (.str x)
 | .bytes b _ => some (.byt b)
 | .float b _ => some (.flt b)
 | .ref a => some (.ref a)
 | .type n => some (.ty n)
 | _ => none
theorem RelV.abs {x : V} {u : Value} (r : RelV x u) : absV u = some x := by
 cases x with
 | non => cases r; rfl
 | bl _ => cases r; rfl
 | int _ => obtain ⟨t, rfl⟩ := r; rfl
 | str _ => obtain ⟨t, rfl⟩ := r; rfl
 | byt _ => obtain ⟨t, rfl⟩ := r; rfl
 | flt _ => obtain ⟨t, rfl⟩ := r; rfl
 | ref _ => cases r; rfl
 | ty _ => cases r; rfl
theorem RelV.inj {x y : V} {u : Value} (r : RelV x u) (q : RelV y u) : x = y := Option.some.inj (r.abs.symm.trans q.abs)
theorem Vals.inj : ∀ {xs ys : List V} {us : List Value}, Vals xs us → Vals ys us → xs = ys
 | _, _, _, .nil, .nil => rfl
 | _, _, _, .cons r t, .cons r' t' => by rw [r.inj r', Vals.inj t t']
section
variable {X : Cx} {pins : List (Addr × Obj)} {σ : St} {H : Hp} {s : Shared} {a : Addr} {xs ys : List V}
theorem SqL.of {K : PySem.W.Frag} (h : H a = some (.lst xs)) : SqL K H a xs := .inl (.inl h)
theorem SqT.of {K : PySem.W.Frag} (h : H a = some (.tup xs)) : SqT K H a xs := .inl (.inl h)
theorem Inv.list (I : Inv X pins σ H s) (h : SqL X.K H a xs) : ∃ its : List Value, Vals xs its ∧ PlainL s.heap a its.toArray ∧ xs.length ≤ sizeLine := by
 rcases h with h | ⟨o, its, n, hk, hc, hd, hs, hz, r⟩
 ·obtain ⟨z, its, n, r, e⟩ := h.ok I.hok
  exact ⟨its, r, ⟨_, n, e, rfl, rfl, rfl⟩, z⟩
 ·refine ⟨its.toList, r, ⟨o, n, I.kIn a o hk, hc, hd, by simpa using hs⟩, ?_⟩
  have e := r.length
  simp only [Array.length_toList] at e
  omega
theorem Inv.tuple (I : Inv X pins σ H s) (h : SqT X.K H a xs) : ∃ its : List Value, Vals xs its ∧ IsTup s.heap a its.toArray ∧ xs.length ≤ sizeLine := by
 rcases h with h | ⟨o, its, n, hk, hc, hs, hz, r⟩
 ·obtain ⟨z, its, r, p⟩ := h.ok I.hok
  exact ⟨its, r, p, z⟩
 ·refine ⟨its.toList, r, ⟨o, I.kIn a o hk, hc, n, by simpa using hs⟩, ?_⟩
  have e := r.length
  simp only [Array.length_toList] at e
  omega
theorem Inv.list_inj (I : Inv X pins σ H s) (h : SqL X.K H a xs) (h' : SqL X.K H a ys) : xs = ys := by
 obtain ⟨its, r, ⟨o, n, e, _, _, d⟩, _⟩ := I.list h
 obtain ⟨its', r', ⟨o', n', e', _, _, d'⟩, _⟩ := I.list h'
 rw [e] at e'; cases e'
 rw [d] at d'
 injection d' with d1 _
 have : its = its' := by simpa using congrArg Array.toList d1
 subst this
 exact r.inj r'
theorem Inv.tuple_inj (I : Inv X pins σ H s) (h : SqT X.K H a xs) (h' : SqT X.K H a ys) : xs = ys := by
 obtain ⟨its, r, ⟨o, e, _, n, d⟩, _⟩ := I.tuple h
 obtain ⟨its', r', ⟨o', e', _, n', d'⟩, _⟩ := I.tuple h'
 rw [e] at e'; cases e'
 rw [d] at d'
 injection d' with d1 _
 have : its = its' := by simpa using congrArg Array.toList d1
 subst this
 exact r.inj r'
end
noncomputable abbrev Cx.wish (X : Cx) (E : Value → Shared → Prop) : Cx := { X with xe := E }
noncomputable abbrev Cx.nox (X : Cx) : Cx := X.wish fun _ _ => False
theorem Cx.Ok.wish {X : Cx} (ok : X.Ok) (E : Value → Shared → Prop) : (X.wish E).Ok :=
 ⟨ok.mod, ok.kind, ok.glob, ok.blt, ok.above, ok.inj, ok.has, ok.cab, ok.hd, ok.frames, ok.stk, ok.exf, ok.bs, ok.bsz, ok.noex, ok.exfs, ok.funs, ok.frf⟩
theorem Cx.Ok.unwish {X : Cx} {E : Value → Shared → Prop} (ok : (X.wish E).Ok) : X.Ok :=
 ⟨ok.mod, ok.kind, ok.glob, ok.blt, ok.above, ok.inj, ok.has, ok.cab, ok.hd, ok.frames, ok.stk, ok.exf, ok.bs, ok.bsz, ok.noex, ok.exfs, ok.funs, ok.frf⟩
section
variable {X : Cx} {pins : List (Addr × Obj)} {σ : St} {H : Hp} {s : Shared} {E : Value → Shared → Prop}
theorem Inv.wish (I : Inv X pins σ H s) (E : Value → Shared → Prop) : Inv (X.wish E) pins σ H s := ⟨I.ok.wish E, I.os, I.bare, I.base, I.loc, I.cell, I.free, I.freeC, I.pin, I.hok, I.len⟩
theorem Inv.unwish (I : Inv (X.wish E) pins σ H s) : Inv X pins σ H s := ⟨I.ok.unwish, I.os, I.bare, I.base, I.loc, I.cell, I.free, I.freeC, I.pin, I.hok, I.len⟩
theorem SP.unwish {D : Ends} {f : Flow} {s' : Shared} (h : SP (X.wish E) pins D f s') : SP X pins D f s' := by
 cases f with
 | next => obtain ⟨σ', H', I, q⟩ := h; exact ⟨σ', H', I.unwish, q⟩
 | brk => obtain ⟨σ', H', I, q⟩ := h; exact ⟨σ', H', I.unwish, q⟩
 | cont => obtain ⟨σ', H', I, q⟩ := h; exact ⟨σ', H', I.unwish, q⟩
 | ret u => obtain ⟨v, σ', H', I, r, q⟩ := h; exact ⟨v, σ', H', I.unwish, r, q⟩
theorem PE.nox {e : Expr} {t : TE} (h : PE X.nox e t) : PE X e t := fun pins s σ H Q I hw =>
 wpAny_mono (h pins s σ H Q (I.wish _) hw) (fun _ _ ⟨v, H', I', r, q⟩ => ⟨v, H', I'.unwish, r, q⟩) fun _ _ z => False.elim z
theorem PT.nox {e : Expr} {t : TT} (h : PT X.nox e t) : PT X e t := fun pins s σ H Q I hw =>
 wpAny_mono (h pins s σ H Q (I.wish _) hw) (fun _ _ ⟨H', I', q⟩ => ⟨H', I'.unwish, q⟩) fun _ _ z => False.elim z
theorem PSs.nox {st : List Stmt} {t : TS} (h : PSs X.nox st t) : PSs X st t := fun pins s σ H D I hw =>
 wpAny_mono (h pins s σ H D (I.wish _) hw) (fun _ _ q => q.unwish) fun _ _ z => False.elim z
end
section
variable {X : Cx} {st : Stmt} {rest : List Stmt} {t u : TS} {e : Expr} {te : TE} {pos : Pos}
noncomputable def tNext : TS := fun D σ H => D.nx σ H
noncomputable def tSeq (t u : TS) : TS := fun D σ H => t { D with nx := u D } σ H
theorem pss_nil : PSs X [] tNext := fun _ _ σ H _ I h => wpAny_execs_nil ⟨σ, H, I, h⟩
theorem pss_cons (h1 : PS X st t) (h2 : PSs X rest u) : PSs X (st :: rest) (tSeq t u) := by
 intro pins s σ H D I h
 refine wpAny_execs_cons (thn (h1 pins s σ H { D with nx := u D } I h) fun f s1 q => ?_)
 cases f with
 | next =>
  obtain ⟨σ', H', I', q⟩ := q
  exact h2 pins s1 σ' H' D I' q
 | ret v => exact q
 | brk => exact q
 | cont => exact q
theorem pss_one (h1 : PS X st t) : PSs X [st] t := by
 intro pins s σ H D I h
 refine wpAny_execs_cons (thn (h1 pins s σ H D I h) fun f s1 q => ?_)
 cases f with
 | next => exact wpAny_execs_nil q
 | ret v => exact q
 | brk => exact q
 | cont => exact q
noncomputable def tCont : TS := fun D σ H => D.ct σ H
theorem ps_continue : PS X (.Continue pos) tCont := fun _ _ σ H _ I h => wpAny_Continue ⟨σ, H, I, h⟩
theorem Inv.quiet {pins : List (Addr × Obj)} {σ : St} {H : Hp} {s : Shared} (I : Inv X pins σ H s) : interactive X.env = false := by simp [interactive, I.ok.kind]
noncomputable def tDrop (te : TE) : TS := fun D σ H => te σ H fun _ H1 => D.nx σ H1
theorem ps_expr (he : PE X e te) (hs : swapsWith e none pos.line X.env = pure false := by rfl) : PS X (.Expr e pos) (tDrop te) := by
 intro pins s σ H D I h
 exact wpAny_Expr_any (thn (he pins s σ H _ I h) fun v s1 ⟨x, H1, I1, r1, q1⟩ => ⟨σ, H1, I1, q1⟩) I.quiet hs
noncomputable def tRet (te : TE) : TS := fun D σ H => te σ H D.rt
theorem ps_ret (he : PE X e te) : PS X (.Return (some e) pos) (tRet te) := by
 intro pins s σ H D I h
 exact wpAny_Return_some (thn (he pins s σ H _ I h) fun v s1 ⟨x, H1, I1, r1, q1⟩ => ⟨x, σ, H1, I1, r1, q1⟩)
noncomputable def tIfS (c : TT) (t u : TS) : TS := fun D σ H => c σ H fun b H1 => if b = true then t D σ H1 else u D σ H1
theorem ps_if {c : Expr} {a b : List Stmt} {tc : TT} (hc : PT X c tc) (ha : PSs X a t) (hb : PSs X b u) : PS X (.If c a b pos) (tIfS tc t u) := by
 intro pins s σ H D I h
 refine wpAny_If (thn (hc pins s σ H _ I h) fun d s1 ⟨H1, I1, q1⟩ => ?_)
 cases d with
 | true => exact ha pins s1 σ H1 D I1 q1
 | false => exact hb pins s1 σ H1 D I1 q1
noncomputable def tNever : TS := fun _ _ _ => False
theorem ps_never : PS X st tNever := fun _ _ _ _ _ _ h => h.elim
end
noncomputable abbrev TG := V → St → Hp → (St → Hp → Prop) → Prop
noncomputable abbrev TGs := List V → St → Hp → (St → Hp → Prop) → Prop
noncomputable def PG (X : Cx) (target : Expr) (t : TG) : Prop :=
 ∀ (pins : List (Addr × Obj)) (s : Shared) (σ : St) (H : Hp) (v : V) (u : Value) (Q : St → Hp → Prop), Inv X pins σ H s → RelV v u → t v σ H Q →
  wpAny (model X.prog X.w) X.A (assign target X.env u) (fun _ s' => ∃ σ' H', Inv X pins σ' H' s' ∧ Q σ' H') X.xe s
noncomputable def PGs (X : Cx) (ts : List Expr) (t : TGs) : Prop :=
 ∀ (pins : List (Addr × Obj)) (s : Shared) (σ : St) (H : Hp) (vs : List V) (us : List Value) (Q : St → Hp → Prop), Inv X pins σ H s → Vals vs us → t vs σ H Q →
  wpAny (model X.prog X.w) X.A (assignInOrder ((assignEach ts X.env).map (·.2)) us) (fun _ s' => ∃ σ' H', Inv X pins σ' H' s' ∧ Q σ' H') X.xe s
noncomputable abbrev TSet := V → V → V → Hp → (Hp → Prop) → Prop
noncomputable def PSet (X : Cx) (t : TSet) : Prop :=
 ∀ (pins : List (Addr × Obj)) (s : Shared) (σ : St) (H : Hp) (o i v : V) (ov iv u : Value) (Q : Hp → Prop), Inv X pins σ H s → RelV o ov → RelV i iv → RelV v u → t o i v H Q →
  wpAny (model X.prog X.w) X.A (setItem ov iv u) (fun _ s' => ∃ H', Inv X pins σ H' s' ∧ Q H') X.xe s
section
variable {X : Cx} {pos : Pos}
noncomputable def gName (i : Nat) : TG := fun v σ H Q => Q (σ.set i (some v)) H
theorem pg_name {i : Nat} {x : Str} (hN : X.N.Nodup) (hi : X.N[i]? = some x) (hx : Loc X.env.scope x) (hf : X.fn x = true ∨ X.env.scope.names.lookup x = some .local := by first | exact .inl rfl | exact .inr rfl | assumption) : PG X (.Name x pos) (gName i) := by
 intro pins s σ H v u Q I r h
 exact wpAny_assign_Name (store_ok I hN hi hx r (fun s' I' => ⟨_, H, I', h⟩) hf)
noncomputable def gNil : TGs := fun vs σ H Q => vs = [] ∧ Q σ H
noncomputable def gCons (t : TG) (u : TGs) : TGs := fun vs σ H Q => ∃ v r, vs = v :: r ∧ t v σ H fun σ' H' => u r σ' H' Q
theorem pgs_nil : PGs X [] gNil := by
 intro pins s σ H vs us Q I r h
 obtain ⟨e, h⟩ := h
 subst e
 cases r
 exact assignInOrder_nil ⟨σ, H, I, h⟩
theorem pgs_cons {e : Expr} {es : List Expr} {t : TG} {u : TGs} (h1 : PG X e t) (h2 : PGs X es u)
  (hs : (assignEach (e :: es) X.env).map (·.2) = assign e X.env :: (assignEach es X.env).map (·.2) := by rfl) : PGs X (e :: es) (gCons t u) := by
 intro pins s σ H vs us Q I r h
 obtain ⟨v, vr, e1, h⟩ := h
 subst e1
 cases r with
 | cons r rr =>
  rw [hs]
  refine assignInOrder_cons (thn (h1 pins s σ H _ _ _ I r h) fun _ s1 ⟨σ1, H1, I1, q1⟩ => ?_)
  exact h2 pins s1 σ1 H1 _ _ Q I1 rr q1
noncomputable def gTup (K : PySem.W.Frag) (n : Nat) (t : TGs) : TG := fun v σ H Q => ∃ a xs, v = .ref a ∧ SqT K H a xs ∧ xs.length = n ∧ t xs σ H Q
theorem pg_tup {es : List Expr} {k : Nat} {t : TGs} {n : Nat} (hc : X.calm = true) (h : PGs X es t)
  (hn : (assignEach es X.env).length = n := by rfl) (hst : (assignEach es X.env).findIdx? (·.1) = none := by rfl) : PG X (.Tuple es k pos) (gTup X.K n t) := by
 intro pins s σ H v u Q I r hw
 obtain ⟨a, xs, e1, hq, hl, hw⟩ := hw
 subst e1
 cases r
 obtain ⟨its, rv, ht, hz⟩ := I.tuple hq
 refine assign_Tuple_tuple (I.ok.hd hc) ht (by simp [hn, ← hl, rv.length]) hst fun h' hx => ?_
 have I1 : Inv X pins σ H { s with heap := h' } := I.kept (t' := s.toks) fun b o e => hx b o (Nat.ne_of_lt (Heap.lt_size e)) e
 exact h pins _ σ H xs _ Q I1 (by simpa using rv) hw
noncomputable def gSub (to ti : TE) (t : TSet) : TG := fun v σ H Q => to σ H fun o H1 => ti σ H1 fun i H2 => t o i v H2 fun H3 => Q σ H3
theorem pg_sub {o i : Expr} {to ti : TE} {t : TSet} (ho : PE X o to) (hi : PE X i ti) (hs : PSet X t)
  (ha : ∀ v, assign (.Subscript o i pos) X.env v = (do
   let ov ← holding [v] (eval o X.env)
   let iv ← holding [v, ov] (eval i X.env)
   standAt pos
   holding [v, ov, iv] (setItem ov iv v)
   release [v, ov, iv] []) := by intro _; rfl) : PG X (.Subscript o i pos) (gSub to ti t) := by
 intro pins s σ H v u Q I r h
 rw [ha]
 refine wpAny_bind (wpAny_holding (thn (ho pins s σ H _ I h) fun ov s1 ⟨x, H1, I1, r1, q1⟩ => ?_))
 refine wpAny_bind (wpAny_holding (thn (hi pins s1 σ H1 _ I1 q1) fun iv s2 ⟨y, H2, I2, r2, q2⟩ => ?_))
 refine wpAny_bind (wpAny_standAt (wpAny_bind (wpAny_holding (thn (hs pins s2 σ H2 x y v ov iv u _ I2 r1 r2 r q2) fun _ s3 ⟨H3, I3, q3⟩ => ?_))))
 exact wpAny_release ⟨σ, H3, I3, q3⟩
noncomputable def tAsg (te : TE) (g : TG) : TS := fun D σ H => te σ H fun x H1 => g x σ H1 D.nx
theorem ps_asg {tg e : Expr} {te : TE} {g : TG} (he : PE X e te) (hg : PG X tg g) (hs : swapsWithSole [tg] e pos.line X.env = pure false := by rfl) (hw : swappedStores [tg] e X.env = pure none := by rfl)
  (h1 : (assignEach [tg] X.env).map (·.2) = [assign tg X.env] := by rfl) : PS X (.Assign [tg] e pos) (tAsg te g) := by
 intro pins s σ H D I h
 refine wpAny_Assign_stores (thn (he pins s σ H _ I h) fun v s1 ⟨x, H1, I1, r1, q1⟩ => ?_) hs hw
 rw [h1]
 exact thn (hg pins s1 σ H1 x v _ I1 r1 q1) fun _ s2 q => q
theorem ps_set {i : Nat} {x : Str} {e : Expr} {te : TE} {pos' : Pos} (hN : X.N.Nodup) (hi : X.N[i]? = some x) (hx : Loc X.env.scope x) (he : PE X e te) (hs : swapsWith e (some (.Name x pos')) pos.line X.env = pure false := by rfl) (hf : X.fn x = true ∨ X.env.scope.names.lookup x = some .local := by first | exact .inl rfl | exact .inr rfl | assumption) :
  PS X (.Assign [.Name x pos'] e pos) (tAsg te (gName i)) := by
 intro pins s σ H D I h
 refine wpAny_Assign_Name (thn (he pins s σ H _ I h) fun v s1 ⟨y, H1, I1, r1, q1⟩ => ?_) hs
 exact store_ok I1 hN hi hx r1 (fun s2 I2 => ⟨_, H1, I2, q1⟩) hf
end
section
variable {X : Cx} {pos : Pos}
noncomputable def tWhile (c : TT) (tb : TS) : TS := fun D σ H => ∃ W : Nat → St → Hp → Prop, (∃ m, W m σ H) ∧ ∀ m σ H, W m σ H →
 c σ H fun b H1 => if b = true then ∃ N : St → Hp → Prop, (∀ σ' H', N σ' H' → ∃ m', m' < m ∧ W m' σ' H') ∧ tb { D with nx := N, ct := N, bk := D.nx } σ H1 else D.nx σ H1
theorem ps_while {c : Expr} {body : List Stmt} {tc : TT} {tb : TS} (hp : PassesOwn (model X.prog X.w) X.A X.env X.xe) (hc : PT X c tc) (hb : PSs X body tb) : PS X (.While c body [] pos) (tWhile tc tb) := by
 intro pins s σ H D I h
 obtain ⟨W, ⟨m0, w0⟩, turn⟩ := h
 refine wpAny_While (codeAny_whileLoop (fun n s' => ∃ σ' H', Inv X pins σ' H' s' ∧ W n σ' H') ?_ m0 ⟨σ, H, I, w0⟩)
 rintro n s1 ⟨σ1, H1, I1, w1⟩
 refine wpAny_passesOwn hp (thn (hc pins s1 σ1 H1 _ I1 (turn n σ1 H1 w1)) fun b s2 ⟨H2, I2, q2⟩ => ?_)
 cases b with
 | true =>
  obtain ⟨N, hN, q2⟩ := q2
  rw [if_pos rfl]
  refine wpAny_passesOwn hp (thn (hb pins s2 σ1 H2 _ I2 q2) fun f s3 q3 => ?_)
  cases f with
  | next =>
   obtain ⟨σ3, H3, I3, n3⟩ := q3
   obtain ⟨m', hm, w3⟩ := hN σ3 H3 n3
   exact ⟨m', hm, σ3, H3, I3, w3⟩
  | cont =>
   obtain ⟨σ3, H3, I3, n3⟩ := q3
   obtain ⟨m', hm, w3⟩ := hN σ3 H3 n3
   exact ⟨m', hm, σ3, H3, I3, w3⟩
  | brk => exact q3
  | ret v => exact q3
 | false =>
  rw [if_neg Bool.false_ne_true]
  exact wpAny_execs_nil ⟨σ1, H2, I2, q2⟩
end
structure It where
 go : Nat → Hp → Prop
 yld : Nat → Hp → V → Hp → Prop
 stop : Nat → Hp → Prop
noncomputable def FpOk (X : Cx) (pins : List (Addr × Obj)) (H : Hp) (b : Addr) : Prop :=
 H b = none ∧ b ≠ X.env.locals ∧ b ∉ X.fs ∧ (b ∈ X.ex ∨ X.s₀.heap.objs.size ≤ b) ∧ (∀ x c, X.env.cells.lookup x = some c → c ≠ b) ∧ ∀ p ∈ X.pn ++ pins, p.1 ≠ b
theorem Inv.fpOk {X : Cx} {pins : List (Addr × Obj)} {σ : St} {H H' : Hp} {s : Shared} {b : Addr} (I : Inv X pins σ H s) (hb : s.heap.objs.size ≤ b) (hn : H' b = none) : FpOk X pins H' b := by
 refine ⟨hn, Nat.ne_of_gt (Nat.lt_of_lt_of_le I.lt hb), I.nofs hb, .inr (Nat.le_trans I.sz hb), fun x c e z => ?_, fun p hp z => ?_⟩
 ·obtain ⟨v, q⟩ := I.cell x c e
  exact absurd (Nat.lt_of_lt_of_le q.lt (by rw [z]; exact hb)) (Nat.lt_irrefl _)
 ·exact absurd (Nat.lt_of_lt_of_le (Heap.lt_size (I.pin p hp).1) (by rw [z]; exact hb)) (Nat.lt_irrefl _)
structure Turn (P : Program) (w : World) (K : PySem.W.Frag) (tg : Expr) (J : It) (fp : List Addr) (it : Addr) (tn : Nat → Heap → Prop) : Prop where
 mem : it ∈ fp
 obj : ∀ i h, tn i h → ∀ b ∈ fp, ∃ o, h.get? b = some o ∧ ∀ v, o.data ≠ .cell v
 keep : ∀ i h h', tn i h → (∀ b ∈ fp, ∀ o, h.get? b = some o → h'.get? b = some o) → tn i h'
 item : ∀ (X : Cx), X.prog = P → X.w = w → X.K = K → X.calm = true → ∀ (i : Nat) (pins : List (Addr × Obj)) (s : Shared) (σ : St) (H : Hp) (E : Value → Shared → Prop), Inv X pins σ H s → (∀ b ∈ fp, FpOk X pins H b) → tn i s.heap → J.go i H →
  wpAny (model P w) X.A (pyNext (.ref it)) (fun r s1 => ∃ u, r = some u ∧
   wpAny (model P w) X.A (letOwnedTupleGo tg (.ref it) u) (fun _ s2 => ∃ x H', Inv X pins σ H' s2 ∧ RelV x u ∧ J.yld i H x H' ∧ tn (i + 1) s2.heap ∧ ∀ b ∈ fp, H' b = none) E s1) E s
 done : ∀ (X : Cx), X.prog = P → X.w = w → X.K = K → X.calm = true → ∀ (i : Nat) (pins : List (Addr × Obj)) (s : Shared) (σ : St) (H : Hp) (E : Value → Shared → Prop), Inv X pins σ H s → (∀ b ∈ fp, FpOk X pins H b) → tn i s.heap → J.stop i H →
  wpAny (model P w) X.A (pyNext (.ref it)) (fun r s1 => r = none ∧ Inv X pins σ H s1) E s
 self : ∀ (A : Around) (i : Nat) (s : Shared) (Q : Value → Shared → Prop) (E : Value → Shared → Prop), tn i s.heap → Q (.ref it) s → wpAny (model P w) A (pyIter (.ref it)) Q E s
noncomputable abbrev TI := St → Hp → (It → Hp → Prop) → Prop
noncomputable def PIE (X : Cx) (pins : List (Addr × Obj)) (σ : St) (tg : Expr) (R : It → Hp → Prop) (itv : Value) (s2 : Shared) : Prop :=
 ∃ (it : Addr) (fp : List Addr) (tn : Nat → Heap → Prop) (J : It) (H' : Hp), itv = .ref it ∧ Inv X pins σ H' s2 ∧ Turn X.prog X.w X.K tg J fp it tn ∧ tn 0 s2.heap ∧ (∀ b ∈ fp, FpOk X pins H' b) ∧ R J H'
noncomputable def PI (X : Cx) (tg iter : Expr) (wi : TI) : Prop :=
 ∀ (pins : List (Addr × Obj)) (s : Shared) (σ : St) (H : Hp) (R : It → Hp → Prop), Inv X pins σ H s → wi σ H R →
  wpAny (model X.prog X.w) X.A (eval iter X.env) (fun v s1 => wpAny (model X.prog X.w) X.A (pyIter v) (PIE X pins σ tg R) X.xe s1) X.xe s
theorem go_of {M : Model} {A : Around} {E : Value → Shared → Prop} {s : Shared} {tg : Expr} {it : Addr} {u : Value} {o : Obj} {n : String} {vs : Array Value} {Q : Unit → Shared → Prop} (ho : s.heap.get? it = some o) (hc : o.cls = .type n) (hd : o.data = .fields vs)
    (hn : ["enumerate", "zip", "dict_itemiterator", "dict_reverseitemiterator", "odict_iterator", "itertools.zip_longest", "itertools.pairwise"].contains n = false) (hQ : Q () s) : wpAny M A (letOwnedTupleGo tg (.ref it) u) Q E s := by
  unfold letOwnedTupleGo
  cases tg <;> first
    | exact wpAny_pure hQ
    | (cases u <;> first
        | exact wpAny_pure hQ
        | (refine wpAny_bind (wpAny_load ho ?_)
           rw [hc, hd]
           show wpAny M A (if (["enumerate", "zip", "dict_itemiterator", "dict_reverseitemiterator", "odict_iterator", "itertools.zip_longest", "itertools.pairwise"].contains n && vs[0]? == some (rawInt _)) = true then _ else _) Q E s
           rw [if_neg (by intro h; rw [hn, Bool.false_and] at h; cases h)]
           exact wpAny_pure hQ))
noncomputable def Itl (K : PySem.W.Frag) (a : Addr) : It :=
 ⟨fun i H => ∃ xs x, SqL K H a xs ∧ xs[i]? = some x, fun i H x H' => H' = H ∧ ∀ xs, SqL K H a xs → xs[i]? = some x, fun i H => ∃ xs, SqL K H a xs ∧ xs.length ≤ i⟩
noncomputable def Itt (K : PySem.W.Frag) (a : Addr) : It :=
 ⟨fun i H => ∃ xs x, SqT K H a xs ∧ xs[i]? = some x, fun i H x H' => H' = H ∧ ∀ xs, SqT K H a xs → xs[i]? = some x, fun i H => ∃ xs, SqT K H a xs ∧ xs.length ≤ i⟩
noncomputable def Itr (lo : Int) (n : Nat) : It := ⟨fun i _ => i < n, fun i H x H' => H' = H ∧ x = .int (lo + i), fun i _ => n ≤ i⟩
theorem turn_list {P : Program} {w : World} {K : PySem.W.Frag} {tg : Expr} (a it : Addr) : Turn P w K tg (Itl K a) [it] it (fun i h => h.IsListIter it a i) where
 mem := by simp
 obj := fun i h st b hb => by
  have e : b = it := by simpa using hb
  subst e
  obtain ⟨o, e, c, d⟩ := st
  exact ⟨o, e, fun v z => by rw [d] at z; cases z⟩
 keep := fun i h h' st k => st.at fun o e => k it (by simp) o e
 item := by
  intro X hP hw hK hc i pins s σ H E I hf st hg
  subst hP hw hK
  obtain ⟨xs, x, hq, hx⟩ := hg
  obtain ⟨its, rv, p, hz⟩ := I.list hq
  obtain ⟨u, hu, ru⟩ := rv.get hx
  obtain ⟨f0, f1, f2, f3, f4, f5⟩ := hf it (by simp)
  refine wpAny_pyNext_list_item st p.isList (x := u) (by simpa using hu) fun h' st' sb => ?_
  have I1 : Inv X pins σ H { s with heap := h' } := I.turned (t' := s.toks) (fun b o hb e => (sb.2 b hb).trans e) f0 f1 f3 f4 f5
  obtain ⟨o, e, c, d⟩ := id st'
  exact ⟨u, rfl, go_of (s := { s with heap := h' }) e c d (by decide) ⟨x, H, I1, ru, ⟨rfl, fun ys hy => by rw [I.list_inj hy hq]; exact hx⟩, st', fun b hb => (hf b hb).1⟩⟩
 done := by
  intro X hP hw hK hc i pins s σ H E I hf st hg
  subst hP hw hK
  obtain ⟨xs, hq, hx⟩ := hg
  obtain ⟨its, rv, p, hz⟩ := I.list hq
  obtain ⟨f0, f1, f2, f3, f4, f5⟩ := hf it (by simp)
  have hl := rv.length
  exact wpAny_pyNext_list_end (I.ok.hd hc) st p.isList (by simp; omega) fun h' eb => ⟨rfl, I.turned (t' := s.toks) (fun b o hb e => eb b o hb e) f0 f1 f3 f4 f5⟩
 self := fun _ _ _ _ _ st h => wpAny_pyIter_listiter st h
theorem turn_tuple {P : Program} {w : World} {K : PySem.W.Frag} {tg : Expr} (a it : Addr) : Turn P w K tg (Itt K a) [it] it (fun i h => h.IsTupleIter it a i) where
 mem := by simp
 obj := fun i h st b hb => by
  have e : b = it := by simpa using hb
  subst e
  obtain ⟨o, e, c, d⟩ := st
  exact ⟨o, e, fun v z => by rw [d] at z; cases z⟩
 keep := fun i h h' st k => st.at fun o e => k it (by simp) o e
 item := by
  intro X hP hw hK hc i pins s σ H E I hf st hg
  subst hP hw hK
  obtain ⟨xs, x, hq, hx⟩ := hg
  obtain ⟨its, rv, p, hz⟩ := I.tuple hq
  obtain ⟨u, hu, ru⟩ := rv.get hx
  obtain ⟨f0, f1, f2, f3, f4, f5⟩ := hf it (by simp)
  refine wpAny_pyNext_tuple_item st (show s.heap.IsTuple a its.toArray from p) (x := u) (by simpa using hu) fun h' st' sb => ?_
  have I1 : Inv X pins σ H { s with heap := h' } := I.turned (t' := s.toks) (fun b o hb e => (sb.2 b hb).trans e) f0 f1 f3 f4 f5
  obtain ⟨o, e, c, d⟩ := id st'
  exact ⟨u, rfl, go_of (s := { s with heap := h' }) e c d (by decide) ⟨x, H, I1, ru, ⟨rfl, fun ys hy => by rw [I.tuple_inj hy hq]; exact hx⟩, st', fun b hb => (hf b hb).1⟩⟩
 done := by
  intro X hP hw hK hc i pins s σ H E I hf st hg
  subst hP hw hK
  obtain ⟨xs, hq, hx⟩ := hg
  obtain ⟨its, rv, p, hz⟩ := I.tuple hq
  obtain ⟨f0, f1, f2, f3, f4, f5⟩ := hf it (by simp)
  have hl := rv.length
  exact wpAny_pyNext_tuple_end (I.ok.hd hc) st (show s.heap.IsTuple a its.toArray from p) (by simp; omega) fun h' eb => ⟨rfl, I.turned (t' := s.toks) (fun b o hb e => eb b o hb e) f0 f1 f3 f4 f5⟩
 self := fun _ _ _ _ _ st h => wpAny_pyIter_tupleiter st h
theorem turn_range {P : Program} {w : World} {K : PySem.W.Frag} {tg : Expr} (it : Addr) (lo : Int) (n : Nat) : Turn P w K tg (Itr lo n) [it] it (fun i h => IsRangeIter h it (lo + (i : Nat) * 1) ((n : Int) - (i : Nat)) 1) where
 mem := by simp
 obj := fun i h st b hb => by
  have e : b = it := by simpa using hb
  subst e
  exact ⟨_, st, fun v z => by
   have z' : Data.fields _ = Data.cell v := z
   cases z'⟩
 keep := fun i h h' st k => k it (by simp) _ st
 item := by
  intro X hP hw hK hc i pins s σ H E I hf st hg
  subst hP hw hK
  obtain ⟨f0, f1, f2, f3, f4, f5⟩ := hf it (by simp)
  have W := Walks.range (prog := X.prog) (w := X.w) (I.ok.hd hc) it lo 1 n
  refine W.item i s _ _ hg st fun v h' tk hv st' kk => ?_
  obtain ⟨t, rfl⟩ := hv
  have I1 : Inv X pins σ H { s with heap := h', toks := tk } := I.turned (fun b o hb e => kk b o (by simpa using hb) e) f0 f1 f3 f4 f5
  refine ⟨_, rfl, go_of (s := { s with heap := h', toks := tk }) (n := "range_iterator") st' rfl rfl (by decide) ⟨.int (lo + i), H, I1, ⟨t, ?_⟩, ⟨rfl, rfl⟩, st', fun b hb => (hf b hb).1⟩⟩
  rw [Int.mul_one]
 done := by
  intro X hP hw hK hc i pins s σ H E I hf st hg
  subst hP hw hK
  obtain ⟨f0, f1, f2, f3, f4, f5⟩ := hf it (by simp)
  exact wpAny_pyNext_range_end (I.ok.hd hc) st (by have : n ≤ i := hg; omega) fun h' eb => ⟨rfl, I.turned (t' := s.toks) (fun b o hb e => eb b o hb e) f0 f1 f3 f4 f5⟩
 self := fun _ _ _ _ _ st h => wpAny_pyIter_rangeiter st h
section
variable {X : Cx} {tg : Expr}
noncomputable def iList (K : PySem.W.Frag) (tl : TE) : TI := fun σ H R => tl σ H fun x H1 => ∃ a, x = .ref a ∧ (∃ xs, SqL K H1 a xs) ∧ R (Itl K a) H1
noncomputable def iTup (K : PySem.W.Frag) (tl : TE) : TI := fun σ H R => tl σ H fun x H1 => ∃ a, x = .ref a ∧ (∃ xs, SqT K H1 a xs) ∧ R (Itt K a) H1
theorem pi_list {l : Expr} {tl : TE} (hl : PE X l tl) : PI X tg l (iList X.K tl) := by
 intro pins s σ H R I h
 refine thn (hl pins s σ H _ I h) fun v s1 ⟨x, H1, I1, r1, q1⟩ => ?_
 obtain ⟨a, e, ⟨xs, hq⟩, q⟩ := q1
 subst e
 cases r1
 obtain ⟨its, rv, p, hz⟩ := I1.list hq
 refine wpAny_pyIter_list p.isList ?_
 refine ⟨s1.heap.objs.size, [s1.heap.objs.size], _, _, H1, rfl, I1.kept (t' := s1.toks) fun b o e => Heap.get?_push_of_some _ e, turn_list a _, ⟨_, Heap.get?_push_size _ rfl, rfl, rfl⟩, fun b hb => ?_, q⟩
 have e : b = s1.heap.objs.size := by simpa using hb
 subst e
 exact I1.fpOk (Nat.le_refl _) (I1.hok.fresh (Nat.le_refl _))
theorem pi_tup {l : Expr} {tl : TE} (hl : PE X l tl) : PI X tg l (iTup X.K tl) := by
 intro pins s σ H R I h
 refine thn (hl pins s σ H _ I h) fun v s1 ⟨x, H1, I1, r1, q1⟩ => ?_
 obtain ⟨a, e, ⟨xs, hq⟩, q⟩ := q1
 subst e
 cases r1
 obtain ⟨its, rv, p, hz⟩ := I1.tuple hq
 refine wpAny_pyIter_tuple (show s1.heap.IsTuple a its.toArray from p) ?_
 refine ⟨s1.heap.objs.size, [s1.heap.objs.size], _, _, H1, rfl, I1.kept (t' := s1.toks) fun b o e => Heap.get?_push_of_some _ e, turn_tuple a _, ⟨_, Heap.get?_push_size _ rfl, rfl, rfl⟩, fun b hb => ?_, q⟩
 have e : b = s1.heap.objs.size := by simpa using hb
 subst e
 exact I1.fpOk (Nat.le_refl _) (I1.hok.fresh (Nat.le_refl _))
theorem range_it {pins : List (Addr × Obj)} {σ : St} {H : Hp} {s : Shared} {R : It → Hp → Prop} {E : Value → Shared → Prop} {lo hi : Int} {t u v : Tok} {tk : Nat} (I : Inv X pins σ H s) (h1 : -(2 ^ 62) ≤ lo) (h2 : lo < 2 ^ 62) (h3 : -(2 ^ 62) ≤ hi) (h4 : hi < 2 ^ 62)
  (q : R (Itr lo (hi - lo).toNat) H) : wpAny (model X.prog X.w) X.A (pyIter (.ref s.heap.objs.size)) (PIE X pins σ tg R) E { s with heap := s.heap.push { cls := .type "range", data := .fields #[.int lo t, .int hi u, .int 1 v] }, toks := tk } := by
 refine wpAny_pyIter_range (IsRange.new ..) (small_one h1 h2 h3 h4) ?_
 have I1 : Inv X pins σ H { s with heap := s.heap.push { cls := .type "range", data := .fields #[.int lo t, .int hi u, .int 1 v] }, toks := tk } := I.kept fun b o e => Heap.get?_push_of_some _ e
 refine ⟨(s.heap.push { cls := .type "range", data := .fields #[.int lo t, .int hi u, .int 1 v] }).objs.size, [(s.heap.push { cls := .type "range", data := .fields #[.int lo t, .int hi u, .int 1 v] }).objs.size], _, _, H, rfl,
  I1.kept (t' := tk) fun b o e => Heap.get?_push_of_some _ e, turn_range _ lo (hi - lo).toNat, ?_, fun b hb => ?_, q⟩
 ·have e1 : lo + ((0 : Nat) : Int) * 1 = lo := by simp
  have e2 : (((hi - lo).toNat : Nat) : Int) - ((0 : Nat) : Int) = Builtin.Range.rangeSize lo hi 1 := by rw [rangeSize_one]; split <;> omega
  show IsRangeIter _ _ (lo + ((0 : Nat) : Int) * 1) ((((hi - lo).toNat : Nat) : Int) - ((0 : Nat) : Int)) 1
  rw [e1, e2]
  exact Heap.get?_push_size _ rfl
 ·have e : b = (s.heap.push { cls := .type "range", data := .fields #[.int lo t, .int hi u, .int 1 v] }).objs.size := by simpa using hb
  subst e
  exact I1.fpOk (Nat.le_refl _) (I1.hok.fresh (Nat.le_refl _))
noncomputable def iRng1 (ta : TA) : TI := fun σ H R => ta σ H fun vs H1 => ∃ j : Int, vs = [.int j] ∧ -(2 ^ 62) ≤ j ∧ j < 2 ^ 62 ∧ R (Itr 0 j.toNat) H1
noncomputable def iRng2 (ta : TA) : TI := fun σ H R => ta σ H fun vs H1 => ∃ i j : Int, vs = [.int i, .int j] ∧ (-(2 ^ 62) ≤ i ∧ i < 2 ^ 62 ∧ -(2 ^ 62) ≤ j ∧ j < 2 ^ 62) ∧ R (Itr i (j - i).toNat) H1
theorem pi_range1 {a : Expr} {ta : TA} {p pos : Pos} (hg : Gl X "range") (hm : X.mg "range" = none) (ha : PA X [a] ta) (hs : starEach [a] X.env = [(false, eval a X.env)] := by rfl) : PI X tg (.Call (.Name "range" p) [a] [] pos) (iRng1 ta) := by
 intro pins s σ H R I h
 refine Call_ (ld_blt I hg hm boot_range (PyProof.Rows.callWith_type1 (thn (ha pos pins s σ H _ I h) fun us s1 ⟨vs, H1, I1, r1, q1⟩ => ?_) hs rfl))
 obtain ⟨j, e, q1, q2, q⟩ := q1
 subst e
 cases r1 with
 | cons r rr =>
  cases rr
  obtain ⟨t, rfl⟩ := r
  exact call_range_1 (range_it I1 (by omega) (by omega) q1 q2 (by simpa using q))
theorem pi_range2 {a b : Expr} {ta : TA} {p pos : Pos} (hg : Gl X "range") (hm : X.mg "range" = none) (ha : PA X [a, b] ta) (hs : starEach [a, b] X.env = [(false, eval a X.env), (false, eval b X.env)] := by rfl) (hs2 : starEach [b] X.env = [(false, eval b X.env)] := by rfl) :
  PI X tg (.Call (.Name "range" p) [a, b] [] pos) (iRng2 ta) := by
 intro pins s σ H R I h
 refine Call_ (ld_blt I hg hm boot_range (PyProof.Rows.callWith_type1 (thn (ha pos pins s σ H _ I h) fun us s1 ⟨vs, H1, I1, r1, q1⟩ => ?_) (by rw [hs, hs2]) (by rw [hs2]; rfl)))
 obtain ⟨i, j, e, ⟨q1, q2, q3, q4⟩, q⟩ := q1
 subst e
 cases r1 with
 | cons r rr =>
  cases rr with
  | cons r' rr =>
   cases rr
   obtain ⟨t, rfl⟩ := r
   obtain ⟨t', rfl⟩ := r'
   exact call_range_2 (range_it I1 q1 q2 q3 q4 q)
noncomputable def tFor (wi : TI) (g : TG) (tb : TS) : TS := fun D σ H => wi σ H fun J H1 => ∃ W : Nat → Nat → St → Hp → Prop, (∃ m, W 0 m σ H1) ∧ ∀ i m σ H, W i m σ H →
 (J.stop i H ∧ D.nx σ H) ∨ (J.go i H ∧ ∃ N : St → Hp → Prop, (∀ σ' H', N σ' H' → ∃ m', m' < m ∧ W (i + 1) m' σ' H') ∧ ∀ x H', J.yld i H x H' → g x σ H' fun σ2 H2 => tb { D with nx := N, ct := N, bk := D.nx } σ2 H2)
noncomputable def pinsAt (fp : List Addr) (h : Heap) : List (Addr × Obj) := fp.filterMap fun b => (h.get? b).map fun o => (b, o)
theorem mem_pinsAt {fp : List Addr} {h : Heap} {b : Addr} {o : Obj} (hb : b ∈ fp) (e : h.get? b = some o) : (b, o) ∈ pinsAt fp h := List.mem_filterMap.mpr ⟨b, hb, by rw [e]; rfl⟩
theorem of_pinsAt {fp : List Addr} {h : Heap} {p : Addr × Obj} (hp : p ∈ pinsAt fp h) : p.1 ∈ fp ∧ h.get? p.1 = some p.2 := by
 obtain ⟨b, hb, e⟩ := List.mem_filterMap.mp hp
 cases q : h.get? b with
 | none => rw [q] at e; cases e
 | some o =>
  rw [q] at e
  have e' : (b, o) = p := Option.some.inj e
  subst e'
  exact ⟨hb, q⟩
theorem Inv.pinned {pins : List (Addr × Obj)} {σ : St} {H : Hp} {s : Shared} {fp : List Addr} (I : Inv X pins σ H s) (hf : ∀ b ∈ fp, FpOk X pins H b) (ho : ∀ b ∈ fp, ∃ o, s.heap.get? b = some o ∧ ∀ v, o.data ≠ .cell v) : Inv X (pins ++ pinsAt fp s.heap) σ H s :=
 I.pins_of fun p hp => (List.mem_append.mp hp).elim (fun z => I.pin p (List.mem_append_right _ z)) fun z => by
  obtain ⟨hb, e⟩ := of_pinsAt z
  obtain ⟨f0, f1, f2, _⟩ := hf p.1 hb
  obtain ⟨o, e', d⟩ := ho p.1 hb
  rw [e] at e'; cases e'
  exact ⟨e, f0, f1, f2, d⟩
theorem Inv.unpinned {pins pl : List (Addr × Obj)} {σ : St} {H : Hp} {s : Shared} (I : Inv X (pins ++ pl) σ H s) : Inv X pins σ H s := I.pins_of fun p hp => I.pin p (List.mem_append_right _ (List.mem_append_left _ hp))
theorem ps_for {iter : Expr} {body : List Stmt} {wi : TI} {g : TG} {tb : TS} {pos : Pos} (hp : PassesOwn (model X.prog X.w) X.A X.env X.xe) (hc : X.calm = true) (hi : PI X tg iter wi) (hg : PG X tg g) (hb : PSs X body tb)
  (hs : ∀ x, foldedSetIterable iter X.env x = pure x := by intro _; rfl) : PS X (.For tg iter body [] pos) (tFor wi g tb) := by
 intro pins s σ H D I h
 refine wpAny_For (thn (hi pins s σ H _ I h) fun v s1 h1 => thn h1 fun itv s2 h2 => ?_) hs
 obtain ⟨it, fp, tn, J, H2, e, I2, T, st2, f2, W, ⟨m0, w0⟩, turn⟩ := h2
 subst e
 -- what stays true of the iterator's objects through the loop
 have stat : ∀ {H' : Hp}, (∀ b ∈ fp, H' b = none) → ∀ b ∈ fp, FpOk X pins H' b := fun hn b hb => ⟨hn b hb, (f2 b hb).2⟩
 refine codeAny_forLoop_any (fun n s' => ∃ i σ' H', Inv X pins σ' H' s' ∧ tn i s'.heap ∧ (∀ b ∈ fp, H' b = none) ∧ W i n σ' H') ?_ m0 ⟨0, σ, H2, I2, st2, fun b hb => (f2 b hb).1, w0⟩
 rintro n s3 ⟨i, σ3, H3, I3, st3, fr3, w3⟩
 rcases turn i n σ3 H3 w3 with ⟨stop, qn⟩ | ⟨go, N, hN, step⟩
 ·refine wpAny_passesOwn hp (thn (T.done X rfl rfl rfl hc i pins s3 σ3 H3 X.xe I3 (stat fr3) st3 stop) fun r s4 ⟨hr, I4⟩ => ?_)
  subst hr
  exact wpAny_execs_nil ⟨σ3, H3, I4, qn⟩
 ·refine wpAny_passesOwn hp (thn (T.item X rfl rfl rfl hc i pins s3 σ3 H3 X.xe I3 (stat fr3) st3 go) fun r s4 ⟨u, hr, h4⟩ => ?_)
  subst hr
  refine wpAny_passesOwn hp (thn h4 fun _ s5 ⟨x, H5, I5, r5, y5, st5, fr5⟩ => ?_)
  have I5' := I5.pinned (stat fr5) (T.obj _ _ st5)
  refine wpAny_passesOwn hp (thn (hg _ s5 σ3 H5 x u _ I5' r5 (step x H5 y5)) fun _ s6 ⟨σ6, H6, I6, q6⟩ => ?_)
  refine wpAny_passesOwn hp (thn (hb _ s6 σ6 H6 _ I6 q6) fun f s7 q7 => ?_)
  have again : ∀ {σ7 : St} {H7 : Hp}, Inv X (pins ++ pinsAt fp s5.heap) σ7 H7 s7 → N σ7 H7 → ∃ m, m < n ∧ ∃ i σ' H', Inv X pins σ' H' s7 ∧ tn i s7.heap ∧ (∀ b ∈ fp, H' b = none) ∧ W i m σ' H' := fun {σ7 H7} I7 n7 => by
   obtain ⟨m', hm, w7⟩ := hN σ7 H7 n7
   refine ⟨m', hm, i + 1, σ7, H7, I7.unpinned, T.keep _ _ _ st5 fun b hb o e => (I7.pin (b, o) (List.mem_append_right _ (List.mem_append_right _ (mem_pinsAt hb e)))).1, fun b hb => ?_, w7⟩
   obtain ⟨o, e, d⟩ := T.obj _ _ st5 b hb
   exact (I7.pin (b, o) (List.mem_append_right _ (List.mem_append_right _ (mem_pinsAt hb e)))).2.1
  cases f with
  | next => obtain ⟨σ7, H7, I7, n7⟩ := q7; exact again I7 n7
  | cont => obtain ⟨σ7, H7, I7, n7⟩ := q7; exact again I7 n7
  | brk => obtain ⟨σ7, H7, I7, q7⟩ := q7; exact ⟨σ7, H7, I7.unpinned, q7⟩
  | ret v => obtain ⟨x7, σ7, H7, I7, r7, q7⟩ := q7; exact ⟨x7, σ7, H7, I7.unpinned, r7, q7⟩
end
theorem for_list {K : PySem.W.Frag} {a : Addr} {xs : List V} {g : TG} {tb : TS} {D : Ends} {σ : St} {H : Hp} (Pv : Nat → St → Hp → Prop) (h0 : Pv 0 σ H) (hl : ∀ i σ H, i ≤ xs.length → Pv i σ H → SqL K H a xs)
  (hs : ∀ i x σ H, xs[i]? = some x → Pv i σ H → g x σ H fun σ2 H2 => tb { D with nx := Pv (i + 1), ct := Pv (i + 1), bk := D.nx } σ2 H2) (hd : ∀ σ H, Pv xs.length σ H → D.nx σ H) :
  ∃ W : Nat → Nat → St → Hp → Prop, (∃ m, W 0 m σ H) ∧ ∀ i m σ H, W i m σ H →
   ((Itl K a).stop i H ∧ D.nx σ H) ∨ ((Itl K a).go i H ∧ ∃ N : St → Hp → Prop, (∀ σ' H', N σ' H' → ∃ m', m' < m ∧ W (i + 1) m' σ' H') ∧ ∀ x H', (Itl K a).yld i H x H' → g x σ H' fun σ2 H2 => tb { D with nx := N, ct := N, bk := D.nx } σ2 H2) := by
 refine ⟨fun i m σ H => m = xs.length - i ∧ i ≤ xs.length ∧ Pv i σ H, ⟨xs.length, by simp, Nat.zero_le _, h0⟩, ?_⟩
 rintro i m σ H ⟨rfl, hi, p⟩
 have q := hl i σ H hi p
 by_cases hlt : i < xs.length
 ·refine .inr ⟨⟨xs, xs[i], q, by simp [hlt]⟩, Pv (i + 1), fun σ' H' p' => ⟨xs.length - (i + 1), by omega, rfl, hlt, p'⟩, fun x H' y => ?_⟩
  obtain ⟨e, y⟩ := y
  subst e
  exact hs i x σ _ (y xs q) p
 ·have e : i = xs.length := by omega
  subst e
  exact .inl ⟨⟨xs, q, Nat.le_refl _⟩, hd σ H p⟩
theorem for_tup {K : PySem.W.Frag} {a : Addr} {xs : List V} {g : TG} {tb : TS} {D : Ends} {σ : St} {H : Hp} (Pv : Nat → St → Hp → Prop) (h0 : Pv 0 σ H) (hl : ∀ i σ H, i ≤ xs.length → Pv i σ H → SqT K H a xs)
  (hs : ∀ i x σ H, xs[i]? = some x → Pv i σ H → g x σ H fun σ2 H2 => tb { D with nx := Pv (i + 1), ct := Pv (i + 1), bk := D.nx } σ2 H2) (hd : ∀ σ H, Pv xs.length σ H → D.nx σ H) :
  ∃ W : Nat → Nat → St → Hp → Prop, (∃ m, W 0 m σ H) ∧ ∀ i m σ H, W i m σ H →
   ((Itt K a).stop i H ∧ D.nx σ H) ∨ ((Itt K a).go i H ∧ ∃ N : St → Hp → Prop, (∀ σ' H', N σ' H' → ∃ m', m' < m ∧ W (i + 1) m' σ' H') ∧ ∀ x H', (Itt K a).yld i H x H' → g x σ H' fun σ2 H2 => tb { D with nx := N, ct := N, bk := D.nx } σ2 H2) := by
 refine ⟨fun i m σ H => m = xs.length - i ∧ i ≤ xs.length ∧ Pv i σ H, ⟨xs.length, by simp, Nat.zero_le _, h0⟩, ?_⟩
 rintro i m σ H ⟨rfl, hi, p⟩
 have q := hl i σ H hi p
 by_cases hlt : i < xs.length
 ·refine .inr ⟨⟨xs, xs[i], q, by simp [hlt]⟩, Pv (i + 1), fun σ' H' p' => ⟨xs.length - (i + 1), by omega, rfl, hlt, p'⟩, fun x H' y => ?_⟩
  obtain ⟨e, y⟩ := y
  subst e
  exact hs i x σ _ (y xs q) p
 ·have e : i = xs.length := by omega
  subst e
  exact .inl ⟨⟨xs, q, Nat.le_refl _⟩, hd σ H p⟩
theorem for_range {lo : Int} {n : Nat} {g : TG} {tb : TS} {D : Ends} {σ : St} {H : Hp} (Pv : Nat → St → Hp → Prop) (h0 : Pv 0 σ H)
  (hs : ∀ i σ H, i < n → Pv i σ H → g (.int (lo + i)) σ H fun σ2 H2 => tb { D with nx := Pv (i + 1), ct := Pv (i + 1), bk := D.nx } σ2 H2) (hd : ∀ σ H, Pv n σ H → D.nx σ H) :
  ∃ W : Nat → Nat → St → Hp → Prop, (∃ m, W 0 m σ H) ∧ ∀ i m σ H, W i m σ H →
   ((Itr lo n).stop i H ∧ D.nx σ H) ∨ ((Itr lo n).go i H ∧ ∃ N : St → Hp → Prop, (∀ σ' H', N σ' H' → ∃ m', m' < m ∧ W (i + 1) m' σ' H') ∧ ∀ x H', (Itr lo n).yld i H x H' → g x σ H' fun σ2 H2 => tb { D with nx := N, ct := N, bk := D.nx } σ2 H2) := by
 refine ⟨fun i m σ H => m = n - i ∧ i ≤ n ∧ Pv i σ H, ⟨n, by simp, Nat.zero_le _, h0⟩, ?_⟩
 rintro i m σ H ⟨rfl, hi, p⟩
 by_cases hlt : i < n
 ·refine .inr ⟨hlt, Pv (i + 1), fun σ' H' p' => ⟨n - (i + 1), by omega, rfl, hlt, p'⟩, fun x H' y => ?_⟩
  obtain ⟨e, y⟩ := y
  subst e y
  exact hs i σ _ hlt p
 ·have e : i = n := by omega
  subst e
  exact .inl ⟨Nat.le_refl _, hd σ H p⟩
noncomputable abbrev R2 := V → V → Hp → VK → Prop
noncomputable def OpR (X : Cx) (f : Value → Value → Sem Value) (r : R2) : Prop :=
 ∀ (pins : List (Addr × Obj)) (s : Shared) (σ : St) (H : Hp) (x y : V) (v u : Value) (Q : VK), Inv X pins σ H s → RelV x v → RelV y u → r x y H Q →
  wpAny (model X.prog X.w) X.A (f v u) (EP X pins σ Q) X.xe s
noncomputable def UnR (X : Cx) (f : Value → Sem Value) (r : V → Hp → VK → Prop) : Prop :=
 ∀ (pins : List (Addr × Obj)) (s : Shared) (σ : St) (H : Hp) (x : V) (v : Value) (Q : VK), Inv X pins σ H s → RelV x v → r x H Q →
  wpAny (model X.prog X.w) X.A (f v) (EP X pins σ Q) X.xe s
noncomputable def CallR (X : Cx) (f : Value) (r : List V → Hp → VK → Prop) : Prop :=
 ∀ (pins : List (Addr × Obj)) (s : Shared) (σ : St) (H : Hp) (xs : List V) (us : List Value) (Q : VK), Inv X pins σ H s → Vals xs us → r xs H Q →
  wpAny (model X.prog X.w) X.A (call f us) (EP X pins σ Q) X.xe s
noncomputable def tOp (r : R2) (ta tb : TE) : TE := fun σ H Q => ta σ H fun x H1 => tb σ H1 fun y H2 => r x y H2 Q
noncomputable def tUn (r : V → Hp → VK → Prop) (ta : TE) : TE := fun σ H Q => ta σ H fun x H1 => r x H1 Q
noncomputable def rI (C : Int → Int → Prop) (g : Int → Int → V) : R2 := fun x y H Q => ∃ i j, x = .int i ∧ y = .int j ∧ C i j ∧ Q (g i j) H
noncomputable def rI0 (g : Int → Int → V) : R2 := fun x y H Q => ∃ i j, x = .int i ∧ y = .int j ∧ Q (g i j) H
noncomputable def rU (g : Int → V) : V → Hp → VK → Prop := fun x H Q => ∃ i, x = .int i ∧ Q (g i) H
section
variable {X : Cx} {a b c : Expr} {ta tb tc : TE} {pos : Pos}
theorem binT (ha : PE X a ta) (hb : PE X b tb) {pins : List (Addr × Obj)} {s : Shared} {σ : St} {H : Hp} {R : V → V → Hp → Prop} (I : Inv X pins σ H s)
  (h : ta σ H fun x H1 => tb σ H1 fun y H2 => R x y H2) {Q : Value → Shared → Prop} {f : Value → Value → Sem Value}
  (hf : ∀ v u s2 x y H2, Inv X pins σ H2 s2 → RelV x v → RelV y u → R x y H2 → wpAny (model X.prog X.w) X.A (f v u) Q X.xe s2) :
  wpAny (model X.prog X.w) X.A (eval a X.env) (fun v s₁ => wpAny (model X.prog X.w) X.A (eval b X.env) (fun u s₂ => wpAny (model X.prog X.w) X.A (f v u) Q X.xe s₂) X.xe s₁) X.xe s := by
 refine thn (ha pins s σ H _ I h) fun v s1 ⟨x, H1, I1, r1, q1⟩ => ?_
 refine thn (hb pins s1 σ H1 _ I1 q1) fun u s2 ⟨y, H2, I2, r2, q2⟩ => ?_
 exact hf v u s2 x y H2 I2 r1 r2 q2
theorem pe_op {op : Operator} {r : R2} (ho : OpR X (binaryOp op) r) (ha : PE X a ta) (hb : PE X b tb) : PE X (.BinOp a op b pos) (tOp r ta tb) := by
 intro pins s σ H Q I h
 exact wpAny_BinOp (binT ha hb I h fun v u s2 x y H2 I2 rx ry q => ho pins s2 σ H2 x y v u Q I2 rx ry q)
theorem pe_un {op : UnaryOp} {r : V → Hp → VK → Prop} (ho : UnR X (unaryOp op) r) (ha : PE X a ta) : PE X (.UnaryOp op a pos) (tUn r ta) := by
 intro pins s σ H Q I h
 exact UnaryOp_ (thn (ha pins s σ H _ I h) fun v s1 ⟨x, H1, I1, r1, q1⟩ => ho pins s1 σ H1 x v Q I1 r1 q1)
theorem opI {f : Value → Value → Sem Value} {C : Int → Int → Prop} {g : Int → Int → Int}
  (rule : ∀ (i j : Int) (t u : Tok) (s : Shared) (Q : Value → Shared → Prop) (E : Value → Shared → Prop), C i j → Q (.int (g i j) s.toks) { s with toks := s.toks + 1 } → wpAny (model X.prog X.w) X.A (f (.int i t) (.int j u)) Q E s) :
  OpR X f (rI C fun i j => .int (g i j)) := by
 intro pins s σ H x y v u Q I rx ry h
 obtain ⟨i, j, rfl, rfl, hc, q⟩ := h
 obtain ⟨t, rfl⟩ := rx
 obtain ⟨t', rfl⟩ := ry
 exact rule i j t t' s _ _ hc ⟨.int (g i j), H, I.tok _, ⟨_, rfl⟩, q⟩
theorem opI0 {f : Value → Value → Sem Value} {g : Int → Int → Int}
  (rule : ∀ (i j : Int) (t u : Tok) (s : Shared) (Q : Value → Shared → Prop) (E : Value → Shared → Prop), Q (.int (g i j) s.toks) { s with toks := s.toks + 1 } → wpAny (model X.prog X.w) X.A (f (.int i t) (.int j u)) Q E s) :
  OpR X f (rI0 fun i j => .int (g i j)) := by
 intro pins s σ H x y v u Q I rx ry h
 obtain ⟨i, j, rfl, rfl, q⟩ := h
 obtain ⟨t, rfl⟩ := rx
 obtain ⟨t', rfl⟩ := ry
 exact rule i j t t' s _ _ ⟨.int (g i j), H, I.tok _, ⟨_, rfl⟩, q⟩
theorem opB0 {f : Value → Value → Sem Value} {g : Int → Int → Bool}
  (rule : ∀ (i j : Int) (t u : Tok) (s : Shared) (Q : Value → Shared → Prop) (E : Value → Shared → Prop), Q (.bool (g i j)) s → wpAny (model X.prog X.w) X.A (f (.int i t) (.int j u)) Q E s) :
  OpR X f (rI0 fun i j => .bl (g i j)) := by
 intro pins s σ H x y v u Q I rx ry h
 obtain ⟨i, j, rfl, rfl, q⟩ := h
 obtain ⟨t, rfl⟩ := rx
 obtain ⟨t', rfl⟩ := ry
 exact rule i j t t' s _ _ ⟨.bl (g i j), H, I, rfl, q⟩
noncomputable def CDiv (i j : Int) : Prop := 0 < j ∧ j < 1073741824
noncomputable def CPow (i j : Int) : Prop := 0 ≤ j ∧ j ≤ 1000000 ∧ i.natAbs < 2 ^ 64
noncomputable def CMul (i j : Int) : Prop := (-(2 ^ 64) < i ∧ i < 2 ^ 64) ∨ (-(2 ^ 64) < j ∧ j < 2 ^ 64)
theorem CMul.ok {i j : Int} (h : CMul i j) : IntMulOk i j := by
 rcases h with ⟨h1, h2⟩ | ⟨h1, h2⟩
 ·exact .of_left (intBits_le_64 h1 h2)
 ·exact .of_right (intBits_le_64 h1 h2)
theorem op_add : OpR X (binaryOp .Add) (rI0 fun i j => .int (i + j)) := opI0 fun _ _ _ _ _ _ _ q => add_int q
theorem op_sub : OpR X (binaryOp .Sub) (rI0 fun i j => .int (i - j)) := opI0 fun _ _ _ _ _ _ _ q => sub_int q
theorem op_mul : OpR X (binaryOp .Mult) (rI CMul fun i j => .int (i * j)) := opI fun _ _ _ _ _ _ _ hc q => mul_int q hc.ok
theorem op_fdiv : OpR X (binaryOp .FloorDiv) (rI CDiv fun i j => .int (i / j)) := opI fun i j _ _ _ _ _ hc q => by
 have h1 : (0 : Int) < j := hc.1
 have h2 : j < 1073741824 := hc.2
 exact floordiv_int (by omega) (by rw [Int.fdiv_eq_ediv_of_nonneg i (by omega)]; exact q) (.inl (PyProof.noPylong_small (by omega)))
theorem op_mod : OpR X (binaryOp .Mod) (rI (fun _ j => 0 < j) fun i j => .int (i % j)) := opI fun i j _ _ _ _ _ hc q => by
 have h1 : (0 : Int) < j := hc
 exact mod_int' (by omega) (by rw [Int.fmod_eq_emod_of_nonneg i (by omega)]; exact q)
theorem op_pow : OpR X (binaryOp .Pow) (rI CPow fun i j => .int (i ^ j.toNat)) := opI fun _ _ _ _ _ _ _ hc q => pow_int_small hc.1 hc.2.1 hc.2.2 q
theorem unI {f : Value → Sem Value} {g : Int → Int}
  (rule : ∀ (i : Int) (t : Tok) (s : Shared) (Q : Value → Shared → Prop) (E : Value → Shared → Prop), Q (.int (g i) s.toks) { s with toks := s.toks + 1 } → wpAny (model X.prog X.w) X.A (f (.int i t)) Q E s) :
  UnR X f (rU fun i => .int (g i)) := by
 intro pins s σ H x v Q I rx h
 obtain ⟨i, rfl, q⟩ := h
 obtain ⟨t, rfl⟩ := rx
 exact rule i t s _ _ ⟨.int (g i), H, I.tok _, ⟨_, rfl⟩, q⟩
theorem un_neg : UnR X (unaryOp .USub) (rU fun i => .int (-i)) := unI fun _ _ _ _ _ q => neg_int q
end
noncomputable def scal : V → V → Bool
 | .non, .non => true | .non, .int _ => true | .int _, .non => true | .non, .bl _ => true | .bl _, .non => true | .non, .str _ => true | .str _, .non => true
 | .int _, .int _ => true | .bl _, .bl _ => true | .str _, .str _ => true | .byt _, .byt _ => true
 | .int _, .str _ => true | .str _, .int _ => true | .bl _, .str _ => true | .str _, .bl _ => true
 | _, _ => false
noncomputable def rEq : R2 := fun x y H Q => scal x y = true ∧ Q (.bl (decide (x = y))) H
noncomputable def rNe : R2 := fun x y H Q => scal x y = true ∧ Q (.bl (!decide (x = y))) H
theorem dec_int {i j : Int} : decide (V.int i = V.int j) = (i == j) := by
 rw [Bool.eq_iff_iff]
 simp
theorem dec_bl {i j : Bool} : decide (V.bl i = V.bl j) = (i == j) := by
 rw [Bool.eq_iff_iff]
 simp
theorem dec_str {i j : Str} : decide (V.str i = V.str j) = (i == j) := by
 rw [Bool.eq_iff_iff]
 simp
theorem dec_byt {i j : Array UInt8} : decide (V.byt i = V.byt j) = (i.toList == j.toList) := by
 rw [Bool.eq_iff_iff]
 cases i
 cases j
 simp
section
variable {X : Cx} {a b c : Expr} {ta tb tc : TE} {pos : Pos}
theorem fin_bl {pins : List (Addr × Obj)} {σ : St} {H : Hp} {s : Shared} {Q : VK} {k k' : Bool} (I : Inv X pins σ H s) (q : Q (.bl k) H) (e : k = k') : EP X pins σ Q (.bool k') s := by
 subst e
 exact ⟨.bl k, H, I, rfl, q⟩
theorem op_eq : OpR X (compareOp .Eq) rEq := by
 intro pins s σ H x y v u Q I rx ry h
 obtain ⟨hs, q⟩ := h
 cases x with
 | non =>
  cases rx
  cases y with
  | non => cases ry; exact PySem.EqNone.eq_none_none (fin_bl I q (by simp))
  | bl j => cases ry; exact PySem.EqNone.eq_none_bool (fin_bl I q (by simp))
  | int j => obtain ⟨t', rfl⟩ := ry; exact PySem.EqNone.eq_none_int (fin_bl I q (by simp))
  | str j => obtain ⟨t', rfl⟩ := ry; exact PySem.EqNone.eq_none_str (fin_bl I q (by simp))
  | _ => exact absurd (show false = true from hs) Bool.false_ne_true
 | bl i =>
  cases rx
  cases y with
  | non => cases ry; exact PySem.EqNone.eq_bool_none (fin_bl I q (by simp))
  | bl j => cases ry; exact eq_bool (fin_bl I q dec_bl)
  | str j => obtain ⟨t', rfl⟩ := ry; exact PySem.EqMixed.eq_bool_str (fin_bl I q (by simp))
  | _ => exact absurd (show false = true from hs) Bool.false_ne_true
 | int i =>
  obtain ⟨t, rfl⟩ := rx
  cases y with
  | non => cases ry; exact PySem.EqNone.eq_int_none (fin_bl I q (by simp))
  | int j => obtain ⟨t', rfl⟩ := ry; exact eq_int (fin_bl I q dec_int)
  | str j => obtain ⟨t', rfl⟩ := ry; exact PySem.EqMixed.eq_int_str (fin_bl I q (by simp))
  | _ => exact absurd (show false = true from hs) Bool.false_ne_true
 | str i =>
  obtain ⟨t, rfl⟩ := rx
  cases y with
  | non => cases ry; exact PySem.EqNone.eq_str_none (fin_bl I q (by simp))
  | bl j => cases ry; exact PySem.EqMixed.eq_str_bool (fin_bl I q (by simp))
  | int j => obtain ⟨t', rfl⟩ := ry; exact PySem.EqMixed.eq_str_int (fin_bl I q (by simp))
  | str j => obtain ⟨t', rfl⟩ := ry; exact eq_str (fin_bl I q dec_str)
  | _ => exact absurd (show false = true from hs) Bool.false_ne_true
 | byt i =>
  obtain ⟨t, rfl⟩ := rx
  cases y with
  | byt j => obtain ⟨t', rfl⟩ := ry; exact PySem.W.eq_bytes (fin_bl I q dec_byt)
  | _ => exact absurd (show false = true from hs) Bool.false_ne_true
 | _ => cases y <;> exact absurd (show false = true from hs) Bool.false_ne_true
theorem op_ne : OpR X (compareOp .NotEq) rNe := by
 intro pins s σ H x y v u Q I rx ry h
 obtain ⟨hs, q⟩ := h
 cases x with
 | non =>
  cases rx
  cases y with
  | non => cases ry; exact PySem.EqNone.ne_none_none (fin_bl I q (by simp))
  | bl j => cases ry; exact PySem.EqNone.ne_none_bool (fin_bl I q (by simp))
  | int j => obtain ⟨t', rfl⟩ := ry; exact PySem.EqNone.ne_none_int (fin_bl I q (by simp))
  | str j => obtain ⟨t', rfl⟩ := ry; exact PySem.EqNone.ne_none_str (fin_bl I q (by simp))
  | _ => exact absurd (show false = true from hs) Bool.false_ne_true
 | bl i =>
  cases rx
  cases y with
  | non => cases ry; exact PySem.EqNone.ne_bool_none (fin_bl I q (by simp))
  | bl j => cases ry; exact ne_bool (fin_bl I q (congrArg not dec_bl))
  | str j => obtain ⟨t', rfl⟩ := ry; exact PySem.EqMixed.ne_bool_str (fin_bl I q (by simp))
  | _ => exact absurd (show false = true from hs) Bool.false_ne_true
 | int i =>
  obtain ⟨t, rfl⟩ := rx
  cases y with
  | non => cases ry; exact PySem.EqNone.ne_int_none (fin_bl I q (by simp))
  | int j => obtain ⟨t', rfl⟩ := ry; exact ne_int (fin_bl I q (congrArg not dec_int))
  | str j => obtain ⟨t', rfl⟩ := ry; exact PySem.EqMixed.ne_int_str (fin_bl I q (by simp))
  | _ => exact absurd (show false = true from hs) Bool.false_ne_true
 | str i =>
  obtain ⟨t, rfl⟩ := rx
  cases y with
  | non => cases ry; exact PySem.EqNone.ne_str_none (fin_bl I q (by simp))
  | bl j => cases ry; exact PySem.EqMixed.ne_str_bool (fin_bl I q (by simp))
  | int j => obtain ⟨t', rfl⟩ := ry; exact PySem.EqMixed.ne_str_int (fin_bl I q (by simp))
  | str j => obtain ⟨t', rfl⟩ := ry; exact ne_str (fin_bl I q (congrArg not dec_str))
  | _ => exact absurd (show false = true from hs) Bool.false_ne_true
 | byt i =>
  obtain ⟨t, rfl⟩ := rx
  cases y with
  | byt j => obtain ⟨t', rfl⟩ := ry; exact PySem.W.ne_bytes (fin_bl I q (congrArg not dec_byt))
  | _ => exact absurd (show false = true from hs) Bool.false_ne_true
 | _ => cases y <;> exact absurd (show false = true from hs) Bool.false_ne_true
theorem op_lt : OpR X (compareOp .Lt) (rI0 fun i j => .bl (decide (i < j))) := opB0 fun _ _ _ _ _ _ _ q => lt_int q
theorem op_le : OpR X (compareOp .LtE) (rI0 fun i j => .bl (decide (i ≤ j))) := opB0 fun _ _ _ _ _ _ _ q => le_int q
theorem op_gt : OpR X (compareOp .Gt) (rI0 fun i j => .bl (decide (j < i))) := opB0 fun _ _ _ _ _ _ _ q => gt_int q
theorem op_ge : OpR X (compareOp .GtE) (rI0 fun i j => .bl (decide (j ≤ i))) := opB0 fun _ _ _ _ _ _ _ q => ge_int q
theorem OpR.or {f : Value → Value → Sem Value} {r r' : R2} (h : OpR X f r) (h' : OpR X f r') : OpR X f (fun x y H Q => r x y H Q ∨ r' x y H Q) := by
 intro pins s σ H x y v u Q I rx ry q
 rcases q with q | q
 ·exact h pins s σ H x y v u Q I rx ry q
 ·exact h' pins s σ H x y v u Q I rx ry q
theorem nomark (b : Expr) {op : CmpOp} (h : op ≠ .In := by decide) (h2 : op ≠ .NotIn := by decide) : behindInMarks op b = false := by
 have e1 : (op == CmpOp.In) = false := by cases op <;> first | rfl | exact absurd rfl h
 have e2 : (op == CmpOp.NotIn) = false := by cases op <;> first | rfl | exact absurd rfl h2
 cases b <;> simp [behindInMarks, e1, e2]
theorem pe_cmpR {op : CmpOp} {r : R2} (ho : OpR X (compareOp op) r) (ha : PE X a ta) (hb : PE X b tb) (hm : behindInMarks op b = false) : PE X (.Compare a [op] [b] pos) (tOp r ta tb) := by
 intro pins s σ H Q I h
 exact wpAny_Compare1 (binT ha hb I h fun v u s2 x y H2 I2 rx ry q => ho pins s2 σ H2 x y v u Q I2 rx ry q) hm
noncomputable def tTest (t : TE) : TT := fun σ H Q => t σ H fun x H' => ∃ k, x = .bl k ∧ Q k H'
theorem pt_cmpR {op : CmpOp} {r : R2} (ho : OpR X (compareOp op) r) (ha : PE X a ta) (hb : PE X b tb) (hm : behindInMarks op b = false) : PT X (.Compare a [op] [b] pos) (tTest (tOp r ta tb)) := by
 intro pins s σ H Q I h
 refine wpAny_isTrue_Compare1 (thn (ha pins s σ H _ I h) fun v s1 ⟨x, H1, I1, r1, q1⟩ => thn (hb pins s1 σ H1 _ I1 q1) fun u s2 ⟨y, H2, I2, r2, q2⟩ =>
  thn (ho pins s2 σ H2 x y v u _ I2 r1 r2 q2) fun c s3 ⟨z, H3, I3, r3, k, e, q3⟩ => ?_) hm
 subst e
 cases r3
 exact wpAny_truthy_bool ⟨H3, I3, q3⟩
noncomputable def tChain (r r' : R2) (ta tb tc : TE) : TE := fun σ H Q => ta σ H fun x H1 => tb σ H1 fun y H2 => r x y H2 fun z H3 => ∃ k, z = .bl k ∧
 (if k = true then tc σ H3 fun w' H4 => r' y w' H4 Q else Q (.bl false) H3)
theorem pt_chain {op op' : CmpOp} {r r' : R2} (ho : OpR X (compareOp op) r) (ho' : OpR X (compareOp op') r') (ha : PE X a ta) (hb : PE X b tb) (hc : PE X c tc)
  (hm : lastMarks [op, op'] [b, c] = false := by with_unfolding_all rfl) : PT X (.Compare a [op, op'] [b, c] pos) (tTest (tChain r r' ta tb tc)) := by
 intro pins s σ H Q I h
 refine isTrue_chain (thn (ha pins s σ H _ I h) fun v s1 ⟨x, H1, I1, r1, q1⟩ => test_link (thn (hb pins s1 σ H1 _ I1 q1) fun u s2 ⟨y, H2, I2, r2, q2⟩ =>
  thn (ho pins s2 σ H2 x y v u _ I2 r1 r2 q2) fun d s3 ⟨z, H3, I3, r3, k, e, q3⟩ => ?_)) hm
 subst e
 cases r3
 refine wpAny_truthy_bool ?_
 cases k with
 | false =>
  obtain ⟨k', e', q'⟩ := q3
  cases e'
  exact ite_ff ⟨H3, I3, q'⟩
 | true =>
  refine ite_tt (test_last (thn (hc pins s3 σ H3 _ I3 q3) fun w' s4 ⟨z', H4, I4, r4, q4⟩ => thn (ho' pins s4 σ H4 y z' u w' _ I4 r2 r4 q4) fun d' s5 ⟨z2, H5, I5, r5, k2, e2, q5⟩ => ?_))
  subst e2
  cases r5
  exact wpAny_truthy_bool ⟨H5, I5, q5⟩
theorem line63 : (sizeLine : Nat) < 2 ^ 63 := by rw [sizeLine_eq]; decide
theorem vals1 {x : V} {us : List Value} (r : Vals [x] us) : ∃ u, us = [u] ∧ RelV x u := by
 cases r with
 | cons r1 r2 => cases r2; exact ⟨_, rfl, r1⟩
theorem vals2 {x y : V} {us : List Value} (r : Vals [x, y] us) : ∃ u w', us = [u, w'] ∧ RelV x u ∧ RelV y w' := by
 cases r with
 | cons r1 r2 =>
  cases r2 with
  | cons r3 r4 => cases r4; exact ⟨_, _, rfl, r1, r3⟩
theorem call_abs : CallR X (.builtin "abs") (fun xs H Q => ∃ i, xs = [.int i] ∧ Q (.int (if i < 0 then -i else i)) H) := by
 intro pins s σ H xs us Q I r h
 obtain ⟨i, rfl, q⟩ := h
 obtain ⟨u, rfl, t, rfl⟩ := vals1 r
 exact call_abs_int fun u tk => ⟨.int (if i < 0 then -i else i), H, I.tok _, ⟨_, rfl⟩, q⟩
theorem call_min2 (hc : X.calm = true) : CallR X (.builtin "min") (fun xs H Q => ∃ i j, xs = [.int i, .int j] ∧ Q (.int (if j < i then j else i)) H) := by
 intro pins s σ H xs us Q I r h
 obtain ⟨i, j, rfl, q⟩ := h
 obtain ⟨u, w', rfl, ⟨t, rfl⟩, ⟨t', rfl⟩⟩ := vals2 r
 refine min_two_ints (I.ok.hd hc) fun h' tk k => ⟨_, H, I.kept k, ?_, q⟩
 by_cases hj : j < i
 ·rw [if_pos hj, if_pos hj]; exact ⟨_, rfl⟩
 ·rw [if_neg hj, if_neg hj]; exact ⟨_, rfl⟩
theorem call_int1 : CallR X (.type "int") (fun xs H Q => (∃ i, xs = [.int i] ∧ Q (.int i) H) ∨ ∃ k, xs = [.bl k] ∧ Q (.int (if k then 1 else 0)) H) := by
 intro pins s σ H xs us Q I r h
 rcases h with ⟨i, rfl, q⟩ | ⟨k, rfl, q⟩
 ·obtain ⟨u, rfl, t, rfl⟩ := vals1 r
  exact call_int_int ⟨.int i, H, I, ⟨_, rfl⟩, q⟩
 ·obtain ⟨u, rfl, r1⟩ := vals1 r
  cases r1
  exact call_int_bool ⟨.int (if k then 1 else 0), H, I.tok _, ⟨_, rfl⟩, q⟩
end
structure ObjM (h : Heap) (x dx C : Addr) (mA : Str → Option Value) : Prop where
 obj : h.get? x = some (PySem.W.instObj C dx)
 ns : h.Ns1 dx mA
 ne : dx ≠ x
section
variable {prog : Program} {w : World} {A : Around} {E : Value → Shared → Prop} {s : Shared} {K : PySem.W.Frag} {x dx C f : Addr} {mA : Str → Option Value} {name : Str} {v : Value}
end
section
variable {P : Program} {w : World} {H H' : Hp} {h h' : Heap} {a C dx : Addr} {fs fs' : List (Str × V)}
end
structure Cls (K : PySem.W.Frag) (C : Addr) : Prop where
 pg : PySem.W.plainGet K C Str.empty = true
 hd : PySem.W.hasDictIn K C = true
 po : PySem.W.plainOver K C = true
 sa : PySem.W.findIn K (.ref C) "__setattr__" = some (some (.builtin "object.__setattr__"))
theorem Cls.get {K : PySem.W.Frag} {C : Addr} (c : Cls K C) (f : Str) : PySem.W.plainGet K C f = true := c.pg
structure Con (K : PySem.W.Frag) (C : Addr) (f : Str) (v : V) (u : Value) : Prop where
 at_ : PySem.W.findIn K (.ref C) f = some (some u)
 rel : RelV v u
 get : PySem.W.specialIn K u "__get__" = some none
 cp : PySem.W.copiedNames.contains f = false
structure Meth (K : PySem.W.Frag) (C : Addr) (m : Str) (f : Addr) : Prop where
 at_ : PySem.W.findIn K (.ref C) m = some (some (.ref f))
 fn : PySem.W.isFn K (.ref f) = true
 kp : PySem.W.keepIn K (.ref f) = true
section
variable {X : Cx} {pins : List (Addr × Obj)} {σ : St} {H : Hp} {s : Shared} {a C dx : Addr} {fs : List (Str × V)} {f : Str} {v : V} {A : Around} {E : Value → Shared → Prop}
end
section
variable {X : Cx} {o e value : Expr} {f : Str} {pos pos' tpos : Pos} {ta tv : TE}
end
section
variable {X : Cx} {pins : List (Addr × Obj)} {σ : St} {H : Hp} {s : Shared} {A : Around} {E : Value → Shared → Prop} {Q : Value → Shared → Prop} {c : Value} {b : Bool}
inductive TyOf (K : PySem.W.Frag) (H : Hp) : V → Value → Prop where
 | non : TyOf K H .non (.type "NoneType")
 | bl (x : Bool) : TyOf K H (.bl x) (.type "bool")
 | int (i : Int) : TyOf K H (.int i) (.type "int")
 | str (x : Str) : TyOf K H (.str x) (.type "str")
 | flt (x : UInt64) : TyOf K H (.flt x) (.type "float")
 | lst {a : Addr} {xs : List V} (e : H a = some (.lst xs)) : TyOf K H (.ref a) (.type "list")
 | frz {a : Addr} {o : Obj} {xs : List V} (e : H a = some (.frz o (.lst xs))) : TyOf K H (.ref a) (.type "list")
 | tup {a : Addr} {xs : List V} (e : H a = some (.tup xs)) : TyOf K H (.ref a) (.type "tuple")
 | dK {a : Addr} {kvs : List (Key × V)} (e : H a = some (.dK kvs)) : TyOf K H (.ref a) (.type "dict")
 | dT {a : Addr} {kvs : List (List Key × V)} (e : H a = some (.dT kvs)) : TyOf K H (.ref a) (.type "dict")
 | ins {a C dx : Addr} {fs : List (Str × V)} (e : H a = some (.ins C dx fs)) (cl : Cls K C) (ha : PySem.W.findIn K (.ref C) "__class__" = some (some (.builtin "object.__class__")))
   (hn : PySem.W.specialIn K (.builtin "object.__class__") "__get__" = some (some (.builtin "getset_descriptor.__get__"))) (htk : PySem.W.takesIn K (.builtin "object.__class__") = some true)
   (hm : PySem.W.mroIn K C (.type "object") = some true) : TyOf K H (.ref a) (.ref C)
end
structure Room (k : Nat) (A : Around) : Prop where
 hd : A.handled = none
 dp : A.depth + 3 * k + 5 < recursionLimit
 un : A.units + 16 * k + 200 < cLine
 gd : A.guards = some []
theorem Room.mono {j k : Nat} {A : Around} (r : Room k A) (h : j ≤ k) : Room j A := ⟨r.hd, by have := r.dp; omega, by have := r.un; omega, r.gd⟩
theorem Room.deeper {k : Nat} {A : Around} (r : Room (k + 1) A) (env : Env) : Room k (A.deeper env) :=
 ⟨r.hd, by have := r.dp; show A.depth + 1 + 3 * k + 5 < _; omega, by have := r.un; show A.units + 3 + 16 * k + 200 < _; omega, r.gd⟩
theorem Room.in1 {k : Nat} {A : Around} (r : Room (k + 1) A) : Room k A.in1 :=
 ⟨r.hd, by have := r.dp; show A.depth + 3 * k + 5 < _; omega, by have := r.un; show A.units + 1 + 16 * k + 200 < _; omega, r.gd⟩
theorem Room.depth {k : Nat} {A : Around} (r : Room k A) : A.depth < recursionLimit := by have := r.dp; omega
theorem Room.units {k : Nat} {A : Around} (r : Room k A) : A.units + 64 < cLine := by have := r.un; omega
noncomputable def tNil : TA := fun _ H Q => Q [] H
noncomputable def tCons (ta : TE) (tr : TA) : TA := fun σ H Q => ta σ H fun x H1 => tr σ H1 fun xs H2 => Q (x :: xs) H2
section
variable {X : Cx} {e : Expr} {es : List Expr} {te : TE} {t : TA} {pos : Pos}
theorem pa_nil : PA X [] tNil := fun _ _ _ _ H Q I h => Calls.spliced_nil ⟨[], H, I, .nil, h⟩
theorem pa_cons (ha : PE X e te) (hr : PA X es t) (hs : starEach (e :: es) X.env = (false, eval e X.env) :: starEach es X.env := by rfl) : PA X (e :: es) (tCons te t) := by
 intro pos pins s σ H Q I h
 rw [hs]
 show wpAny _ _ (spliced ((false, eval e X.env) :: backTo pos (starEach es X.env))) _ _ s
 refine Calls.spliced_cons (thn (ha pins s σ H _ I h) fun u s1 ⟨x, H1, I1, r1, q1⟩ => ?_)
 exact thn (hr pos pins s1 σ H1 _ I1 q1) fun us s2 ⟨xs, H2, I2, r2, q2⟩ => ⟨x :: xs, H2, I2, .cons r1 r2, q2⟩
noncomputable def tTup (t : TA) : TE := fun σ H Q => t σ H fun xs H1 => xs.length ≤ sizeLine ∧ ∀ p, H1 p = none → Q (.ref p) (upd H1 p (.tup xs))
noncomputable def tLst (t : TA) : TE := fun σ H Q => t σ H fun xs H1 => xs.length ≤ sizeLine ∧ ∀ p, H1 p = none → Q (.ref p) (upd H1 p (.lst xs))
theorem pe_tup {x1} (h : PA X es t) : PE X (.Tuple es x1 pos) (tTup t) := by
 intro pins s σ H Q I hq
 refine wpAny_Tuple_spliced (thn (h pos pins s σ H _ I hq) fun us s1 ⟨xs, H1, I1, r, z, q⟩ => ⟨by rw [← r.length]; exact z, ?_⟩)
 have hf : H1 s1.heap.objs.size = none := I1.hok.fresh (Nat.le_refl _)
 refine ⟨.ref s1.heap.objs.size, upd H1 s1.heap.objs.size (.tup xs), I1.laid (t' := s1.toks) (fun b u e => Heap.get?_push_of_some _ e) (Nat.le_refl _) ?_, rfl, q _ hf⟩
 exact ⟨z, us, r, ⟨_, Heap.get?_push_size _ rfl, rfl, _, rfl⟩⟩
theorem pe_lst (h : PA X es t) : PE X (.List es pos) (tLst t) := by
 intro pins s σ H Q I hq
 refine wpAny_List_spliced (thn (h pos pins s σ H _ I hq) fun us s1 ⟨xs, H1, I1, r, z, q⟩ => ⟨by rw [← r.length]; exact z, ?_⟩)
 have hf : H1 s1.heap.objs.size = none := I1.hok.fresh (Nat.le_refl _)
 refine ⟨.ref s1.heap.objs.size, upd H1 s1.heap.objs.size (.lst xs), I1.laid (t' := s1.toks) (fun b u e => Heap.get?_push_of_some _ e) (Nat.le_refl _) ?_, rfl, q _ hf⟩
 exact ⟨z, us, 0, r, Heap.get?_push_size _ rfl⟩
end
noncomputable abbrev Sp := List V → Hp → VK → XK → Prop
noncomputable abbrev CXT := List Env → Hp → Shared → XK → Value → Shared → Prop
structure Env0 (P : Program) (w : World) (K : PySem.W.Frag) (mg : Str → Option Value) (base : Heap) (A : Around) (outer : List Env) (s : Shared) (H : Hp) : Prop where
 frames : A.frames = some outer
 mod : Mod K mg base
 bs : ∀ b o, base.get? b = some o → s.heap.get? b = some o ∧ H b = none
 bsz : base.objs.size ≤ s.heap.objs.size
 funs : s.heap.FunFrames base outer
 frf : ∀ b ∈ frs outer, H b = none
 hok : HOk P w H s.heap
 bare : AllBare s.gens
noncomputable def CE (outer : List Env) (P : Program) (w : World) (H : Hp) (s : Shared) (Q : VK) (u : Value) (s' : Shared) : Prop :=
 ∃ v H', s'.os = s.os ∧ AllBare s'.gens ∧ Un (frs outer) [] H H' s.heap s'.heap ∧ HOk P w H' s'.heap ∧ RelV v u ∧ Q v H'
noncomputable def CR (CX : CXT) (outer : List Env) (P : Program) (w : World) (H : Hp) (s : Shared) (Q : VK) (E : XK) (r : Result) (s' : Shared) : Prop :=
 match r with
 | .ok (.ret u) => CE outer P w H s Q u s'
 | .ok _ => False
 | .error e => CX outer H s E e s'
structure FnOk (P : Program) (w : World) (K : PySem.W.Frag) (mg : Str → Option Value) (base : Heap) (CX : CXT) (k : Nat) (f : Addr) (fd : FuncData) (ps : List Str) (sp : Sp) : Prop where
 len : ∀ vs H Q E, sp vs H Q E → vs.length = ps.length
 run : ∀ (A : Around) (outer : List Env) (s : Shared) (H : Hp) (args : Args) (us : List Value) (vs : List V) (Q : VK) (E : XK), Room k A → Env0 P w K mg base A outer s H → BindsTo s fd args (ps.zip us) → Vals vs us → sp vs H Q E →
  codeAny (model P w) A (.call (.ref f) args) (CR CX outer P w H s Q E) s
theorem FnOk.mono {P : Program} {w : World} {K : PySem.W.Frag} {mg : Str → Option Value} {base : Heap} {CX : CXT} {j k : Nat} {f : Addr} {fd : FuncData} {ps : List Str} {sp : Sp} (F : FnOk P w K mg base CX j f fd ps sp) (h : j ≤ k) :
  FnOk P w K mg base CX k f fd ps sp := ⟨F.len, fun A outer s H args us vs Q E hr => F.run A outer s H args us vs Q E (hr.mono h)⟩
theorem FnOk.imp {P : Program} {w : World} {K : PySem.W.Frag} {mg : Str → Option Value} {base : Heap} {CX : CXT} {k : Nat} {f : Addr} {fd : FuncData} {ps : List Str} {sp sp' : Sp} (F : FnOk P w K mg base CX k f fd ps sp)
  (h : ∀ vs H Q E, sp' vs H Q E → sp vs H Q E) : FnOk P w K mg base CX k f fd ps sp' :=
 ⟨fun vs H Q E q => F.len vs H Q E (h _ _ _ _ q), fun A outer s H args us vs Q E hr he hb hv hs => F.run A outer s H args us vs Q E hr he hb hv (h _ _ _ _ hs)⟩
theorem Env0.in1 {P : Program} {w : World} {K : PySem.W.Frag} {mg : Str → Option Value} {base : Heap} {A : Around} {outer : List Env} {s : Shared} {H : Hp} (e : Env0 P w K mg base A outer s H) :
  Env0 P w K mg base A.in1 outer s H := ⟨e.frames, e.mod, e.bs, e.bsz, e.funs, e.frf, e.hok, e.bare⟩
section
variable {X : Cx} {pins : List (Addr × Obj)} {σ : St} {H : Hp} {s s' : Shared}
theorem Inv.env0 (I : Inv X pins σ H s) : Env0 X.prog X.w X.K X.mg X.base X.A X.stack s H :=
 ⟨I.ok.frames, I.ok.mod, I.bs, Nat.le_trans I.ok.bsz I.sz, I.stack, I.stkFree, I.hok, I.bare⟩
theorem Inv.after {Q : VK} {u : Value} (I : Inv X pins σ H s) (h : CE X.stack X.prog X.w H s Q u s') : EP X pins σ Q u s' := by
 obtain ⟨v, H', os, bare, un, hok, r, q⟩ := h
 obtain ⟨hh, g, d, t, os'⟩ := s'
 obtain rfl : os' = s.os := os
 exact ⟨v, H', I.call (h' := hh) (g' := g) (d' := d) (t' := t) (ch := []) un hok bare (fun b z => absurd z (by simp)), r, q⟩
end
noncomputable def tCall (sp : Sp) (dvs : List V) (E : XK) (t : TA) : TE := fun σ H Q => t σ H fun vs H1 => sp (vs ++ dvs) H1 Q E
noncomputable def Binds (K : PySem.W.Frag) (fd : FuncData) (ps : List Str) (ds : List Value) : Prop :=
 ∀ (s : Shared) (us : List Value), K.In s.heap → (us ++ ds).length = ps.length → BindsTo s fd ⟨us, []⟩ (ps.zip (us ++ ds))
theorem Binds.all {K : PySem.W.Frag} {fd : FuncData} {ps : List Str} (h : ∀ us : List Value, us.length = ps.length → bindArgs fd ⟨us, []⟩ = pure (ps.zip us)) : Binds K fd ps [] := fun s us _ hl => by
 rw [List.append_nil] at hl ⊢
 exact .of_eq (h us hl)
noncomputable def Passes (CX : CXT) (X : Cx) (E : XK) : Prop := ∀ (pins : List (Addr × Obj)) (σ : St) (H : Hp) (s : Shared) (e : Value) (s' : Shared), Inv X pins σ H s → CX X.stack H s E e s' → X.xe e s'
section
variable {X : Cx} {CX : CXT} {k : Nat} {f C : Addr} {fd : FuncData} {ps : List Str} {sp : Sp} {dvs : List V} {ds : List Value} {E : XK} {x m : Str} {p pos apos : Pos} {e o : Expr} {es : List Expr} {ta : TE} {t : TA}
theorem run_fn {pins : List (Addr × Obj)} {σ : St} {H : Hp} {s : Shared} {Q : VK} {us : List Value} {vs : List V} (F : FnOk X.prog X.w X.K X.mg X.base CX k f fd ps sp) (hr : Room k X.A) (hb : Binds X.K fd ps ds) (hd : Vals dvs ds) (hx : Passes CX X E)
  (I : Inv X pins σ H s) (r : Vals vs us) (h : sp (vs ++ dvs) H Q E) : wpAny (model X.prog X.w) X.A (call (.ref f) us) (EP X pins σ Q) X.xe s := by
 have r2 : Vals (vs ++ dvs) (us ++ ds) := r.append hd
 have hl : (us ++ ds).length = ps.length := by rw [← r2.length]; exact F.len _ _ _ _ h
 refine wpAny_call (codeAny_mono (F.run X.A X.stack s H ⟨us, []⟩ (us ++ ds) (vs ++ dvs) Q E hr I.env0 (hb s us I.kIn hl) r2 h) fun r s' hq => ?_)
 cases r with
 | error e => exact hx pins σ H s e s' I hq
 | ok fl =>
  cases fl with
  | ret u => exact I.after hq
  | next => exact False.elim hq
  | brk => exact False.elim hq
  | cont => exact False.elim hq
theorem pe_call (F : FnOk X.prog X.w X.K X.mg X.base CX k f fd ps sp) (hr : Room k X.A) (hg : Gl X x) (hm : X.mg x = some (.ref f)) (hk : PySem.W.keepIn X.K (.ref f) = true) (hb : Binds X.K fd ps ds) (hd : Vals dvs ds) (hx : Passes CX X E)
  (ha : PA X (e :: es) t) (hdb : (x == ("__debug__" : Str)) = false := by decide) (he : starEach (e :: es) X.env = (false, eval e X.env) :: starEach es X.env := by rfl) (hpl : (backTo pos (starEach es X.env)).any (·.1) = false := by rfl) :
  PE X (.Call (.Name x p) (e :: es) [] pos) (tCall sp dvs E t) := by
 intro pins s σ H Q I h
 refine wpAny_Call_Name_kw (ld_glob I hg hm ?_ hdb)
 refine PySem.W.callWith_K (h₀ := X.base) I.ok.mod.kin hk (thn (ha pos pins s σ H _ I h) fun us s1 ⟨vs, H1, I1, r, q⟩ => ⟨I1.kIn, ?_⟩) he hpl
 exact run_fn F hr hb hd hx I1 r q
structure Mk (K : PySem.W.Frag) (C f : Addr) : Prop where
 makes : PySem.W.makesIn K C = true
 init : PySem.W.findIn K (.ref C) "__init__" = some (some (.ref f))
 fn : PySem.W.isFn K (.ref f) = true
 kp : PySem.W.keepIn K (.ref C) = true
end
section
variable {X : Cx} {CX : CXT} {k : Nat} {f C : Addr} {fd : FuncData} {ps ks : List Str} {sp : Sp} {E : XK} {x m : Str} {p pos apos kpos : Pos} {e o : Expr} {es : List Expr} {kws : List Keyword} {te ta : TE} {t tk : TA} {nm : Option Str}
structure KBinds (K : PySem.W.Frag) (fd : FuncData) (ps ks : List Str) (g : List Value → List Value → List Value) (gV : List V → List V → List V) : Prop where
 to : ∀ (s : Shared) (us ws : List Value), K.In s.heap → (g us ws).length = ps.length → BindsTo s fd ⟨us, ks.zip ws⟩ (ps.zip (g us ws))
 rel : ∀ {vs : List V} {us : List Value} {zs : List V} {ws : List Value}, Vals vs us → Vals zs ws → Vals (gV vs zs) (g us ws)
variable {g : List Value → List Value → List Value} {gV : List V → List V → List V}
end
structure FnScope (N P : List Str) (sc : Scope) : Prop where
 kind : sc.kind = .function
 co : sc.isCoroutine = false
 gen : sc.isGenerator = false
 nd : N.Nodup
 pre : N.take P.length = P
 par : ∀ x ∈ P, sc.names.lookup x = some .local ∨ sc.names.lookup x = some .cell
 nofree : ∀ y ∈ sc.names, y.2 ≠ .free
theorem bindL_out {kindOf : Str → Option NameKind} {x : Str} : ∀ {binds : List (Str × Value)} {m : Str → Option Value}, (∀ v, (x, v) ∉ binds) → bindL kindOf binds m x = m x
 | [], _, _ => rfl
 | (n, v) :: r, m, h => by
  unfold bindL
  rw [bindL_out fun w hw => h w (List.mem_cons_of_mem _ hw)]
  split
  ·have : x ≠ n := by rintro rfl; exact h v List.mem_cons_self
   simp [this]
  ·rfl
theorem bindC_out {kindOf : Str → Option NameKind} {x : Str} : ∀ {binds : List (Str × Value)} {m : Str → Option Value}, (∀ v, (x, v) ∉ binds) → bindC kindOf binds m x = m x
 | [], _, _ => rfl
 | (n, v) :: r, m, h => by
  unfold bindC
  rw [bindC_out fun w hw => h w (List.mem_cons_of_mem _ hw)]
  split
  ·rfl
  ·have : x ≠ n := by rintro rfl; exact h v List.mem_cons_self
   simp [this]
theorem bindL_get {kindOf : Str → Option NameKind} {x : Str} {v : Value} : ∀ {P : List Str} {vs : List Value} {i : Nat} {m : Str → Option Value}, P.Nodup → P[i]? = some x → vs[i]? = some v → kindOf x = some .local →
  bindL kindOf (P.zip vs) m x = some v
 | [], _, _, _, _, h, _, _ => by simp at h
 | _ :: _, [], _, _, _, _, h, _ => by simp at h
 | p :: P, w :: vs, 0, m, nd, h1, h2, hk => by
  simp at h1 h2; subst h1; subst h2
  show bindL kindOf ((p, w) :: P.zip vs) m p = _
  unfold bindL
  rw [bindL_out fun v hv => (List.nodup_cons.mp nd).1 (List.of_mem_zip hv).1, if_pos hk]
  simp
 | p :: P, w :: vs, i + 1, m, nd, h1, h2, hk => by
  show bindL kindOf ((p, w) :: P.zip vs) m x = _
  unfold bindL
  exact bindL_get (i := i) (List.nodup_cons.mp nd).2 (by simpa using h1) (by simpa using h2) hk
theorem bindC_get {kindOf : Str → Option NameKind} {x : Str} {v : Value} : ∀ {P : List Str} {vs : List Value} {i : Nat} {m : Str → Option Value}, P.Nodup → P[i]? = some x → vs[i]? = some v → kindOf x ≠ some .local →
  bindC kindOf (P.zip vs) m x = some v
 | [], _, _, _, _, h, _, _ => by simp at h
 | _ :: _, [], _, _, _, _, h, _ => by simp at h
 | p :: P, w :: vs, 0, m, nd, h1, h2, hk => by
  simp at h1 h2; subst h1; subst h2
  show bindC kindOf ((p, w) :: P.zip vs) m p = _
  unfold bindC
  rw [bindC_out fun v hv => (List.nodup_cons.mp nd).1 (List.of_mem_zip hv).1, if_neg hk]
  simp
 | p :: P, w :: vs, i + 1, m, nd, h1, h2, hk => by
  show bindC kindOf ((p, w) :: P.zip vs) m x = _
  unfold bindC
  exact bindC_get (i := i) (List.nodup_cons.mp nd).2 (by simpa using h1) (by simpa using h2) hk
noncomputable def start (N : List Str) (vs : List V) : St := vs.map some ++ List.replicate (N.length - vs.length) none
noncomputable def cxOf (CX : CXT) (P : Program) (w : World) (K : PySem.W.Frag) (mg : Str → Option Value) (base : Heap) (N : List Str) (qual : Str) (scope : Scope) (f : Addr) (cd : Value) (A : Around) (outer : List Env) (s : Shared) (H : Hp) (E : XK) : Cx where
 prog := P
 w := w
 K := K
 mg := mg
 base := base
 A := A.deeper (envOfC qual scope s.heap.objs.size f cd)
 N := N
 s₀ := s
 H₀ := H
 env := envOfC qual scope s.heap.objs.size f cd
 outer := outer
 stack := envOfC qual scope s.heap.objs.size f cd :: outer
 ex := []
 calm := true
 fn := fun _ => true
 pn := []
 xe := fun e s' => wpAny (model P w) (A.deeper (envOfC qual scope s.heap.objs.size f cd)) (leaving (envOfC qual scope s.heap.objs.size f cd) e) (fun _ s'' => CX outer H s E e s'') (fun e' s'' => CX outer H s E e' s'') s'
theorem cell_has {sc : Scope} {n : Nat} {x : Str} (h : sc.names.lookup x = some .cell) : ∃ c, (cellsFrom n sc.names []).lookup x = some c := by
 have q := PySem.W.cellsFrom_some sc.names n [] (.inl h)
 exact Option.isSome_iff_exists.mp q
theorem inv_start {CX : CXT} {P : Program} {w : World} {K : PySem.W.Frag} {mg : Str → Option Value} {base : Heap} {N ps : List Str} {qual : Str} {scope : Scope} {f : Addr} {cd : Value} {A : Around} {outer : List Env} {s s1 : Shared} {H : Hp} {E : XK} {us : List Value} {vs : List V}
  (S : FnScope N ps scope) (hd : A.handled = none) (e0 : Env0 P w K mg base A outer s H) (hl : vs.length = ps.length) (r : Vals vs us)
  (x : InCallC s s.heap.objs.size (bindL (envOfC qual scope s.heap.objs.size f cd).kindOf (ps.zip us) fun _ => none) (cellsFrom (s.heap.objs.size + 1) scope.names []) (bindC (envOfC qual scope s.heap.objs.size f cd).kindOf (ps.zip us) fun _ => none) s1) :
  Inv (cxOf CX P w K mg base N qual scope f cd A outer s H E) [] (start N vs) H s1 := by
 have hpl : ps.length ≤ N.length := by have := congrArg List.length S.pre; rw [List.length_take] at this; omega
 obtain ⟨h1, tk, rfl, hk⟩ := x.done
 have noA : ∀ b : Addr, b ∉ (cxOf CX P w K mg base N qual scope f cd A outer s H E).ex := fun b z => absurd (show b ∈ ([] : List Addr) from z) (by simp)
 refine ⟨⟨e0.mod, S.kind, rfl, rfl, Nat.le_refl _, fun y z c h1 h2 => ?_, fun y hy => ?_, fun y c _ h => ?_, fun _ => hd, Around.frames_deeper e0.frames, .inr ⟨rfl, rfl⟩, fun b z => absurd z (noA b), e0.bs, e0.bsz, fun b _ _ => noA b, fun b z => absurd z (noA b), e0.funs, e0.frf⟩,
  rfl, e0.bare, Un.kept hk, ⟨_, x.toInCall.ns, fun i y v h1 h2 h3 => ?_⟩, fun y c h => ⟨_, x.cell y c h⟩, e0.hok.fresh (Nat.le_refl _), fun y c h => ?_, fun p hp => absurd (show p ∈ ([] : List (Addr × Obj)) from hp) (by simp), e0.hok.kept hk, ?_⟩
 ·exact name_of_addr x.apart (PySem.mem_of_lookup h1) (PySem.mem_of_lookup h2)
 ·have hy : scope.names.lookup y = some .cell ∨ scope.names.lookup y = some .free := hy
  rcases hy with hy | hy
  ·exact cell_has hy
  ·exact absurd rfl (S.nofree _ (PySem.mem_of_lookup hy))
 ·exact Nat.le_of_lt (x.above y c (PySem.mem_of_lookup h))
 ·have hi : i < vs.length := by
   unfold start at h2
   by_cases hi : i < vs.length
   ·exact hi
   ·rw [List.getElem?_append_right (by simpa using hi)] at h2
    rw [List.getElem?_replicate] at h2
    split at h2 <;> cases h2
  have ha : vs[i]? = some v := by
   unfold start at h2
   rw [List.getElem?_append_left (by simpa using hi), List.getElem?_map] at h2
   cases e : vs[i]? with
   | none => rw [e] at h2; cases h2
   | some a => rw [e] at h2; cases h2; rfl
  obtain ⟨u, hu, rv⟩ := r.get ha
  have hp : ps[i]? = some y := by
   rw [← S.pre, List.getElem?_take_of_lt (by omega)]; exact h1
  have ndP : ps.Nodup := by rw [← S.pre]; exact S.nd.sublist (List.take_sublist _ _)
  refine ⟨u, rv, ?_⟩
  rcases S.par y (List.mem_of_getElem? hp) with k | k
  ·exact .inl ⟨k, bindL_get ndP hp hu k⟩
  ·obtain ⟨c, e⟩ := cell_has (n := s.heap.objs.size + 1) k
   refine .inr ⟨.inl k, c, e, ?_⟩
   have q := x.cell y c e
   rw [bindC_get ndP hp hu (by show scope.names.lookup y ≠ _; rw [k]; decide)] at q
   exact q
 ·exact e0.hok.fresh (Nat.le_of_lt (x.above y c (PySem.mem_of_lookup h)))
 ·unfold start
  show _ = N.length
  rw [List.length_append, List.length_map, List.length_replicate]
  omega
theorem fn_of {CX : CXT} {P : Program} {w : World} {K : PySem.W.Frag} {mg : Str → Option Value} {base : Heap} {k : Nat} {f : Addr} {name qual : Str} {params : Arguments} {body : List Stmt} {scope : Scope} {dV kV doc pm cdv ct oc : Value} {an od : Option Addr}
  {osl : Array (Option Value)} {N ps : List Str} {sp : Sp} (lk : K.lookup f = some ⟨oc, od, .func (PySem.W.fnOf name qual params body scope dV kV doc pm an cdv ct), osl⟩) (hcd : PySem.W.codeIn K cdv qual = true) (S : FnScope N ps scope)
  (len : ∀ vs H Q E, sp vs H Q E → vs.length = ps.length)
  (hbody : ∀ (A : Around) (outer : List Env) (s : Shared) (H : Hp) (vs : List V) (Q : VK) (E : XK), Room k (A.deeper (envOfC qual scope s.heap.objs.size f cdv)) → sp vs H Q E →
   ∃ t, PSs (cxOf CX P w K mg base N qual scope f cdv A outer s H E) body t ∧ t { nx := fun _ H' => Q .non H', rt := Q } (start N vs) H) :
  FnOk P w K mg base CX (k + 1) f (PySem.W.fnOf name qual params body scope dV kV doc pm an cdv ct) ps sp := by
 refine ⟨len, fun A outer s H args us vs Q E hr e0 hb r hsp => ?_⟩
 have hl := len _ _ _ _ hsp
 have KX : K.In s.heap := e0.mod.kin.keeps fun b o e => (e0.bs b o e).1
 have lim : s.heap.NoLimit := e0.mod.nolimit.keeps fun b o e => (e0.bs b o e).1
 have hkind : ∀ y ∈ ps.zip us, scope.names.lookup y.1 = some .local ∨ (scope.names.lookup y.1 = some .cell ∧ ((cellsFrom (s.heap.objs.size + 1) scope.names []).lookup y.1).isSome = true) := fun ⟨n, v⟩ hy => by
  rcases S.par n (List.of_mem_zip hy).1 with q | q
  ·exact .inl q
  ·exact .inr ⟨q, PySem.W.cellsFrom_some _ _ _ (.inl q)⟩
 refine codeAny_call_function hr.depth (KX _ _ lk) rfl S.co S.gen rfl (PySem.W.codeRec_of KX hcd) (hb _ _ _ _ ?_)
 refine wpAny_newFunctionEnv_cells S.kind hkind fun env he s1 x => ?_
 subst he
 refine ⟨lim.keeps x.toInCall.keep, codeAny_func ?_⟩
 obtain ⟨t, ht, hq⟩ := hbody A outer s H vs Q E (hr.deeper _) hsp
 have I : Inv (cxOf CX P w K mg base N qual scope f cdv A outer s H E) [] (start N vs) H s1 := inv_start S hr.hd e0 hl r x
 refine wpAny_mono (ht [] s1 (start N vs) H _ I hq) (fun fl s' hs => ?_) fun e s' hs => hs
 have fin : ∀ {σ' : St} {H' : Hp} {v : V} {u : Value}, Inv (cxOf CX P w K mg base N qual scope f cdv A outer s H E) [] σ' H' s' → RelV v u → Q v H' → CE outer P w H s Q u s' :=
  fun {σ' H' v u} J rv q => ⟨v, H', J.os, J.bare, J.base, J.hok, rv, q⟩
 cases fl with
 | ret u =>
  obtain ⟨v, σ', H', J, rv, q⟩ := hs
  exact fin J rv q
 | next =>
  obtain ⟨σ', H', J, q⟩ := hs
  exact fin (v := V.non) (u := Value.none) J rfl q
 | brk =>
  obtain ⟨_, _, _, q⟩ := hs
  exact False.elim q
 | cont =>
  obtain ⟨_, _, _, q⟩ := hs
  exact False.elim q
section
variable {X : Cx} {x : Str} {p pos : Pos} {e : Expr} {es : List Expr} {t : TA} {id T : String} {r : List V → Hp → VK → Prop}
noncomputable def tCB (r : List V → Hp → VK → Prop) (t : TA) : TE := fun σ H Q => t σ H fun vs H1 => r vs H1 Q
theorem pe_callB (hc : CallR X (.builtin id) r) (hg : Gl X x) (hm : X.mg x = none) (hv : bootBuiltins x = some (.builtin id)) (ha : PA X (e :: es) t) (hn : x ≠ "__name__" := by decide) (hdb : (x == ("__debug__" : Str)) = false := by decide)
  (he : starEach (e :: es) X.env = (false, eval e X.env) :: starEach es X.env := by rfl) (hpl : (backTo pos (starEach es X.env)).any (·.1) = false := by rfl) : PE X (.Call (.Name x p) (e :: es) [] pos) (tCB r t) := by
 intro pins s σ H Q I h
 refine wpAny_Call_Name_kw (ld_blt I hg hm hv ?_ hn hdb)
 exact PyProof.Rows.callWith_builtin1 (thn (ha pos pins s σ H _ I h) fun us s1 ⟨vs, H1, I1, r1, q1⟩ => hc pins s1 σ H1 vs us Q I1 r1 q1) he hpl
theorem pe_callTy (hc : CallR X (.type T) r) (hg : Gl X x) (hm : X.mg x = none) (hv : bootBuiltins x = some (.type T)) (ha : PA X (e :: es) t) (hn : x ≠ "__name__" := by decide) (hdb : (x == ("__debug__" : Str)) = false := by decide)
  (he : starEach (e :: es) X.env = (false, eval e X.env) :: starEach es X.env := by rfl) (hpl : (backTo pos (starEach es X.env)).any (·.1) = false := by rfl) : PE X (.Call (.Name x p) (e :: es) [] pos) (tCB r t) := by
 intro pins s σ H Q I h
 refine wpAny_Call_Name_kw (ld_blt I hg hm hv ?_ hn hdb)
 exact PyProof.Rows.callWith_type1 (thn (ha pos pins s σ H _ I h) fun us s1 ⟨vs, H1, I1, r1, q1⟩ => hc pins s1 σ H1 vs us Q I1 r1 q1) he hpl
end
end L2
namespace HT
open PySem PyProof.Rows
section
open PySem.SeqAt
open PySem.AutoSeq1 (wpAny_loadPart')
open PySem.MeetsSeq PySem.MeetsSeq2 PySem.MeetsSeq3
end
section
variable {prog : Program} {w : World} {A : Around} {E : Value → Shared → Prop} {s : Shared}
theorem cat_tup {t b : Addr} {vs ws : List Value} {Q : Value → Shared → Prop} (ht : IsTup s.heap t vs.toArray) (hb : IsTup s.heap b ws.toArray) (hv : vs ≠ [])
  (h1 : ws = [] → Q (.ref t) s) (h2 : ws ≠ [] → Q (.ref s.heap.objs.size) { s with heap := s.heap.push { cls := .type "tuple", data := .seq (vs ++ ws).toArray } })
  (hsz : vs.length + ws.length ≤ sizeLine) : wpAny (model prog w) A (binaryOp .Add (.ref t) (.ref b)) Q E s := by
 obtain ⟨⟨cls, dd, data, sl⟩, ho, hc, n, hd⟩ := id ht
 obtain ⟨⟨cls2, dd2, data2, sl2⟩, ho2, hc2, n2, hd2⟩ := id hb
 simp only at hc hd hc2 hd2
 subst hc hd hc2 hd2
 have e : vs.toArray ++ ws.toArray = (vs ++ ws).toArray := by simp
 by_cases hw : ws = []
 ·exact concat_meets ⟨_, ho, rfl⟩ ⟨_, ho2, rfl⟩ noFill_tuple_add seq_tuple_add PySem.F.slot_tuple_add PySem.F.entry_tuple_add (PySem.F.args_tuple_add_2 _ _)
   (tuple_addW1 t b vs.toArray ws.toArray n n2 dd dd2 sl sl2 (by simpa using hv) (by simp [hw])) ⟨ho, ho2, h1 hw⟩
 ·refine concat_meets ⟨_, ho, rfl⟩ ⟨_, ho2, rfl⟩ noFill_tuple_add seq_tuple_add PySem.F.slot_tuple_add PySem.F.entry_tuple_add (PySem.F.args_tuple_add_2 _ _)
   (tuple_addW2 t b vs.toArray ws.toArray n n2 dd dd2 sl sl2 (by simpa using hv) (by simpa using hw) (by rw [List.size_toArray, List.size_toArray]; exact hsz)) ⟨ho, ho2, ?_⟩
  rw [e]
  exact h2 hw
noncomputable def sIx (n d : Nat) : Option Int → Nat
 | none => d
 | some v => if v < 0 then (v + (n : Int)).toNat else min v.toNat n
theorem sIx_none (n d : Nat) : sIx n d none = d := rfl
theorem sIx_nat (n d k : Nat) : sIx n d (some (k : Int)) = min k n := by
 show (if (k : Int) < 0 then ((k : Int) + (n : Int)).toNat else min (k : Int).toNat n) = min k n
 rw [if_neg (by omega), Int.toNat_natCast]
theorem sIx_le (n d : Nat) (hd : d ≤ n) (o : Option Int) : sIx n d o ≤ n := by
 cases o with
 | none => exact hd
 | some v =>
  show (if v < 0 then (v + (n : Int)).toNat else min v.toNat n) ≤ n
  by_cases hv : v < 0
  ·rw [if_pos hv]; omega
  ·rw [if_neg hv]; exact Nat.min_le_right _ _
theorem clip_eq (v : Int) (n d : Nat) : (if v < 0 then max (v + (n : Int)) 0 else min v (n : Int)) = ((sIx n d (some v) : Nat) : Int) := by
 show (if v < 0 then max (v + (n : Int)) 0 else min v (n : Int)) = (((if v < 0 then (v + (n : Int)).toNat else min v.toNat n) : Nat) : Int)
 by_cases hv : v < 0
 ·simp only [if_pos hv]; omega
 ·simp only [if_neg hv]; omega
theorem adjust_gen (lo hi : Option Int) (n : Nat) : Builtin.Slice.sliceAdjust lo hi 1 (n : Int) = (((sIx n 0 lo : Nat) : Int), ((sIx n n hi : Nat) : Int)) := by
 have h1 : ¬ ((1 : Int) < 0) := by omega
 unfold Builtin.Slice.sliceAdjust
 simp only [h1, if_false]
 refine Prod.ext ?_ ?_
 ·cases lo with
  | none => rfl
  | some v => exact clip_eq v n 0
 ·cases hi with
  | none => rfl
  | some v => exact clip_eq v n n
theorem places_gen (i j : Nat) : Builtin.Slice.slicePlaces (i : Int) (j : Int) 1 = j - i := by
 unfold Builtin.Slice.slicePlaces
 have h1 : (1 : Int) > 0 := by omega
 simp only [h1, if_true, Int.ediv_one]
 split <;> omega
theorem slicePart_ {v : Value} {o : Option Int} {Q : Option Int → Shared → Prop} (p : IsPart v o) (h : Q o s) : wpAny (model prog w) A (Builtin.Slice.slicePartIndex v) Q E s := by
 cases p with
 | none => exact slicePart_none h
 | int i t => exact slicePart_int h
theorem sliceApplied_gen {sl : Addr} {vl vu : Value} {lo hi : Option Int} {n : Nat} {Q : Int × Int × Nat → Shared → Prop} (hs : s.heap.IsSliceOf sl vl vu .none) (pl : IsPart vl lo) (pu : IsPart vu hi)
  (h : Q (((sIx n 0 lo : Nat) : Int), 1, sIx n n hi - sIx n 0 lo) s) : wpAny (model prog w) A (Builtin.Slice.sliceApplied (.ref sl) (pure (n : Int))) Q E s := by
 obtain ⟨os, hos, hcs, hds⟩ := id hs
 unfold Builtin.Slice.sliceApplied Builtin.Slice.sliceFields
 refine wpAny_bind (wpAny_bind (wpAny_field hos hds (x := vl) rfl (wpAny_bind (wpAny_field hos hds (x := vu) rfl (wpAny_bind (wpAny_field hos hds (x := .none) rfl (wpAny_pure ?_)))))))
 refine wpAny_bind (slicePart_none ?_)
 show wpAny _ _ (if ((1 : Int) == 0) = true then _ else _) _ _ s
 rw [if_neg (by decide)]
 refine wpAny_bind (slicePart_ pl (wpAny_bind (slicePart_ pu (wpAny_bind (wpAny_pure ?_)))))
 show wpAny _ _ (match Builtin.Slice.sliceAdjust lo hi 1 (n : Int) with | (lo, hi) => pure (lo, (1 : Int), Builtin.Slice.slicePlaces lo hi 1)) _ _ s
 rw [adjust_gen lo hi n]
 show wpAny _ _ (pure (((sIx n 0 lo : Nat) : Int), (1 : Int), Builtin.Slice.slicePlaces ((sIx n 0 lo : Nat) : Int) ((sIx n n hi : Nat) : Int) 1)) _ _ s
 rw [places_gen]
 exact wpAny_pure h
theorem pick_gen (xs : Array Value) (i k : Nat) : ((List.range k).filterMap fun (m : Nat) => xs[((i : Int) + (m : Int) * 1).toNat]?).toArray = ((xs.toList.drop i).take k).toArray := by
 have e : (fun (m : Nat) => xs[((i : Int) + (m : Int) * 1).toNat]?) = fun m => xs[i + m]? := by
  funext m
  have : ((i : Int) + (m : Int) * 1).toNat = i + m := by omega
  rw [this]
 rw [e]
 have := pick_run xs i k
 rw [List.filterMap_map] at this
 have e2 : ((fun x => xs[x]?) ∘ fun x => i + x) = fun m => xs[i + m]? := rfl
 rw [e2] at this
 rw [this]
theorem getItem_tuple_cut {t sl : Addr} {items : Array Value} {vl vu : Value} {lo hi : Option Int} {Q : Value → Shared → Prop} (ht : IsTup s.heap t items) (hs : s.heap.IsSliceOf sl vl vu .none) (pl : IsPart vl lo) (pu : IsPart vu hi)
  (hw : ¬ (sIx items.size 0 lo = 0 ∧ sIx items.size items.size hi = items.size))
  (h : Q (.ref s.heap.objs.size) { s with heap := s.heap.push { cls := .type "tuple", data := .seq ((items.toList.drop (sIx items.size 0 lo)).take (sIx items.size items.size hi - sIx items.size 0 lo)).toArray } })
  (hsz : items.size ≤ sizeLine) : wpAny (model prog w) A (getItem (.ref t) (.ref sl)) Q E s := by
 have htake : sizeOk (.seq ((items.toList.drop (sIx items.size 0 lo)).take (sIx items.size items.size hi - sIx items.size 0 lo)).toArray) := by
  show ((items.toList.drop (sIx items.size 0 lo)).take (sIx items.size items.size hi - sIx items.size 0 lo)).toArray.size ≤ sizeLine
  rw [List.size_toArray, List.length_take, List.length_drop, Array.length_toList]
  omega
 have hj : sIx items.size items.size hi ≤ items.size := sIx_le _ _ (Nat.le_refl _) hi
 obtain ⟨os, hos, hcs, hds⟩ := id hs
 have hTs : s.TypeIs (.ref sl) "slice" := ⟨os, hos, hcs⟩
 unfold getItem
 try with_reducible refine wpAny_holding ?_
 first | refine wpAny_bind (wpAny_pure ?_) | skip
 refine wpAny_bind (wpAny_sequenceKey ht.typeIs (by decide) ?_)
 refine wpAny_bind (wpAny_callSpecial?_slot (name := Str.ofString "__getitem__") ht.typeIs PyProof.Rows.slot_tuple_getitem
  (wpAny_call_entry PyProof.Rows.slot_tuple_getitem ht.typeIs entry_tuple_getitem ?_ (args_tuple_getitem _ _)))
 show wpAny _ _ (Builtin.Tuple.tupleItemsOf (.ref t) >>= _) _ _ s
 refine wpAny_bind (tupleItemsOf_ ht ?_)
 refine wpAny_bind (wpAny_typeOf hTs ?_)
 rw [if_pos (by decide)]
 refine wpAny_bind (sliceApplied_gen hs pl pu ?_)
 have hno : ¬ ((((sIx items.size 0 lo : Nat) : Int) == 0 && (1 : Int) == 1 && (sIx items.size items.size hi - sIx items.size 0 lo) == items.size) = true) := by
  intro q
  rw [Bool.and_eq_true, Bool.and_eq_true] at q
  have q1 : ((sIx items.size 0 lo : Nat) : Int) = 0 := eq_of_beq q.1.1
  have q2 : sIx items.size items.size hi - sIx items.size 0 lo = items.size := eq_of_beq q.2
  exact hw ⟨by omega, by omega⟩
 show wpAny _ _ (if (((sIx items.size 0 lo : Nat) : Int) == 0 && (1 : Int) == 1 && (sIx items.size items.size hi - sIx items.size 0 lo) == items.size) = true then _ else _) _ _ s
 rw [if_neg hno, pick_gen]
 first
  | exact wpAny_bind (m := Builtin.Tuple.tupleExact _) (wpAny_newObj_type (wpAny_pure ⟨_, rfl, wpAny_pure h⟩) htake)
  | exact wpAny_bind (m := Builtin.Tuple.tupleExact _) (wpAny_newObj_type (wpAny_bind (wpAny_pure (wpAny_pure ⟨_, rfl, wpAny_pure h⟩))) htake)
  | exact wpAny_bind (wpAny_bind (m := Builtin.Tuple.tupleExact _) (wpAny_newObj_type (wpAny_pure (wpAny_pure ⟨_, rfl, wpAny_pure h⟩)) htake))
  | exact wpAny_bind (wpAny_bind (m := Builtin.Tuple.tupleExact _) (wpAny_newObj_type (wpAny_pure ⟨_, rfl, wpAny_pure h⟩) htake))
end
end HT
namespace L2
open PySem PySem.Spec PyProof.Rows
noncomputable abbrev TO := St → Hp → (Option Int → Hp → Prop) → Prop
noncomputable def PO (X : Cx) (e : Option Expr) (t : TO) : Prop :=
 ∀ (pins : List (Addr × Obj)) (s : Shared) (σ : St) (H : Hp) (Q : Option Int → Hp → Prop), Inv X pins σ H s → t σ H Q →
  wpAny (model X.prog X.w) X.A (evalPart e X.env) (fun u s' => ∃ o H', Inv X pins σ H' s' ∧ IsPart u o ∧ Q o H') X.xe s
noncomputable def tNoPart : TO := fun _ H Q => Q none H
noncomputable def tPart (t : TE) : TO := fun σ H Q => t σ H fun x H1 => ∃ i, x = .int i ∧ Q (some i) H1
section
variable {X : Cx} {e : Expr} {te : TE} {lo hi : Option Expr} {tl th : TO} {pos p2 : Pos}
theorem po_none : PO X none tNoPart := by
 intro pins s σ H Q I h
 rw [evalPart_none]
 exact wpAny_pure ⟨none, H, I, .none, h⟩
theorem po_some (h : PE X e te) : PO X (some e) (tPart te) := by
 intro pins s σ H Q I hw
 rw [evalPart_some]
 refine thn (h pins s σ H _ I hw) fun u s1 ⟨x, H1, I1, r1, q1⟩ => ?_
 obtain ⟨i, rfl, q⟩ := q1
 obtain ⟨t, rfl⟩ := r1
 exact ⟨some i, H1, I1, .int i t, q⟩
noncomputable def SlR (X : Cx) (r : V → Option Int → Option Int → Hp → VK → Prop) : Prop :=
 ∀ (pins : List (Addr × Obj)) (s : Shared) (σ : St) (H : Hp) (x : V) (v vl vu : Value) (lo hi : Option Int) (sl : Addr) (Q : VK), Inv X pins σ H s → RelV x v → s.heap.IsSliceOf sl vl vu .none → IsPart vl lo → IsPart vu hi → r x lo hi H Q →
  ∃ T id, typeLookup (.type T) "__getitem__" = pure (some (.builtin id)) ∧ s.TypeIs v T ∧ wpAny (model X.prog X.w) X.A (getItem v (.ref sl)) (EP X pins σ Q) X.xe s
theorem SlR.or {r r' : V → Option Int → Option Int → Hp → VK → Prop} (h : SlR X r) (h' : SlR X r') : SlR X (fun x lo hi H Q => r x lo hi H Q ∨ r' x lo hi H Q) := by
 intro pins s σ H x v vl vu lo hi sl Q I rx hs pl pu q
 rcases q with q | q
 ·exact h pins s σ H x v vl vu lo hi sl Q I rx hs pl pu q
 ·exact h' pins s σ H x v vl vu lo hi sl Q I rx hs pl pu q
noncomputable def tSl (r : V → Option Int → Option Int → Hp → VK → Prop) (te : TE) (tl th : TO) : TE := fun σ H Q => te σ H fun x H1 => tl σ H1 fun l H2 => th σ H2 fun u H3 => r x l u H3 Q
theorem pe_slice {r : V → Option Int → Option Int → Hp → VK → Prop} (hr : SlR X r) (he : PE X e te) (hl : PO X lo tl) (hu : PO X hi th) : PE X (.Subscript e (.Slice lo hi none p2) pos) (tSl r te tl th) := by
 intro pins s σ H Q I h
 refine Subscript_ (thn (he pins s σ H _ I h) fun v s1 ⟨x, H1, I1, r1, q1⟩ => ?_)
 refine wpAny_Slice (thn (hl pins s1 σ H1 _ I1 q1) fun vl s2 ⟨l, H2, I2, pl, q2⟩ => thn (hu pins s2 σ H2 _ I2 q2) fun vu s3 ⟨u, H3, I3, pu, q3⟩ => ?_)
 rw [evalPart_none]
 refine wpAny_pure ?_
 have I4 : Inv X pins σ H3 { s3 with heap := s3.heap.push { cls := .type "slice", data := .fields #[vl, vu, .none] } } := I3.kept (t' := s3.toks) fun b ob q => Heap.get?_push_of_some _ q
 obtain ⟨T, id, hT, ht, hg⟩ := hr pins { s3 with heap := s3.heap.push { cls := .type "slice", data := .fields #[vl, vu, .none] } } σ H3 x v vl vu l u s3.heap.objs.size Q I4 r1 (Heap.IsSliceOf.new ..) pl pu q3
 show wpAny (model X.prog X.w) X.A (subscriptTail e (.Slice lo hi none p2) v (.ref s3.heap.objs.size)) (EP X pins σ Q) X.xe { s3 with heap := s3.heap.push { cls := .type "slice", data := .fields #[vl, vu, .none] } }
 exact tail_any (ops := [.ref s3.heap.objs.size, v]) ht hT hg (by with_unfolding_all rfl)
noncomputable def cutV (xs : List V) (lo hi : Option Int) : List V := (xs.drop (HT.sIx xs.length 0 lo)).take (HT.sIx xs.length xs.length hi - HT.sIx xs.length 0 lo)
theorem cutV_length (xs : List V) (lo hi : Option Int) : (cutV xs lo hi).length ≤ xs.length := by
 unfold cutV
 rw [List.length_take, List.length_drop]
 omega
noncomputable def rSlT (K : PySem.W.Frag) : V → Option Int → Option Int → Hp → VK → Prop := fun x lo hi H Q => ∃ a xs, x = .ref a ∧ SqT K H a xs ∧
 ¬ (HT.sIx xs.length 0 lo = 0 ∧ HT.sIx xs.length xs.length hi = xs.length) ∧ ∀ p, H p = none → Q (.ref p) (upd H p (.tup (cutV xs lo hi)))
theorem sl_tup : SlR X (rSlT X.K) := by
 intro pins s σ H x v vl vu lo hi sl Q I rx hs pl pu h
 obtain ⟨a, xs, rfl, hx, hw, q⟩ := h
 cases rx
 obtain ⟨its, r, ht, hz⟩ := I.tuple hx
 have hlen : its.toArray.size = xs.length := by rw [List.size_toArray]; exact r.length.symm
 refine ⟨"tuple", _, PyProof.Rows.slot_tuple_getitem.lookup, ht.typeIs, ?_⟩
 refine HT.getItem_tuple_cut ht hs pl pu (by rw [hlen]; exact hw) ?_ (by rw [hlen]; exact hz)
 rw [hlen]
 refine ⟨.ref s.heap.objs.size, _, I.laid (t' := s.toks) (o := .tup (cutV xs lo hi)) (fun b ob q => Heap.get?_push_of_some _ q) (Nat.le_refl _) ?_, rfl, q _ (I.hok.fresh (Nat.le_refl _))⟩
 exact ⟨Nat.le_trans (cutV_length xs lo hi) hz, _, (r.drop (HT.sIx xs.length 0 lo)).take (HT.sIx xs.length xs.length hi - HT.sIx xs.length 0 lo), IsTup.new _ _⟩
noncomputable def rCatT (K : PySem.W.Frag) : R2 := fun x y H Q => ∃ a b xs ys, x = .ref a ∧ y = .ref b ∧ SqT K H a xs ∧ SqT K H b ys ∧ xs ≠ [] ∧ xs.length + ys.length ≤ sizeLine ∧
 (ys = [] → Q (.ref a) H) ∧ (ys ≠ [] → ∀ p, H p = none → Q (.ref p) (upd H p (.tup (xs ++ ys))))
theorem Vals.nil_iff {xs : List V} {us : List Value} (r : Vals xs us) : us = [] ↔ xs = [] := by
 cases r with
 | nil => simp
 | cons _ _ => simp
theorem op_catT : OpR X (binaryOp .Add) (rCatT X.K) := by
 intro pins s σ H x y v u Q I rx ry h
 obtain ⟨a, b, xs, ys, rfl, rfl, ha, hb, hx, hz, q1, q2⟩ := h
 cases rx
 cases ry
 obtain ⟨its, r1, p1, _⟩ := I.tuple ha
 obtain ⟨its2, r2, p2, _⟩ := I.tuple hb
 refine HT.cat_tup p1 p2 (fun z => hx (r1.nil_iff.mp z)) (fun z => ⟨.ref a, H, I, rfl, q1 (r2.nil_iff.mp z)⟩) (fun z => ?_) (by rw [← r1.length, ← r2.length]; exact hz)
 refine ⟨.ref s.heap.objs.size, _, I.laid (t' := s.toks) (o := .tup (xs ++ ys)) (fun b ob q => Heap.get?_push_of_some _ q) (Nat.le_refl _) ?_, rfl, q2 (fun w => z (r2.nil_iff.mpr w)) _ (I.hok.fresh (Nat.le_refl _))⟩
 exact ⟨by rw [List.length_append]; exact hz, _, r1.append r2, IsTup.new _ _⟩
end
noncomputable def ixN (n : Nat) (i : Int) : Option Nat := if 0 ≤ i then (if i < n then some i.toNat else none) else if -(n : Int) ≤ i then some (i + n).toNat else none
noncomputable def atI {α : Type} (xs : List α) (i : Int) : Option α := (ixN xs.length i).bind fun j => xs[j]?
theorem ixN_seq {n : Nat} {i : Int} {j : Nat} (h : ixN n i = some j) : seqIndex? i n = some j ∧ j < n ∧ -(n : Int) ≤ i ∧ i < n := by
 unfold ixN at h
 by_cases h0 : 0 ≤ i
 ·rw [if_pos h0] at h
  by_cases h1 : i < n
  ·rw [if_pos h1] at h
   have e : i.toNat = j := Option.some.inj h
   exact ⟨by rw [seqIndex_of h0 h1, e], by omega, by omega, h1⟩
  ·rw [if_neg h1] at h; cases h
 ·rw [if_neg h0] at h
  by_cases h1 : -(n : Int) ≤ i
  ·rw [if_pos h1] at h
   have e : (i + n).toNat = j := Option.some.inj h
   exact ⟨by rw [seqIndex_neg (by omega) h1, e], by omega, h1, by omega⟩
  ·rw [if_neg h1] at h; cases h
theorem atI_get {α : Type} {xs : List α} {i : Int} {v : α} (h : atI xs i = some v) : ∃ j, seqIndex? i xs.length = some j ∧ xs[j]? = some v ∧ j < xs.length ∧ -(xs.length : Int) ≤ i ∧ i < xs.length := by
 unfold atI at h
 cases e : ixN xs.length i with
 | none => rw [e] at h; cases h
 | some j =>
  rw [e] at h
  obtain ⟨h1, h2, h3, h4⟩ := ixN_seq e
  exact ⟨j, h1, h, h2, h3, h4⟩
theorem atI_nat {α : Type} {xs : List α} {j : Nat} {v : α} (h : xs[j]? = some v) : atI xs (j : Int) = some v := by
 have hj : j < xs.length := (List.getElem?_eq_some_iff.mp h).1
 have e : ixN xs.length (j : Int) = some j := by
  unfold ixN
  rw [if_pos (by omega), if_pos (by omega)]; simp
 unfold atI; rw [e]; exact h
theorem atI_last {α : Type} (xs : List α) (v : α) : atI (xs ++ [v]) (-1) = some v := by
 have hl : (xs ++ [v]).length = xs.length + 1 := by simp
 have e : ixN (xs ++ [v]).length (-1) = some xs.length := by
  unfold ixN
  rw [hl, if_neg (by decide), if_pos (by omega)]
  congr 1
  omega
 unfold atI
 rw [e]
 show (xs ++ [v])[xs.length]? = some v
 simp
noncomputable def PlainIx (b : Expr) : Prop := ∀ o i, subscripted b false o i = operate [o, i] (getItem o i)
noncomputable def IxR (X : Cx) (r : R2) : Prop :=
 ∀ (value slice : Expr) (pins : List (Addr × Obj)) (s : Shared) (σ : St) (H : Hp) (x y : V) (v u : Value) (Q : VK), Inv X pins σ H s → RelV x v → RelV y u → r x y H Q →
  subscripted slice false v u = operate [v, u] (getItem v u) → wpAny (model X.prog X.w) X.A (subscriptTail value slice v u) (EP X pins σ Q) X.xe s
noncomputable def MtR (X : Cx) (id : String) (r : V → List V → Hp → VK → Prop) : Prop :=
 ∀ (pins : List (Addr × Obj)) (s : Shared) (σ : St) (H : Hp) (x : V) (xs : List V) (v : Value) (us : List Value) (Q : VK), Inv X pins σ H s → RelV x v → Vals xs us → r x xs H Q →
  wpAny (model X.prog X.w) X.A (call (.builtin id) (v :: us)) (EP X pins σ Q) X.xe s
section
variable {X : Cx} {a b : Expr} {ta tb : TE} {pos : Pos}
theorem IxR.or {r r' : R2} (h : IxR X r) (h' : IxR X r') : IxR X (fun x y H Q => r x y H Q ∨ r' x y H Q) := by
 intro value slice pins s σ H x y v u Q I rx ry q hs
 rcases q with q | q
 ·exact h value slice pins s σ H x y v u Q I rx ry q hs
 ·exact h' value slice pins s σ H x y v u Q I rx ry q hs
theorem MtR.or {id : String} {r r' : V → List V → Hp → VK → Prop} (h : MtR X id r) (h' : MtR X id r') : MtR X id (fun x xs H Q => r x xs H Q ∨ r' x xs H Q) := by
 intro pins s σ H x xs v us Q I rx rs q
 rcases q with q | q
 ·exact h pins s σ H x xs v us Q I rx rs q
 ·exact h' pins s σ H x xs v us Q I rx rs q
theorem pe_ix {r : R2} (hr : IxR X r) (ha : PE X a ta) (hb : PE X b tb) (hs : PlainIx b) : PE X (.Subscript a b pos) (tOp r ta tb) := by
 intro pins s σ H Q I h
 exact Subscript_ (binT ha hb I h fun v u s2 x y H2 I2 rx ry q => hr a b pins s2 σ H2 x y v u Q I2 rx ry q (hs _ _))
noncomputable def rIxL (K : PySem.W.Frag) : R2 := fun x y H Q => ∃ p xs i v, x = .ref p ∧ y = .int i ∧ SqL K H p xs ∧ atI xs i = some v ∧ Q v H
noncomputable def rIxT (K : PySem.W.Frag) : R2 := fun x y H Q => ∃ p xs i v, x = .ref p ∧ y = .int i ∧ SqT K H p xs ∧ atI xs i = some v ∧ Q v H
noncomputable def rIxS : R2 := fun x y H Q => ∃ z i c, x = .str z ∧ y = .int i ∧ z.length ≤ sizeLine ∧ atI z.cps.toList i = some c ∧ Q (.str ⟨#[c]⟩) H
theorem ix_list : IxR X (rIxL X.K) := by
 intro value slice pins s σ H x y v u Q I rx ry h hs
 obtain ⟨p, xs, i, z, rfl, rfl, hq, he, q⟩ := h
 cases rx
 obtain ⟨t, rfl⟩ := ry
 obtain ⟨its, r, pl, hz⟩ := I.list hq
 obtain ⟨j, h1, h2, h3, h4, h5⟩ := atI_get he
 obtain ⟨w, ew, rw'⟩ := r.get h2
 have hl := r.length
 have hn := line63
 have fin : EP X pins σ Q w s := ⟨z, H, I, rw', q⟩
 by_cases h0 : 0 ≤ i
 ·have hj : i.toNat = j := by
   rw [seqIndex_of h0 h5] at h1
   exact Option.some.inj h1
  exact item_listR pl.isList h0 (by omega) (by rw [hj]; simpa using ew) fin hs
 ·have hj : (i + (its.toArray.size : Int)).toNat = j := by
   rw [seqIndex_neg (by omega) h4] at h1
   rw [List.size_toArray, ← hl]
   exact Option.some.inj h1
  exact subscriptTail_builtinR (x := w) pl.isList.typeIs slot_list_getitem.lookup
   (wpAny_getItem_list_neg (Q := fun r s' => r = w ∧ EP X pins σ Q r s') pl.isList (by omega) (by rw [List.size_toArray] <;> omega) (by omega) (by rw [hj]; simpa using ew) ⟨rfl, fin⟩) hs
theorem ix_tup : IxR X (rIxT X.K) := by
 intro value slice pins s σ H x y v u Q I rx ry h hs
 obtain ⟨p, xs, i, z, rfl, rfl, hq, he, q⟩ := h
 cases rx
 obtain ⟨t, rfl⟩ := ry
 obtain ⟨its, r, pl, hz⟩ := I.tuple hq
 obtain ⟨j, h1, h2, h3, h4, h5⟩ := atI_get he
 obtain ⟨w, ew, rw'⟩ := r.get h2
 have hl := r.length
 have hn := line63
 have fin : EP X pins σ Q w s := ⟨z, H, I, rw', q⟩
 exact subscriptTail_builtinR (x := w) pl.typeIs slot_tuple_getitem.lookup
  (getItem_tuple (j := j) (Q := fun r s' => r = w ∧ EP X pins σ Q r s') pl (by omega) (by omega) (by rw [List.size_toArray, ← hl]; exact h1) (by simpa using ew) ⟨rfl, fin⟩) hs
theorem ix_str : IxR X rIxS := by
 intro value slice pins s σ H x y v u Q I rx ry h hs
 obtain ⟨z, i, c, rfl, rfl, hz, he, q⟩ := h
 obtain ⟨t, rfl⟩ := rx
 obtain ⟨t', rfl⟩ := ry
 obtain ⟨j, h1, h2, h3, h4, h5⟩ := atI_get he
 have hl : z.cps.toList.length = z.length := by simp [Str.length]
 rw [hl] at h1 h4 h5
 have hn := line63
 exact tail_any (typeIs_str s z t) slot_str_getitem.lookup (getItem_str (c := c) (by
  have e1 : decide (i < -(2 ^ 63 : Int)) = false := decide_eq_false (by omega)
  have e2 : decide (i ≥ 2 ^ 63) = false := decide_eq_false (by omega)
  rw [e1, e2, Bool.or_false]) (by rw [h1]; simpa using h2) ⟨.str ⟨#[c]⟩, H, I.tok _, ⟨_, rfl⟩, q⟩) hs
noncomputable def rIx (K : PySem.W.Frag) : R2 := fun x y H Q => rIxL K x y H Q ∨ rIxT K x y H Q ∨ rIxS x y H Q
theorem ix_seq : IxR X (rIx X.K) := ix_list.or (ix_tup.or ix_str)
theorem mapSeq_set (its : List Value) (n j : Nat) (u : Value) : Obj.mapSeq (·.setIfInBounds j u) { cls := .type "list", data := .seq its.toArray n } = { cls := .type "list", data := .seq (its.set j u).toArray n } := by
 simp [Obj.mapSeq]
theorem Inv.lst {pins : List (Addr × Obj)} {σ : St} {H : Hp} {s : Shared} {p : Addr} {xs : List V} (I : Inv X pins σ H s) (h : H p = some (.lst xs)) :
  ∃ (its : List Value) (n : Nat), Vals xs its ∧ s.heap.get? p = some { cls := .type "list", data := .seq its.toArray n } ∧ xs.length ≤ sizeLine := by
 obtain ⟨z, its, n, r, e⟩ := I.hok p _ h
 exact ⟨its, n, r, e, z⟩
theorem Inv.lstUpd {pins : List (Addr × Obj)} {σ : St} {H : Hp} {s : Shared} {p : Addr} {xs ys : List V} {its its' : List Value} {n n' : Nat} {f : Obj → Obj} (I : Inv X pins σ H s) (h : H p = some (.lst xs))
  (ho : s.heap.get? p = some { cls := .type "list", data := .seq its.toArray n }) (hf : f { cls := .type "list", data := .seq its.toArray n } = { cls := .type "list", data := .seq its'.toArray n' }) (r : Vals ys its') (hz : ys.length ≤ sizeLine) (t : Nat) :
  Inv X pins σ (upd H p (.lst ys)) { s with heap := s.heap.update p f, toks := t } := by
 have e : (s.heap.update p f).get? p = some { cls := .type "list", data := .seq its'.toArray n' } := by
  rw [Heap.get?_update_self f ho (by rw [hf] <;> rfl), hf]
 refine I.write (x := p) (e := p) (by rw [h]; trivial) (.inl rfl) (fun b u hb q => (Heap.get?_update_other _ _ (Ne.symm hb)).trans q) ⟨_, e⟩ ?_
 exact ⟨hz, its', n', r, e⟩
noncomputable def rSetL : V → V → V → Hp → (Hp → Prop) → Prop := fun o i v H Q => ∃ p xs k j, o = .ref p ∧ i = .int k ∧ H p = some (.lst xs) ∧ ixN xs.length k = some j ∧ Q (upd H p (.lst (xs.set j v)))
theorem set_list : PSet X rSetL := by
 intro pins s σ H o i v ov iv u Q I ro ri rv h
 obtain ⟨p, xs, k, j, rfl, rfl, hp, hj, q⟩ := h
 cases ro
 obtain ⟨t, rfl⟩ := ri
 obtain ⟨its, n, r, ho, hz⟩ := I.lst hp
 obtain ⟨h1, h2, h3, h4⟩ := ixN_seq hj
 have hl := r.length
 have hn := line63
 have I' : Inv X pins σ (upd H p (.lst (xs.set j v))) { s with heap := s.heap.update p (Obj.mapSeq (·.setIfInBounds j u)) } :=
  I.lstUpd hp ho (mapSeq_set its n j u) (r.set rv j) (by rw [List.length_set]; exact hz) s.toks
 by_cases h0 : 0 ≤ k
 ·have hk : k.toNat = j := by
   rw [seqIndex_of h0 h4] at h1
   exact Option.some.inj h1
  exact PySem.W.ki_setAt ho h0 (by omega) (by rw [List.size_toArray, ← hl]; exact h4) (by rw [hk]; exact ⟨_, I', q⟩)
 ·have hk : (k + (its.toArray.size : Int)).toNat = j := by
   rw [seqIndex_neg (by omega) h3] at h1
   rw [List.size_toArray, ← hl]
   exact Option.some.inj h1
  exact PySem.W.ki_setBack ho (by omega) (by rw [List.size_toArray, ← hl]; exact h3) (by omega) (by rw [hk]; exact ⟨_, I', q⟩)
theorem slice_bounds (lo hi : Option Int) (n : Nat) : (sliceBounds lo hi none n).1 = ((HT.sIx n 0 lo : Nat) : Int) ∧ (sliceBounds lo hi none n).2.1 = ((HT.sIx n n hi : Nat) : Int) ∧ (sliceBounds lo hi none n).2.2 = 1 := by
 refine ⟨?_, ?_, rfl⟩
 ·cases lo with
  | none => simp [sliceBounds, HT.sIx]
  | some i =>
   simp only [sliceBounds, HT.sIx, Option.getD_none, show (1 : Int) > 0 by decide, if_true]
   by_cases h : i < 0
   ·simp only [h, if_true] <;> omega
   ·simp only [h, if_false] <;> omega
 ·cases hi with
  | none => simp [sliceBounds, HT.sIx]
  | some i =>
   simp only [sliceBounds, HT.sIx, Option.getD_none, show (1 : Int) > 0 by decide, if_true]
   by_cases h : i < 0
   ·simp only [h, if_true] <;> omega
   ·simp only [h, if_false] <;> omega
theorem slicePick_cut (its : List Value) (lo hi : Option Int) : slicePick its.toArray lo hi none = ((its.drop (HT.sIx its.length 0 lo)).take (HT.sIx its.length its.length hi - HT.sIx its.length 0 lo)).toArray := by
 obtain ⟨h1, h2, h3⟩ := slice_bounds lo hi its.toArray.size
 unfold slicePick
 rw [h1, h2, h3]
 simp only [sliceRange_one, pick_run, List.size_toArray] <;> rfl
noncomputable def rSlL (K : PySem.W.Frag) : V → Option Int → Option Int → Hp → VK → Prop := fun x lo hi H Q => ∃ a xs, x = .ref a ∧ SqL K H a xs ∧ ∀ p, H p = none → Q (.ref p) (upd H p (.lst (cutV xs lo hi)))
theorem sl_list : SlR X (rSlL X.K) := by
 intro pins s σ H x v vl vu lo hi sl Q I rx hs pl pu h
 obtain ⟨a, xs, rfl, hx, q⟩ := h
 cases rx
 obtain ⟨its, r, ht, hz⟩ := I.list hx
 have hlen := r.length
 refine ⟨"list", _, slot_list_getitem.lookup, ht.isList.typeIs, ?_⟩
 refine wpAny_getItem_list_slice ht.isList hs pl pu .none (by simp) ?_ (by rw [List.size_toArray] <;> omega)
 rw [slicePick_cut, ← hlen]
 refine ⟨.ref s.heap.objs.size, _, I.laid (t' := s.toks) (o := .lst (cutV xs lo hi)) (fun b ob q => Heap.get?_push_of_some _ q) (Nat.le_refl _) ?_, rfl, q _ (I.hok.fresh (Nat.le_refl _))⟩
 exact ⟨Nat.le_trans (cutV_length xs lo hi) hz, _, 0, (r.drop (HT.sIx xs.length 0 lo)).take (HT.sIx xs.length xs.length hi - HT.sIx xs.length 0 lo), Heap.get?_push_size _ rfl⟩
noncomputable def flatV : V → Bool
 | .non => true
 | .bl _ => true
 | .int _ => true
 | .str _ => true
 | _ => false
noncomputable def eqV : V → V → Bool
 | .non, .non => true
 | .bl a, .bl b => a == b
 | .bl a, .int b => (if a then 1 else 0) == b
 | .int a, .bl b => a == (if b then 1 else 0)
 | .int a, .int b => a == b
 | .str a, .str b => a == b
 | _, _ => false
theorem eqAt_V {A : Around} {s : Shared} {y x : V} {u v : Value} (ry : RelV y u) (rx : RelV x v) (fy : flatV y = true) (fx : flatV x = true) : SeqAt.EqAt A s u v (eqV y x) := by
 cases y with
 | non =>
  cases ry
  cases x with
  | non => cases rx; exact SeqAt.EqAt.same _
  | bl b => cases rx; exact SeqAt.EqAt.none_bool b
  | int b => obtain ⟨t, rfl⟩ := rx; exact SeqAt.EqAt.none_int b t
  | str b => obtain ⟨t, rfl⟩ := rx; exact SeqAt.EqAt.none_str b t
  | _ => exact absurd (show false = true from fx) Bool.false_ne_true
 | bl a =>
  cases ry
  cases x with
  | non => cases rx; exact SeqAt.EqAt.bool_none a
  | bl b => cases rx; exact SeqAt.EqAt.bool_bool a b
  | int b => obtain ⟨t, rfl⟩ := rx; exact SeqAt.EqAt.bool_int a b t
  | str b => obtain ⟨t, rfl⟩ := rx; exact SeqAt.EqAt.bool_str a b t
  | _ => exact absurd (show false = true from fx) Bool.false_ne_true
 | int a =>
  obtain ⟨t', rfl⟩ := ry
  cases x with
  | non => cases rx; exact SeqAt.EqAt.int_none a t'
  | bl b => cases rx; exact SeqAt.EqAt.int_bool a t' b
  | int b => obtain ⟨t, rfl⟩ := rx; exact SeqAt.EqAt.int_int a t' b t
  | str b => obtain ⟨t, rfl⟩ := rx; exact SeqAt.EqAt.int_str a t' b t
  | _ => exact absurd (show false = true from fx) Bool.false_ne_true
 | str a =>
  obtain ⟨t', rfl⟩ := ry
  cases x with
  | non => cases rx; exact SeqAt.EqAt.str_none a t'
  | bl b => cases rx; exact SeqAt.EqAt.str_bool a t' b
  | int b => obtain ⟨t, rfl⟩ := rx; exact SeqAt.EqAt.str_int a t' b t
  | str b => obtain ⟨t, rfl⟩ := rx; exact SeqAt.EqAt.str_str a t' b t
  | _ => exact absurd (show false = true from fx) Bool.false_ne_true
 | _ => exact absurd (show false = true from fy) Bool.false_ne_true
noncomputable def eqU (x : V) (u : Value) : Bool := match u with
 | .none => eqV .non x
 | .bool b => eqV (.bl b) x
 | .int i _ => eqV (.int i) x
 | .str z _ => eqV (.str z) x
 | _ => false
theorem eqU_of {x y : V} {u : Value} (r : RelV y u) (f : flatV y = true) : eqU x u = eqV y x := by
 cases y with
 | non => cases r; rfl
 | bl b => cases r; rfl
 | int i => obtain ⟨t, rfl⟩ := r; rfl
 | str z => obtain ⟨t, rfl⟩ := r; rfl
 | _ => exact absurd (show false = true from f) Bool.false_ne_true
theorem any_eqU {x : V} : ∀ {xs : List V} {us : List Value}, Vals xs us → xs.all flatV = true → us.any (eqU x) = xs.any fun y => eqV y x
 | _, _, .nil, _ => rfl
 | y :: xs, u :: us, .cons r t, f => by
  rw [List.all_cons, Bool.and_eq_true] at f
  rw [List.any_cons, List.any_cons, eqU_of r f.1, any_eqU t f.2]
theorem mem_eqAt {A : Around} {s : Shared} {x : V} {v : Value} (rx : RelV x v) (fx : flatV x = true) : ∀ {xs : List V} {us : List Value}, Vals xs us → xs.all flatV = true → ∀ u ∈ us, SeqAt.EqAt A s u v (eqU x u)
 | _, _, .nil, _ => fun u hu => by cases hu
 | y :: xs, u :: us, .cons r t, f => fun u' hu => by
  rw [List.all_cons, Bool.and_eq_true] at f
  rcases List.mem_cons.mp hu with rfl | hu
  ·rw [eqU_of r f.1]; exact eqAt_V r rx f.1 fx
  ·exact mem_eqAt rx fx t f.2 u' hu
noncomputable def inV (x : V) (xs : List V) : Bool := xs.any fun y => eqV y x
noncomputable def rIn (K : PySem.W.Frag) (neg : Bool) : R2 := fun x y H Q => ∃ p xs, y = .ref p ∧ (SqL K H p xs ∨ SqT K H p xs) ∧ flatV x = true ∧ xs.all flatV = true ∧ Q (.bl (if neg then !inV x xs else inV x xs)) H
theorem op_in_seq : OpR X (compareOp .In) (rIn X.K false) := by
 intro pins s σ H x y v u Q I rx ry h
 obtain ⟨p, xs, rfl, hq, fx, fs, q⟩ := h
 cases ry
 rcases hq with hq | hq
 ·obtain ⟨its, r, pl, hz⟩ := I.list hq
  refine SeqAt.in_listAt (eqU x) pl.isList (fun w hw => mem_eqAt rx fx r fs w (by simpa using hw)) ⟨.bl _, H, I, rfl, ?_⟩
  rw [show its.toArray.any (eqU x) = its.any (eqU x) by simp, any_eqU r fs]
  exact q
 ·obtain ⟨its, r, pl, hz⟩ := I.tuple hq
  refine SeqAt.in_tupleAt (eqU x) pl (fun w hw => mem_eqAt rx fx r fs w (by simpa using hw)) ⟨.bl _, H, I, rfl, ?_⟩
  rw [show its.toArray.any (eqU x) = its.any (eqU x) by simp, any_eqU r fs]
  exact q
theorem op_notIn_seq : OpR X (compareOp .NotIn) (rIn X.K true) := by
 intro pins s σ H x y v u Q I rx ry h
 obtain ⟨p, xs, rfl, hq, fx, fs, q⟩ := h
 cases ry
 rcases hq with hq | hq
 ·obtain ⟨its, r, pl, hz⟩ := I.list hq
  refine SeqAt.notIn_listAt (eqU x) pl.isList (fun w hw => mem_eqAt rx fx r fs w (by simpa using hw)) ⟨.bl _, H, I, rfl, ?_⟩
  rw [show its.toArray.any (eqU x) = its.any (eqU x) by simp, any_eqU r fs]
  exact q
 ·obtain ⟨its, r, pl, hz⟩ := I.tuple hq
  refine SeqAt.notIn_tupleAt (eqU x) pl (fun w hw => mem_eqAt rx fx r fs w (by simpa using hw)) ⟨.bl _, H, I, rfl, ?_⟩
  rw [show its.toArray.any (eqU x) = its.any (eqU x) by simp, any_eqU r fs]
  exact q
theorem call_len_seq : CallR X (.builtin "len") (fun xs H Q => ∃ p ys, xs = [.ref p] ∧ (SqL X.K H p ys ∨ SqT X.K H p ys) ∧ Q (.int ys.length) H) := by
 intro pins s σ H xs us Q I r h
 obtain ⟨p, ys, rfl, hq, q⟩ := h
 obtain ⟨u, rfl, rx⟩ := vals1 r
 cases rx
 have hn := line63
 rcases hq with hq | hq
 ·obtain ⟨its, r', pl, hz⟩ := I.list hq
  have hlen := r'.length
  exact Calls.call_len_list pl.isList (by simp only [List.size_toArray] <;> omega) ⟨.int ys.length, H, I.tok _, ⟨s.toks + 1, by rw [List.size_toArray, hlen]⟩, q⟩
 ·obtain ⟨its, r', pl, hz⟩ := I.tuple hq
  have hlen := r'.length
  exact len_tuple pl (by simp only [List.size_toArray] <;> omega) ⟨.int ys.length, H, I.tok _, ⟨s.toks + 1, by rw [List.size_toArray, hlen]⟩, q⟩
theorem CallR.or {f : Value} {r r' : List V → Hp → VK → Prop} (h : CallR X f r) (h' : CallR X f r') : CallR X f (fun xs H Q => r xs H Q ∨ r' xs H Q) := by
 intro pins s σ H xs us Q I rs q
 rcases q with q | q
 ·exact h pins s σ H xs us Q I rs q
 ·exact h' pins s σ H xs us Q I rs q
theorem call_list_of : CallR X (.type "list") (fun xs H Q => ∃ p ys, xs = [.ref p] ∧ (SqL X.K H p ys ∨ SqT X.K H p ys) ∧ ∀ l, H l = none → Q (.ref l) (upd H l (.lst ys))) := by
 intro pins s σ H xs us Q I r h
 obtain ⟨p, ys, rfl, hq, q⟩ := h
 obtain ⟨u, rfl, rx⟩ := vals1 r
 cases rx
 have fin : ∀ (its : List Value), Vals ys its → ys.length ≤ sizeLine → ∀ (h' : Heap) (c' : Nat), (∀ b o', s.heap.get? b = some o' → h'.get? b = some o') →
   h'.get? s.heap.objs.size = some { cls := .type "list", dict := none, data := .seq its.toArray c', slots := #[] } → EP X pins σ Q (.ref s.heap.objs.size) { s with heap := h' } := fun its r' hz h' c' kp e =>
  ⟨.ref s.heap.objs.size, _, I.laid (t' := s.toks) kp (Nat.le_refl _) (show ObjOk X.prog X.w _ h' _ (.lst ys) from ⟨hz, its, c', r', e⟩), rfl, q _ (I.hok.fresh (Nat.le_refl _))⟩
 rcases hq with hq | hq
 ·obtain ⟨its, r', pl, hz⟩ := I.list hq
  have hlen := r'.length
  obtain ⟨o, ho, hc, n, hd⟩ := pl.isList
  exact call_list_seq p (.inl rfl) ho hc hd (fun h' c' kp e => fin its r' hz h' c' kp e) (by simp only [List.size_toArray] <;> omega)
 ·obtain ⟨its, r', pl, hz⟩ := I.tuple hq
  have hlen := r'.length
  obtain ⟨o, ho, hc, n, hd⟩ := pl
  exact call_list_seq p (.inr rfl) ho hc hd (fun h' c' kp e => fin its r' hz h' c' kp e) (by simp only [List.size_toArray] <;> omega)
theorem call_tuple_of : CallR X (.type "tuple") (fun xs H Q => ∃ p ys, xs = [.ref p] ∧ ((SqL X.K H p ys ∧ ∀ l, H l = none → Q (.ref l) (upd H l (.tup ys))) ∨ (SqT X.K H p ys ∧ Q (.ref p) H))) := by
 intro pins s σ H xs us Q I r h
 obtain ⟨p, ys, rfl, h⟩ := h
 obtain ⟨u, rfl, rx⟩ := vals1 r
 cases rx
 rcases h with ⟨hq, q⟩ | ⟨hq, q⟩
 ·obtain ⟨its, r', pl, hz⟩ := I.list hq
  have hlen := r'.length
  refine call_tuple_list pl.isList (fun h' kp => ?_) (by simp only [List.size_toArray] <;> omega)
  have I1 : Inv X pins σ H { s with heap := h' } := I.kept (t' := s.toks) kp
  have I2 : Inv X pins σ (upd H h'.objs.size (.tup ys)) { s with heap := h'.push { cls := .type "tuple", data := .seq its.toArray } } :=
   I1.laid (t' := s.toks) (fun b o e => Heap.get?_push_of_some _ e) (Nat.le_refl _) (show ObjOk X.prog X.w _ _ _ (.tup ys) from ⟨hz, its, r', IsTup.new _ _⟩)
  exact ⟨.ref h'.objs.size, _, I2, rfl, q _ (I1.hok.fresh (Nat.le_refl _))⟩
 ·obtain ⟨its, r', pl, hz⟩ := I.tuple hq
  exact call_tuple_same pl ⟨.ref p, H, I, rfl, q⟩
noncomputable def tyV (K : PySem.W.Frag) (T : String) (x : V) (H : Hp) : Prop := match x with
 | .str _ => T = "str"
 | .int _ => T = "int"
 | .ref p => (T = "list" ∧ ∃ xs, SqL K H p xs) ∨ (T = "tuple" ∧ ∃ o, K.lookup p = some o ∧ o.cls = .type "tuple" ∧ o.dict = none) ∨
   (T = "dict" ∧ ((∃ kvs, H p = some (.dK kvs)) ∨ ∃ kvs, H p = some (.dT kvs))) ∨ (T = "set" ∧ ∃ S n, H p = some (.set S n))
 | _ => False
theorem tyV_is {pins : List (Addr × Obj)} {σ : St} {H : Hp} {s : Shared} {T : String} {x : V} {v : Value} (I : Inv X pins σ H s) (r : RelV x v) (ty : tyV X.K T x H) :
  s.TypeIs v T ∧ ∀ a, v = .ref a → ∃ ob, s.heap.get? a = some ob ∧ ob.dict = none := by
 cases x with
 | str z =>
  obtain ⟨t, rfl⟩ := r
  cases (show T = "str" from ty)
  exact ⟨typeIs_str s z t, fun _ e => nomatch e⟩
 | int i =>
  obtain ⟨t, rfl⟩ := r
  cases (show T = "int" from ty)
  exact ⟨typeIs_int s i t, fun _ e => nomatch e⟩
 | ref p =>
  cases r
  rcases ty with ⟨rfl, xs, hq⟩ | ⟨rfl, o, hk, hc, hd⟩ | ⟨rfl, hk⟩ | ⟨rfl, S, n, hk⟩
  ·obtain ⟨its, _, pl, _⟩ := I.list hq
   refine ⟨pl.isList.typeIs, fun a e => ?_⟩
   cases e
   obtain ⟨o, n, e, c, hd, _⟩ := pl
   exact ⟨o, e, hd⟩
  ·refine ⟨⟨o, I.kIn p o hk, hc⟩, fun a e => ?_⟩
   cases e
   exact ⟨o, I.kIn _ o hk, hd⟩
  ·have z : ∃ o, s.heap.get? p = some o ∧ o.ExactDict := by
    rcases hk with ⟨kvs, hk⟩ | ⟨kvs, hk⟩
    ·obtain ⟨_, _, _, _, o, _, _, e, ex, _⟩ := I.hok p _ hk
     exact ⟨o, e, ex⟩
    ·obtain ⟨_, _, _, _, o, _, _, e, ex, _⟩ := I.hok p _ hk
     exact ⟨o, e, ex⟩
   obtain ⟨o, e, ex⟩ := z
   refine ⟨⟨o, e, ex.1⟩, fun a e2 => ?_⟩
   cases e2
   exact ⟨o, e, ex.2.1⟩
  ·obtain ⟨o, _, _, _, e, ex, _⟩ := I.hok p _ hk
   refine ⟨⟨o, e, ex.1⟩, fun a e2 => ?_⟩
   cases e2
   exact ⟨o, e, ex.2.1⟩
 | _ => exact False.elim ty
noncomputable def tBM (K : PySem.W.Frag) (T : String) (r : V → List V → Hp → VK → Prop) (to : TE) (t : TA) : TE := fun σ H Q => to σ H fun x H1 => tyV K T x H1 ∧ t σ H1 fun xs H2 => r x xs H2 Q
variable {o e : Expr} {es : List Expr} {to : TE} {t : TA} {name : Str} {apos cpos : Pos} {T id : String} {r : V → List V → Hp → VK → Prop}
theorem pe_bm (pa : PlainAttrs T) (slot : Slot T name id) (hty : typeOf (.builtin id) = pure (.type "method_descriptor")) (hm : MtR X id r) (ho : PE X o to) (ha : PA X (e :: es) t)
  (hbase : attributeBase o name X.env (eval o X.env) = eval o X.env := by rfl)
  (hfew : ((backTo cpos (starEach (e :: es) X.env)).all (fun x => !x.1) && (backToKw cpos (keywordEach [] X.env)).all (fun x => x.1.isSome)
   && decide ((e :: es).length + ([] : List Keyword).length + (if ([] : List Keyword).isEmpty then 0 else 1) < 30)) = true := by rfl)
  (hline : (apos.endLine == cpos.line) = true := by rfl) (hs : starEach (e :: es) X.env = (false, eval e X.env) :: starEach es X.env := by rfl) (hplain : (backTo cpos (starEach es X.env)).any (·.1) = false := by rfl) :
  PE X (.Call (.Attribute o name apos) (e :: es) [] cpos) (tBM X.K T r to t) := by
 intro pins s σ H Q I h
 refine wpAny_Call_method_late hbase hfew hline rfl (thn (ho pins s σ H _ I h) fun v s1 ⟨x, H1, I1, r1, ty, q1⟩ => ?_)
 obtain ⟨h1, h2⟩ := tyV_is I1 r1 ty
 refine ⟨T, id, pa, slot, hty, h1, h2, ?_⟩
 have hA := ha cpos pins s1 σ H1 _ I1 q1
 rw [hs] at hA ⊢
 refine Calls.callWith_builtin (by show (false || (backTo cpos (starEach es X.env)).any (·.1)) = false; rw [hplain] <;> rfl) (Calls.evalArgs_plain ?_)
 exact thn hA fun us s2 ⟨vs, H2, I2, r2, q2⟩ => hm pins s2 σ H2 x vs v us Q I2 r1 r2 q2
/- xs.append(e), list.index on a module's tuple .. are MtR facts of 06m -/
end
noncomputable def MtM (X : Cx) (id : String) (r : V → List V → Hp → VK → Prop) : Prop :=
 ∀ (pins : List (Addr × Obj)) (s : Shared) (σ : St) (H : Hp) (x : V) (xs : List V) (v : Value) (us : List Value) (Q : VK), Inv X pins σ H s → RelV x v → Vals xs us → r x xs H Q →
  wpAny (model X.prog X.w) X.A (call (.builtin id) (v :: us)) (EP X pins σ Q) X.xe s
theorem Vals.one : ∀ {x : V} {us : List Value}, Vals [x] us → ∃ u, us = [u] ∧ RelV x u
 | _, _, .cons r .nil => ⟨_, rfl, r⟩
theorem Vals.two : ∀ {x y : V} {us : List Value}, Vals [x, y] us → ∃ u v, us = [u, v] ∧ RelV x u ∧ RelV y v
 | _, _, _, .cons r (.cons q .nil) => ⟨_, _, rfl, r, q⟩
theorem Vals.zero : ∀ {us : List Value}, Vals [] us → us = []
 | _, .nil => rfl
theorem Vals.eraseIdx : ∀ {xs : List V} {us : List Value} (i : Nat), Vals xs us → Vals (xs.eraseIdx i) (us.eraseIdx i)
 | _, _, _, .nil => .nil
 | _, _, 0, .cons _ t => t
 | _, _, i + 1, .cons r t => .cons r (Vals.eraseIdx i t)
theorem Vals.rep {xs : List V} {us : List Value} (h : Vals xs us) : ∀ k : Nat, Vals (List.replicate k xs).flatten (List.replicate k us).flatten
 | 0 => .nil
 | k + 1 => by
  rw [List.replicate_succ, List.replicate_succ, List.flatten_cons, List.flatten_cons]
  exact Vals.append h (Vals.rep h k)
theorem len_erase {α : Type} : ∀ (l : List α) (i : Nat), (l.eraseIdx i).length ≤ l.length
 | [], _ => Nat.le_refl _
 | _ :: _, 0 => Nat.le_succ _
 | _ :: r, i + 1 => Nat.succ_le_succ (len_erase r i)
theorem foldl_rep (its : List Value) : ∀ (k : Nat) (acc : List Value),
  List.foldl (fun x1 x2 => x1 ++ x2) acc.toArray (List.replicate k its.toArray) = (acc ++ (List.replicate k its).flatten).toArray
 | 0, acc => by simp
 | k + 1, acc => by
  have e : acc.toArray ++ its.toArray = (acc ++ its).toArray := by simp
  have e2 : (acc ++ its) ++ (List.replicate k its).flatten = acc ++ (List.replicate (k + 1) its).flatten := by
   rw [List.replicate_succ, List.flatten_cons, List.append_assoc]
  rw [← e2, ← foldl_rep its k (acc ++ its), ← e, List.replicate_succ, List.foldl_cons]
section
variable {X : Cx} {pins : List (Addr × Obj)} {σ : St} {H : Hp} {s : Shared} {l b : Addr} {xs ys zs : List V}
theorem Inv.lset {its its' : List Value} {n : Nat} {f : Array Value → Array Value} {t' : Nat} (I : Inv X pins σ H s) (hH : H l = some (.lst xs))
  (e : s.heap.get? l = some { cls := .type "list", data := .seq its.toArray n }) (hf : f its.toArray = its'.toArray) (hv : Vals ys its') (hz : ys.length ≤ sizeLine) :
  Inv X pins σ (upd H l (.lst ys)) { s with heap := s.heap.update l (Obj.mapSeq f), toks := t' } := by
 have q := PySem.IsL.update e f
 rw [hf] at q
 refine I.write (x := l) (e := l) (by rw [hH]; exact trivial) (.inl rfl) (fun b' u hb hu => (Heap.get?_update_other s.heap (Obj.mapSeq f) (Ne.symm hb)).trans hu) ⟨_, q⟩ ?_
 exact ⟨hz, its', _, hv, q⟩
theorem Inv.lnew {its : List Value} {t' : Nat} (I : Inv X pins σ H s) (hv : Vals ys its) (hz : ys.length ≤ sizeLine) :
  Inv X pins σ (upd H s.heap.objs.size (.lst ys)) { s with heap := s.heap.push { cls := .type "list", data := .seq its.toArray }, toks := t' } :=
 I.laid (fun _ _ q => Heap.get?_push_of_some _ q) (Nat.le_refl _) ⟨hz, its, 0, hv, Heap.get?_push_size _ rfl⟩
theorem Inv.fresh (I : Inv X pins σ H s) : H s.heap.objs.size = none := I.hok.fresh (Nat.le_refl _)
theorem Inv.lstM (I : Inv X pins σ H s) (hH : H l = some (.lst xs)) : xs.length ≤ sizeLine ∧ ∃ (its : List Value) (n : Nat), Vals xs its ∧ xs.length = its.length ∧ s.heap.get? l = some { cls := .type "list", data := .seq its.toArray n } := by
 obtain ⟨z, its, n, r, e⟩ := I.hok l _ hH
 exact ⟨z, its, n, r, r.length, e⟩
theorem notLongL {n : Nat} (h : n ≤ sizeLine) : Builtin.List.listTooLong n = false := by
 unfold Builtin.List.listTooLong
 exact decide_eq_false (by omega)
end
section
variable {X : Cx}
noncomputable def rAppend : V → List V → Hp → VK → Prop := fun x vs H Q => ∃ l xs y, x = .ref l ∧ vs = [y] ∧ H l = some (.lst xs) ∧ xs.length < sizeLine ∧ Q .non (upd H l (.lst (xs ++ [y])))
theorem mt_append : MtM X "list.append" rAppend := by
 intro pins s σ H x vs v us Q I rx rv h
 obtain ⟨l, xs, y, rfl, rfl, hH, hz, q⟩ := h
 cases rx
 obtain ⟨u, rfl, ru⟩ := rv.one
 obtain ⟨z, its, n, r, hl, e⟩ := I.lstM hH
 refine call_meets F.slot_list_append ⟨_, e, rfl⟩ F.entry_list_append (F.args_list_append_2 _ _) (PySem.list_append l its.toArray n u (by rw [List.size_toArray]; omega)) ⟨e, ?_⟩
 refine ⟨.non, _, I.lset (its' := its ++ [u]) hH e (by simp) (r.append (.cons ru .nil)) ?_, rfl, q⟩
 rw [List.length_append, List.length_singleton]
 omega
noncomputable def rPopAt : V → List V → Hp → VK → Prop := fun x vs H Q => ∃ l xs i k y, x = .ref l ∧ vs = [.int i] ∧ H l = some (.lst xs) ∧ -(2 ^ 63) ≤ i ∧ i < 2 ^ 63 ∧ seqIndex? i xs.length = some k ∧ xs[k]? = some y ∧ Q y (upd H l (.lst (xs.eraseIdx k)))
theorem mt_popAt : MtM X "list.pop" rPopAt := by
 intro pins s σ H x vs v us Q I rx rv h
 obtain ⟨l, xs, i, k, y, rfl, rfl, hH, h1, h2, hk, hy, q⟩ := h
 cases rx
 obtain ⟨u, rfl, ru⟩ := rv.one
 obtain ⟨t, rfl⟩ := ru
 obtain ⟨z, its, n, r, hl, e⟩ := I.lstM hH
 obtain ⟨w, hw, rw'⟩ := r.get hy
 refine call_meets F.slot_list_pop ⟨_, e, rfl⟩ F.entry_list_pop (F.args_list_pop_2 _ _)
  (MeetsSeq.list_pop_at l its.toArray n i t k w (fitsIndex_both h1 h2) (by rw [List.size_toArray, ← hl]; exact hk) (by rw [← Array.getElem?_toList]; exact hw) (by rw [List.size_toArray]; omega)) ⟨e, ?_⟩
 refine ⟨y, _, I.lset (its' := its.eraseIdx k) hH e ?_ (r.eraseIdx k) ?_, rw', q⟩
 ·show its.toArray.eraseIdxIfInBounds k = (its.eraseIdx k).toArray
  rw [List.eraseIdxIfInBounds_toArray]
 ·have := len_erase xs k
  omega
noncomputable def rCat : R2 := fun x y H Q => ∃ l b xs zs, x = .ref l ∧ y = .ref b ∧ H l = some (.lst xs) ∧ H b = some (.lst zs) ∧ xs.length + zs.length ≤ sizeLine ∧ ∀ p, H p = none → Q (.ref p) (upd H p (.lst (xs ++ zs)))
theorem op_cat : OpR X (binaryOp .Add) rCat := by
 intro pins s σ H x y v u Q I rx ry h
 obtain ⟨l, b, xs, zs, rfl, rfl, hH, hB, hz, q⟩ := h
 cases rx
 cases ry
 obtain ⟨z, its, n, r, hl, e⟩ := I.lstM hH
 obtain ⟨z2, its2, n2, r2, hl2, e2⟩ := I.lstM hB
 refine PySem.P.add_list e e2 ?_ (by rw [List.size_toArray, List.size_toArray]; omega)
 have ea : its.toArray ++ its2.toArray = (its ++ its2).toArray := by simp
 rw [ea]
 exact ⟨.ref _, _, I.lnew (t' := s.toks) (r.append r2) (by rw [List.length_append]; omega), rfl, q _ I.fresh⟩
noncomputable def rRep : R2 := fun x y H Q => ∃ l k xs, x = .ref l ∧ y = .int k ∧ H l = some (.lst xs) ∧ -(2 ^ 63) ≤ k ∧ k < 2 ^ 63 ∧ xs.length * k.toNat ≤ sizeLine ∧
 ∀ p, H p = none → Q (.ref p) (upd H p (.lst (List.replicate k.toNat xs).flatten))
theorem len_rep {α : Type} (xs : List α) (k : Nat) : (List.replicate k xs).flatten.length = k * xs.length := by
 induction k with
 | zero => simp
 | succ k ih => rw [List.replicate_succ, List.flatten_cons, List.length_append, ih, Nat.succ_mul, Nat.add_comm]
theorem op_rep : OpR X (binaryOp .Mult) rRep := by
 intro pins s σ H x y v u Q I rx ry h
 obtain ⟨l, k, xs, rfl, rfl, hH, h1, h2, hz, q⟩ := h
 cases rx
 obtain ⟨t, rfl⟩ := ry
 obtain ⟨z, its, n, r, hl, e⟩ := I.lstM hH
 have hlen : its.toArray.size * k.toNat ≤ sizeLine := by rw [List.size_toArray, ← hl]; exact hz
 have hcap : ¬ its.toArray.size * k.toNat > (2 ^ 63 - 1) / 8 := by
  have : (sizeLine : Nat) ≤ (2 ^ 63 - 1) / 8 := by decide
  omega
 have hfit : ¬ (!Builtin.List.listFitsIndex k) = true := by
  rw [fitsIndex_both h1 h2]
  exact Bool.false_ne_true
 have hlong : ¬ Builtin.List.listTooLong (its.toArray.size * k.toNat) = true := by
  rw [notLongL hlen]
  exact Bool.false_ne_true
 have hnew : List.foldl (fun x1 x2 => x1 ++ x2) #[] (List.replicate (if its.toArray.isEmpty = true then 0 else k.toNat) its.toArray) = (List.replicate k.toNat its).flatten.toArray := by
  have f0 : ∀ m : Nat, List.foldl (fun x1 x2 => x1 ++ x2) #[] (List.replicate m its.toArray) = (List.replicate m its).flatten.toArray := fun m => by
   have := foldl_rep its m []
   rw [List.nil_append] at this
   exact this
  rw [f0]
  cases its with
  | nil => simp
  | cons a r' => rw [if_neg (by simp)]
 refine wpAny_binaryOp_repeat_ref (T := "list") (U := "int") (by decide) ⟨_, e, rfl⟩ (fun s' => typeIs_int s' k t) noFill_list_mul F.fills_int_mul F.slot_int_rmul repeat_list F.slot_int_index.lookup
  (call_meets F.slot_int_rmul (typeIs_int s k t) F.entry_int_rmul (F.args_int_rmul_2 _ _) (int___rmul___int_list k t l its.toArray n)
   ⟨e, rfl, ⟨_, e, rfl⟩, call_meets F.slot_list_mul ⟨_, e, rfl⟩ F.entry_list_mul (F.args_list_mul_2 _ _) (AutoListH.list___mul___list_int_3 l its.toArray n k t hfit hcap hlong) ⟨e, ?_⟩⟩)
 rw [hnew]
 exact ⟨.ref _, _, I.lnew (t' := s.toks) (r.rep k.toNat) (by rw [len_rep, Nat.mul_comm]; exact hz), rfl, q _ I.fresh⟩
end
section
variable {prog : Program} {w : World} {A : Around} {E : Value → Shared → Prop} {s : Shared}
end
section
variable {X : Cx}
end
end L2
namespace Att
open PySem PySem.W PySem.Calls PyProof.Rows
theorem ints_of_wellAll {P : Params} {h : Heap} : ∀ (ns : List Int) (vs : List Value), WellAll P h vs (ns.map WData.int) → IntsAre vs ns := by
 intro ns
 induction ns with
 | nil =>
  intro vs w
  rw [List.map_nil] at w
  cases w
  exact .nil
 | cons n ns ih =>
  intro vs w
  rw [List.map_cons] at w
  cases w with
  | cons a b =>
   cases a
   exact .cons _ _ (ih _ b)
theorem script_of {l : OpenLaw} {n : Nat} (hn : l.most = some n) {P : Params} {h : Heap} {args : List WData} {vals : List Value}
  (hpre : l.row.toRowW.claim.pre args = true) (hwl : WellAll P h vals args) :
  ∃ a vs ns, vals = [Value.ref a] ∧ args = [WData.list (ns.map WData.int)] ∧ h.get? a = some { cls := .type "list", data := .seq vs.toArray } ∧ IntsAre vs ns ∧ ns.length ≤ n := by
 have hsh : WShape.hasAll [] args [.list .int] = true := (pre_splitW hpre).1
 have hc : l.pre.holds [] { args := args } = true := (pre_splitW hpre).2
 obtain ⟨d, r, rfl, h1, h2⟩ := hasAllW_cons hsh
 obtain rfl := hasAllW_nil h2
 obtain ⟨xs, rfl, h3⟩ := hasW_list h1
 obtain ⟨ns, rfl⟩ := items_int h3
 have hlen : ns.length ≤ n := by
  unfold OpenLaw.pre at hc
  have h4 : (WTm.not (.lt (.lit (.int (n : Int))) (.len (.arg 0)))).holds [] { args := [.list (ns.map .int)] } = true := by
   have h4 := (holds_andW hc).1
   rw [hn] at h4
   exact h4
  have h5 := condW_of h4 (w_not (w_lt w_lit (w_len_list (w_arg rfl))))
  rw [List.length_map] at h5
  refine Nat.le_of_not_lt fun q => ?_
  have q' : (n : Int) < ((ns.length : Nat) : Int) := by omega
  first
   | (rw [decide_eq_true q'] at h5; exact absurd h5 (by decide))
   | (simp at h5; omega)
 cases hwl with
 | cons w1 w2 =>
  cases w2
  cases w1 with
  | list ho hall => exact ⟨_, _, ns, rfl, rfl, ho, ints_of_wellAll ns _ hall, hlen⟩
theorem post_true (l : OpenLaw) (args : List WData) : l.row.toRowW.claim.post args (.bool true) args = true :=
 postW_of (r := l.row.toRowW) (X := (true == true))
  (show WShape.has [] (.bool true) .bool = true by first | rfl | decide | simp [WShape.has, WShape.arms, WShape.armsAll])
  (show (WTm.eq .res (.lit (.bool true))).value [] { args := args, res := some (.bool true), after := args } = some (.bool (true == true)) from w_eq_bool (w_res rfl) w_lit) rfl
theorem attach_call {l : OpenLaw} {n : Nat} {q : Program} {loose : List Str} {XP : (Str → Option Value) → Heap → Prop} {YP : World → Heap → Prop} {d : DefRec}
  (hn : l.most = some n) (hdf : d.params.defaults = [])
  (call : ∀ (w : World) (s₀ s₁ : Shared) (mg mb : Str → Option Value) (fa : Addr) (o : Obj) (pm cd doc : Value) (a : Addr) (vs : List Value) (ns : List Int),
   Ground q loose [] XP w s₀ mg mb s₁.heap → YP w s₁.heap →
   s₁.heap.get? fa = some o → o.data = .func (docDef d.name d.params d.body d.scope pm cd doc) → s₁.heap.CodeRec cd d.name → mg d.name = some (.ref fa) →
   s₁.heap.get? a = some { cls := .type "list", data := .seq vs.toArray } → IntsAre vs ns → ns.length ≤ n → s₁.gens = #[] →
   codeAny (model l.prog w) callerA (.call (.ref fa) ⟨[.ref a], []⟩) (fun r s' => r = .ok (.ret (.bool true)) ∧ OldK s₁.heap s'.heap ∧ s'.os = s₁.os ∧ AllBare s'.gens) s₁) :
  WalkO q loose XP YP l.row.toRowW d [] (fun f vs => PySem.call f vs) := by
 intro w s₀ s₁ mg mb G Y fa o pm cd doc dV kV ho hd hcd hD hmg hg args vals as hpre hlay hrd hwl hlo
 obtain rfl : dV = .none := Dflts.none hD hdf
 obtain rfl : kV = .none := Dflts.noKw hD
 obtain ⟨a, vs, ns, rfl, rfl, hobj, hints, hlen⟩ := script_of hn hpre hwl
 refine enter_call (codeAny_mono (call w s₀ s₁ mg mb fa o pm cd doc a vs ns G Y ho (fd_plain hd) hcd hmg hobj hints hlen hg) fun r s' hq => ?_)
 obtain ⟨rfl, h2, h3, h4⟩ := hq
 exact ⟨.inl ⟨.bool true, .bool true, [], rfl, fun _ => rfl, .bool true, post_true l _, fun _ => ⟨List.Pairwise.nil, fun _ hm => (nomatch hm)⟩⟩, h2, h3, h4⟩
section
variable {prog : Program} {w : World} {A : Around} {E : Value → Shared → Prop} {s : Shared} {K : Frag}
end
end Att
namespace L2
open PySem PySem.Spec PyProof.Rows
theorem vals_ints : ∀ {vs : List Value} {ns : List Int}, IntsAre vs ns → Vals (ns.map V.int) vs
 | _, _, .nil => .nil
 | _, _, .cons n t h => .cons ⟨t, rfl⟩ (vals_ints h)
noncomputable def Only (H : Hp) : Prop := ∀ b, H b = none ∨ ∃ o xs, H b = some (.frz o (.lst xs))
theorem law_call {P : Program} {w : World} {K : PySem.W.Frag} {mg mb : Str → Option Value} {CX : CXT} {k : Nat} {fa a : Addr} {fd : FuncData} {x : Str} {sp : Sp} {s₁ : Shared} {vs : List Value} {ns : List Int}
  (KX : K.In s₁.heap) (hns : s₁.heap.Ns mainGlobals mg) (hb : s₁.heap.Ns builtinsNs mb) (hbb : ∀ x : Str, x ≠ "__name__" → mb x = bootBuiltins x) (hlim : s₁.heap.NoLimit) (hg : s₁.gens = #[])
  (ha : s₁.heap.get? a = some { cls := .type "list", data := .seq vs.toArray }) (hi : IntsAre vs ns) (hl : ns.length ≤ sizeLine) (hr : Room k callerA)
  (F : ∀ base : Heap, K.In base → base.Ns mainGlobals mg → FnOk P w K mg base CX k fa fd [x] sp) (hbind : ∀ (s : Shared) (u : Value), BindsTo s fd ⟨[u], []⟩ [(x, u)])
  (hsp : ∀ H : Hp, Only H → SqL K H a (ns.map V.int) → sp [.ref a] H (fun v _ => v = .bl true) fun _ _ _ => False)
  (hCX : ∀ H e s', CX [] H s₁ (fun _ _ _ => False) e s' → False) :
  codeAny (model P w) callerA (.call (.ref fa) ⟨[.ref a], []⟩) (fun r s' => r = .ok (.ret (.bool true)) ∧ OldK s₁.heap s'.heap ∧ s'.os = s₁.os ∧ AllBare s'.gens) s₁ := by
 have rv := vals_ints hi
 have lenV := hi.length
 -- from an abstract heap in which nothing but the script may be tracked
 have core : ∀ H : Hp, Only H → SqL K H a (ns.map V.int) → HOk P w H s₁.heap → (∀ b, H b ≠ none → b = a) → (H a ≠ none → K.lookup a = none) →
   codeAny (model P w) callerA (.call (.ref fa) ⟨[.ref a], []⟩) (fun r s' => r = .ok (.ret (.bool true)) ∧ OldK s₁.heap s'.heap ∧ s'.os = s₁.os ∧ AllBare s'.gens) s₁ := by
  intro H hO hS hok hA hK
  have base_of : ∀ {b : Addr} {o : Obj}, s₁.heap.get? b = some o → H b = none → (hidT s₁.heap H).get? b = some o := fun e n => hidT_get e n
  have noA : ∀ {b : Addr} {o : Obj} {es : Array DictEntry} {ep : Nat}, s₁.heap.get? b = some o → o.data = .dict es ep → H b = none := fun {b o es ep} e d => by
   cases q : H b with
   | none => rfl
   | some u =>
    have e' : b = a := hA b (by rw [q]; simp)
    subst e'
    rw [ha] at e; cases e
    have d' : Data.seq vs.toArray _ = Data.dict es ep := d
    cases d'
  have nsK : ∀ {b : Addr} {m : Str → Option Value}, s₁.heap.Ns b m → (hidT s₁.heap H).Ns b m := fun {b m} ⟨o, es, ep, e, d, r⟩ => ⟨o, es, ep, base_of e (noA e d), d, r⟩
  have hKb : K.In (hidT s₁.heap H) := fun b o e => base_of (KX b o e) (by
   cases q : H b with
   | none => rfl
   | some u =>
    have e' : b = a := hA b (by rw [q]; simp)
    subst e'
    rw [hK (by rw [q]; simp)] at e; cases e)
  have hM : Mod K mg (hidT s₁.heap H) := ⟨hKb, nsK hns, ⟨mb, nsK hb, hbb⟩, let ⟨mc, h1, h2⟩ := hlim; ⟨mc, nsK h1, h2⟩⟩
  have e0 : Env0 P w K mg (hidT s₁.heap H) callerA [] s₁ H := ⟨rfl, hM, fun b o e => of_hidT e, Nat.le_of_eq (hidT_size _ _), trivial, fun b hb => absurd (show b ∈ ([] : List Addr) from hb) (by simp), hok, .of_eq hg⟩
  refine codeAny_mono ((F _ hKb (nsK hns)).run callerA [] s₁ H ⟨[.ref a], []⟩ [.ref a] [.ref a] _ _ hr e0 (hbind s₁ (.ref a)) (.cons rfl .nil) (hsp H hO hS)) fun r s' h => ?_
  cases r with
  | error e => exact (hCX H e s' h).elim
  | ok fl =>
   cases fl with
   | next => exact False.elim h
   | brk => exact False.elim h
   | cont => exact False.elim h
   | ret u =>
    obtain ⟨v, H', os, bare, un, hok', r', q⟩ := h
    have q' : v = .bl true := q
    subst q'
    obtain rfl : u = Value.bool true := r'
    refine ⟨rfl, OldK.of_keep fun b o e => ?_, os, bare⟩
    cases q : H b with
    | none => exact un.keep b o e q (by intro z; exact absurd (show b ∈ ([] : List Addr) from z) (by simp)) (by simp)
    | some u =>
     rcases hO b with z | ⟨ob, xs, z⟩
     ·rw [q] at z; cases z
     ·have z2 := un.frzs b ob _ z
      obtain ⟨e1, _⟩ := hok b _ z
      obtain ⟨e2, _⟩ := hok' b _ z2
      rw [e] at e1; cases e1
      exact e2
 cases hk : K.lookup a with
 | some o =>
  -- the script is one of the module's own objects
  have e := KX a o hk
  rw [ha] at e
  cases e
  refine core (fun _ => none) (fun _ => .inl rfl) (.inr ⟨_, vs.toArray, _, hk, rfl, rfl, rfl, by rw [List.size_toArray, lenV]; exact hl, by simpa using rv⟩) (fun b u z => by have z' : (none : Option HO) = some u := z; cases z') (fun b z => absurd rfl z) fun z => absurd rfl z
 | none =>
  refine core (fun b => if b = a then some (.frz { cls := .type "list", data := .seq vs.toArray } (.lst (ns.map V.int))) else none) (fun b => ?_) (.inl (.inr ⟨{ cls := .type "list", data := .seq vs.toArray }, if_pos rfl⟩)) (fun b u z => ?_) (fun b z => ?_) fun _ => hk
  ·by_cases hb : b = a
   ·exact .inr ⟨_, _, if_pos hb⟩
   ·exact .inl (if_neg hb)
  ·by_cases hb : b = a
   ·have z' := (if_pos hb).symm.trans z
    cases z'
    subst hb
    exact ⟨ha, by rw [List.length_map]; exact hl, vs, _, rv, ha⟩
   ·have z' := (if_neg hb).symm.trans z
    cases z'
  ·by_cases hb : b = a
   ·exact hb
   ·exact absurd (if_neg hb) z
noncomputable abbrev KOf {K : PySem.W.Frag} {h : Heap} (_ : K.In h) : PySem.W.Frag := K
theorem walk_of {l : PySem.W.OpenLaw} {n k : Nat} {q : Program} {loose : List Str} {XP : (Str → Option Value) → Heap → Prop} {YP : World → Heap → Prop} {d : DefRec} {K : Params → PySem.W.Frag} {CX : World → CXT} {sp : World → Sp} {x : Str}
  (hn : l.most = some n) (hn2 : n ≤ sizeLine) (hdf : d.params.defaults = []) (hr : Room k callerA)
  (hY : ∀ (w : World) (h : Heap), YP w h → (K w.params).In h)
  (F : ∀ (w : World) (mg : Str → Option Value) (fa : Addr) (h : Heap), (K w.params).In h → h.Ns mainGlobals mg → mg d.name = some (.ref fa) →
   ∃ fd : FuncData, (∀ (s : Shared) (u : Value), BindsTo s fd ⟨[u], []⟩ [(x, u)]) ∧
    ∀ base : Heap, (K w.params).In base → base.Ns mainGlobals mg → FnOk l.prog w (K w.params) mg base (CX w) k fa fd [x] (sp w))
  (hsp : ∀ (w : World) (H : Hp) (a : Addr) (ns : List Int), ns.length ≤ n → Only H → SqL (K w.params) H a (ns.map V.int) → sp w [.ref a] H (fun v _ => v = .bl true) fun _ _ _ => False)
  (hCX : ∀ (w : World) (H : Hp) (s : Shared) (e : Value) (s' : Shared), CX w [] H s (fun _ _ _ => False) e s' → False) :
  PySem.W.WalkO q loose XP YP l.row.toRowW d [] (fun f vs => PySem.call f vs) := by
 refine Att.attach_call hn hdf fun w s₀ s₁ mg mb fa o pm cd doc a vs ns G Y ho hd hcd hmg hobj hints hlen hg => ?_
 have KX := hY w _ Y
 obtain ⟨fd, hb, hF⟩ := F w mg fa _ KX G.T.g hmg
 exact law_call KX G.T.g G.T.b G.T.builtins G.T.nolimit hg hobj hints (Nat.le_trans hlen hn2) hr hF hb (fun H hO hS => hsp w H a ns hlen hO hS) fun H e s' => hCX w H s₁ e s'
end L2
/- THE LAST THEOREM (shape; LID, My.* are yours):
   My.Adr: a structure of the addresses that your layer names (classes, functions); My.Txt K t: a structure (Prop) of the equations over K;
   My.txt_mk : {K} {implicit addresses ..} (e1 : nsIn K mainGlobals "law" = some (some (.ref f))) (e2 : K.lookup f = some ⟨oc, od, .func (fnOf "law" "law" params body scope dV kV doc pm an cdv ct), sl⟩) (e3 : codeIn K cdv "law" = true) .. : ∃ t, My.Txt K t
set_option maxRecDepth 100000 in
set_option maxHeartbeats 0 in
theorem PySem.Challenge.cw_LID_holds : PySem.Challenge.rw_LID.Holds := by
 w_on; o_law; k_head; (case hw => w_witness2)
 k_fill
 refine L2.walk_of (l := PySem.Challenge.rw_LID) (n := 63) (k := 40) (x := "script") (CX := fun w => ..) (sp := fun _ => My.sp_law) rfl (by decide) rfl ⟨rfl, by decide, by decide⟩ (fun w h Y => PySem.W.kIn_of Y) ?F ?S ?C
 case F =>
  intro w mg fa h KX G hmg
  have T : ∃ t, My.Txt (L2.KOf KX) t := by
   dsimp only [L2.KOf]                          -- K must stand as «<heap const> w.params» for k_is
   refine' My.txt_mk ?e1 ?e2 ?e3 ..
   (case e1 => PySem.W.k_is)                    -- in the order: a name -> its address -> its object -> its parts
   (case e2 => PySem.W.k_is)
   ..
  obtain ⟨t, T⟩ := T
  have e0 := hmg.symm.trans (PySem.W.mg_of KX G T.law)
  cases e0                                       -- fa is the law's own address
  exact ⟨_, fun s u => .of_eq rfl, fun base kb nb => My.law_fn T kb nb⟩     -- if «.of_eq rfl» comes too early: refine' ⟨_, ?b, fun base kb nb => My.law_fn T kb nb⟩; exact fun s u => .of_eq rfl
 case S => exact fun w H a ns hl hO hS => ..
 case C => exact ..
(the tactic k_is has no namespace: write k_is) -/
namespace L2
open PySem PySem.Spec PyProof.Rows
noncomputable def defArgs (s : Stmt) : Arguments := match s with
 | .FunctionDef _ a _ _ _ _ _ _ _ _ => a
 | _ => { posonlyargs := [], args := [], vararg := none, kwonlyargs := [], kw_defaults := [], kwarg := none, defaults := [] }
noncomputable def defBody (s : Stmt) : List Stmt := match s with
 | .FunctionDef _ _ b _ _ _ _ _ _ _ => b
 | _ => []
noncomputable def defScope (s : Stmt) : Scope := match s with
 | .FunctionDef _ _ _ _ _ _ sc _ _ _ => sc
 | _ => { kind := .function, names := [], isGenerator := false, isCoroutine := false }
noncomputable abbrev CX0 : CXT := fun _ _ _ _ _ _ => False
noncomputable abbrev E0 : XK := fun _ _ _ => False
theorem pass0 {X : Cx} : Passes CX0 X E0 := fun _ _ _ _ _ _ _ h => h.elim
structure Fun (K : PySem.W.Frag) (x qual : Str) (st : Stmt) (f : Addr) (fd : FuncData) : Prop where
 ex : ∃ (oc : Value) (od : Option Addr) (kV doc pm : Value) (an : Option Addr) (cdv ct : Value) (osl : Array (Option Value)),
  fd = PySem.W.fnOf x qual (defArgs st) (defBody st) (defScope st) .none kV doc pm an cdv ct ∧ K.lookup f = some ⟨oc, od, .func fd, osl⟩ ∧ PySem.W.codeIn K cdv qual = true
 kp : PySem.W.keepIn K (.ref f) = true
section
variable {P : Program} {w : World} {K : PySem.W.Frag} {mg : Str → Option Value} {base : Heap}
theorem Fun.ok {x qual : Str} {st : Stmt} {f : Addr} {fd : FuncData} {N ps : List Str} {k : Nat} {sp : Sp} (F : Fun K x qual st f fd) (S : FnScope N ps (defScope st)) (len : ∀ vs H Q E, sp vs H Q E → vs.length = ps.length)
  (hbody : ∀ (cdv : Value) (A : Around) (outer : List Env) (s : Shared) (H : Hp) (vs : List V) (Q : VK) (E : XK), Room k (A.deeper (envOfC qual (defScope st) s.heap.objs.size f cdv)) → sp vs H Q E →
   ∃ t, PSs (cxOf CX0 P w K mg base N qual (defScope st) f cdv A outer s H E).nox (defBody st) t ∧ t { nx := fun _ H' => Q .non H', rt := Q } (start N vs) H) : FnOk P w K mg base CX0 (k + 1) f fd ps sp := by
 obtain ⟨oc, od, kV, doc, pm, an, cdv, ct, osl, rfl, lk, hcd⟩ := F.ex
 refine fn_of lk hcd S len fun A outer s H vs Q E hr hsp => ?_
 obtain ⟨t, h, q⟩ := hbody cdv A outer s H vs Q E hr hsp
 exact ⟨t, h.nox, q⟩
theorem Fun.binds {x qual : Str} {st : Stmt} {f : Addr} {fd : FuncData} {ps : List Str} (F : Fun K x qual st f fd)
  (h : ∀ (kV doc pm : Value) (an : Option Addr) (cdv ct : Value) (us : List Value), us.length = ps.length → bindArgs (PySem.W.fnOf x qual (defArgs st) (defBody st) (defScope st) .none kV doc pm an cdv ct) ⟨us, []⟩ = pure (ps.zip us)) : Binds K fd ps [] := by
 obtain ⟨oc, od, kV, doc, pm, an, cdv, ct, osl, rfl, lk, hcd⟩ := F.ex
 exact .all (h kV doc pm an cdv ct)
theorem fun_mk {x qual : Str} {st : Stmt} {f : Addr} {oc : Value} {od an : Option Addr} {osl : Array (Option Value)} {kV doc pm cdv ct : Value} (l : K.lookup f = some ⟨oc, od, .func (PySem.W.fnOf x qual (defArgs st) (defBody st) (defScope st) .none kV doc pm an cdv ct), osl⟩)
  (c : PySem.W.codeIn K cdv qual = true) (k : PySem.W.keepIn K (.ref f) = true) : Fun K x qual st f (PySem.W.fnOf x qual (defArgs st) (defBody st) (defScope st) .none kV doc pm an cdv ct) := ⟨⟨oc, od, kV, doc, pm, an, cdv, ct, osl, rfl, l, c⟩, k⟩
end
theorem small1000 {n : Nat} (h : n ≤ 1000) : n < sizeLine := Nat.lt_of_le_of_lt h (by decide)
section
variable {X : Cx}
theorem pv (i : Nat) {x : Str} {pos : Pos} (hN : X.N[i]? = some x := by rfl) (hv : Vis X.env.scope x := by first | exact Or.inl rfl | exact Or.inr (Or.inl rfl) | exact Or.inr (Or.inr rfl)) (hd : (x == ("__debug__" : Str)) = false := by decide)
  (hcd : (x == ("__classdict__" : Str)) = false := by decide) : PE X (.Name x pos) (tVar i) := pe_var hN hv hd hcd
end
theorem iteF {A B : Prop} (h : B) : if false = true then A else B := by
 rw [if_neg Bool.false_ne_true]
 exact h
theorem iteT {A B : Prop} (h : A) : if true = true then A else B := by
 rw [if_pos rfl]
 exact h
theorem iteNS {c A B : Prop} [Decidable c] (hc : c) (h : B) : if (!decide c) = true then A else B := by
 rw [decide_eq_true hc]
 exact iteF h
noncomputable def Same (H H' : Hp) : Prop := ∀ b o, H b = some o → H' b = some o
theorem Same.refl (H : Hp) : Same H H := fun _ _ h => h
theorem Same.trans {H H1 H2 : Hp} (a : Same H H1) (b : Same H1 H2) : Same H H2 := fun c o h => b c o (a c o h)
theorem Same.free {H H' : Hp} (e : Same H H') {l : Addr} (h : H' l = Option.none) : H l = Option.none := by
 cases q : H l with
 | none => rfl
 | some o =>
  rw [e l o q] at h
  cases h
theorem Same.seq {K : PySem.W.Frag} {H H' : Hp} {a : Addr} {xs : List V} (e : Same H H') (h : SqL K H a xs) : SqL K H' a xs := by
 rcases h with (h | ⟨o, h⟩) | h
 ·exact .inl (.inl (e _ _ h))
 ·exact .inl (.inr ⟨o, e _ _ h⟩)
 ·exact .inr h
section
variable {P : Program} {w : World} {A : Around} {R : Result → Shared → Prop} {s : Shared}
theorem comp_loop {elt tgt iter : Expr} {ifs : List Expr} {scope : Scope} {pos : Pos} {it acc : Value} {env : Env} (J : Nat → Shared → Prop)
  (turn : ∀ n s, J n s → wpAny (model P w) A (pyNext it) (fun r c₁ => match r with
   | none => R (.ok .next) c₁
   | some v => wpAny (model P w) A (letOwnedTupleGo tgt it v) (fun _ d₁ => wpAny (model P w) A (assign tgt env v) (fun _ c₂ =>
     wpAny (model P w) A (forIn ifs true fun c r => if r = true then do let ok ← isTrue c env (eval c env); pure (ForInStep.yield ok) else pure (ForInStep.yield r)) (fun ok c₃ =>
      if ok = true then wpAny (model P w) A (eval elt env) (fun x c₄ =>
       wpAny (model P w) A (call (.builtin "list.append") [acc, x]) (fun _ c₅ => ∃ m, m < n ∧ J m c₅) (notedBy (model P w) A env fun e s' => R (.error e) s') c₄) (notedBy (model P w) A env fun e s' => R (.error e) s') c₃
      else ∃ m, m < n ∧ J m c₃) (notedBy (model P w) A env fun e s' => R (.error e) s') c₂) (notedBy (model P w) A env fun e s' => R (.error e) s') d₁) (notedBy (model P w) A env fun e s' => R (.error e) s') c₁) (notedBy (model P w) A env fun e s' => R (.error e) s') s)
  (n : Nat) (hn : J n s) :
  codeAny (model P w) A (.compLoop (.ListComp elt [⟨tgt, iter, ifs, 0⟩] scope pos) 0 it acc env) R s := by
 refine codeAny_loop rfl J (fun n s hJ => ?_) n hn
 show wpAny _ A ((compTurn (.ListComp elt [⟨tgt, iter, ifs, 0⟩] scope pos) 0 it acc env).onRaise (fun x => do noteFrame x env; theTreesLotGoes x)) _ _ s
 refine wpAny_noted ?_
 rw [compTurn_list]
 refine wpAny_bind (wpAny_standAt (wpAny_bind (wpAny_mono (turn n s hJ) (fun r c₁ e₁ => ?_) fun _ _ z => z)))
 cases r with
 | none => exact wpAny_pure e₁
 | some v =>
  refine wpAny_bind (wpAny_mono e₁ (fun _ d₁ f₁ => ?_) fun _ _ z => z)
  refine wpAny_bind (wpAny_mono f₁ (fun _ c₂ e₂ => wpAny_bind (wpAny_mono e₂ (fun ok c₃ e₃ => ?_) fun _ _ z => z)) fun _ _ z => z)
  cases ok with
  | false => exact wpAny_pure ⟨rfl, e₃⟩
  | true =>
   exact wpAny_bind (wpAny_bind (wpAny_mono e₃ (fun x c₄ e₄ => wpAny_bind (wpAny_mono e₄ (fun _ c₅ e₅ => wpAny_pure (wpAny_pure ⟨rfl, e₅⟩)) fun _ _ z => z)) fun _ _ z => z))
end
noncomputable def cloF (env : Env) : List (Str × NameKind) → List (Str × Addr) → List (Str × Addr)
 | [], acc => acc
 | (n, k) :: r, acc => if k = .free then cloF env r ((n, (env.cells.lookup n).getD 0) :: acc) else cloF env r acc
theorem closure_go {env : Env} : ∀ (names : List (Str × NameKind)) (acc : List (Str × Addr)), (∀ x ∈ names, x.2 = .free → ∃ c, env.cells.lookup x.1 = some c) →
  (forIn names acc (fun (x : Str × NameKind) (cs : List (Str × Addr)) => (if (x.2 == NameKind.free) = true then do let a ← cellOf env x.1; pure (ForInStep.yield ((x.1, a) :: cs)) else pure (ForInStep.yield cs) : Sem (ForInStep (List (Str × Addr))))) : Sem (List (Str × Addr))) = pure (cloF env names acc)
 | [], acc, _ => by simp [cloF]
 | (n, k) :: r, acc, h => by
  have ih := fun acc => closure_go (env := env) r acc fun x hx => h x (List.mem_cons_of_mem _ hx)
  rw [List.forIn_cons]
  by_cases hk : k = .free
  ·subst hk
   obtain ⟨c, hc⟩ := h (n, .free) List.mem_cons_self rfl
   have hc' : env.cells.lookup n = some c := hc
   have e : cellOf env n = pure c := by unfold cellOf; rw [hc']
   simp only [cloF, if_true, hc', Option.getD_some, beq_self_eq_true, e, pure_bind]
   exact ih _
  ·have hb : (k == NameKind.free) = false := by simpa using hk
   simp only [cloF, hk, if_false, hb, Bool.false_eq_true, pure_bind]
   exact ih _
theorem closure_eq {env : Env} {scope : Scope} (h : ∀ x ∈ scope.names, x.2 = .free → ∃ c, env.cells.lookup x.1 = some c) : closureFor scope env = pure (cloF env scope.names []) := by
 rw [← closure_go scope.names [] h]
 unfold closureFor
 simp only [bind_pure]
theorem cloF_lookup {env : Env} {y : Str} : ∀ (names : List (Str × NameKind)) (acc : List (Str × Addr)), (cloF env names acc).lookup y = if (y, NameKind.free) ∈ names then some ((env.cells.lookup y).getD 0) else acc.lookup y
 | [], acc => by simp [cloF]
 | (n, k) :: r, acc => by
  unfold cloF
  by_cases hk : k = .free
  ·subst hk
   rw [if_pos rfl, cloF_lookup r]
   by_cases hy : y = n
   ·subst hy
    simp [List.lookup_cons]
   ·have hb : (y == n) = false := by simpa using hy
    simp [List.lookup_cons, hb, hy]
  ·rw [if_neg hk, cloF_lookup r]
   have : ¬ ((y, NameKind.free) = (n, k)) := by
    intro e
    exact hk (Prod.mk.inj e).2.symm
   simp [this]
structure CScope (o sc : Scope) (TN F : List Str) : Prop where
 okind : o.kind = .function
 kind : sc.kind = .function
 nocell : ∀ y ∈ sc.names, y.2 ≠ .cell
 names : ∀ y ∈ sc.names, y.2 = .local → sc.names.lookup y.1 = some .local
 fr : ∀ y ∈ sc.names, y.2 = .free → o.names.lookup y.1 = some .cell ∧ sc.names.lookup y.1 = some .free
 ff : ∀ y ∈ F, (y, NameKind.free) ∈ sc.names
theorem relabel_free {env : Env} {y : Str} (hk : env.scope.kind = .function) (hc : env.kindOf y = some .cell) : ∀ {names : List (Str × NameKind)}, names.lookup y = some .free →
  (names.map fun (n, k) => if (k == NameKind.free && env.scope.kind == .function && env.kindOf n == some .cell) then (n, NameKind.cell) else (n, k)).lookup y = some .cell
 | [], h => by simp at h
 | (n, k) :: r, h => by
  have ih := @relabel_free env y hk hc r
  show List.lookup y ((if (k == NameKind.free && env.scope.kind == .function && env.kindOf n == some .cell) = true then (n, NameKind.cell) else (n, k)) :: _) = _
  cases hx : y == n with
  | true =>
   rw [List.lookup_cons, hx] at h
   cases h
   have e : y = n := by simpa using hx
   subst e
   rw [if_pos (by simp [hk, hc])]
   simp [List.lookup_cons]
  | false =>
   rw [List.lookup_cons, hx] at h
   by_cases hc' : (k == NameKind.free && env.scope.kind == .function && env.kindOf n == some .cell) = true
   ·rw [if_pos hc']; simp only [List.lookup_cons, hx]; exact ih h
   ·rw [if_neg hc']; simp only [List.lookup_cons, hx]; exact ih h
theorem relabel_from {env : Env} {y : Str} : ∀ {names : List (Str × NameKind)}, (∀ z ∈ names, z.2 ≠ .cell) →
    ((names.map fun (n, k) => if (k == NameKind.free && env.scope.kind == .function && env.kindOf n == some .cell) then (n, NameKind.cell) else (n, k)).lookup y = some .cell ∨
     (names.map fun (n, k) => if (k == NameKind.free && env.scope.kind == .function && env.kindOf n == some .cell) then (n, NameKind.cell) else (n, k)).lookup y = some .free) → (y, NameKind.free) ∈ names
  | [], _, h => by simp at h
  | (n, k) :: r, hn, h => by
    have ih := @relabel_from env y r fun z hz => hn z (List.mem_cons_of_mem _ hz)
    have h' : List.lookup y ((if (k == NameKind.free && env.scope.kind == .function && env.kindOf n == some .cell) = true then (n, NameKind.cell) else (n, k)) :: (r.map fun (n, k) => if (k == NameKind.free && env.scope.kind == .function && env.kindOf n == some .cell) then (n, NameKind.cell) else (n, k))) = some .cell ∨
      List.lookup y ((if (k == NameKind.free && env.scope.kind == .function && env.kindOf n == some .cell) = true then (n, NameKind.cell) else (n, k)) :: (r.map fun (n, k) => if (k == NameKind.free && env.scope.kind == .function && env.kindOf n == some .cell) then (n, NameKind.cell) else (n, k))) = some .free := h
    clear h
    cases hx : y == n with
    | true =>
      have e : y = n := by simpa using hx
      subst e
      by_cases hc' : (k == NameKind.free && env.scope.kind == .function && env.kindOf y == some .cell) = true
      · have hk : k = .free := by
          have := (Bool.and_eq_true _ _ ▸ (Bool.and_eq_true _ _ ▸ hc').1).1
          simpa using this
        subst hk
        exact List.mem_cons_self
      · rw [if_neg hc'] at h'
        simp only [List.lookup_cons, beq_self_eq_true] at h'
        rcases h' with h' | h'
        · cases h'
          exact absurd rfl (hn _ List.mem_cons_self)
        · cases h'
          exact List.mem_cons_self
    | false =>
      by_cases hc' : (k == NameKind.free && env.scope.kind == .function && env.kindOf n == some .cell) = true
      · rw [if_pos hc'] at h'; simp only [List.lookup_cons, hx] at h'; exact List.mem_cons_of_mem _ (ih h')
      · rw [if_neg hc'] at h'; simp only [List.lookup_cons, hx] at h'; exact List.mem_cons_of_mem _ (ih h')
noncomputable def cxC (X : Cx) (N : List Str) (sc : Scope) (cl : List (Str × Addr)) (C : Addr) (fp : List Addr) (s₃ : Shared) (H₃ : Hp) (xe : Value → Shared → Prop) : Cx :=
 { X with N := N, s₀ := s₃, H₀ := H₃, env := compEnvC sc cl C X.env, outer := X.stack, ex := fp, fn := fun _ => false, pn := [], xe := xe }
noncomputable def sub (ix : List Nat) (σ : St) : St := ix.map fun i => (σ[i]?).join
theorem inv_comp {X : Cx} {pins : List (Addr × Obj)} {σ : St} {H : Hp} {s : Shared} {sc : Scope} {TN F : List Str} {ix : List Nat} {fp : List Addr} {h4 : Heap} {tk : Nat} {m : Str → Option Value} {xe : Value → Shared → Prop}
  (S : CScope X.env.scope sc TN F) (hix : ix.map (fun i => X.N[i]?) = F.map some) (I : Inv X pins σ H s) (hf : ∀ b ∈ fp, FpOk X pins H b) (ho : ∀ b ∈ fp, ∃ o, s.heap.get? b = some o)
  (hk : ∀ b o, s.heap.get? b = some o → h4.get? b = some o) (hn : h4.Ns s.heap.objs.size m) :
  Inv (cxC X (TN ++ F) sc (cloF X.env sc.names []) s.heap.objs.size fp s H xe) [] (List.replicate TN.length none ++ sub ix σ) H { s with heap := h4, toks := tk } := by
 have cl : ∀ x c, (cloF X.env sc.names []).lookup x = some c → X.env.cells.lookup x = some c := fun x c e => by
  rw [cloF_lookup] at e
  by_cases hx : (x, NameKind.free) ∈ sc.names
  ·rw [if_pos hx] at e
   obtain ⟨c', hc'⟩ := I.ok.has x (.inl (S.fr _ hx rfl).1)
   rw [hc'] at e ⊢
   exact e
  ·rw [if_neg hx] at e
   cases e
 have cl' : ∀ x, (x, NameKind.free) ∈ sc.names → (cloF X.env sc.names []).lookup x = X.env.cells.lookup x := fun x hx => by
  rw [cloF_lookup, if_pos hx]
  obtain ⟨c', hc'⟩ := I.ok.has x (.inl (S.fr _ hx rfl).1)
  rw [hc']
  rfl
 have hlen : ix.length = F.length := by
  have := congrArg List.length hix
  simpa using this
 refine ⟨⟨I.ok.mod, S.kind, I.ok.glob, I.ok.blt, Nat.le_refl _, fun x y c h1 h2 => I.ok.inj x y c (cl x c h1) (cl y c h2), fun x hx => ?_, fun x c z => (nomatch z), I.ok.hd, I.ok.frames, .inl rfl, fun b hb => ⟨?_, fun x c e => (hf b hb).2.2.2.2.1 x c (cl x c e)⟩,
  I.bs, Nat.le_trans I.ok.bsz I.sz, fun b o e hb => ?_, fun b hb hfs => ?_, I.stack, I.stkFree⟩, rfl, I.bare, Un.kept hk, ⟨m, hn, fun i x v h1 h2 h3 => ?_⟩, fun x c e => ?_, I.hok.fresh (Nat.le_refl _), fun x c e => I.freeC x c (cl x c e), fun p hp => absurd (show p ∈ ([] : List (Addr × Obj)) from hp) (by simp), I.hok.kept hk, ?_⟩
 ·have hx' : (x, NameKind.free) ∈ sc.names := relabel_from (env := X.env) S.nocell hx
  obtain ⟨c, hc⟩ := I.ok.has x (.inl (S.fr _ hx' rfl).1)
  exact ⟨c, (cl' x hx').trans hc⟩
 ·obtain ⟨o, e⟩ := ho b hb
  exact Nat.ne_of_lt (Heap.lt_size e)
 ·rcases (hf b hb).2.2.2.1 with z | z
  ·exact I.ok.noex b o e z
  ·exact absurd (Nat.lt_of_lt_of_le (Heap.lt_size e) (Nat.le_trans I.ok.bsz z)) (Nat.lt_irrefl _)
 ·rcases List.mem_cons.mp (I.stkSub b hfs) with z | z
  ·exact (hf b hb).2.1 z
  ·exact (hf b hb).2.2.1 z
 ·have hi : TN.length ≤ i := by
   apply Nat.le_of_not_lt
   intro hlt
   rw [List.getElem?_append_left (by simpa using hlt), List.getElem?_replicate] at h2
   split at h2 <;> cases h2
  rw [List.getElem?_append_right (by simpa using hi), List.length_replicate] at h2
  have h1' : F[i - TN.length]? = some x := by
   have : (TN ++ F)[i]? = some x := h1
   rw [List.getElem?_append_right hi] at this
   exact this
  have e3 := congrArg (fun l => l[i - TN.length]?) hix
  simp only [List.getElem?_map, h1', Option.map_some] at e3
  unfold sub at h2
  rw [List.getElem?_map] at h2
  cases ej : ix[i - TN.length]? with
  | none => rw [ej] at h2; cases h2
  | some k =>
   rw [ej] at h2 e3
   have h2' : (σ[k]?).join = some v := Option.some.inj h2
   have e3' : X.N[k]? = some x := Option.some.inj e3
   have hσ : σ[k]? = some (some v) := by
    cases e : σ[k]? with
    | none => rw [e] at h2'; cases h2'
    | some q =>
     rw [e] at h2'
     have : q = some v := h2'
     rw [this]
   have hfr := S.ff x (List.mem_of_getElem? h1')
   have hcell := (S.fr _ hfr rfl).1
   obtain ⟨m0, hn0, hl0⟩ := I.loc
   obtain ⟨u, r, l⟩ := hl0 k x v e3' hσ (.inr (.inl hcell))
   refine ⟨u, r, ?_⟩
   rcases l with ⟨l1, _⟩ | ⟨_, c, hc, o, ho', hd⟩
   ·have l1' : X.env.scope.names.lookup x = some .local := l1
    rw [hcell] at l1'
    cases l1'
   ·exact .inr ⟨.inl (relabel_free (env := X.env) S.okind hcell (S.fr _ hfr rfl).2), c, (cl' x hfr).trans hc, o, hk c o ho', hd⟩
 ·obtain ⟨v, o, ho', hd⟩ := I.cell x c (cl x c e)
  exact ⟨v, o, hk c o ho', hd⟩
 ·show _ = (TN ++ F).length
  rw [List.length_append, List.length_append, List.length_replicate]
  unfold sub
  rw [List.length_map, hlen]
noncomputable def PTs (X : Cx) (ifs : List Expr) (tc : TT) : Prop :=
 ∀ (pins : List (Addr × Obj)) (s : Shared) (σ : St) (H : Hp) (Q : Bool → Hp → Prop), Inv X pins σ H s → tc σ H Q →
  wpAny (model X.prog X.w) X.A (forIn ifs true fun c r => if r = true then do let ok ← isTrue c X.env (eval c X.env); pure (ForInStep.yield ok) else pure (ForInStep.yield r)) (TP X pins σ Q) X.xe s
noncomputable def tAll : TT := fun _ H Q => Q true H
theorem pts_nil {X : Cx} : PTs X [] tAll := fun _ _ _ H _ I h => wpAny_tests_nil ⟨H, I, h⟩
theorem pts_one {X : Cx} {c : Expr} {tc : TT} (hc : PT X c tc) : PTs X [c] tc := fun pins s σ H Q I h => wpAny_tests_one (hc pins s σ H Q I h)
noncomputable def CGo (J : It) (D : Addr) (g : TG) (tc : TT) (te : TE) (Q : VK) (σ : St) (H : Hp) : Prop :=
 ∃ W : Nat → Nat → St → List V → Hp → Prop, (∃ m, W 0 m σ [] (upd H D (.lst []))) ∧ ∀ i m τ ys H, W i m τ ys H → H D = some (.lst ys) ∧
  ((J.stop i H ∧ Q (.ref D) H) ∨ (J.go i H ∧ ∀ v H', J.yld i H v H' → g v τ H' fun τ2 H2 => tc τ2 H2 fun b H3 =>
   if b = true then te τ2 H3 fun y H4 => H4 D = some (.lst ys) ∧ ys.length < sizeLine ∧ ∃ m', m' < m ∧ W (i + 1) m' τ2 (ys ++ [y]) (upd H4 D (.lst (ys ++ [y])))
   else ∃ m', m' < m ∧ W (i + 1) m' τ2 ys H3))
noncomputable def tComp (wi : TI) (n : Nat) (ix : List Nat) (g : TG) (tc : TT) (te : TE) : TE := fun σ H Q => wi σ H fun J H1 => ∀ D, H1 D = none → CGo J D g tc te Q (List.replicate n none ++ sub ix σ) H1
theorem append_ok {X : Cx} {pins : List (Addr × Obj)} {σ : St} {H : Hp} {s : Shared} {D : Addr} {ys : List V} {y : V} {u : Value} {Q : Value → Shared → Prop} {E : Value → Shared → Prop} (I : Inv X pins σ H s) (hD : H D = some (.lst ys)) (hz : ys.length < sizeLine) (r : RelV y u)
  (h : ∀ s', Inv X pins σ (upd H D (.lst (ys ++ [y]))) s' → Q .none s') : wpAny (model X.prog X.w) X.A (call (.builtin "list.append") [.ref D, u]) Q E s := by
 obtain ⟨z, its, n, rr, hl, e⟩ := I.lstM hD
 refine call_meets F.slot_list_append ⟨_, e, rfl⟩ F.entry_list_append (F.args_list_append_2 _ _) (PySem.list_append D its.toArray n u (by rw [List.size_toArray]; omega)) ⟨e, ?_⟩
 refine h _ (I.lset (its' := its ++ [u]) hD e (by simp) (rr.append (.cons r .nil)) ?_)
 rw [List.length_append, List.length_singleton]
 omega
theorem comp_block {X : Cx} {pins : List (Addr × Obj)} {σ : St} {H : Hp} {s : Shared} {sc : Scope} {TN F : List Str} {ix : List Nat} {elt tg iter : Expr} {ifs : List Expr} {pos : Pos} {g : TG} {tc : TT} {te : TE} {J : It} {fp : List Addr} {it : Addr} {tn : Nat → Heap → Prop} {Q : VK}
  {RR : Value → Addr → Result → Shared → Prop} {E : Value → Shared → Prop}
  (S : CScope X.env.scope sc TN F) (hix : ix.map (fun i => X.N[i]?) = F.map some) (hc : X.calm = true) (I : Inv X pins σ H s) (T : Turn X.prog X.w X.K tg J fp it tn) (st : tn 0 s.heap) (hf : ∀ b ∈ fp, FpOk X pins H b)
  (hg : ∀ cl C fp s3 H3 xe, PG (cxC X (TN ++ F) sc cl C fp s3 H3 xe) tg g) (ht : ∀ cl C fp s3 H3 xe, PTs (cxC X (TN ++ F) sc cl C fp s3 H3 xe) ifs tc) (he : ∀ cl C fp s3 H3 xe, PE (cxC X (TN ++ F) sc cl C fp s3 H3 xe) elt te)
  (hW : ∀ D, H D = none → CGo J D g tc te Q (List.replicate TN.length none ++ sub ix σ) H)
  (fin : ∀ D C H' s', Inv X pins σ H' s' → (∃ m, s'.heap.Ns C m) → H' C = none → C ≠ X.env.locals → X.s₀.heap.objs.size ≤ C → (∀ x c, X.env.cells.lookup x = some c → c ≠ C) → (∀ p ∈ X.pn ++ pins, p.1 ≠ C) → Q (.ref D) H' → RR (.ref D) C (.ok .next) s') :
  wpAny (model X.prog X.w) X.A (newList []) (fun acc s₃ => wpAny (model X.prog X.w) X.A (newFunctionEnv sc X.env.globals (cloF X.env sc.names []) [] X.env.qual none .none (some X.env)) (fun cenv s₄ =>
   codeAny (model X.prog X.w) X.A (.compStart (.ListComp elt [⟨tg, iter, ifs, 0⟩] sc pos) 0 (.ref it) acc { cenv with scope := relabel sc X.env }) (RR acc cenv.locals) s₄) E s₃) E s := by
 have hfo : ∀ b ∈ fp, ∃ o, s.heap.get? b = some o := fun b hb => let ⟨o, e, _⟩ := T.obj 0 _ st b hb; ⟨o, e⟩
 refine wpAny_newObj_type ?_
 obtain ⟨W, ⟨m0, w0⟩, go⟩ := hW s.heap.objs.size I.fresh
 have I3 : Inv X pins σ (upd H s.heap.objs.size (.lst [])) { s with heap := s.heap.push { cls := .type "list", data := .seq ([] : List Value).toArray } } := I.lnew (its := []) (ys := []) (t' := s.toks) .nil (Nat.zero_le _)
 generalize hs3 : ({ s with heap := s.heap.push { cls := .type "list", data := .seq ([] : List Value).toArray } } : Shared) = s3 at I3
 have hk3 : ∀ b o, s.heap.get? b = some o → s3.heap.get? b = some o := fun b o e => by
  rw [← hs3]
  exact Heap.get?_push_of_some _ e
 have hf3 : ∀ b ∈ fp, FpOk X pins (upd H s.heap.objs.size (.lst [])) b := fun b hb => by
  obtain ⟨o, e⟩ := hfo b hb
  exact ⟨by rw [upd_ne (Nat.ne_of_lt (Heap.lt_size e))]; exact (hf b hb).1, (hf b hb).2⟩
 have st3 : tn 0 s3.heap := T.keep 0 _ _ st fun b hb o e => hk3 b o e
 show wpAny _ _ _ _ _ s3
 refine wpAny_newFunctionEnv S.nocell (by intro y hy; simp at hy) (fun h4 hn4 hsb => ?_) S.kind
 have hk4 : ∀ b o, s3.heap.get? b = some o → h4.get? b = some o := fun b o e => (hsb.2 b (Nat.ne_of_lt (Heap.lt_size e))).trans (Heap.get?_push_of_some _ e)
 generalize hR : RR (.ref s.heap.objs.size) s3.heap.objs.size = R
 have loop : ∀ s4 : Shared, s4 = { s3 with heap := h4, toks := s3.toks + ([] : List (Str × Value)).length } →
   codeAny (model X.prog X.w) X.A (.compLoop (.ListComp elt [⟨tg, iter, ifs, 0⟩] sc pos) 0 (.ref it) (.ref s.heap.objs.size) (compEnvC sc (cloF X.env sc.names []) s3.heap.objs.size X.env)) R s4 := by
  rintro s4 rfl
  let X' : Cx := cxC X (TN ++ F) sc (cloF X.env sc.names []) s3.heap.objs.size fp s3 (upd H s.heap.objs.size (.lst [])) (notedBy (model X.prog X.w) X.A (compEnvC sc (cloF X.env sc.names []) s3.heap.objs.size X.env) fun e s' => R (.error e) s')
  have I4 : Inv X' [] (List.replicate TN.length none ++ sub ix σ) (upd H s.heap.objs.size (.lst [])) { s3 with heap := h4, toks := s3.toks + ([] : List (Str × Value)).length } :=
   inv_comp S hix I3 hf3 (fun b hb => let ⟨o, e⟩ := hfo b hb; ⟨o, hk3 b o e⟩) hk4 hn4
  have fpx : ∀ {H' : Hp}, (∀ b ∈ fp, H' b = none) → ∀ b ∈ fp, FpOk X' [] H' b := fun {H'} hn b hb => by
   refine ⟨hn b hb, (I4.ok.exf b hb).1, fun z => I4.ok.exfs b hb z, .inl hb, fun x c e => (I4.ok.exf b hb).2 x c e, fun p hp => absurd (show p ∈ ([] : List (Addr × Obj)) from hp) (by simp)⟩
  refine comp_loop (fun n s' => ∃ i τ ys H', Inv X' [] τ H' s' ∧ tn i s'.heap ∧ (∀ b ∈ fp, H' b = none) ∧ W i n τ ys H') ?_ m0 ⟨0, _, [], _, I4, T.keep 0 _ _ st3 fun b hb o e => hk4 b o e, fun b hb => (hf3 b hb).1, w0⟩
  rintro n s5 ⟨i, τ, ys, H5, I5, st5, fr5, w5⟩
  obtain ⟨hD, hgo⟩ := go i n τ ys H5 w5
  rcases hgo with ⟨stop, q⟩ | ⟨hgo, step⟩
  ·refine thn (T.done X' rfl rfl rfl hc i [] s5 τ H5 X'.xe I5 (fpx fr5) st5 stop) fun r s6 ⟨hr, I6⟩ => ?_
   subst hr
   show R (.ok .next) s6
   rw [← hR]
   have J6 : Inv X pins σ H5 s6 := I3.call' (ch := fp) I6.os I6.base I6.hok I6.bare fun b hb => ⟨(hf3 b hb).2.2.2.1, (hf3 b hb).2.1, (hf3 b hb).2.2.2.2.1, (hf3 b hb).2.2.2.2.2⟩
   refine fin s.heap.objs.size s3.heap.objs.size H5 s6 J6 (let ⟨m, hn, _⟩ := I6.loc; ⟨m, hn⟩) I6.free (Nat.ne_of_gt I3.lt) I3.sz (fun x c e z => ?_) (fun p hp z => ?_) q
   ·obtain ⟨v, o, ho, _⟩ := I3.cell x c e
    exact absurd (Heap.lt_size ho) (by rw [z]; exact Nat.lt_irrefl _)
   ·exact absurd (Heap.lt_size (I3.pin p hp).1) (by rw [z]; exact Nat.lt_irrefl _)
  ·refine thn (T.item X' rfl rfl rfl hc i [] s5 τ H5 X'.xe I5 (fpx fr5) st5 hgo) fun r s6 ⟨u, hr, h6⟩ => ?_
   subst hr
   refine thn h6 fun _ s7 ⟨v, H7, I7, r7, y7, st7, fr7⟩ => ?_
   have I7' := I7.pinned (fpx fr7) (T.obj _ _ st7)
   refine thn (hg _ _ _ _ _ _ _ s7 τ H7 v u _ I7' r7 (step v H7 y7)) fun _ s8 ⟨τ8, H8, I8, q8⟩ => ?_
   refine thn (ht _ _ _ _ _ _ _ s8 τ8 H8 _ I8 q8) fun ok s9 ⟨H9, I9, q9⟩ => ?_
   have again : ∀ {ys' : List V} {H' : Hp} {s' : Shared}, Inv X' ([] ++ pinsAt fp s7.heap) τ8 H' s' → (∃ m', m' < n ∧ W (i + 1) m' τ8 ys' H') → ∃ m, m < n ∧ ∃ i τ ys H'', Inv X' [] τ H'' s' ∧ tn i s'.heap ∧ (∀ b ∈ fp, H'' b = none) ∧ W i m τ ys H'' := fun {ys' H' s'} I' ⟨m', hm, w'⟩ => by
    refine ⟨m', hm, i + 1, τ8, ys', H', I'.unpinned, T.keep _ _ _ st7 fun b hb o e => (I'.pin (b, o) (List.mem_append_right _ (List.mem_append_right _ (mem_pinsAt hb e)))).1, fun b hb => ?_, w'⟩
    obtain ⟨o, e, d⟩ := T.obj _ _ st7 b hb
    exact (I'.pin (b, o) (List.mem_append_right _ (List.mem_append_right _ (mem_pinsAt hb e)))).2.1
   cases ok with
   | false =>
    exact again I9 q9
   | true =>
    refine thn (he _ _ _ _ _ _ _ s9 τ8 H9 _ I9 q9) fun x s10 ⟨y, H10, I10, r10, hD10, hz10, q10⟩ => ?_
    exact append_ok (X := X') I10 hD10 hz10 r10 fun s11 I11 => again I11 q10
 subst hR
 exact codeAny_compStart_list (loop _ rfl) (T.self X.A 0 _ _ _ (T.keep 0 _ _ st3 fun b hb o e => hk4 b o e) (loop _ rfl))
section
variable {X : Cx} {sc : Scope} {TN F : List Str} {ix : List Nat} {elt tg iter : Expr} {ifs : List Expr} {pos : Pos} {g : TG} {tc : TT} {te : TE} {wi : TI}
theorem closure_of (S : CScope X.env.scope sc TN F) {pins : List (Addr × Obj)} {σ : St} {H : Hp} {s : Shared} (I : Inv X pins σ H s) : closureFor sc X.env = pure (cloF X.env sc.names []) :=
 closure_eq fun x hx hk => I.ok.has x.1 (.inl (S.fr x hx hk).1)
theorem pe_comp (S : CScope X.env.scope sc TN F) (hix : ix.map (fun i => X.N[i]?) = F.map some) (hc : X.calm = true) (hi : PI X tg iter wi)
  (hg : ∀ cl C fp s3 H3 xe, PG (cxC X (TN ++ F) sc cl C fp s3 H3 xe) tg g) (ht : ∀ cl C fp s3 H3 xe, PTs (cxC X (TN ++ F) sc cl C fp s3 H3 xe) ifs tc) (he : ∀ cl C fp s3 H3 xe, PE (cxC X (TN ++ F) sc cl C fp s3 H3 xe) elt te)
  (hs : ∀ x, foldedSetIterable iter X.env x = pure x := by intro _; rfl) : PE X (.ListComp elt [⟨tg, iter, ifs, 0⟩] sc pos) (tComp wi TN.length ix g tc te) := by
 intro pins s σ H Q I h
 rw [eval_ListComp]
 refine wpAny_comprehension_free (use := none) rfl hs (closure_of S I) S.kind S.names (thn (hi pins s σ H _ I h) fun v s1 h1 => thn h1 fun itv s2 h2 => ?_)
 obtain ⟨it, fp, tn, J, H2, e, I2, T, st2, f2, q2⟩ := h2
 subst e
 refine comp_block (RR := fun acc C => compPost (model X.prog X.w) X.A X.xe none (EP X pins σ Q) acc C) S hix hc I2 T st2 f2 hg ht he q2 fun D C H' s' I' hn hC1 hC2 hC3 hC4 hC5 q => ?_
 obtain ⟨m, hn⟩ := hn
 exact ⟨m, hn, fun h' hs' => ⟨.ref D, H', I'.turned (t' := s'.toks) (fun b o hb e => (hs'.2 b hb).trans e) hC1 hC2 (.inr hC3) hC4 hC5, rfl, q⟩⟩
theorem ps_setC {i : Nat} {y : Str} {py spos : Pos} (hN : X.N.Nodup) (hiy : X.N[i]? = some y) (hy : X.env.scope.names.lookup y = some .local) (S : CScope X.env.scope sc TN F) (hix : ix.map (fun i => X.N[i]?) = F.map some) (hc : X.calm = true) (hi : PI X tg iter wi)
  (hg : ∀ cl C fp s3 H3 xe, PG (cxC X (TN ++ F) sc cl C fp s3 H3 xe) tg g) (ht : ∀ cl C fp s3 H3 xe, PTs (cxC X (TN ++ F) sc cl C fp s3 H3 xe) ifs tc) (he : ∀ cl C fp s3 H3 xe, PE (cxC X (TN ++ F) sc cl C fp s3 H3 xe) elt te)
  (hsw : swapsWith (.ListComp elt [⟨tg, iter, ifs, 0⟩] sc pos) (some (.Name y py)) spos.line X.env = pure true := by rfl)
  (hs : ∀ x, foldedSetIterable iter X.env x = pure x := by intro _; rfl) : PS X (.Assign [.Name y py] (.ListComp elt [⟨tg, iter, ifs, 0⟩] sc pos) spos) (tAsg (tComp wi TN.length ix g tc te) (gName i)) := by
 intro pins s σ H D I h
 rw [exec_Assign_Name_used _ _ _ _ hsw]; refine wpAny_bind (wpAny_standAt (wpAny_bind ?_))
 show wpAny _ X.A (do let _ ← comprehension (.ListComp elt [⟨tg, iter, ifs, 0⟩] sc pos) sc X.env _ (newList []) false (eval iter X.env) (some (assign (.Name y py) X.env))) _ _ s
 refine wpAny_bind (wpAny_mono (wpAny_comprehension_free (use := some (assign (.Name y py) X.env)) (Q := fun _ s' => SP X pins D .next s') rfl hs (closure_of S I) S.kind S.names
  (thn (hi pins s σ H _ I h) fun v s1 h1 => thn h1 fun itv s2 h2 => ?_)) (fun _ s' hq => wpAny_pure (wpAny_pure hq)) fun _ _ e => e)
 obtain ⟨it, fp, tn, J, H2, e, I2, T, st2, f2, q2⟩ := h2
 subst e
 refine comp_block (RR := fun acc C => compPost (model X.prog X.w) X.A X.xe (some (assign (.Name y py) X.env)) (fun _ s' => SP X pins D .next s') acc C) S hix hc I2 T st2 f2 hg ht he q2 fun Dl C H' s' I' hn hC1 hC2 hC3 hC4 hC5 q => ?_
 obtain ⟨m, hn⟩ := hn
 show wpAny _ X.A (assign (.Name y py) X.env (.ref Dl)) _ _ _
 refine wpAny_assign_Name (store_ok2 I' hN hiy (.inl hy) (show RelV (.ref Dl) (.ref Dl) from rfl) (fun s'' I'' ⟨a, hsb, ha⟩ => ?_) (.inr hy))
 have haC : C ≠ a := by
  rcases ha with z | z
  ·rw [z]; exact hC2
  ·exact fun z' => hC4 y a z z'.symm
 refine ⟨m, hn.sameBut hsb haC, fun h' hs' => ?_⟩
 exact ⟨_, H', I''.turned (t' := s''.toks) (fun b o hb e => (hs'.2 b hb).trans e) hC1 hC2 (.inr hC3) hC4 hC5, q⟩
end
noncomputable def seqAt (H : Hp) (p : Addr) : Option (List V) := match H p with
 | some (.lst xs) => some xs
 | some (.tup xs) => some xs
 | _ => none
noncomputable def dAt (H : Hp) (x y : V) : Option V := match x, y with
 | .ref p, .int i => (seqAt H p).bind fun xs => atI xs i
 | _, _ => none
noncomputable def rIxd : R2 := fun x y H Q => ∃ v, dAt H x y = some v ∧ Q v H
section
variable {X : Cx}
theorem ix_d : IxR X rIxd := by
 intro value slice pins s σ H x y v u Q I rx ry h hs
 refine ix_seq value slice pins s σ H x y v u Q I rx ry ?_ hs
 obtain ⟨z, e, q⟩ := h
 unfold dAt at e
 split at e
 case h_2 => cases e
 case h_1 p i =>
  unfold seqAt at e
  split at e
  case h_1 xs hp => exact .inl ⟨_, xs, _, z, rfl, rfl, SqL.of hp, e, q⟩
  case h_2 xs hp => exact .inr (.inl ⟨_, xs, _, z, rfl, rfl, SqT.of hp, e, q⟩)
  case h_3 => cases e
noncomputable def dSet (H : Hp) (o i v : V) : Option Hp := match o, i with
 | .ref p, .int k => match H p with
  | some (.lst xs) => (ixN xs.length k).map fun j => upd H p (.lst (xs.set j v))
  | _ => none
 | _, _ => none
noncomputable def rSetd : V → V → V → Hp → (Hp → Prop) → Prop := fun o i v H Q => ∃ H', dSet H o i v = some H' ∧ Q H'
theorem set_d : PSet X rSetd := by
 intro pins s σ H o i v ov iv u Q I ro ri rv h
 refine set_list pins s σ H o i v ov iv u Q I ro ri rv ?_
 obtain ⟨H', e, q⟩ := h
 unfold dSet at e
 split at e
 case h_2 => cases e
 case h_1 p k =>
  split at e
  case h_2 => cases e
  case h_1 xs hp =>
   cases ej : ixN xs.length k with
   | none => rw [ej] at e; cases e
   | some j =>
    rw [ej] at e
    cases e
    exact ⟨p, xs, k, j, rfl, rfl, hp, ej, q⟩
end
section
variable {σ : St} {H : Hp} {Q : VK} {D : Ends} {t u : TS} {te ta tb : TE} {tr : TA} {g : TG} {r : R2} {x y v : V} {c : TT} {QB : Bool → Hp → Prop} {QL : List V → Hp → Prop} {QG : St → Hp → Prop} {n : Nat}
theorem w_seq (h : t { D with nx := u D } σ H) : tSeq t u D σ H := h
theorem w_next (h : D.nx σ H) : tNext D σ H := h
theorem w_asg (h : te σ H fun x H1 => g x σ H1 D.nx) : tAsg te g D σ H := h
theorem w_gname {i : Nat} (h : QG (σ.set i (some v)) H) : gName i v σ H QG := h
theorem w_op (h : ta σ H fun x H1 => tb σ H1 fun y H2 => r x y H2 Q) : tOp r ta tb σ H Q := h
theorem w_var {i : Nat} (e : σ[i]? = some (some v)) (h : Q v H) : tVar i σ H Q := ⟨v, e, h⟩
theorem w_c (h : Q v H) : tC v σ H Q := h
theorem w_rI0 {k : Int → Int → V} {i j : Int} (h : Q (k i j) H) : rI0 k (.int i) (.int j) H Q := ⟨i, j, rfl, rfl, h⟩
theorem w_rI {C : Int → Int → Prop} {k : Int → Int → V} {i j : Int} (hc : C i j) (h : Q (k i j) H) : rI C k (.int i) (.int j) H Q := ⟨i, j, rfl, rfl, hc, h⟩
theorem w_ifs {b : TS} (h : c σ H fun b' H1 => if b' = true then t D σ H1 else b D σ H1) : tIfS c t b D σ H := h
theorem w_ife (h : c σ H fun b' H1 => if b' = true then ta σ H1 Q else tb σ H1 Q) : tIf c ta tb σ H Q := h
theorem w_test (h : te σ H fun x H' => ∃ k, x = .bl k ∧ QB k H') : tTest te σ H QB := h
theorem w_tb (h : te σ H fun x H' => ∃ k, x = .bl k ∧ QB k H') : tB te σ H QB := h
theorem w_bl {b : Bool} {P : Bool → Prop} (h : P b) : ∃ k, V.bl b = .bl k ∧ P k := ⟨b, rfl, h⟩
theorem w_not (h : c σ H fun b H1 => QB (!b) H1) : tNot c σ H QB := h
theorem w_ret (h : te σ H D.rt) : tRet te D σ H := h
theorem w_nil (h : QL [] H) : tNil σ H QL := h
theorem w_cons (h : te σ H fun x H1 => tr σ H1 fun xs H2 => QL (x :: xs) H2) : tCons te tr σ H QL := h
theorem w_lst (h : tr σ H fun xs H1 => xs.length ≤ sizeLine ∧ ∀ p, H1 p = none → Q (.ref p) (upd H1 p (.lst xs))) : tLst tr σ H Q := h
theorem w_tup (h : tr σ H fun xs H1 => xs.length ≤ sizeLine ∧ ∀ p, H1 p = none → Q (.ref p) (upd H1 p (.tup xs))) : tTup tr σ H Q := h
theorem w_cb {r : List V → Hp → VK → Prop} (h : tr σ H fun vs H1 => r vs H1 Q) : tCB r tr σ H Q := h
theorem w_call {sp : Sp} {dvs : List V} {E : XK} (h : tr σ H fun vs H1 => sp (vs ++ dvs) H1 Q E) : tCall sp dvs E tr σ H Q := h
theorem w_gsub {to ti : TE} {ts : TSet} (h : to σ H fun o H1 => ti σ H1 fun i H2 => ts o i v H2 fun H3 => QG σ H3) : gSub to ti ts v σ H QG := h
theorem w_ixL {p : Addr} {xs : List V} {i : Int} (hp : H p = some (.lst xs)) (e : atI xs i = some v) (h : Q v H) : rIxd (.ref p) (.int i) H Q := ⟨v, by simp only [dAt, seqAt, hp, Option.bind_some, e], h⟩
theorem w_ixT {p : Addr} {xs : List V} {i : Int} (hp : H p = some (.tup xs)) (e : atI xs i = some v) (h : Q v H) : rIxd (.ref p) (.int i) H Q := ⟨v, by simp only [dAt, seqAt, hp, Option.bind_some, e], h⟩
theorem w_set {p : Addr} {xs : List V} {i : Int} {j : Nat} {QH : Hp → Prop} (hp : H p = some (.lst xs)) (e : ixN xs.length i = some j) (h : QH (upd H p (.lst (xs.set j v)))) : rSetd (.ref p) (.int i) v H QH :=
 ⟨_, by simp only [dSet, hp, e, Option.map_some], h⟩
theorem w_or {c d : TT} (h : c σ H fun b H1 => if b = true then QB true H1 else d σ H1 QB) : tOr c d σ H QB := h
theorem iteD {p A B : Prop} [Decidable p] (h1 : p → A) (h2 : ¬ p → B) : if decide p = true then A else B := by
 by_cases h : p
 ·rw [decide_eq_true h, if_pos rfl]
  exact h1 h
 ·rw [decide_eq_false h, if_neg Bool.false_ne_true]
  exact h2 h
theorem iteDN {p A B : Prop} [Decidable p] (h1 : ¬ p → A) (h2 : p → B) : if (!decide p) = true then A else B := by
 by_cases h : p
 ·rw [decide_eq_true h]
  exact iteF (h2 h)
 ·rw [decide_eq_false h]
  exact iteT (h1 h)
end
noncomputable def Has (P : Program) (w : World) (K : PySem.W.Frag) (mg : Str → Option Value) (base : Heap) (k : Nat) (x : Str) (ps : List Str) (sp : Sp) : Prop :=
 ∃ f fd, FnOk P w K mg base CX0 k f fd ps sp ∧ mg x = some (.ref f) ∧ PySem.W.keepIn K (.ref f) = true ∧ Binds K fd ps []
theorem pe_fn {X : Cx} {k j : Nat} {x : Str} {ps : List Str} {sp : Sp} {e : Expr} {es : List Expr} {t : TA} {p pos : Pos} (h : Has X.prog X.w X.K X.mg X.base k x ps sp) (hr : Room j X.A) (hkj : k ≤ j) (ha : PA X (e :: es) t) (hg : Gl X x := by rfl)
  (hdb : (x == ("__debug__" : Str)) = false := by decide) (he : starEach (e :: es) X.env = (false, eval e X.env) :: starEach es X.env := by rfl) (hpl : (backTo pos (starEach es X.env)).any (·.1) = false := by rfl) :
  PE X (.Call (.Name x p) (e :: es) [] pos) (tCall sp [] E0 t) := by
 obtain ⟨f, fd, F, hm, hk, hb⟩ := h
 exact pe_call F (hr.mono hkj) hg hm hk hb .nil pass0 ha hdb he hpl
section
variable {lo : Int} {n : Nat} {D : Addr} {te : TE} {tc : TT} {Q : VK} {ρ : St} {H : Hp}
theorem cgo_range (Pv : Nat → List V → Hp → Prop) (h0 : Pv 0 [] (upd H D (.lst [])))
  (hs : ∀ i ys H', i < n → Pv i ys H' → H' D = some (.lst ys) → ∀ (R : V → Hp → Prop) (S : Hp → Prop), (∀ y H4, H4 D = some (.lst ys) → ys.length < sizeLine → Pv (i + 1) (ys ++ [y]) (upd H4 D (.lst (ys ++ [y]))) → R y H4) → (∀ H3, H3 D = some (.lst ys) → Pv (i + 1) ys H3 → S H3) →
   tc (some (.int (lo + i)) :: ρ) H' fun b H3 => if b = true then te (some (.int (lo + i)) :: ρ) H3 R else S H3)
  (hd : ∀ ys H', Pv n ys H' → H' D = some (.lst ys) → Q (.ref D) H') : CGo (Itr lo n) D (gName 0) tc te Q (none :: ρ) H := by
 refine ⟨fun i m τ ys H' => m = n - i ∧ i ≤ n ∧ (∃ tv, τ = tv :: ρ) ∧ Pv i ys H' ∧ H' D = some (.lst ys), ⟨n, by omega, Nat.zero_le _, ⟨_, rfl⟩, h0, upd_same⟩, ?_⟩
 rintro i m τ ys H' ⟨rfl, hi, ⟨tv, rfl⟩, hp, hD⟩
 refine ⟨hD, ?_⟩
 by_cases hlt : i < n
 ·refine .inr ⟨hlt, ?_⟩
  rintro v H'' ⟨rfl, rfl⟩
  show tc (some (.int (lo + i)) :: ρ) _ _
  exact hs i ys _ hlt hp hD _ _ (fun y H4 a b c => ⟨a, b, n - (i + 1), by omega, rfl, hlt, ⟨_, rfl⟩, c, upd_same⟩) fun H3 a c => ⟨n - (i + 1), by omega, rfl, hlt, ⟨_, rfl⟩, c, a⟩
 ·have e : i = n := by omega
  subst e
  exact .inl ⟨Nat.le_refl _, hd ys _ hp hD⟩
theorem cgo_tup {K : PySem.W.Frag} {a : Addr} {xs : List V} (Pv : Nat → List V → Hp → Prop) (h0 : Pv 0 [] (upd H D (.lst []))) (hl : ∀ i ys H', i ≤ xs.length → Pv i ys H' → SqT K H' a xs)
  (hs : ∀ i x ys H', xs[i]? = some x → Pv i ys H' → H' D = some (.lst ys) → ∀ (R : V → Hp → Prop) (S : Hp → Prop), (∀ y H4, H4 D = some (.lst ys) → ys.length < sizeLine → Pv (i + 1) (ys ++ [y]) (upd H4 D (.lst (ys ++ [y]))) → R y H4) → (∀ H3, H3 D = some (.lst ys) → Pv (i + 1) ys H3 → S H3) →
   tc (some x :: ρ) H' fun b H3 => if b = true then te (some x :: ρ) H3 R else S H3)
  (hd : ∀ ys H', Pv xs.length ys H' → H' D = some (.lst ys) → Q (.ref D) H') : CGo (Itt K a) D (gName 0) tc te Q (none :: ρ) H := by
 refine ⟨fun i m τ ys H' => m = xs.length - i ∧ i ≤ xs.length ∧ (∃ tv, τ = tv :: ρ) ∧ Pv i ys H' ∧ H' D = some (.lst ys), ⟨xs.length, by omega, Nat.zero_le _, ⟨_, rfl⟩, h0, upd_same⟩, ?_⟩
 rintro i m τ ys H' ⟨rfl, hi, ⟨tv, rfl⟩, hp, hD⟩
 refine ⟨hD, ?_⟩
 have sq := hl i ys H' hi hp
 by_cases hlt : i < xs.length
 ·refine .inr ⟨⟨xs, xs[i], sq, by simp [hlt]⟩, ?_⟩
  rintro v H'' ⟨rfl, hv⟩
  have hv' := hv xs sq
  show tc (some v :: ρ) _ _
  exact hs i v ys _ hv' hp hD _ _ (fun y H4 a b c => ⟨a, b, xs.length - (i + 1), by omega, rfl, hlt, ⟨_, rfl⟩, c, upd_same⟩) fun H3 a c => ⟨xs.length - (i + 1), by omega, rfl, hlt, ⟨_, rfl⟩, c, a⟩
 ·have e : i = xs.length := by omega
  subst e
  exact .inl ⟨⟨xs, sq, Nat.le_refl _⟩, hd ys _ hp hD⟩
end
theorem w_all {σ : St} {H : Hp} {Q : Bool → Hp → Prop} (h : Q true H) : tAll σ H Q := h
noncomputable def relabelS (sc o : Scope) : Scope :=
 { sc with names := sc.names.map fun (n, k) => if (k == .free && o.kind == .function && o.names.lookup n == some .cell) then (n, .cell) else (n, k) }
instance {sc : Scope} {x : Str} : Decidable (Vis sc x) := by unfold Vis; infer_instance
structure BScope (o sc : Scope) (TN F G : List Str) : Prop extends CScope o sc TN F where
 nd : (TN ++ F).Nodup
 vis : ∀ x ∈ TN ++ F, Vis (relabelS sc o) x
 loc : ∀ x ∈ TN, (relabelS sc o).names.lookup x = some .local
 gl : ∀ x ∈ G, (relabelS sc o).names.lookup x = some .globalImplicit
section
variable {X : Cx} {sc : Scope} {TN F G : List Str} {cl : List (Str × Addr)} {C : Addr} {fp : List Addr} {s3 : Shared} {H3 : Hp} {xe : Value → Shared → Prop} {x : Str} {pos : Pos}
theorem pvb (S : BScope X.env.scope sc TN F G) (i : Nat) (hN : (TN ++ F)[i]? = some x := by rfl) (hd : (x == ("__debug__" : Str)) = false := by decide) (hcd : (x == ("__classdict__" : Str)) = false := by decide) : PE (cxC X (TN ++ F) sc cl C fp s3 H3 xe) (.Name x pos) (tVar i) :=
 pe_var hN (S.vis x (List.mem_of_getElem? hN)) hd hcd
theorem pgb (S : BScope X.env.scope sc TN F G) (i : Nat) (hN : (TN ++ F)[i]? = some x := by rfl) (hT : TN[i]? = some x := by rfl) : PG (cxC X (TN ++ F) sc cl C fp s3 H3 xe) (.Name x pos) (gName i) :=
 pg_name S.nd hN (.inl (S.loc x (List.mem_of_getElem? hT))) (.inr (S.loc x (List.mem_of_getElem? hT)))
theorem BScope.g (S : BScope X.env.scope sc TN F G) (i : Nat) (hG : G[i]? = some x := by rfl) : Gl (cxC X (TN ++ F) sc cl C fp s3 H3 xe) x := S.gl x (List.mem_of_getElem? hG)
end
noncomputable def constV : Expr → Option V
 | .Constant (.int n) _ _ => some (.int n)
 | .Constant (.str y) _ _ => some (.str y)
 | .Constant (.bool b) _ _ => some (.bl b)
 | .Constant .none _ _ => some .non
 | _ => none
noncomputable def constsOf : List Expr → Option (List V)
 | [] => some []
 | e :: r => match constV e, constsOf r with
  | some v, some vs => some (v :: vs)
  | _, _ => none
noncomputable def tVals (vs : List V) : TA := fun _ H Q => Q vs H
theorem pa_consts {X : Cx} : ∀ {es : List Expr} {vs : List V}, constsOf es = some vs → PA X es (tVals vs)
 | [], vs, h => by
  cases h
  exact pa_nil
 | e :: r, vs, h => by
  unfold constsOf at h
  split at h
  case h_2 => cases h
  case h_1 v vs' h1 h2 =>
   cases h
   have ih := pa_consts (X := X) h2
   have go : ∀ {te : TE}, PE X e te → (starEach (e :: r) X.env = (false, eval e X.env) :: starEach r X.env) → (∀ σ H Q, Q v H → te σ H Q) → PA X (e :: r) (tVals (v :: vs')) := fun {te} he hs hq => by
    have q := pa_cons he ih hs
    intro pos pins s σ H Q I hh
    exact q pos pins s σ H Q I (hq σ H _ hh)
   unfold constV at h1
   split at h1
   case h_1 => cases h1; exact go pe_int rfl fun _ _ _ h => h
   case h_2 => cases h1; exact go pe_str rfl fun _ _ _ h => h
   case h_3 => cases h1; exact go pe_bl rfl fun _ _ _ h => h
   case h_4 => cases h1; exact go pe_non rfl fun _ _ _ h => h
   case h_5 => cases h1
theorem pe_lstC {X : Cx} {es : List Expr} {pos : Pos} {vs : List V} (h : constsOf es = some vs) : PE X (.List es pos) (tLst (tVals vs)) := pe_lst (pa_consts h)
theorem w_vals {vs : List V} {σ : St} {H : Hp} {Q : List V → Hp → Prop} (h : Q vs H) : tVals vs σ H Q := h
instance {sc : Scope} {x : Str} : Decidable (Loc sc x) := by unfold Loc; infer_instance
structure Nm (N : List Str) (sc : Scope) : Prop where
 nd : N.Nodup
 loc : ∀ x ∈ N, Loc sc x
section
variable {X : Cx} {x : Str} {pos : Pos}
theorem Loc.vis {sc : Scope} (h : Loc sc x) : Vis sc x := h.elim .inl fun z => .inr (.inl z)
theorem pvd (M : Nm X.N X.env.scope) (i : Nat) (hN : X.N[i]? = some x := by rfl) (hd : (x == ("__debug__" : Str)) = false := by decide) (hcd : (x == ("__classdict__" : Str)) = false := by decide) : PE X (.Name x pos) (tVar i) :=
 pe_var hN (M.loc x (List.mem_of_getElem? hN)).vis hd hcd
theorem ps_setD {e : Expr} {te : TE} {pos' : Pos} (M : Nm X.N X.env.scope) (i : Nat) (he : PE X e te) (hi : X.N[i]? = some x := by rfl) (hs : swapsWith e (some (.Name x pos')) pos.line X.env = pure false := by rfl) (hf : X.fn x = true := by rfl) :
  PS X (.Assign [.Name x pos'] e pos) (tAsg te (gName i)) := ps_set M.nd hi (M.loc x (List.mem_of_getElem? hi)) he hs (.inl hf)
theorem pgd (M : Nm X.N X.env.scope) (i : Nat) (hi : X.N[i]? = some x := by rfl) (hf : X.fn x = true := by rfl) : PG X (.Name x pos) (gName i) := pg_name M.nd hi (M.loc x (List.mem_of_getElem? hi)) (.inl hf)
end
section
variable {X : Cx} {l rest : List Stmt} {st : Stmt} {t u : TS} {e e' : Expr} {te : TE}
end
section
variable {ta : TA} {tl : TE} {n : Nat} {ix : List Nat} {g : TG} {tc : TT} {te : TE} {σ : St} {H : Hp} {Q : VK}
theorem w_compR (h : ta σ H fun vs H1 => ∃ j : Int, vs = [.int j] ∧ -(2 ^ 62) ≤ j ∧ j < 2 ^ 62 ∧ ∀ D, H1 D = none → CGo (Itr 0 j.toNat) D g tc te Q (List.replicate n none ++ sub ix σ) H1) : tComp (iRng1 ta) n ix g tc te σ H Q := h
theorem w_compT {K : PySem.W.Frag} (h : tl σ H fun x H1 => ∃ a, x = .ref a ∧ (∃ xs, SqT K H1 a xs) ∧ ∀ D, H1 D = none → CGo (Itt K a) D g tc te Q (List.replicate n none ++ sub ix σ) H1) : tComp (iTup K tl) n ix g tc te σ H Q := h
end
noncomputable def ForJ (J : It) (g : TG) (tb : TS) (D : Ends) (σ : St) (H1 : Hp) : Prop := ∃ W : Nat → Nat → St → Hp → Prop, (∃ m, W 0 m σ H1) ∧ ∀ i m σ H, W i m σ H →
 (J.stop i H ∧ D.nx σ H) ∨ (J.go i H ∧ ∃ N : St → Hp → Prop, (∀ σ' H', N σ' H' → ∃ m', m' < m ∧ W (i + 1) m' σ' H') ∧ ∀ x H', J.yld i H x H' → g x σ H' fun σ2 H2 => tb { D with nx := N, ct := N, bk := D.nx } σ2 H2)
theorem w_forR {ta : TA} {g : TG} {tb : TS} {D : Ends} {σ : St} {H : Hp} (h : ta σ H fun vs H1 => ∃ j : Int, vs = [.int j] ∧ -(2 ^ 62) ≤ j ∧ j < 2 ^ 62 ∧ ForJ (Itr 0 j.toNat) g tb D σ H1) : tFor (iRng1 ta) g tb D σ H := h
theorem w_forT {K : PySem.W.Frag} {tl : TE} {g : TG} {tb : TS} {D : Ends} {σ : St} {H : Hp} (h : tl σ H fun x H1 => ∃ a, x = .ref a ∧ (∃ xs, SqT K H1 a xs) ∧ ForJ (Itt K a) g tb D σ H1) : tFor (iTup K tl) g tb D σ H := h
theorem w_forL {K : PySem.W.Frag} {tl : TE} {g : TG} {tb : TS} {D : Ends} {σ : St} {H : Hp} (h : tl σ H fun x H1 => ∃ a, x = .ref a ∧ (∃ xs, SqL K H1 a xs) ∧ ForJ (Itl K a) g tb D σ H1) : tFor (iList K tl) g tb D σ H := h
noncomputable def isStar : Expr → Bool
 | .Starred .. => true
 | _ => false
theorem star1 {e : Expr} {es : List Expr} {env : Env} (h : isStar e = false) : starEach (e :: es) env = (false, eval e env) :: starEach es env := by
 cases e <;> first | rfl | cases h
theorem star_any {env : Env} {pos : Pos} : ∀ {es : List Expr}, es.all (fun e => !isStar e) = true → (backTo pos (starEach es env)).any (·.1) = false
 | [], _ => rfl
 | e :: es, h => by
  rw [List.all_cons, Bool.and_eq_true] at h; rw [star1 (by simpa using h.1)]
  cases es with
  | nil => rfl
  | cons a r =>
   have ih := star_any (env := env) (pos := pos) (es := a :: r) h.2
   rw [star1 (by simpa using (by simpa using h.2 : isStar a = false ∧ _).1)] at ih ⊢
   exact ih
section
variable {X : Cx} {e a : Expr} {es : List Expr} {te : TE} {t ta : TA} {x : Str} {p pos : Pos} {tg : Expr} {id T : String} {r : List V → Hp → VK → Prop}
theorem pa_c (ha : PE X e te) (hr : PA X es t) (h : isStar e = false := by rfl) : PA X (e :: es) (tCons te t) := pa_cons ha hr (star1 h)
theorem pi_r1 (hm : X.mg "range" = none) (ha : PA X [a] ta) (hg : Gl X "range" := by rfl) (h : isStar a = false := by rfl) : PI X tg (.Call (.Name "range" p) [a] [] pos) (iRng1 ta) := pi_range1 hg hm ha (star1 h)
theorem pe_cB (hc : CallR X (.builtin id) r) (hm : X.mg x = none) (hv : bootBuiltins x = some (.builtin id)) (ha : PA X (e :: es) t) (hg : Gl X x := by rfl) (h : isStar e = false := by rfl) (h2 : es.all (fun e => !isStar e) = true := by rfl) (hn : x ≠ "__name__" := by decide) (hdb : (x == ("__debug__" : Str)) = false := by decide) :
  PE X (.Call (.Name x p) (e :: es) [] pos) (tCB r t) := pe_callB hc hg hm hv ha hn hdb (star1 h) (star_any h2)
theorem pe_cT (hc : CallR X (.type T) r) (hm : X.mg x = none) (hv : bootBuiltins x = some (.type T)) (ha : PA X (e :: es) t) (hg : Gl X x := by rfl) (h : isStar e = false := by rfl) (h2 : es.all (fun e => !isStar e) = true := by rfl) (hn : x ≠ "__name__" := by decide) (hdb : (x == ("__debug__" : Str)) = false := by decide) :
  PE X (.Call (.Name x p) (e :: es) [] pos) (tCB r t) := pe_callTy hc hg hm hv ha hn hdb (star1 h) (star_any h2)
theorem pe_f {k j : Nat} {ps : List Str} {sp : Sp} (h : Has X.prog X.w X.K X.mg X.base k x ps sp) (hr : Room j X.A) (hkj : k ≤ j) (ha : PA X (e :: es) t) (hg : Gl X x := by rfl) (h1 : isStar e = false := by rfl) (h2 : es.all (fun e => !isStar e) = true := by rfl)
  (hdb : (x == ("__debug__" : Str)) = false := by decide) : PE X (.Call (.Name x p) (e :: es) [] pos) (tCall sp [] E0 t) := pe_fn h hr hkj ha hg hdb (star1 h1) (star_any h2)
end
end L2
namespace L2
theorem pa_1 {X : Cx} {e : PySem.Expr} {te : TE} (ha : PE X e te) (h : isStar e = false := by rfl) : PA X [e] (tCons te tNil) := pa_c ha pa_nil h
theorem pa_2 {X : Cx} {e e' : PySem.Expr} {te te' : TE} (ha : PE X e te) (hb : PE X e' te') (h : isStar e = false := by rfl) (h' : isStar e' = false := by rfl) : PA X [e, e'] (tCons te (tCons te' tNil)) := pa_c ha (pa_1 hb h') h
end L2
namespace L2
open PySem PySem.Spec PyProof.Rows
theorem w_drop {te : TE} {D : Ends} {σ : St} {H : Hp} (h : te σ H fun _ H1 => D.nx σ H1) : tDrop te D σ H := h
theorem w_bm {K : PySem.W.Frag} {T : String} {r : V → List V → Hp → VK → Prop} {to : TE} {t : TA} {σ : St} {H : Hp} {Q : VK} (h : to σ H fun x H1 => tyV K T x H1 ∧ t σ H1 fun xs H2 => r x xs H2 Q) : tBM K T r to t σ H Q := h
end L2
namespace K93
open PySem L2
local macro_rules | `(tactic| walk_at "v") => `(tactic| repeat (with_reducible first
  | refine w_seq ?_ | refine w_asg ?_ | refine w_gname ?_ | refine w_op ?_ | refine w_var rfl ?_ | refine w_c ?_ | refine w_rI0 ?_ | refine w_ifs ?_ | refine w_ife ?_ | refine w_test ?_ | refine w_tb ?_ | refine w_bl ?_ | refine w_not ?_ | refine w_ret ?_ | refine w_retN ?_
  | refine w_nil ?_ | refine w_cons ?_ | refine w_lst ?_ | refine w_tup ?_ | refine w_cb ?_ | refine w_call ?_ | refine w_gsub ?_ | refine w_and ?_ | refine w_or ?_ | refine w_next ?_ | refine w_all ?_ | refine w_vals ?_ | refine w_compR ?_ | refine w_compT ?_ | refine w_forR ?_ | refine w_forT ?_ | refine w_forL ?_ | refine w_drop ?_ | refine w_bm ?_ | refine iteT ?_ | refine iteF ?_))
noncomputable def top (i : Nat) : Stmt := PySem.Challenge.pw_dropsums_k93_whole_what_stays_for_all.main.body.getD i (.Pass ⟨0, 0, 0, 0⟩)
noncomputable abbrev sFeed : Stmt := top 29
noncomputable abbrev sDraw : Stmt := top 30
noncomputable def FeedAt (H : Hp) (p : Addr) : Prop := ∃ a b c : Int, H p = some (.lst [.int a, .int b, .int c])
theorem FeedAt.here {H : Hp} {p : Addr} {x y z : Int} : FeedAt (upd H p (.lst [.int x, .int y, .int z])) p := ⟨x, y, z, upd_same⟩
noncomputable def spFeed (K : PySem.W.Frag) : Sp := fun vs H Q _ => ∃ (a : Addr) (ns : List Int) (k : Nat), vs = [.ref a, .int k] ∧ SqL K H a (ns.map V.int) ∧ ns.length ≤ 63 ∧ ∀ p x y z, H p = none → Q (.ref p) (upd H p (.lst [.int x, .int y, .int z]))
noncomputable def spDraw : Sp := fun vs H Q _ => ∃ (p : Addr) (m : Int), vs = [.ref p, .int m] ∧ FeedAt H p ∧ 0 < m ∧ m < 1000000 ∧ ∀ (r x y z : Int), 0 ≤ r → r < m → Q (.int r) (upd H p (.lst [.int x, .int y, .int z]))
theorem md {i j : Int} (h : 0 < j) : 0 ≤ i % j ∧ i % j < j := ⟨Int.emod_nonneg _ (Int.ne_of_gt h), Int.emod_lt_of_pos _ h⟩
theorem mulL {i j : Int} (h1 : 0 ≤ i) (h2 : i < 4000000000) : CMul i j := .inl ⟨by omega, by omega⟩
section
variable {P : Program} {w : World} {K : PySem.W.Frag} {mg : Str → Option Value} {base : Heap}
theorem scDraw : FnScope ["_law_feed_here", "_law_many", "_law_found", "_law_mixed"] ["_law_feed_here", "_law_many"] (defScope sDraw) := ⟨rfl, rfl, rfl, by decide +kernel, rfl, by decide +kernel, by decide +kernel⟩
theorem ok_draw {f : Addr} {fd : FuncData} (F : Fun K "_law_draw" "_law_draw" sDraw f fd) : FnOk P w K mg base CX0 1 f fd ["_law_feed_here", "_law_many"] spDraw := by
 refine F.ok scDraw (fun vs H Q E h => ?_) (fun cdv A outer s H vs Q E hr h => ?_)
 ·obtain ⟨p, m, rfl, _⟩ := h
  rfl
 ·obtain ⟨p, m, rfl, ⟨a, b, c, hp⟩, hm, hm2, k⟩ := h
  refine ⟨_, pss_cons (ps_asg (pe_op op_add (pe_ix ix_d (pv 0) pe_int (fun _ _ => rfl)) pe_int) (pg_sub (pv 0) pe_int set_d))
   (pss_cons (ps_if (pt_cmpR op_gt (pe_ix ix_d (pv 0) pe_int (fun _ _ => rfl)) pe_int (nomark _))
    (pss_cons (ps_set (i := 2) scDraw.nd rfl (Or.inl rfl) (pe_op op_mod (pe_ix ix_d (pv 0) pe_int (fun _ _ => rfl)) (pv 1)))
    (pss_cons (ps_asg (pe_op op_fdiv (pe_ix ix_d (pv 0) pe_int (fun _ _ => rfl)) (pv 1)) (pg_sub (pv 0) pe_int set_d))
    (pss_one (ps_ret (pv 2))))) pss_nil)
   (pss_cons (ps_set (i := 3) scDraw.nd rfl (Or.inl rfl) (pe_op op_mod (pe_op op_mul (pe_op op_mod (pe_op op_add (pe_ix ix_d (pv 0) pe_int (fun _ _ => rfl)) (pe_op op_mul pe_int (pe_ix ix_d (pv 0) pe_int (fun _ _ => rfl)))) pe_int) pe_int) pe_int))
   (pss_cons (ps_set (i := 3) scDraw.nd rfl (Or.inl rfl) (pe_op op_mod (pe_op op_mul (pv 3) (pe_op op_add (pv 3) pe_int)) pe_int))
   (pss_one (ps_ret (pe_op op_mod (pe_op op_fdiv (pe_op op_mod (pe_op op_mul (pv 3) pe_int) pe_int) pe_int) (pv 1))))))), ?_⟩
  walk_at "v"
  refine w_ixL hp rfl ?_
  walk_at "v"
  refine w_set hp rfl ?_
  walk_at "v"
  refine w_ixL upd_same rfl ?_
  walk_at "v"
  refine iteD (fun _ => ?_) (fun _ => ?_)
  ·walk_at "v"
   refine w_ixL upd_same rfl ?_
   walk_at "v"
   refine w_rI hm ?_
   walk_at "v"
   refine w_ixL upd_same rfl ?_
   walk_at "v"
   refine w_rI ⟨hm, by omega⟩ ?_
   walk_at "v"
   refine w_set upd_same rfl ?_
   walk_at "v"
   rw [upd_upd]
   exact k _ _ _ _ (md hm).1 (md hm).2
  ·walk_at "v"
   refine w_ixL upd_same rfl ?_
   walk_at "v"
   refine w_ixL upd_same rfl ?_
   refine w_rI (mulL (by decide) (by decide)) ?_
   walk_at "v"
   refine w_rI (by decide) ?_
   walk_at "v"
   refine w_rI (mulL (md (by decide)).1 (by have := (md (i := b + 40692 * (c + 1)) (j := 2147483399) (by decide)).2; omega)) ?_
   walk_at "v"
   refine w_rI (by decide) ?_
   generalize hx : (b + 40692 * (c + 1)) % 2147483399 * 48271 % 2147483647 = x
   have h1 := md (i := (b + 40692 * (c + 1)) % 2147483399 * 48271) (j := 2147483647) (by decide)
   rw [hx] at h1
   walk_at "v"
   refine w_rI (mulL h1.1 (by omega)) ?_
   walk_at "v"
   refine w_rI (by decide) ?_
   generalize hy : x * (x + 7919) % 2147483587 = y
   have h2 := md (i := x * (x + 7919)) (j := 2147483587) (by decide)
   rw [hy] at h2
   walk_at "v"
   refine w_rI (mulL h2.1 (by omega)) ?_
   walk_at "v"
   refine w_rI (by decide) ?_
   walk_at "v"
   refine w_rI ⟨by decide, by decide⟩ ?_
   walk_at "v"
   refine w_rI hm ?_
   exact k _ _ _ _ (md hm).1 (md hm).2
theorem scFeed : FnScope ["_law_script", "_law_k", "_law_cell", "_law_left"] ["_law_script", "_law_k"] (defScope sFeed) := ⟨rfl, rfl, rfl, by decide +kernel, rfl, by decide +kernel, by decide +kernel⟩
theorem ok_feed {f : Addr} {fd : FuncData} (hlen : mg "len" = none) (F : Fun K "_law_feed" "_law_feed" sFeed f fd) : FnOk P w K mg base CX0 1 f fd ["_law_script", "_law_k"] (spFeed K) := by
 refine F.ok scFeed (fun vs H Q E h => ?_) (fun cdv A outer s H vs Q E hr h => ?_)
 ·obtain ⟨a, ns, k, rfl, _⟩ := h
  rfl
 ·obtain ⟨a, ns, k, rfl, hS, hl, q⟩ := h
  refine ⟨_, pss_cons (ps_set (i := 2) scFeed.nd rfl (Or.inl rfl) (pe_op op_add (pe_op op_mul pe_int (pv 1)) pe_int))
   (pss_cons (ps_if (pt_cmpR op_gt (pe_callB call_len_seq (by rfl) hlen PySem.boot_len (pa_cons (pv 0) pa_nil)) pe_int (nomark _))
    (pss_one (ps_set (i := 2) scFeed.nd rfl (Or.inl rfl) (pe_op op_add (pe_ix ix_list (pv 0) (pe_op op_mod (pv 1) (pe_callB call_len_seq (by rfl) hlen PySem.boot_len (pa_cons (pv 0) pa_nil))) (fun _ _ => rfl))
     (pe_op op_mul pe_int (pe_op op_fdiv (pv 1) (pe_callB call_len_seq (by rfl) hlen PySem.boot_len (pa_cons (pv 0) pa_nil)))))))
    pss_nil)
   (pss_cons (ps_set (i := 3) scFeed.nd rfl (Or.inl rfl) (pe_ifExp (pt_cmpR op_ge (pv 2) (pe_op op_pow pe_int pe_int) (nomark _)) (pv 2) pe_int))
   (pss_one (ps_ret (pe_lst (pa_cons (pv 3) (pa_cons (pe_op op_add (pe_op op_add (pe_op op_mod (pv 2) pe_int) (pe_op op_mul pe_int (pv 1))) pe_int) (pa_cons pe_int pa_nil)))))))), ?_⟩
  walk_at "v"
  refine w_rI (mulL (by decide) (by decide)) ?_
  walk_at "v"
  refine ⟨a, _, rfl, .inl hS, ?_⟩
  walk_at "v"
  refine iteD (fun h0 => ?_) (fun _ => ?_)
  ·walk_at "v"
   refine ⟨a, _, rfl, .inl hS, ?_⟩
   rw [List.length_map] at h0 ⊢
   have h0' : 0 < ns.length := by omega
   refine w_rI h0 ?_
   obtain ⟨j, hj⟩ : ∃ j : Nat, (k : Int) % (ns.length : Int) = (j : Int) := ⟨k % ns.length, by omega⟩
   have hjl : j < ns.length := by
    have := (md (i := (k : Int)) h0).2
    omega
   refine ⟨a, _, _, .int ns[j], rfl, rfl, hS, ?_, ?_⟩
   ·rw [hj]
    exact atI_nat (by simp [hjl])
   ·walk_at "v"
    refine ⟨a, _, rfl, .inl hS, ?_⟩
    rw [List.length_map]
    refine w_rI ⟨h0, by omega⟩ ?_
    refine w_rI (mulL (by decide) (by decide)) ?_
    walk_at "v"
    refine w_rI ⟨by decide, by decide, by decide⟩ ?_
    walk_at "v"
    refine iteD (fun _ => ?_) (fun _ => ?_)
    all_goals
     walk_at "v"
     refine w_rI (by decide) ?_
     walk_at "v"
     refine w_rI (mulL (by decide) (by decide)) ?_
     walk_at "v"
     exact ⟨by show 3 ≤ sizeLine; decide, fun p hp => q p _ _ _ hp⟩
  ·walk_at "v"
   refine w_rI ⟨by decide, by decide, by decide⟩ ?_
   walk_at "v"
   refine iteD (fun _ => ?_) (fun _ => ?_)
   all_goals
    walk_at "v"
    refine w_rI (by decide) ?_
    walk_at "v"
    refine w_rI (mulL (by decide) (by decide)) ?_
    walk_at "v"
    exact ⟨by show 3 ≤ sizeLine; decide, fun p hp => q p _ _ _ hp⟩
end
noncomputable abbrev sNames : Stmt := top 31
noncomputable def names12 : List Str := ["a", "ab", "abc", "insort", "outer", "ruler", "tone", "begins", "sort", "b", "zzzzzzzz", "x"]
noncomputable def nmOf (st sp k : Nat) : Str := names12.getD ((st + sp * k) % 12) ""
noncomputable def But (p : Addr) (H H' : Hp) : Prop := ∀ q o, H q = some o → q ≠ p → H' q = some o
theorem But.refl {p : Addr} {H : Hp} : But p H H := fun _ _ h _ => h
theorem But.new {p a : Addr} {H H' : Hp} {o : HO} (b : But p H H') (h : H' a = none) : But p H (upd H' a o) := fun q u e hq => by
 have e' := b q u e hq
 rw [upd_ne (ne_of_none e' h)]
 exact e'
theorem But.at {p : Addr} {H H' : Hp} {o : HO} (b : But p H H') : But p H (upd H' p o) := fun q u e hq => by
 rw [upd_ne hq]
 exact b q u e hq
theorem But.put {p a : Addr} {H H' : Hp} {o : HO} (b : But p H H') (h : H a = none) : But p H (upd H' a o) := fun q u e hq => by
 rw [upd_ne (ne_of_none e h)]
 exact b q u e hq
theorem But.trans {p : Addr} {H H1 H2 : Hp} (a : But p H H1) (b : But p H1 H2) : But p H H2 := fun q o e hq => b q o (a q o e hq) hq
theorem But.free {p a : Addr} {H H' : Hp} (b : But p H H') (hp : p ≠ a) (h : H' a = none) : H a = none := by
 cases e : H a with
 | none => rfl
 | some o => rw [b a o e (Ne.symm hp)] at h; cases h
theorem FeedAt.ne {H : Hp} {p a : Addr} (F : FeedAt H p) (h : H a = none) : p ≠ a := by
 obtain ⟨x, y, z, e⟩ := F
 exact ne_of_none e h
theorem FeedAt.new {H : Hp} {p a : Addr} {o : HO} (F : FeedAt H p) (h : p ≠ a) : FeedAt (upd H a o) p := by
 obtain ⟨x, y, z, e⟩ := F
 exact ⟨x, y, z, by rw [upd_ne h]; exact e⟩
theorem Nat.ofI {r : Int} (h : 0 ≤ r) : ∃ n : Nat, r = (n : Int) := ⟨r.toNat, by omega⟩
noncomputable def Names (m : Nat) (nm : List Str) : Prop := nm.length = m ∧ nm.Nodup
theorem ix_ok : ∀ st < 12, ∀ sp ∈ [1, 5, 7, 11], ∀ m < 9, ((List.range m).map fun k => (st + sp * k) % 12).Nodup := by decide +kernel
theorem names12_nd : names12.Nodup := by decide +kernel
theorem names_ok {st sp m : Nat} (h1 : st < 12) (h2 : sp ∈ [1, 5, 7, 11]) (h3 : m < 9) : ((List.range m).map (nmOf st sp)).Nodup := by
 have h := ix_ok st h1 sp h2 m h3
 have e : (List.range m).map (nmOf st sp) = ((List.range m).map fun k => (st + sp * k) % 12).map fun j => names12.getD j "" := by
  rw [List.map_map]
  rfl
 rw [e]
 refine List.Pairwise.map _ (R := fun a b => a ≠ b ∧ a < 12 ∧ b < 12) (fun a b ⟨hab, ha, hb⟩ hc => ?_) ?_
 ·have hl : names12.length = 12 := rfl
  simp only [List.getD_eq_getElem?_getD, List.getElem?_eq_getElem (show a < names12.length by omega), List.getElem?_eq_getElem (show b < names12.length by omega), Option.getD_some] at hc
  exact hab ((List.getElem_inj names12_nd).mp hc)
 ·refine List.Pairwise.imp_of_mem (R := fun a b => a ≠ b) (fun {a b} ha hb hab => ⟨hab, ?_, ?_⟩) h
  ·obtain ⟨k, _, rfl⟩ := List.mem_map.mp ha
   omega
  ·obtain ⟨k, _, rfl⟩ := List.mem_map.mp hb
   omega
noncomputable def spNames : Sp := fun vs H Q _ => ∃ (p : Addr) (m : Nat), vs = [.ref p, .int m] ∧ FeedAt H p ∧ 0 < m ∧ m ≤ 8 ∧ ∀ (l : Addr) (nm : List Str) (H' : Hp), H l = none → Names m nm → FeedAt H' p → But p H H' → H' l = some (.lst (nm.map V.str)) → Q (.ref l) H'
section
variable {P : Program} {w : World} {K : PySem.W.Frag} {mg : Str → Option Value} {base : Heap}
noncomputable abbrev nNames : List Str := ["_law_feed_here", "_law_many", "_law_some_here", "_law_start", "_law_step"]
theorem nmNames : Nm nNames (defScope sNames) := ⟨by decide +kernel, by decide +kernel⟩
theorem scNames : FnScope nNames ["_law_feed_here", "_law_many"] (defScope sNames) := ⟨rfl, rfl, rfl, by decide +kernel, rfl, by decide +kernel, by decide +kernel⟩
noncomputable def retComp (s : Stmt) : Scope := match s with
 | .Return (some (.ListComp _ _ sc _)) _ => sc
 | _ => { kind := .function, names := [], isGenerator := false, isCoroutine := false }
noncomputable abbrev cNames : Scope := retComp ((defBody sNames).getD 3 (.Pass ⟨0, 0, 0, 0⟩))
theorem bsNames : BScope (defScope sNames) cNames ["_law_k"] ["_law_some_here", "_law_start", "_law_step"] [] := { okind := by decide +kernel, kind := by decide +kernel, nocell := by decide +kernel, names := by decide +kernel, fr := by decide +kernel, ff := by decide +kernel, nd := by decide +kernel, vis := by decide +kernel, loc := by decide +kernel, gl := by decide +kernel }
set_option maxHeartbeats 200000 in
theorem ok_names {f : Addr} {fd : FuncData} (hrange : mg "range" = none) (D : Has P w K mg base 1 "_law_draw" ["_law_feed_here", "_law_many"] spDraw) (F : Fun K "_law_names" "_law_names" sNames f fd) : FnOk P w K mg base CX0 2 f fd ["_law_feed_here", "_law_many"] spNames := by
 refine F.ok scNames (fun vs H Q E h => ?_) (fun cdv A outer s H vs Q E hr h => ?_)
 ·obtain ⟨p, m, rfl, _⟩ := h
  rfl
 ·obtain ⟨p, m, rfl, hF, h1, h8, k⟩ := h
  refine' ⟨_, ?hb, ?rd⟩
  case hb =>
   refine' pss_cons ?s1 ?r1
   case' r1 => refine' pss_cons ?s2 ?r2
   case' r2 => refine' pss_cons ?s3 ?r3
   case' r3 => refine' pss_one ?s4
   case s1 =>
    refine' ps_setD nmNames 2 ?p1
    case p1 =>
     refine pe_lstC (vs := names12.map V.str) ?_
     decide +kernel
   case s2 =>
    refine' ps_setD nmNames 3 ?p2
    case p2 => exact pe_fn D hr (by decide) (pa_cons (pvd nmNames 0) (pa_cons pe_int pa_nil))
   case s3 =>
    refine' ps_setD nmNames 4 ?p3
    case p3 =>
     refine' pe_ix ix_d ?a3 (pe_fn D hr (by decide) (pa_cons (pvd nmNames 0) (pa_cons pe_int pa_nil))) (fun _ _ => rfl)
     case a3 =>
      refine pe_lstC (vs := [.int 1, .int 5, .int 7, .int 11]) ?_
      decide +kernel
   case s4 =>
    refine' ps_ret ?p4
    case p4 =>
     refine' pe_comp (ix := [2, 3, 4]) bsNames.toCScope rfl rfl ?h3 ?h4 ?h5 ?h6
     case h3 => exact pi_range1 rfl hrange (pa_cons (pvd nmNames 1) pa_nil)
     case h4 => exact fun _ _ _ _ _ _ => pgb bsNames 0
     case h5 => exact fun _ _ _ _ _ _ => pts_nil
     case h6 => exact fun _ _ _ _ _ _ => pe_ix ix_d (pvb bsNames 1) (pe_op op_mod (pe_op op_add (pvb bsNames 2) (pe_op op_mul (pvb bsNames 3) (pvb bsNames 0))) pe_int) (fun _ _ => rfl)
  case rd =>
   walk_at "v"
   refine ⟨by show 12 ≤ sizeLine; decide, fun a1 ha1 => ?_⟩
   walk_at "v"
   refine ⟨p, 12, rfl, hF.new (hF.ne ha1), by decide, by decide, fun r x y z r0 r1 => ?_⟩
   walk_at "v"
   refine ⟨by show 4 ≤ sizeLine; decide, fun a2 ha2 => ?_⟩
   walk_at "v"
   have np1 : p ≠ a1 := hF.ne ha1
   have np2 : p ≠ a2 := by
    intro e
    rw [← e, upd_same] at ha2
    cases ha2
   refine ⟨p, 4, rfl, FeedAt.here.new np2, by decide, by decide, fun r' x' y' z' r0' r1' => ?_⟩
   obtain ⟨st, rfl⟩ := Nat.ofI r0
   obtain ⟨j, rfl⟩ := Nat.ofI r0'
   obtain ⟨sp, hsp, hat⟩ : ∃ sp : Nat, sp ∈ [1, 5, 7, 11] ∧ atI ([.int 1, .int 5, .int 7, .int 11] : List V) (j : Int) = some (.int sp) := by
    have : j = 0 ∨ j = 1 ∨ j = 2 ∨ j = 3 := by omega
    rcases this with rfl | rfl | rfl | rfl
    ·exact ⟨1, by decide, rfl⟩
    ·exact ⟨5, by decide, rfl⟩
    ·exact ⟨7, by decide, rfl⟩
    ·exact ⟨11, by decide, rfl⟩
   refine w_ixL (by rw [upd_ne (Ne.symm np2), upd_same]) hat ?_
   walk_at "v"
   refine ⟨m, rfl, by omega, by omega, fun l hl => ?_⟩
   generalize hH3 : upd (upd (upd (upd H a1 (HO.lst (List.map V.str names12))) p (HO.lst [V.int x, V.int y, V.int z])) a2 (HO.lst [V.int 1, V.int 5, V.int 7, V.int 11])) p (HO.lst [V.int x', V.int y', V.int z']) = H3 at hl ⊢
   have hlp : l ≠ p := by
    intro e
    rw [e, ← hH3, upd_same] at hl
    cases hl
   have ha12 : a1 ≠ a2 := by
    intro e
    rw [← e, upd_ne (Ne.symm np1), upd_same] at ha2
    cases ha2
   have hl1 : l ≠ a1 := by
    intro e
    rw [e, ← hH3, upd_ne (Ne.symm np1), upd_ne ha12, upd_ne (Ne.symm np1), upd_same] at hl
    cases hl
   have hl2 : l ≠ a2 := by
    intro e
    rw [e, ← hH3, upd_ne (Ne.symm np2), upd_same] at hl
    cases hl
   have h3s : H3 a1 = some (.lst (names12.map V.str)) := by
    rw [← hH3, upd_ne (Ne.symm np1), upd_ne ha12, upd_ne (Ne.symm np1), upd_same]
   refine cgo_range (ρ := [some (.ref a1), some (.int st), some (.int sp)]) (fun i ys H' => ys = ((List.range i).map (nmOf st sp)).map V.str ∧ H' = upd H3 l (.lst ys)) ⟨rfl, rfl⟩ ?_ ?_
   ·rintro i ys H' hi ⟨rfl, rfl⟩ hD R S kR _
    walk_at "v"
    refine w_rI (mulL (by omega) (by simp only [List.mem_cons, List.not_mem_nil, or_false] at hsp; omega)) ?_
    walk_at "v"
    refine w_rI (by decide) ?_
    have e1 : ((st : Int) + (sp : Int) * (0 + (i : Int))) % 12 = (((st + sp * i) % 12 : Nat) : Int) := by
     rw [Int.zero_add]
     norm_cast
    rw [e1]
    refine w_ixL (v := .str (nmOf st sp i)) (by rw [upd_ne (Ne.symm hl1)]; exact h3s) (atI_nat ?_) ?_
    ·rw [List.getElem?_map]
     unfold nmOf
     have hlt : (st + sp * i) % 12 < names12.length := Nat.mod_lt _ (by decide)
     rw [List.getD_eq_getElem?_getD, List.getElem?_eq_getElem hlt]
     rfl
    ·refine kR _ _ hD (by simp only [List.length_map, List.length_range]; exact small1000 (by omega)) ⟨?_, upd_upd⟩
     rw [List.range_succ, List.map_append, List.map_append]
     rfl
   ·rintro ys H' ⟨rfl, rfl⟩ hD
    refine k l ((List.range m).map (nmOf st sp)) _ ?_ ⟨by simp, names_ok (by omega) hsp (by omega)⟩ ?_ ?_ upd_same
    ·cases e : H l with
     | none => rfl
     | some o =>
      rw [← hH3, upd_ne hlp, upd_ne hl2, upd_ne hlp, upd_ne hl1, e] at hl
      cases hl
    ·rw [← hH3]
     exact FeedAt.here.new (Ne.symm hlp)
    ·intro q o e hq
     have hq1 : q ≠ a1 := ne_of_none e ha1
     have hq2 : q ≠ a2 := by
      intro z
      rw [← z, upd_ne hq, upd_ne hq1, e] at ha2
      cases ha2
     have hql : q ≠ l := by
      intro z
      rw [← z, ← hH3, upd_ne hq, upd_ne hq2, upd_ne hq, upd_ne hq1, e] at hl
      cases hl
     rw [upd_ne hql, ← hH3, upd_ne hq, upd_ne hq2, upd_ne hq, upd_ne hq1]
     exact e
end
end K93
namespace L2
open PySem PySem.Spec PyProof.Rows
mutual
inductive RdV (H : Hp) : V → PyData → Prop
 | non : RdV H .non .none
 | bl (b : Bool) : RdV H (.bl b) (.bool b)
 | int (i : Int) : RdV H (.int i) (.int i)
 | str (x : Str) : RdV H (.str x) (.str x)
 | lst {p : Addr} {xs : List V} {ds : List PyData} : H p = some (.lst xs) → RdVs H xs ds → RdV H (.ref p) (.list ds)
 | tup {p : Addr} {xs : List V} {ds : List PyData} : H p = some (.tup xs) → RdVs H xs ds → RdV H (.ref p) (.tuple ds)
 | ftup {p : Addr} {o : Obj} {xs : List V} {ds : List PyData} : H p = some (.frz o (.tup xs)) → RdVs H xs ds → RdV H (.ref p) (.tuple ds)
inductive RdVs (H : Hp) : List V → List PyData → Prop
 | nil : RdVs H [] []
 | cons {v : V} {d : PyData} {vs : List V} {ds : List PyData} : RdV H v d → RdVs H vs ds → RdVs H (v :: vs) (d :: ds)
end
section
variable {X : Cx} {pins : List (Addr × Obj)} {σ : St} {H : Hp} {s : Shared}
mutual
theorem RdV.reads (I : Inv X pins σ H s) {v : V} {d : PyData} : RdV H v d → ∀ {u : Value}, RelV v u → ∃ as, Reads s.heap u d as
 | .non, u, r => by
  cases r
  exact ⟨[], .none⟩
 | .bl b, u, r => by
  cases r
  exact ⟨[], .bool b⟩
 | .int i, u, r => by
  obtain ⟨t, rfl⟩ := r
  exact ⟨[], .int i t⟩
 | .str x, u, r => by
  obtain ⟨t, rfl⟩ := r
  exact ⟨[], .str x t⟩
 | .lst (p := p) hp h, u, r => by
  cases r
  obtain ⟨its, n, rv, e, z⟩ := I.lst hp
  obtain ⟨as, q⟩ := RdVs.reads I h rv
  exact ⟨p :: as, .list e rfl rfl (by simpa using q)⟩
 | .tup (p := p) hp h, u, r => by
  cases r
  obtain ⟨z, its, rv, o, e, c, n, d⟩ := I.hok p _ hp
  obtain ⟨as, q⟩ := RdVs.reads I h rv
  exact ⟨as, .tuple e c d (by simpa using q)⟩
 | .ftup (p := p) hp h, u, r => by
  cases r
  obtain ⟨_, z, its, rv, o, e, c, n, d⟩ := I.hok p _ hp
  obtain ⟨as, q⟩ := RdVs.reads I h rv
  exact ⟨as, .tuple e c d (by simpa using q)⟩
theorem RdVs.reads (I : Inv X pins σ H s) {vs : List V} {ds : List PyData} : RdVs H vs ds → ∀ {us : List Value}, Vals vs us → ∃ as, ReadsAll s.heap us ds as
 | .nil, us, r => by
  cases r
  exact ⟨[], .nil⟩
 | .cons h hs, us, r => by
  cases r with
  | cons r1 r2 =>
   obtain ⟨as, q⟩ := RdV.reads I h r1
   obtain ⟨bs, q2⟩ := RdVs.reads I hs r2
   exact ⟨as ++ bs, .cons q q2⟩
end
end
theorem rdInts {H : Hp} : ∀ (ns : List Int), RdVs H (ns.map V.int) (ns.map PyData.int)
 | [] => .nil
 | n :: ns => .cons (.int n) (rdInts ns)
section
variable {X : Cx} {k : Nat}
noncomputable def rEqD : R2 := fun x y H Q => ∃ dx dy, RdV H x dx ∧ RdV H y dy ∧ dx.canLay0 = true ∧ dy.canLay0 = true ∧ dx.depth ≤ 60 ∧ Q (.bl (PyData.eqv dx dy)) H
theorem op_eqD (hr : Room k X.A) : OpR X (compareOp .Eq) rEqD := by
 intro pins s σ H x y v u Q I rx ry h
 obtain ⟨dx, dy, hx, hy, cx, cy, hd, q⟩ := h
 obtain ⟨as, ra⟩ := hx.reads I rx
 obtain ⟨bs, rb⟩ := hy.reads I ry
 have := hr.units
 exact SeqAt.compareEq_reads ra rb cx cy (by omega) ⟨.bl _, H, I, rfl, q⟩
noncomputable def rRepr : List V → Hp → VK → Prop := fun xs H Q => ∃ v d, xs = [v] ∧ RdV H v d ∧ d.showable = true ∧ d.hasDict = false ∧ d.depth ≤ 50 ∧ d.shown.length ≤ sizeLine ∧ Q (.str d.shown) H
theorem call_repr (hr : Room k X.A) : CallR X (.builtin "repr") rRepr := by
 intro pins s σ H xs us Q I r h
 obtain ⟨v, d, rfl, hv, h1, h2, h3, h4, q⟩ := h
 obtain ⟨u, rfl, ru⟩ := r.one
 have hu := hr.units
 cases hv with
 | non =>
  cases ru
  exact PySem.P.repr_of_none ⟨.str _, H, I.tok _, ⟨_, rfl⟩, q⟩
 | bl b =>
  cases ru
  exact PySem.P.repr_of_bool ⟨.str _, H, I.tok _, ⟨_, rfl⟩, q⟩
 | int i =>
  obtain ⟨t, rfl⟩ := ru
  exact PySem.P.repr_of_int (by simpa [PyData.showable] using h1) ⟨.str _, H, I.tok _, ⟨_, rfl⟩, q⟩
 | str x =>
  obtain ⟨t, rfl⟩ := ru
  exact PySem.P.repr_of_str ⟨.str _, H, I.tok _, ⟨_, rfl⟩, q⟩ h4
 | lst hp hs =>
  obtain ⟨as, ra⟩ := RdV.reads I (.lst hp hs) ru
  cases ru
  exact repr_of_reads' ra h1 (fun z => by rw [h2] at z; cases z) hr.gd (by omega) (fun _ _ e => e) (fun h' u tk hk => ⟨.str _, H, I.kept hk, ⟨_, rfl⟩, q⟩) h4
 | tup hp hs =>
  obtain ⟨as, ra⟩ := RdV.reads I (.tup hp hs) ru
  cases ru
  exact repr_of_reads' ra h1 (fun z => by rw [h2] at z; cases z) hr.gd (by omega) (fun _ _ e => e) (fun h' u tk hk => ⟨.str _, H, I.kept hk, ⟨_, rfl⟩, q⟩) h4
 | ftup hp hs =>
  obtain ⟨as, ra⟩ := RdV.reads I (.ftup hp hs) ru
  cases ru
  exact repr_of_reads' ra h1 (fun z => by rw [h2] at z; cases z) hr.gd (by omega) (fun _ _ e => e) (fun h' u tk hk => ⟨.str _, H, I.kept hk, ⟨_, rfl⟩, q⟩) h4
end
theorem eqv_ints : ∀ (ns ms : List Int), PyData.eqvAll (ns.map PyData.int) (ms.map PyData.int) = decide (ns = ms)
 | [], [] => by simp only [List.map_nil, PyData.eqvAll, decide_true]
 | [], m :: ms => by simp [PyData.eqvAll]
 | n :: ns, [] => by simp [PyData.eqvAll]
 | n :: ns, m :: ms => by
  simp only [List.map_cons, PyData.eqvAll, PyData.eqv, eqv_ints ns ms]
  by_cases h : n = m
  ·subst h; simp
  ·simp [h]
theorem lay_ints : ∀ (ns : List Int), PyData.canLayAll0 (ns.map PyData.int) = true
 | [] => rfl
 | n :: ns => by simp [PyData.canLayAll0, PyData.canLay0, lay_ints ns]
theorem depth_ints : ∀ (ns : List Int), PyData.depthAll (ns.map PyData.int) = 0
 | [] => rfl
 | n :: ns => by simp [PyData.depthAll, PyData.depth, depth_ints ns]
theorem w_eqL {H : Hp} {Q : VK} {p q : Addr} {ns ms : List Int} (hp : H p = some (.lst (ns.map V.int))) (hq : H q = some (.lst (ms.map V.int))) (h : Q (.bl (decide (ns = ms))) H) : rEqD (.ref p) (.ref q) H Q := by
 refine ⟨_, _, .lst hp (rdInts ns), .lst hq (rdInts ms), lay_ints ns, lay_ints ms, ?_, ?_⟩
 ·show PyData.depthAll _ + 1 ≤ 60
  rw [depth_ints]
  decide
 ·show Q (.bl (PyData.eqvAll _ _)) H
  rw [eqv_ints]
  exact h
section
variable {X : Cx}
theorem vals_of : ∀ {xs : List V} {us : List Value}, xs.length = us.length → (∀ (j : Nat) (x : V) (u : Value), xs[j]? = some x → us[j]? = some u → RelV x u) → Vals xs us
 | [], [], _, _ => .nil
 | [], v :: vs, h, _ => absurd h (by simp)
 | v :: vs, [], h, _ => absurd h (by simp)
 | x :: xs, u :: us, h, k => .cons (k 0 x u rfl rfl) (vals_of (by simpa using h) fun j y v e1 e2 => k (j + 1) y v (by simpa using e1) (by simpa using e2))
noncomputable def rRange : List V → Hp → VK → Prop := fun xs H Q => ∃ j : Int, xs = [.int j] ∧ ∀ r, H r = none → Q (.ref r) (upd H r (.rng 0 j))
theorem call_rangeV : CallR X (.type "range") rRange := by
 intro pins s σ H xs us Q I r h
 obtain ⟨j, rfl, q⟩ := h
 obtain ⟨u, rfl, ru⟩ := r.one
 obtain ⟨t, rfl⟩ := ru
 refine call_range_1 ⟨.ref _, _, I.laid (fun b o e => Heap.get?_push_of_some _ e) (Nat.le_refl _) ?_, rfl, q _ I.fresh⟩
 exact ⟨_, _, _, Heap.get?_push_size _ rfl⟩
noncomputable def rListR : List V → Hp → VK → Prop := fun xs H Q => ∃ (p : Addr) (n : Nat), xs = [.ref p] ∧ H p = some (.rng 0 (n : Int)) ∧ n ≤ 1000 ∧ ∀ l, H l = none → Q (.ref l) (upd H l (.lst ((List.range n).map fun (i : Nat) => V.int (i : Int))))
theorem call_listRng (hc : X.calm = true) : CallR X (.type "list") rListR := by
 intro pins s σ H xs us Q I r h
 obtain ⟨p, n, rfl, hp, hn, q⟩ := h
 obtain ⟨u, rfl, ru⟩ := r.one
 cases ru
 obtain ⟨t, u, v, e⟩ := I.hok p _ hp
 refine call_list_range (n := n) (I.ok.hd hc) e (small_one (by omega) (by omega) (by omega) (by omega)) (by rw [rangeSize_one]; split <;> omega) (by omega) fun h' tk acc' c' hk hS hacc => ?_
 refine ⟨.ref _, _, I.laid (t' := tk) hk (Nat.le_refl _) ?_, rfl, q _ I.fresh⟩
 obtain ⟨hsz, hit⟩ := hacc
 refine ⟨by rw [List.length_map, List.length_range]; exact Nat.le_of_lt (small1000 hn), acc'.toList, c', vals_of (by simp [hsz]) fun j x u ex eu => ?_, hS⟩
 have hj : j < n := by
  have := (List.getElem?_eq_some_iff.mp ex).1
  simpa using this
 rw [List.getElem?_map, List.getElem?_range hj] at ex
 have ex' : V.int (j : Int) = x := Option.some.inj ex
 subst ex'
 obtain ⟨t, ht⟩ := hit j u (by simpa using eu)
 exact ⟨t, by rw [ht]; congr 1; omega⟩
end
end L2
namespace K93
open PySem L2
local macro_rules | `(tactic| walk_at "v") => `(tactic| repeat (with_reducible first
  | refine w_seq ?_ | refine w_asg ?_ | refine w_gname ?_ | refine w_op ?_ | refine w_var rfl ?_ | refine w_c ?_ | refine w_rI0 ?_ | refine w_ifs ?_ | refine w_ife ?_ | refine w_test ?_ | refine w_tb ?_ | refine w_bl ?_ | refine w_not ?_ | refine w_ret ?_ | refine w_retN ?_
  | refine w_nil ?_ | refine w_cons ?_ | refine w_lst ?_ | refine w_tup ?_ | refine w_cb ?_ | refine w_call ?_ | refine w_gsub ?_ | refine w_and ?_ | refine w_or ?_ | refine w_next ?_ | refine w_all ?_ | refine w_vals ?_ | refine w_compR ?_ | refine w_compT ?_ | refine w_forR ?_ | refine w_forT ?_ | refine w_forL ?_ | refine w_drop ?_ | refine w_bm ?_ | refine iteT ?_ | refine iteF ?_))
noncomputable abbrev sRule : Stmt := top 32
noncomputable abbrev nRule : List Str := ["_law_feed_here", "_law_many", "_law_takes", "_law_gives", "_law_j", "_law_sort", "_law_way"]
theorem nmRule : Nm nRule (defScope sRule) := ⟨by decide +kernel, by decide +kernel⟩
theorem scRule : FnScope nRule ["_law_feed_here", "_law_many"] (defScope sRule) := ⟨rfl, rfl, rfl, by decide +kernel, rfl, by decide +kernel, by decide +kernel⟩
noncomputable def asgComp (s : Stmt) : Scope := match s with
 | .Assign _ (.ListComp _ _ sc _) _ => sc
 | _ => { kind := .function, names := [], isGenerator := false, isCoroutine := false }
noncomputable abbrev cRule (i : Nat) : Scope := asgComp ((defBody sRule).getD i (.Pass ⟨0, 0, 0, 0⟩))
theorem bsRule0 : BScope (defScope sRule) (cRule 0) ["_law_sort"] [] [] := { okind := by decide +kernel, kind := by decide +kernel, nocell := by decide +kernel, names := by decide +kernel, fr := by decide +kernel, ff := by decide +kernel, nd := by decide +kernel, vis := by decide +kernel, loc := by decide +kernel, gl := by decide +kernel }
theorem bsRule1 : BScope (defScope sRule) (cRule 1) ["_law_sort"] [] [] := { okind := by decide +kernel, kind := by decide +kernel, nocell := by decide +kernel, names := by decide +kernel, fr := by decide +kernel, ff := by decide +kernel, nd := by decide +kernel, vis := by decide +kernel, loc := by decide +kernel, gl := by decide +kernel }
theorem locRule : (defScope sRule).names.lookup ("_law_takes" : Str) = some .local ∧ (defScope sRule).names.lookup ("_law_gives" : Str) = some .local := by decide +kernel
noncomputable def Cnt (c : Int) (m : Nat) (H : Hp) (p : Addr) : Prop := ∃ ns : List Int, H p = some (.lst (ns.map V.int)) ∧ ns.length = m ∧ ∀ n ∈ ns, 0 ≤ n ∧ n ≤ c
noncomputable def CntT (m : Nat) (H : Hp) (p : Addr) : Prop := ∃ ns : List Int, H p = some (.tup (ns.map V.int)) ∧ ns.length = m ∧ ∀ n ∈ ns, 0 ≤ n ∧ n ≤ 30
noncomputable def RuleAt (m : Nat) (H : Hp) (r : Addr) : Prop := ∃ a b, H r = some (.tup [.ref a, .ref b]) ∧ CntT m H a ∧ CntT m H b
noncomputable def spRule : Sp := fun vs H Q _ => ∃ (p : Addr) (m : Nat), vs = [.ref p, .int m] ∧ FeedAt H p ∧ 0 < m ∧ m ≤ 8 ∧ ∀ (r : Addr) (H' : Hp), H r = none → RuleAt m H' r → FeedAt H' p → But p H H' → Q (.ref r) H'
theorem w_zeros {m : Nat} {H : Hp} {Q : VK} (hm : m ≤ 1000) (h : ∀ l, H l = none → Q (.ref l) (upd H l (.lst ((List.replicate m (0 : Int)).map V.int)))) :
  ∃ j : Int, [V.int (m : Int)] = [.int j] ∧ -(2 ^ 62) ≤ j ∧ j < 2 ^ 62 ∧ ∀ D, H D = none → CGo (Itr 0 j.toNat) D (gName 0) tAll (tC (V.int 0)) Q [none] H := by
 refine ⟨m, rfl, by omega, by omega, fun l hl => ?_⟩
 refine cgo_range (ρ := []) (fun i ys H' => ys = (List.replicate i (0 : Int)).map V.int ∧ H' = upd H l (.lst ys)) ⟨rfl, rfl⟩ ?_ ?_
 ·rintro i ys H' hi ⟨rfl, rfl⟩ hD R S kR _
  walk_at "v"
  have hi' : i < m := by
   rw [Int.toNat_natCast] at hi
   exact hi
  refine kR _ _ hD (by rw [List.length_map, List.length_replicate]; exact small1000 (by omega)) ⟨?_, upd_upd⟩
  rw [List.replicate_succ', List.map_append]
  rfl
 ·rintro ys H' ⟨rfl, rfl⟩ hD
  rw [Int.toNat_natCast]
  exact h l hl
structure RS (c : Int) (m : Nat) (p a b : Addr) (H0 H : Hp) : Prop where
 fd : FeedAt H p
 ca : Cnt c m H a
 cb : Cnt c m H b
 pa : p ≠ a
 pb : p ≠ b
 ab : a ≠ b
 bt : But p H0 H
 na : H0 a = none
 nb : H0 b = none
theorem Cnt.new {k : Int} {m : Nat} {H : Hp} {a l : Addr} {o : HO} (c : Cnt k m H a) (h : a ≠ l) : Cnt k m (upd H l o) a := by
 obtain ⟨ns, e, r⟩ := c
 exact ⟨ns, by rw [upd_ne h]; exact e, r⟩
theorem Cnt.ne {k : Int} {m : Nat} {H : Hp} {a l : Addr} (c : Cnt k m H a) (h : H l = none) : a ≠ l := by
 obtain ⟨ns, e, r⟩ := c
 exact ne_of_none e h
section
variable {k : Int} {m : Nat} {p a b : Addr} {H0 H : Hp}
theorem RS.up {k' : Int} (r : RS k m p a b H0 H) (h : k ≤ k') : RS k' m p a b H0 H := by
 obtain ⟨fd, ⟨ns, e, hl, hn⟩, ⟨gs, e', hl', hn'⟩, r1, r2, r3, r4, r5, r6⟩ := r
 exact ⟨fd, ⟨ns, e, hl, fun n h' => ⟨(hn n h').1, Int.le_trans (hn n h').2 h⟩⟩, ⟨gs, e', hl', fun n h' => ⟨(hn' n h').1, Int.le_trans (hn' n h').2 h⟩⟩, r1, r2, r3, r4, r5, r6⟩
theorem RS.draw (r : RS k m p a b H0 H) {x y z : Int} : RS k m p a b H0 (upd H p (.lst [.int x, .int y, .int z])) :=
 ⟨FeedAt.here, r.ca.new (Ne.symm r.pa), r.cb.new (Ne.symm r.pb), r.pa, r.pb, r.ab, r.bt.at, r.na, r.nb⟩
theorem RS.new (r : RS k m p a b H0 H) {l : Addr} {o : HO} (h : H l = none) : RS k m p a b H0 (upd H l o) :=
 ⟨r.fd.new (r.fd.ne h), r.ca.new (r.ca.ne h), r.cb.new (r.cb.ne h), r.pa, r.pb, r.ab, r.bt.new h, r.na, r.nb⟩
theorem Cnt.put {ns : List Int} {j : Nat} {v : Int} (hl : ns.length = m) (hn : ∀ n ∈ ns, 0 ≤ n ∧ n ≤ k) (hv : 0 ≤ v ∧ v ≤ k) : Cnt k m (upd H a (.lst ((ns.map V.int).set j (.int v)))) a := by
 refine ⟨ns.set j v, by rw [upd_same, List.map_set], by rw [List.length_set]; exact hl, fun n h => ?_⟩
 rcases List.mem_or_eq_of_mem_set h with h | h
 ·exact hn n h
 ·rw [h]; exact hv
theorem RS.setA (r : RS k m p a b H0 H) {ns : List Int} {j : Nat} {v : Int} (hl : ns.length = m) (hn : ∀ n ∈ ns, 0 ≤ n ∧ n ≤ k) (hv : 0 ≤ v ∧ v ≤ k) : RS k m p a b H0 (upd H a (.lst ((ns.map V.int).set j (.int v)))) :=
 ⟨r.fd.new r.pa, Cnt.put hl hn hv, r.cb.new (Ne.symm r.ab), r.pa, r.pb, r.ab, r.bt.put r.na, r.na, r.nb⟩
theorem RS.setB (r : RS k m p a b H0 H) {ns : List Int} {j : Nat} {v : Int} (hl : ns.length = m) (hn : ∀ n ∈ ns, 0 ≤ n ∧ n ≤ k) (hv : 0 ≤ v ∧ v ≤ k) : RS k m p a b H0 (upd H b (.lst ((ns.map V.int).set j (.int v)))) :=
 ⟨r.fd.new r.pb, r.ca.new r.ab, Cnt.put hl hn hv, r.pa, r.pb, r.ab, r.bt.put r.nb, r.na, r.nb⟩
theorem Cnt.item (c : Cnt k m H a) {r : Int} (h0 : 0 ≤ r) (h1 : r < m) : ∃ (ns : List Int) (n : Int) (j : Nat), H a = some (.lst (ns.map V.int)) ∧ ns.length = m ∧ (∀ n ∈ ns, 0 ≤ n ∧ n ≤ k) ∧ (0 ≤ n ∧ n ≤ k) ∧ atI (ns.map V.int) r = some (.int n) ∧ ixN (ns.map V.int).length r = some j := by
 obtain ⟨ns, e, hl, hn⟩ := c
 obtain ⟨j, rfl⟩ := Nat.ofI h0
 have hj : j < ns.length := by omega
 refine ⟨ns, ns[j], j, e, hl, hn, hn _ (List.getElem_mem hj), atI_nat (by simp [hj]), ?_⟩
 rw [List.length_map]
 unfold ixN
 rw [if_pos h0, if_pos (by omega)]
 rfl
end
section
variable {P : Program} {w : World} {K : PySem.W.Frag} {mg : Str → Option Value} {base : Heap}
structure Blt (mg : Str → Option Value) : Prop where
 len : mg "len" = none
 range : mg "range" = none
 tuple : mg "tuple" = none
 int : mg "int" = none
theorem ok_rule {f : Addr} {fd : FuncData} (B : Blt mg) (D : Has P w K mg base 1 "_law_draw" ["_law_feed_here", "_law_many"] spDraw) (F : Fun K "_law_rule" "_law_rule" sRule f fd) : FnOk P w K mg base CX0 2 f fd ["_law_feed_here", "_law_many"] spRule := by
 refine F.ok scRule (fun vs H Q E h => ?_) (fun cdv A outer s H vs Q E hr h => ?_)
 ·obtain ⟨p, m, rfl, _⟩ := h
  rfl
 ·obtain ⟨p, m, rfl, hF, h1, h8, k⟩ := h
  refine' ⟨_, ?hb, ?rd⟩
  case hb =>
   refine' pss_cons ?s1 ?r1
   case' r1 => refine' pss_cons ?s2 ?r2
   case' r2 => refine' pss_cons ?s3 ?r3
   case' r3 => refine' pss_cons ?s4 ?r4
   case' r4 => refine' pss_cons ?s5 ?r5
   case' r5 => refine' pss_cons ?s6 ?r6
   case' r6 => refine' pss_cons ?s7 ?r7
   case' r7 => refine' pss_cons ?s8 ?r8
   case' r8 => refine' pss_cons ?s9 ?r9
   case' r9 => refine' pss_one ?s10
   case s1 =>
    refine' ps_setC (i := 2) (ix := []) nmRule.nd rfl locRule.1 bsRule0.toCScope rfl rfl ?h3 ?h4 ?h5 ?h6
    case h3 => exact pi_range1 rfl B.range (pa_cons (pvd nmRule 1) pa_nil)
    case h4 => exact fun _ _ _ _ _ _ => pgb bsRule0 0
    case h5 => exact fun _ _ _ _ _ _ => pts_nil
    case h6 => exact fun _ _ _ _ _ _ => pe_int
   case s2 =>
    refine' ps_setC (i := 3) (ix := []) nmRule.nd rfl locRule.2 bsRule1.toCScope rfl rfl ?h3 ?h4 ?h5 ?h6
    case h3 => exact pi_range1 rfl B.range (pa_cons (pvd nmRule 1) pa_nil)
    case h4 => exact fun _ _ _ _ _ _ => pgb bsRule1 0
    case h5 => exact fun _ _ _ _ _ _ => pts_nil
    case h6 => exact fun _ _ _ _ _ _ => pe_int
   case s3 =>
    refine' ps_for PassesOwn.never rfl (pi_range1 rfl B.range (pa_cons (pe_op op_add pe_int (pe_fn D hr (by decide) (pa_cons (pvd nmRule 0) (pa_cons pe_int pa_nil)))) pa_nil)) (pgd nmRule 4) ?b3
    case b3 =>
     refine' pss_cons ?t1 ?u1
     case t1 => exact ps_setD nmRule 5 (pe_fn D hr (by decide) (pa_cons (pvd nmRule 0) (pa_cons (pvd nmRule 1) pa_nil)))
     case u1 =>
      refine' pss_one ?t2
      case t2 => exact ps_asg (pe_op op_add (pe_op op_add (pe_ix ix_d (pvd nmRule 2) (pvd nmRule 5) (fun _ _ => rfl)) pe_int) (pe_fn D hr (by decide) (pa_cons (pvd nmRule 0) (pa_cons pe_int pa_nil)))) (pg_sub (pvd nmRule 2) (pvd nmRule 5) set_d)
   case s4 =>
    refine' ps_for PassesOwn.never rfl (pi_range1 rfl B.range (pa_cons (pe_fn D hr (by decide) (pa_cons (pvd nmRule 0) (pa_cons pe_int pa_nil))) pa_nil)) (pgd nmRule 4) ?b4
    case b4 =>
     refine' pss_cons ?t1 ?u1
     case t1 => exact ps_setD nmRule 5 (pe_fn D hr (by decide) (pa_cons (pvd nmRule 0) (pa_cons (pvd nmRule 1) pa_nil)))
     case u1 =>
      refine' pss_one ?t2
      case t2 => exact ps_asg (pe_op op_add (pe_op op_add (pe_ix ix_d (pvd nmRule 3) (pvd nmRule 5) (fun _ _ => rfl)) pe_int) (pe_fn D hr (by decide) (pa_cons (pvd nmRule 0) (pa_cons pe_int pa_nil)))) (pg_sub (pvd nmRule 3) (pvd nmRule 5) set_d)
   case s5 => exact ps_setD nmRule 6 (pe_fn D hr (by decide) (pa_cons (pvd nmRule 0) (pa_cons pe_int pa_nil)))
   case s6 => exact ps_setD nmRule 5 (pe_fn D hr (by decide) (pa_cons (pvd nmRule 0) (pa_cons (pvd nmRule 1) pa_nil)))
   case s7 => exact ps_if (pt_cmpR op_lt (pvd nmRule 6) pe_int (nomark _)) (pss_one (ps_asg (pe_ix ix_d (pvd nmRule 2) (pvd nmRule 5) (fun _ _ => rfl)) (pg_sub (pvd nmRule 3) (pvd nmRule 5) set_d))) pss_nil
   case s8 => exact ps_if (pt_cmpR op_eq (pvd nmRule 6) pe_int (nomark _)) (pss_one (ps_asg pe_int (pg_sub (pvd nmRule 2) (pvd nmRule 5) set_d))) pss_nil
   case s9 => exact ps_if (pt_cmpR (op_eqD hr) (pvd nmRule 2) (pvd nmRule 3) (nomark _)) (pss_one (ps_asg (pe_ix ix_d (pe_lst (pa_cons (pe_op op_add (pe_ix ix_d (pvd nmRule 3) (pvd nmRule 5) (fun _ _ => rfl)) pe_int) (pa_cons pe_int pa_nil)))
     (pe_callTy call_int1 rfl B.int PyProof.Rows.boot_int (pa_cons (pe_cmpR op_eq (pe_ix ix_d (pvd nmRule 2) (pvd nmRule 5) (fun _ _ => rfl)) pe_int (nomark _)) pa_nil)) (fun _ _ => rfl)) (pg_sub (pvd nmRule 3) (pvd nmRule 5) set_d))) pss_nil
   case s10 => exact ps_ret (pe_tup (pa_cons (pe_callTy call_tuple_of rfl B.tuple PyProof.Rows.boot_tuple (pa_cons (pvd nmRule 2) pa_nil)) (pa_cons (pe_callTy call_tuple_of rfl B.tuple PyProof.Rows.boot_tuple (pa_cons (pvd nmRule 3) pa_nil)) pa_nil)))
  case rd =>
   have hm : ((m : Nat) : Int) < 1000000 := by omega
   have hm0 : (0 : Int) < (m : Int) := by omega
   walk_at "v"
   refine w_zeros (m := m) (by omega) fun a ha => ?_
   walk_at "v"
   refine w_zeros (m := m) (by omega) fun b hb => ?_
   have zc : ∀ {H : Hp} {l : Addr}, Cnt 0 m (upd H l (.lst ((List.replicate m (0 : Int)).map V.int))) l := fun {H l} => ⟨_, upd_same, List.length_replicate, fun n h => by rw [List.eq_of_mem_replicate h]; exact ⟨by decide, by decide⟩⟩
   have hpa : p ≠ a := hF.ne ha
   have hpb : p ≠ b := (hF.new hpa).ne hb
   have hab : a ≠ b := Cnt.ne zc hb
   have R0 : RS 0 m p a b H (upd (upd H a (.lst ((List.replicate m (0 : Int)).map V.int))) b (.lst ((List.replicate m (0 : Int)).map V.int))) :=
    ⟨(hF.new hpa).new hpb, zc.new hab, zc, hpa, hpb, hab, (But.refl.new ha).new hb, ha, by rw [upd_ne (Ne.symm hab)] at hb; exact hb⟩
   generalize upd (upd H a (.lst ((List.replicate m (0 : Int)).map V.int))) b (.lst ((List.replicate m (0 : Int)).map V.int)) = H1 at R0 ⊢
   walk_at "v"
   refine ⟨p, 3, rfl, R0.fd, by decide, by decide, fun r x y z r0 r1 => ?_⟩
   have R1 := R0.draw (x := x) (y := y) (z := z)
   generalize upd H1 p (.lst [.int x, .int y, .int z]) = H2 at R1 ⊢
   walk_at "v"
   refine ⟨_, rfl, by omega, by omega, ?_⟩
   refine for_range (fun i σ H' => ∃ u v, σ = [some (.ref p), some (.int m), some (.ref a), some (.ref b), u, v, none] ∧ RS (2 * (i : Int)) m p a b H H') ⟨none, none, rfl, R1.up (by omega)⟩ ?_ ?_
   ·rintro i σ H' hi ⟨u, v, rfl, R⟩
    walk_at "v"
    refine ⟨p, m, rfl, R.fd, hm0, hm, fun r x y z r0 r1 => ?_⟩
    have R' := R.draw (x := x) (y := y) (z := z)
    generalize upd H' p (.lst [.int x, .int y, .int z]) = H2 at R' ⊢
    walk_at "v"
    obtain ⟨ns, n, j, e, hl, hn, h0, ea, ei⟩ := R'.ca.item r0 r1
    refine w_ixL e ea ?_
    walk_at "v"
    refine ⟨p, 2, rfl, R'.fd, by decide, by decide, fun r2 x2 y2 z2 r20 r21 => ?_⟩
    have R2 := R'.draw (x := x2) (y := y2) (z := z2)
    have e2 : upd H2 p (.lst [.int x2, .int y2, .int z2]) a = some (.lst (ns.map V.int)) := by rw [upd_ne (Ne.symm R'.pa)]; exact e
    generalize upd H2 p (.lst [.int x2, .int y2, .int z2]) = H3 at R2 e2 ⊢
    walk_at "v"
    refine w_set e2 ei ?_
    exact ⟨_, _, rfl, (R2.up (k' := 2 * ((i + 1 : Nat) : Int)) (by omega)).setA hl (fun y hy => ⟨(hn y hy).1, by have := (hn y hy).2; omega⟩) ⟨by omega, by omega⟩⟩
   ·rintro σ H' ⟨u, v, rfl, R⟩
    clear R0 R1
    walk_at "v"
    refine ⟨p, 4, rfl, R.fd, by decide, by decide, fun r x y z r0 r1 => ?_⟩
    have R1 := R.draw (x := x) (y := y) (z := z)
    generalize upd H' p (.lst [.int x, .int y, .int z]) = H2 at R1 ⊢
    walk_at "v"
    refine ⟨_, rfl, by omega, by omega, ?_⟩
    refine for_range (fun i σ H' => ∃ u v, σ = [some (.ref p), some (.int m), some (.ref a), some (.ref b), u, v, none] ∧ RS (8 + 3 * (i : Int)) m p a b H H') ⟨u, v, rfl, R1.up (by omega)⟩ ?_ ?_
    ·rintro i σ H' hi ⟨u, v, rfl, R⟩
     walk_at "v"
     refine ⟨p, m, rfl, R.fd, hm0, hm, fun r x y z r0 r1 => ?_⟩
     have R' := R.draw (x := x) (y := y) (z := z)
     generalize upd H' p (.lst [.int x, .int y, .int z]) = H2 at R' ⊢
     walk_at "v"
     obtain ⟨ns, n, j, e, hl, hn, h0, ea, ei⟩ := R'.cb.item r0 r1
     refine w_ixL e ea ?_
     walk_at "v"
     refine ⟨p, 3, rfl, R'.fd, by decide, by decide, fun r2 x2 y2 z2 r20 r21 => ?_⟩
     have R2 := R'.draw (x := x2) (y := y2) (z := z2)
     have e2 : upd H2 p (.lst [.int x2, .int y2, .int z2]) b = some (.lst (ns.map V.int)) := by rw [upd_ne (Ne.symm R'.pb)]; exact e
     generalize upd H2 p (.lst [.int x2, .int y2, .int z2]) = H3 at R2 e2 ⊢
     walk_at "v"
     refine w_set e2 ei ?_
     exact ⟨_, _, rfl, (R2.up (k' := 8 + 3 * ((i + 1 : Nat) : Int)) (by omega)).setB hl (fun y hy => ⟨(hn y hy).1, by have := (hn y hy).2; omega⟩) ⟨by omega, by omega⟩⟩
    ·rintro σ H' ⟨u, v, rfl, R⟩
     clear R1
     replace R := R.up (k' := 20) (by omega)
     walk_at "v"
     refine ⟨p, 8, rfl, R.fd, by decide, by decide, fun way x y z w0 w1 => ?_⟩
     have R1 := R.draw (x := x) (y := y) (z := z)
     generalize upd H' p (.lst [.int x, .int y, .int z]) = H2 at R1 ⊢
     walk_at "v"
     refine ⟨p, m, rfl, R1.fd, hm0, hm, fun r x y z r0 r1 => ?_⟩
     have R2 := R1.draw (x := x) (y := y) (z := z)
     generalize upd H2 p (.lst [.int x, .int y, .int z]) = H3 at R2 ⊢
     walk_at "v"
     refine iteD (fun _ => ?_) (fun _ => ?_)
     all_goals first
      | (
       walk_at "v"
       obtain ⟨ns, n, j, e, hl, hn, h0, ea, ei⟩ := R2.ca.item r0 r1
       refine w_ixL e ea ?_
       walk_at "v"
       obtain ⟨ns', n', j', e', hl', hn', h0', ea', ei'⟩ := R2.cb.item r0 r1
       refine w_set e' ei' ?_
       have R3 := R2.setB (j := j') hl' hn' h0
       generalize upd H3 b (.lst ((ns'.map V.int).set j' (.int n))) = H4 at R3 ⊢
       clear e ea ei e' ea' ei' hl hn hl' hn')
      | (
       have R3 := R2
       generalize H3 = H4 at R3 ⊢)
     all_goals
      walk_at "v"
      refine ⟨rfl, ?_⟩
      walk_at "v"
      refine iteD (fun _ => ?_) (fun _ => ?_)
      all_goals first
       | (
        walk_at "v"
        obtain ⟨ns, n, j, e, hl, hn, h0, ea, ei⟩ := R3.ca.item r0 r1
        refine w_set e ei ?_
        have R4 := R3.setA (j := j) (v := 9) hl hn ⟨by decide, by decide⟩
        generalize upd H4 a (.lst ((ns.map V.int).set j (.int 9))) = H5 at R4 ⊢
        clear e ea ei hl hn)
       | (
        have R4 := R3
        generalize H4 = H5 at R4 ⊢)
     all_goals
      walk_at "v"
      obtain ⟨ts, et, htl, htn⟩ := id R4.ca
      obtain ⟨gs, eg, hgl, hgn⟩ := id R4.cb
      refine w_eqL et eg ?_
      walk_at "v"
      refine iteD (fun _ => ?_) (fun _ => ?_)
      all_goals first
       | (
        walk_at "v"
        obtain ⟨ns, n, j, e, hl, hn, h0, ea, ei⟩ := R4.cb.item r0 r1
        refine w_ixL e ea ?_
        walk_at "v"
        refine ⟨by show 2 ≤ sizeLine; decide, fun c hc => ?_⟩
        have R5 := R4.new (o := .lst [.int (n + 1), .int 0]) hc
        have hcc : upd H5 c (.lst [.int (n + 1), .int 0]) c = some (.lst [.int (n + 1), .int 0]) := upd_same
        generalize upd H5 c (.lst [.int (n + 1), .int 0]) = H6 at R5 hcc ⊢
        walk_at "v"
        obtain ⟨ns2, n2, j2, e2, hl2, hn2, h02, ea2, ei2⟩ := R5.ca.item r0 r1
        refine w_ixL e2 ea2 ?_
        walk_at "v"
        refine ⟨rfl, ?_⟩
        walk_at "v"
        refine .inr ⟨_, rfl, ?_⟩
        obtain ⟨q, hq0, hq⟩ : ∃ q : Int, (0 ≤ q ∧ q ≤ 21) ∧ atI ([.int (n + 1), .int 0] : List V) (if decide (V.int n2 = V.int 9) = true then 1 else 0) = some (.int q) := by
         by_cases h9 : decide (V.int n2 = V.int 9) = true
         ·rw [if_pos h9]
          exact ⟨0, ⟨by decide, by decide⟩, rfl⟩
         ·rw [if_neg h9]
          exact ⟨n + 1, ⟨by omega, by omega⟩, rfl⟩
        refine w_ixL hcc hq ?_
        walk_at "v"
        obtain ⟨ns3, n3, j3, e3, hl3, hn3, h03, ea3, ei3⟩ := (R5.up (k' := 21) (by omega)).cb.item r0 r1
        refine w_set e3 ei3 ?_
        have R6 := (R5.up (k' := 21) (by omega)).setB (j := j3) hl3 hn3 hq0
        generalize upd H6 b (.lst ((ns3.map V.int).set j3 (.int q))) = H7 at R6 ⊢)
       | (
        have R6 := R4.up (k' := 21) (by omega)
        generalize H5 = H7 at R6 ⊢)
     all_goals
      walk_at "v"
      obtain ⟨ts', et', htl', htn'⟩ := id R6.ca
      obtain ⟨gs', eg', hgl', hgn'⟩ := id R6.cb
      refine ⟨a, _, rfl, .inl ⟨SqL.of et', fun ta hta => ?_⟩⟩
      walk_at "v"
      have nb : b ≠ ta := ne_of_none eg' hta
      refine ⟨b, _, rfl, .inl ⟨SqL.of (by rw [upd_ne nb]; exact eg'), fun tb htb => ?_⟩⟩
      walk_at "v"
      refine ⟨by show 2 ≤ sizeLine; decide, fun rr hrr => ?_⟩
      have nt : ta ≠ tb := by
       intro z
       rw [← z, upd_same] at htb
       cases htb
      have nrb : tb ≠ rr := by
       intro z
       rw [← z, upd_same] at hrr
       cases hrr
      have nra : ta ≠ rr := by
       intro z
       rw [← z, upd_ne nt, upd_same] at hrr
       cases hrr
      have R7 := (R6.new (o := .tup (ts'.map V.int)) hta).new (o := .tup (gs'.map V.int)) htb
      have R8 := R7.new (o := .tup [.ref ta, .ref tb]) hrr
      refine k rr _ ?_ ⟨ta, tb, upd_same, ⟨ts', ?_, htl', fun y hy => ⟨(htn' y hy).1, Int.le_trans (htn' y hy).2 (by decide)⟩⟩, ⟨gs', ?_, hgl', fun y hy => ⟨(hgn' y hy).1, Int.le_trans (hgn' y hy).2 (by decide)⟩⟩⟩ R8.fd R8.bt
      ·cases e : H rr with
       | none => rfl
       | some o =>
        have hrp : rr ≠ p := by
         intro z
         exact R7.fd.ne hrr z.symm
        rw [R7.bt rr o e hrp] at hrr
        cases hrr
      ·rw [upd_ne nra, upd_ne nt, upd_same]
      ·rw [upd_ne nrb, upd_same]
end
end K93
namespace L2
open PySem PySem.Spec PyProof.Rows
section
variable {X : Cx}
theorem ints_of : ∀ {ns : List Int} {us : List Value}, Vals (ns.map V.int) us → ∃ xs : List (Int × Tok), us = xs.map (fun q => Value.int q.1 q.2) ∧ xs.map (·.1) = ns
 | [], us, r => by
  cases r
  exact ⟨[], rfl, rfl⟩
 | n :: ns, us, r => by
  cases r with
  | cons r1 r2 =>
   obtain ⟨t, rfl⟩ := r1
   obtain ⟨xs, rfl, e⟩ := ints_of r2
   exact ⟨(n, t) :: xs, rfl, by simp [e]⟩
noncomputable def rSum : List V → Hp → VK → Prop := fun xs H Q => ∃ (p : Addr) (ns : List Int), xs = [.ref p] ∧ H p = some (.lst (ns.map V.int)) ∧ Q (.int ns.sum) H
theorem call_sum (hc : X.calm = true) : CallR X (.builtin "sum") rSum := by
 intro pins s σ H xs us Q I r h
 obtain ⟨p, ns, rfl, hp, q⟩ := h
 obtain ⟨u, rfl, ru⟩ := r.one
 cases ru
 obtain ⟨its, n, rv, e, z⟩ := I.lst hp
 obtain ⟨ys, rfl, hy⟩ := ints_of rv
 have hl : s.heap.IsList p (intItems ys.toArray) := ⟨_, e, rfl, n, by simp [intItems]⟩
 refine sum_intListG (I.ok.hd hc) hl fun h' tk t' hk => ⟨.int ns.sum, H, I.kept hk, ⟨t', ?_⟩, q⟩
 congr 1
 have hlen : ys.length = ns.length := by rw [← hy, List.length_map]
 rw [preSum_eq]
 simp [hy, hlen]
end
section
variable {prog : Program} {w : World} {A : Around} {E : Value → Shared → Prop} {s : Shared}
theorem nextT_item {j t : Addr} {i : Nat} {its : Array Value} {v : Value} {Q : Value → Shared → Prop} (J : s.heap.IsTupleIter j t i) (T : s.heap.IsTuple t its) (e : its[i]? = some v)
  (k : ∀ h', h'.IsTupleIter j t (i + 1) → Heap.SameBut j s.heap h' → Q v { s with heap := h' }) : wpAny (model prog w) A (Builtin.SmallTypes.nextOf (.ref j)) Q E s := by
 obtain ⟨o, ho, hc, hd⟩ := id J; obtain ⟨ot, hot, _, n, hdt⟩ := T
 unfold Builtin.SmallTypes.nextOf; refine wpAny_bind (wpAny_callSpecial?_slot (name := Str.ofString "__next__") J.typeIs F.slot_tuple_iterator_next (wpAny_call_entry F.slot_tuple_iterator_next J.typeIs F.entry_tuple_iterator_next ?_ (F.args_tuple_iterator_next_1 _)))
 show wpAny _ _ (field (.ref j) 0 >>= _) _ _ s; refine wpAny_bind (wpAny_field ho hd (x := .ref t) rfl ?_)
 show wpAny _ _ (if (Value.ref t == Value.none) = true then _ else _) _ _ s; rw [if_neg (show ¬ ((Value.ref t == Value.none) = true) from Bool.false_ne_true)]
 show wpAny _ _ (field (.ref j) 1 >>= _) _ _ s; refine wpAny_bind (wpAny_field ho hd (x := .int i 0) rfl ?_)
 show wpAny _ _ (seqItems? (.ref t) >>= _) _ _ s; refine wpAny_bind (wpAny_seqItems hot hdt ?_)
 simp only [Int.toNat_natCast, e]
 refine wpAny_bind (wpAny_setField ho hd (by simp) (wpAny_pure ⟨v, rfl, wpAny_pure (k _ ?_ (Heap.SameBut.update ..))⟩))
 exact ⟨_, Heap.get?_update_self _ ho (Obj.isFreed_of_fields (Obj.data_mapFields hd _)), (Obj.cls_mapFields ..).trans hc, by rw [Obj.data_mapFields hd]; simp [rawInt]⟩
theorem nextT_end {j t : Addr} {i : Nat} {its : Array Value} {Q : Value → Shared → Prop} (hh : A.handled = none) (J : s.heap.IsTupleIter j t i) (T : s.heap.IsTuple t its) (e : its[i]? = none)
  (k : ∀ h' x, Heap.ExtBut j s.heap h' → (∃ o, h'.get? x = some o ∧ o.cls = .type "StopIteration") → E (.ref x) { s with heap := h' }) : wpAny (model prog w) A (Builtin.SmallTypes.nextOf (.ref j)) Q E s := by
 obtain ⟨o, ho, hc, hd⟩ := id J; obtain ⟨ot, hot, _, n, hdt⟩ := T
 unfold Builtin.SmallTypes.nextOf; refine wpAny_bind (wpAny_callSpecial?_slot (name := Str.ofString "__next__") J.typeIs F.slot_tuple_iterator_next (wpAny_call_entry F.slot_tuple_iterator_next J.typeIs F.entry_tuple_iterator_next ?_ (F.args_tuple_iterator_next_1 _)))
 show wpAny _ _ (field (.ref j) 0 >>= _) _ _ s; refine wpAny_bind (wpAny_field ho hd (x := .ref t) rfl ?_)
 show wpAny _ _ (if (Value.ref t == Value.none) = true then _ else _) _ _ s; rw [if_neg (show ¬ ((Value.ref t == Value.none) = true) from Bool.false_ne_true)]
 show wpAny _ _ (field (.ref j) 1 >>= _) _ _ s; refine wpAny_bind (wpAny_field ho hd (x := .int i 0) rfl ?_)
 show wpAny _ _ (seqItems? (.ref t) >>= _) _ _ s; refine wpAny_bind (wpAny_seqItems hot hdt ?_)
 simp only [Int.toNat_natCast, e]; refine wpAny_bind (wpAny_rule (wpAny_bind (wpAny_setField ho hd (by simp) ?_)))
 show wpAny _ _ (newExc (.type "StopIteration") [] >>= _) _ _ _; refine wpAny_bind ?_; simp only [newExc, newTuple]
 refine wpAny_bind (wpAny_newObj_type ?_ (by size_fits)); refine wpAny_bind (m := firstArgMember _ _) (wpAny_of_eq (a := Value.none) (by first | rfl | (simp only [firstArgMember]; rfl)) ?_)
 refine wpAny_newObj_type ?_ (by size_fits); simp only [raiseNew]; refine wpAny_bind (wpAny_handled ?_)
 (first | rw [show A.in1.handled = none from hh] | rw [hh]); refine wpAny_bind (wpAny_pure (wpAny_throw ?_)); exact k _ _ (((Heap.SameBut.update ..).extBut.push _).push _) ⟨_, Heap.get?_push_size _ rfl, rfl⟩
theorem draws_tup (hh : A.handled = none) (j t : Addr) (ne : t ≠ j) (its : Array Value) : Draws prog w A j [j, t] its.size (fun i v => its[i]? = some v) (fun i h => h.IsTupleIter j t i ∧ h.IsTuple t its) where
 live := fun _ _ q => let ⟨o, e, _⟩ := q.1; ⟨o, e⟩
 frame := fun _ _ _ q hk => ⟨q.1.at fun o e => hk j (by simp) o e, let ⟨o, e, r⟩ := q.2; ⟨o, hk t (by simp) o e, r⟩⟩
 item := fun i s Q E hi q k => nextT_item q.1 q.2 (v := its[i]) (by simp [hi]) fun h' J' sb => k _ h' s.toks (by simp [hi]) ⟨J', let ⟨o, e, r⟩ := q.2; ⟨o, sb.extBut t o ne e, r⟩⟩ sb
 done := fun s Q E q k => nextT_end hh q.1 q.2 (by simp) k
end
noncomputable abbrev enuH (h : Heap) (t : Addr) : Heap := h.push { cls := .type "tuple_iterator", data := .fields #[.ref t, .int 0 0] }
noncomputable abbrev enuH2 (h : Heap) (t : Addr) : Heap := (enuH h t).push { cls := .type "enumerate", data := .fields #[.none, .bool false, .ref h.objs.size, rawInt 0, .none, .none] }
theorem enu_new (t : Addr) (its : Array Value) : Meets (Builtin.«enumerate.__new__» ⟨[.type "enumerate", .ref t], []⟩) (fun _ R s => s.heap.IsTuple t its ∧ R (.ok (.ret (.ref (enuH s.heap t).objs.size))) { s with heap := enuH2 s.heap t }) :=
 .of_wp fun prog w A R s h => by
  obtain ⟨hp, g, d, tk, os⟩ := s; obtain ⟨hT, h⟩ := h
  have hsub := sub_enumerate; obtain ⟨o, ho, hc, n, hd⟩ := id hT
  have hT' : Heap.IsTuple (Shared.heap ⟨hp, g, d, tk, os⟩) t its := hT
  obtain ⟨c, dct, dt, sl⟩ := o
  replace hc : c = .type "tuple" := hc
  replace hd : dt = .seq its n := hd
  subst hc hd
  wp_walk using AutoSeq1.wpAny_loadPart' ho
  refine wpAny_stack_any fun st => wpAny_pure ?_; split
  ·rename_i cl _ _ _ _ _; cases (cl == Value.type "enumerate")
   ·wp_walk using AutoSeq1.wpAny_loadPart' ho, wpAny_pyIter_tuple hT'; exact ⟨_, rfl, h⟩
   ·wp_walk using AutoSeq1.wpAny_loadPart' ho, wpAny_pyIter_tuple hT'; exact ⟨_, rfl, h⟩
  ·wp_walk using AutoSeq1.wpAny_loadPart' ho, wpAny_pyIter_tuple hT'; exact ⟨_, rfl, h⟩
section
variable {prog : Program} {w : World} {A : Around} {E : Value → Shared → Prop} {s : Shared}
theorem call_enu {t : Addr} {its : Array Value} {Q : Value → Shared → Prop} (hT : s.heap.IsTuple t its)
  (k : ∀ h', IsEnum h' (s.heap.objs.size + 1) s.heap.objs.size 0 .none → h'.IsTupleIter s.heap.objs.size t 0 → (∀ b o, s.heap.get? b = some o → h'.get? b = some o) → Q (.ref (s.heap.objs.size + 1)) { s with heap := h' }) :
  wpAny (model prog w) A (call (.type "enumerate") [.ref t]) Q E s := by
 refine callType_new F.called_enumerate (by decide) (F.typeCall_enumerate_1 _) (F.newCall_enumerate_1 _) (fun obj => F.args_object_init_2 obj _) F.entry_enumerate_new (enu_new t its) ⟨hT, ?_⟩
 have z1 : (enuH s.heap t).objs.size = s.heap.objs.size + 1 := Heap.size_push ..
 have he := Heap.get?_push_size (enuH s.heap t) (o := { cls := .type "enumerate", data := .fields #[.none, .bool false, .ref s.heap.objs.size, rawInt 0, .none, .none] }) rfl
 show _ ∧ _
 rw [z1] at he ⊢
 exact ⟨⟨_, he, rfl⟩, k _ he ⟨_, Heap.get?_push_of_some _ (Heap.get?_push_size _ rfl), rfl, rfl⟩ fun b o x => Heap.get?_push_of_some _ (Heap.get?_push_of_some _ x)⟩
end
section
variable {X : Cx} {pins : List (Addr × Obj)} {σ : St} {H : Hp} {s : Shared}
theorem Inv.turnNew {h' : Heap} {tk : Nat} {ch : List Addr} {T : Addr} {xs : List V} {vals : List Value} (I : Inv X pins σ H s) (hf : ∀ b ∈ ch, FpOk X pins H b) (k : ∀ b o, b ∉ ch → s.heap.get? b = some o → h'.get? b = some o) (ht : ∀ b ∈ ch, ∃ o, h'.get? b = some o)
  (hT : s.heap.objs.size ≤ T) (r : Vals xs vals) (hz : xs.length ≤ sizeLine) (hv : h'.IsTuple T vals.toArray) : Inv X pins σ (upd H T (.tup xs)) { s with heap := h', toks := tk } := by
 have hn : H T = none := I.hok.fresh hT
 have nT : ∀ b o, s.heap.get? b = some o → b ≠ T := fun b o e z => absurd (Nat.lt_of_lt_of_le (Heap.lt_size e) (z ▸ hT)) (Nat.lt_irrefl _)
 have nc : ∀ b u, H b = some u → b ∉ ch := fun b u e z => by rw [(hf b z).1] at e; cases e
 refine I.step (g' := s.gens) (d' := s.drawn) (ch := ch) (fun b hb => ⟨(hf b hb).2.2.2.1, (hf b hb).2.1, (hf b hb).2.2.2.2.1, (hf b hb).2.2.2.2.2⟩) (fun b o _ _ hc e _ => k b o hc e) (fun b o _ _ hc e _ => ⟨o.slots, k b o hc e⟩)
  (fun b o _ e n => by rw [upd_ne (nT b o e)]; exact n) (fun b o hc e => ⟨o, k b o hc e⟩) (fun b ys e => by rw [upd_ne (ne_of_none e hn)]; exact e) (fun b o u e => by rw [upd_ne (ne_of_none e hn)]; exact e)
  (fun b ps e => ⟨#[], by rw [upd_ne (ne_of_none e hn), e]; simp⟩) (fun m hm => ?_) (fun b u e => ?_) I.bare
 ·obtain ⟨o, es, ep, ho, q⟩ := hm
  exact ⟨o, es, ep, k _ o (fun z => (hf _ z).2.1 rfl) ho, q⟩
 ·by_cases hb : b = T
  ·subst hb
   rw [upd_same] at e
   cases e
   exact ⟨hz, vals, r, hv⟩
  ·rw [upd_ne hb] at e
   refine (I.hok b u e).stay (fun c v hc q => k c v ?_ q) (fun c q => by rw [upd_ne (ne_of_none q hn)]; exact q) fun c ys q => by rw [upd_ne (ne_of_none q hn)]; exact q
   rcases hc with z | z
   ·rw [z]; exact nc b u e
   ·exact nc c _ z
theorem Inv.turnOnly {h' : Heap} {tk : Nat} {ch : List Addr} (I : Inv X pins σ H s) (hf : ∀ b ∈ ch, FpOk X pins H b) (k : ∀ b o, b ∉ ch → s.heap.get? b = some o → h'.get? b = some o) : Inv X pins σ H { s with heap := h', toks := tk } := by
 have nc : ∀ b u, H b = some u → b ∉ ch := fun b u e z => by rw [(hf b z).1] at e; cases e
 refine I.step (g' := s.gens) (d' := s.drawn) (ch := ch) (fun b hb => ⟨(hf b hb).2.2.2.1, (hf b hb).2.1, (hf b hb).2.2.2.2.1, (hf b hb).2.2.2.2.2⟩) (fun b o _ _ hc e _ => k b o hc e) (fun b o _ _ hc e _ => ⟨o.slots, k b o hc e⟩)
  (fun b o _ e n => n) (fun b o hc e => ⟨o, k b o hc e⟩) (fun b ys e => e) (fun b o u e => e) (fun b ps e => ⟨#[], by rw [e]; simp⟩) (fun m hm => ?_) (fun b u e => ?_) I.bare
 ·obtain ⟨o, es, ep, ho, q⟩ := hm
  exact ⟨o, es, ep, k _ o (fun z => (hf _ z).2.1 rfl) ho, q⟩
 ·refine (I.hok b u e).stay (fun c v hc q => k c v ?_ q) (fun c q => q) fun c ys q => q
  rcases hc with z | z
  ·rw [z]; exact nc b u e
  ·exact nc c _ z
end
noncomputable def Ite (K : PySem.W.Frag) (a : Addr) : It :=
 ⟨fun i H => ∃ xs x, SqT K H a xs ∧ xs[i]? = some x, fun i H v H' => ∃ p x, v = .ref p ∧ H p = none ∧ H' = upd H p (.tup [.int (i : Int), x]) ∧ ∀ xs, SqT K H a xs → xs[i]? = some x, fun i H => ∃ xs, SqT K H a xs ∧ xs.length = i⟩
theorem turn_enu {P : Program} {w : World} {K : PySem.W.Frag} {es : List Expr} {kt : Nat} {pt : Pos} (a e it : Addr) (hei : e ≠ it) (hai : a ≠ it) (hae : a ≠ e) :
  Turn P w K (.Tuple es kt pt) (Ite K a) [e, it] e (fun i h => (∃ old, IsEnum h e it i old) ∧ h.IsTupleIter it a i) where
 mem := by simp
 obj := fun i h st b hb => by
  obtain ⟨⟨old, he⟩, o, eo, c, d⟩ := st
  rcases List.mem_cons.mp hb with rfl | hq
  ·exact ⟨_, he, fun v z => by have z' : Data.fields _ = Data.cell v := z; cases z'⟩
  ·rw [List.mem_singleton.mp hq]; exact ⟨o, eo, fun v z => by rw [d] at z; cases z⟩
 keep := fun i h h' st k => ⟨let ⟨old, he⟩ := st.1; ⟨old, k e (by simp) _ he⟩, st.2.at fun o x => k it (by simp) o x⟩
 item := by
  intro X hP hw hK hc i pins s σ H E I hf st hg
  subst hP hw hK
  obtain ⟨xs, x, hq, hx⟩ := hg
  obtain ⟨its, rv, p, hz⟩ := I.tuple hq
  obtain ⟨u, hu, ru⟩ := rv.get hx
  have W := WalksT.enumerateD (draws_tup (prog := X.prog) (w := X.w) (A := X.A.in1) (I.ok.hd hc) it a hai its.toArray) e hei (by simp [hei, Ne.symm hae]) (by simp)
  have hi : i < its.toArray.size := by
   have := (List.getElem?_eq_some_iff.mp hu).1
   simpa using this
  refine W.item i s _ E hi ⟨st.1, st.2, p⟩ fun T vals h' tk hP hsz hT hM hk => ⟨.ref T, rfl, ?_⟩
  obtain ⟨t, x', hx', rfl⟩ := hP
  have ex : x' = u := by
   have : its[i]? = some x' := by simpa using hx'
   rw [this] at hu
   exact Option.some.inj hu
  subst ex
  refine W.go es kt pt i T { s with heap := h', toks := tk } _ E hM fun h'' hst hk2 => ?_
  obtain ⟨⟨old2, he2⟩, hit2, _⟩ := hst
  have hTw := W.apart i T h' hM
  obtain ⟨oT, eT, cT⟩ := hT
  have I2 : Inv X pins σ (upd H T (.tup [.int (i : Int), x])) { s with heap := h'', toks := tk } := I.turnNew (ch := [e, it]) hf (fun b o hb q => hk2 b o hb (hk b o hb q)) (fun b hb => by
   rcases List.mem_cons.mp hb with rfl | hq
   ·exact ⟨_, he2⟩
   ·rw [List.mem_singleton.mp hq]; obtain ⟨o, eo, _⟩ := hit2; exact ⟨o, eo⟩) hsz (vals := [.int i t, x']) (.cons ⟨t, rfl⟩ (.cons ru .nil)) (by show 2 ≤ sizeLine; decide) ⟨oT, hk2 T oT hTw eT, cT⟩
  refine ⟨.ref T, _, I2, rfl, ⟨T, x, rfl, I.hok.fresh hsz, rfl, fun ys hy => by rw [I.tuple_inj hy hq]; exact hx⟩, ⟨⟨old2, he2⟩, hit2⟩, fun b hb => ?_⟩
  rw [upd_ne (fun z => hTw (by rw [← z]; exact hb))]
  exact (hf b hb).1
 done := by
  intro X hP hw hK hc i pins s σ H E I hf st hg
  subst hP hw hK
  obtain ⟨xs, hq, hx⟩ := hg
  obtain ⟨its, rv, p, hz⟩ := I.tuple hq
  have hl := rv.length
  have W := WalksT.enumerateD (draws_tup (prog := X.prog) (w := X.w) (A := X.A.in1) (I.ok.hd hc) it a hai its.toArray) e hei (by simp [hei, Ne.symm hae]) (by simp)
  have ei : i = its.toArray.size := by rw [List.size_toArray]; omega
  subst ei
  exact W.done s _ E ⟨st.1, st.2, p⟩ fun h' tk hk => ⟨rfl, I.turnOnly hf hk⟩
 self := fun _ _ s _ _ st h => by
  obtain ⟨⟨old, he⟩, _⟩ := st
  exact wpAny_pyIter_enum he h
section
variable {X : Cx} {es : List Expr} {kt : Nat} {pt : Pos}
noncomputable def iEnu (K : PySem.W.Frag) (ta : TA) : TI := fun σ H R => ta σ H fun vs H1 => ∃ a, vs = [.ref a] ∧ (∃ xs, SqT K H1 a xs) ∧ R (Ite K a) H1
theorem pi_enu {e : Expr} {ta : TA} {p pos : Pos} (hm : X.mg "enumerate" = none) (ha : PA X [e] ta) (hg : Gl X "enumerate" := by rfl) (h : isStar e = false := by rfl) : PI X (.Tuple es kt pt) (.Call (.Name "enumerate" p) [e] [] pos) (iEnu X.K ta) := by
 intro pins s σ H R I hh
 refine Call_ (ld_blt I hg hm boot_enumerate (PyProof.Rows.callWith_type1 (thn (ha pos pins s σ H _ I hh) fun us s1 ⟨vs, H1, I1, r1, q1⟩ => ?_) (star1 h) rfl))
 obtain ⟨a, rfl, ⟨xs, hq⟩, q⟩ := q1
 obtain ⟨u, rfl, ru⟩ := r1.one
 cases ru
 obtain ⟨its, rv, pl, hz⟩ := I1.tuple hq
 have hlt : a < s1.heap.objs.size := by
  obtain ⟨o, eo, _⟩ := pl
  exact Heap.lt_size eo
 refine call_enu (its := its.toArray) pl fun h' he hi hk => wpAny_pyIter_enum he ?_
 refine ⟨_, [s1.heap.objs.size + 1, s1.heap.objs.size], _, _, H1, rfl, I1.kept (t' := s1.toks) hk, turn_enu a (s1.heap.objs.size + 1) s1.heap.objs.size (Nat.succ_ne_self _) (Nat.ne_of_lt hlt) (Nat.ne_of_lt (Nat.lt_of_lt_of_le hlt (Nat.le_succ _))), ⟨⟨_, he⟩, hi⟩, fun b hb => ?_, q⟩
 have hb' : s1.heap.objs.size ≤ b := by
  rcases List.mem_cons.mp hb with z | z
  ·rw [z]; exact Nat.le_succ _
  ·rw [List.mem_singleton.mp z]
   exact Nat.le_refl _
 exact I1.fpOk hb' (I1.hok.fresh hb')
end
section
variable {prog : Program} {w : World} {A : Around} {E : Value → Shared → Prop} {s : Shared}
theorem tupX {h h' : Heap} {t a : Addr} {its : Array Value} (T : h.IsTuple t its) (x : Heap.ExtBut a h h') (n : t ≠ a) : h'.IsTuple t its := let ⟨o, e, r⟩ := T; ⟨o, x t o n e, r⟩
theorem tupJ {h h' : Heap} {j t a : Addr} {i : Nat} (J : h.IsTupleIter j t i) (x : Heap.ExtBut a h h') (n : j ≠ a) : h'.IsTupleIter j t i := J.at fun o e => x j o n e
theorem zipT_item {z TI TO i1 i2 l1 l2 : Addr} {k1 k2 : Nat} {xs ys : Array Value} {x y a b : Value} {Q : Value → Shared → Prop} (D : ZipApart z TI TO i1 i2 l1 l2) (hz : IsZip s.heap z TI TO .none) (hTI : IsPair s.heap TI (.ref i1) (.ref i2)) (hTO : IsPair s.heap TO a b)
  (h1 : s.heap.IsTupleIter i1 l1 k1) (h2 : s.heap.IsTupleIter i2 l2 k2) (hl1 : s.heap.IsTuple l1 xs) (hl2 : s.heap.IsTuple l2 ys) (hx : xs[k1]? = some x) (hy : ys[k2]? = some y)
  (hQ : ∀ h', IsZip h' z TI TO (rawInt s.heap.objs.size) → IsPair h' TO x y → h'.IsTupleIter i1 l1 (k1 + 1) → h'.IsTupleIter i2 l2 (k2 + 1) → IsPair h' s.heap.objs.size x y →
   (∀ d o, d ≠ z → d ≠ TO → d ≠ i1 → d ≠ i2 → s.heap.get? d = some o → h'.get? d = some o) → Q (.ref s.heap.objs.size) { s with heap := h' }) :
  wpAny (model prog w) A (Builtin.«zip.__next__» ⟨[.ref z], []⟩) (fun f s' => ∃ v, f = .done (.ret v) ∧ Q v s') E s := by
 show wpAny _ _ (field (.ref z) 2 >>= _) _ _ _; refine wpAny_bind (wpAny_field hz rfl (x := .bool false) rfl ?_)
 show wpAny _ _ (field (.ref z) 3 >>= _) _ _ _; refine wpAny_bind (wpAny_field hz rfl (x := .ref TI) rfl ?_)
 refine wpAny_bind (wpAny_seqItems hTI rfl ?_); show wpAny _ _ (Builtin.SmallTypes.ownedTupleIsFree (.ref z) >>= _) _ _ _
 refine wpAny_bind ?_; unfold Builtin.SmallTypes.ownedTupleIsFree
 refine wpAny_bind (wpAny_field hz rfl (x := .none) rfl (wpAny_pure ?_)); simp only [if_true]
 refine wpAny_bind (wpAny_rule ?_); refine wpAny_bind (wpAny_field hz rfl (x := .ref TO) rfl ?_)
 refine wpAny_bind (wpAny_setField_rec hz (by simp) fun g1 zz1 s1 => ?_); replace zz1 : IsZip g1 z TI TO .ellipsis := zz1
 refine wpAny_bind ?_; simp only [List.zipIdx_cons, List.zipIdx_nil, List.forIn_cons, List.forIn_nil]
 refine wpAny_bind (wpAny_bind (wpAny_onRaise ?_)); show wpAny _ _ (Builtin.SmallTypes.nextOf (.ref i1) >>= _) _ _ _
 refine wpAny_bind (nextT_item (tupJ h1 s1.extBut D.i1z) (tupX hl1 s1.extBut D.l1z) hx fun g2 j2 s2 => wpAny_pure ?_)
 have o2 : IsPair g2 TO a b := s2.extBut _ _ D.TOi1 (s1.extBut _ _ D.TOz hTO)
 refine wpAny_bind (wpAny_seqItems o2 rfl ?_); refine wpAny_bind (wpAny_updateSeq_pair o2 fun g3 o3 s3 => ?_); replace o3 : IsPair g3 TO x b := o3
 refine wpAny_bind (wpAny_letGo (wpAny_pure ?_)); refine wpAny_bind (wpAny_bind (wpAny_onRaise ?_)); show wpAny _ _ (Builtin.SmallTypes.nextOf (.ref i2) >>= _) _ _ _
 refine wpAny_bind (nextT_item (tupJ (tupJ (tupJ h2 s1.extBut D.i2z) s2.extBut D.i12.symm) s3.extBut D.TOi2.symm) (tupX (tupX (tupX hl2 s1.extBut D.l2z) s2.extBut D.l2i1) s3.extBut D.l2TO) hy fun g4 j4 s4 => wpAny_pure ?_)
 have o4 : IsPair g4 TO x b := s4.extBut _ _ D.TOi2 o3
 refine wpAny_bind (wpAny_seqItems o4 rfl ?_); refine wpAny_bind (wpAny_updateSeq_pair o4 fun g5 o5 s5 => ?_); replace o5 : IsPair g5 TO x y := o5
 refine wpAny_bind (wpAny_letGo (wpAny_pure (wpAny_pure ?_))); refine wpAny_bind (wpAny_seqItems o5 rfl ?_); refine wpAny_bind (wpAny_newTuple ?_)
 have sz : g5.objs.size = s.heap.objs.size := by rw [s5.1, s4.1, s3.1, s2.1, s1.1]
 have z5 : IsZip g5 z TI TO .ellipsis := s5.extBut _ _ D.TOz.symm (s4.extBut _ _ D.i2z.symm (s3.extBut _ _ D.TOz.symm (s2.extBut _ _ D.i1z.symm zz1)))
 have k5 : ∀ c o, c ≠ z → c ≠ TO → c ≠ i1 → c ≠ i2 → s.heap.get? c = some o → g5.get? c = some o := fun c o c1 c2 c3 c4 q => s5.extBut _ _ c2 (s4.extBut _ _ c4 (s3.extBut _ _ c2 (s2.extBut _ _ c3 (s1.extBut _ _ c1 q))))
 have a5 : g5.IsTupleIter i1 l1 (k1 + 1) := tupJ (tupJ (tupJ j2 s3.extBut D.TOi1.symm) s4.extBut D.i12) s5.extBut D.TOi1.symm
 have b5 : g5.IsTupleIter i2 l2 (k2 + 1) := tupJ j4 s5.extBut D.TOi2.symm
 have zlt : z < g5.objs.size := Heap.lt_size z5
 show wpAny _ _ (Builtin.SmallTypes.ownedTupleHandOut (.ref z) (.ref g5.objs.size) >>= _) _ _ _; refine wpAny_bind ?_; unfold Builtin.SmallTypes.ownedTupleHandOut
 have z6 : IsZip (g5.push { cls := .type "tuple", data := .seq #[x, y] }) z TI TO .ellipsis := Heap.get?_push_of_some _ z5
 refine wpAny_bind (wpAny_setField_rec z6 (by simp) fun g7 z7 s7 => ?_); replace z7 : IsZip g7 z TI TO (rawInt g5.objs.size) := z7
 refine wpAny_setField_rec z7 (by simp) fun g8 z8 s8 => ?_; replace z8 : IsZip g8 z TI TO (rawInt g5.objs.size) := z8
 have up : ∀ c o, c ≠ z → g5.get? c = some o → g8.get? c = some o := fun c o c1 q => s8.extBut _ _ c1 (s7.extBut _ _ c1 (Heap.get?_push_of_some _ q))
 have t8 : IsPair g8 g5.objs.size x y := s8.extBut _ _ (Nat.ne_of_gt zlt) (s7.extBut _ _ (Nat.ne_of_gt zlt) (Heap.get?_push_size _ rfl))
 rw [sz] at z8 t8; refine wpAny_pure ⟨_, rfl, ?_⟩; show Q (.ref g5.objs.size) _; rw [sz]
 exact hQ g8 z8 (up _ _ D.TOz o5) (a5.at fun o q => up _ o D.i1z q) (b5.at fun o q => up _ o D.i2z q) t8 fun c o c1 c2 c3 c4 q => up c o c1 (k5 c o c1 c2 c3 c4 q)
theorem zipT_end {z TI TO i1 i2 l1 l2 : Addr} {k1 k2 : Nat} {xs ys : Array Value} {a b : Value} {Q : Fin → Shared → Prop} (hh : A.handled = none) (D : ZipApart z TI TO i1 i2 l1 l2) (hz : IsZip s.heap z TI TO .none) (hTI : IsPair s.heap TI (.ref i1) (.ref i2)) (hTO : IsPair s.heap TO a b)
  (h1 : s.heap.IsTupleIter i1 l1 k1) (h2 : s.heap.IsTupleIter i2 l2 k2) (hl1 : s.heap.IsTuple l1 xs) (hl2 : s.heap.IsTuple l2 ys) (hend : xs[k1]? = none ∨ ys[k2]? = none)
  (hE : ∀ h' e, (∀ d o, d ≠ z → d ≠ TO → d ≠ i1 → d ≠ i2 → s.heap.get? d = some o → h'.get? d = some o) → (∃ o, h'.get? e = some o ∧ o.cls = .type "StopIteration") → E (.ref e) { s with heap := h' }) : wpAny (model prog w) A (Builtin.«zip.__next__» ⟨[.ref z], []⟩) Q E s := by
 show wpAny _ _ (field (.ref z) 2 >>= _) _ _ _; refine wpAny_bind (wpAny_field hz rfl (x := .bool false) rfl ?_)
 show wpAny _ _ (field (.ref z) 3 >>= _) _ _ _; refine wpAny_bind (wpAny_field hz rfl (x := .ref TI) rfl ?_)
 refine wpAny_bind (wpAny_seqItems hTI rfl ?_); show wpAny _ _ (Builtin.SmallTypes.ownedTupleIsFree (.ref z) >>= _) _ _ _
 refine wpAny_bind ?_; unfold Builtin.SmallTypes.ownedTupleIsFree
 refine wpAny_bind (wpAny_field hz rfl (x := .none) rfl (wpAny_pure ?_)); simp only [if_true]
 refine wpAny_bind (wpAny_rule ?_); refine wpAny_bind (wpAny_field hz rfl (x := .ref TO) rfl ?_)
 refine wpAny_bind (wpAny_setField_rec hz (by simp) fun g1 zz1 s1 => ?_); replace zz1 : IsZip g1 z TI TO .ellipsis := zz1
 refine wpAny_bind ?_; simp only [List.zipIdx_cons, List.zipIdx_nil, List.forIn_cons, List.forIn_nil]
 refine wpAny_bind (wpAny_bind (wpAny_onRaise ?_)); show wpAny _ _ (Builtin.SmallTypes.nextOf (.ref i1) >>= _) _ _ _
 cases hx : xs[k1]? with
 | none =>
  refine wpAny_bind (nextT_end hh (tupJ h1 s1.extBut D.i1z) (tupX hl1 s1.extBut D.l1z) hx fun g2 e s2 he => ?_)
  obtain ⟨oe, hoe, hce⟩ := he; have z2 : IsZip g2 z TI TO .ellipsis := s2 _ _ D.i1z.symm zz1
  have ez : e ≠ z := fun q => by subst q; rw [z2] at hoe; cases hoe; simp at hce
  refine wpAny_setField_rec z2 (by simp) fun g3 _ s3 => hE g3 e (fun c o c1 _ c3 _ q => s3.extBut _ _ c1 (s2 _ _ c3 (s1.extBut _ _ c1 q))) ⟨oe, s3.extBut _ _ ez hoe, hce⟩
 | some x =>
  have hy : ys[k2]? = none := by rcases hend with q | q; rw [hx] at q; cases q; exact q
  refine wpAny_bind (nextT_item (tupJ h1 s1.extBut D.i1z) (tupX hl1 s1.extBut D.l1z) hx fun g2 j2 s2 => wpAny_pure ?_)
  have o2 : IsPair g2 TO a b := s2.extBut _ _ D.TOi1 (s1.extBut _ _ D.TOz hTO)
  refine wpAny_bind (wpAny_seqItems o2 rfl ?_); refine wpAny_bind (wpAny_updateSeq_pair o2 fun g3 o3 s3 => ?_); refine wpAny_bind (wpAny_letGo (wpAny_pure ?_))
  refine wpAny_bind (wpAny_bind (wpAny_onRaise ?_)); show wpAny _ _ (Builtin.SmallTypes.nextOf (.ref i2) >>= _) _ _ _
  refine wpAny_bind (nextT_end hh (tupJ (tupJ (tupJ h2 s1.extBut D.i2z) s2.extBut D.i12.symm) s3.extBut D.TOi2.symm) (tupX (tupX (tupX hl2 s1.extBut D.l2z) s2.extBut D.l2i1) s3.extBut D.l2TO) hy fun g4 e s4 he => ?_)
  obtain ⟨oe, hoe, hce⟩ := he; have z4 : IsZip g4 z TI TO .ellipsis := s4 _ _ D.i2z.symm (s3.extBut _ _ D.TOz.symm (s2.extBut _ _ D.i1z.symm zz1))
  have ez : e ≠ z := fun q => by subst q; rw [z4] at hoe; cases hoe; simp at hce
  refine wpAny_setField_rec z4 (by simp) fun g5 _ s5 => hE g5 e (fun c o c1 c2 c3 c4 q => s5.extBut _ _ c1 (s4 _ _ c4 (s3.extBut _ _ c2 (s2.extBut _ _ c3 (s1.extBut _ _ c1 q))))) ⟨oe, s5.extBut _ _ ez hoe, hce⟩
end
noncomputable abbrev zpH1 (h : Heap) (a : Addr) : Heap := h.push { cls := .type "tuple_iterator", data := .fields #[.ref a, .int 0 0] }
noncomputable abbrev zpH2 (h : Heap) (a b : Addr) : Heap := (zpH1 h a).push { cls := .type "tuple_iterator", data := .fields #[.ref b, .int 0 0] }
noncomputable abbrev zpH3 (h : Heap) (a b : Addr) : Heap := (zpH2 h a b).push { cls := .type "tuple", data := .seq #[.ref h.objs.size, .ref (zpH1 h a).objs.size] }
noncomputable abbrev zpH4 (h : Heap) (a b : Addr) : Heap := (zpH3 h a b).push { cls := .type "tuple", data := .seq #[.none, .none] }
noncomputable abbrev zpH5 (h : Heap) (a b : Addr) : Heap := (zpH4 h a b).push { cls := .type "zip", data := .fields #[.none, .bool false, .bool false, .ref (zpH2 h a b).objs.size, .ref (zpH3 h a b).objs.size] }
theorem zp_new (a b : Addr) (xs ys : Array Value) : Meets (Builtin.«zip.__new__» ⟨[.type "zip", .ref a, .ref b], []⟩) (fun _ R s => s.heap.IsTuple a xs ∧ s.heap.IsTuple b ys ∧ R (.ok (.ret (.ref (zpH4 s.heap a b).objs.size))) { s with heap := zpH5 s.heap a b }) :=
 .of_wp fun prog w A R s h => by
  obtain ⟨hp, g, d, tk, os⟩ := s; obtain ⟨hA, hB, h⟩ := h; have hsub := sub_zip
  have tA : Heap.IsTuple (Shared.heap ⟨hp, g, d, tk, os⟩) a xs := hA
  have tB : Heap.IsTuple (Shared.heap ⟨hp.push { cls := .type "tuple_iterator", data := .fields #[.ref a, .int 0 0] }, g, d, tk, os⟩) b ys := let ⟨o, e, r⟩ := hB; ⟨o, Heap.get?_push_of_some _ e, r⟩
  wp_walk using wpAny_pyIter_tuple tA, wpAny_pyIter_tuple tB
  exact ⟨_, rfl, h⟩
section
variable {prog : Program} {w : World} {A : Around} {E : Value → Shared → Prop} {s : Shared}
theorem call_zp {a b : Addr} {xs ys : Array Value} {Q : Value → Shared → Prop} (hA : s.heap.IsTuple a xs) (hB : s.heap.IsTuple b ys)
  (k : ∀ h', IsZip h' (s.heap.objs.size + 4) (s.heap.objs.size + 2) (s.heap.objs.size + 3) .none → IsPair h' (s.heap.objs.size + 2) (.ref s.heap.objs.size) (.ref (s.heap.objs.size + 1)) → IsPair h' (s.heap.objs.size + 3) .none .none →
   h'.IsTupleIter s.heap.objs.size a 0 → h'.IsTupleIter (s.heap.objs.size + 1) b 0 → (∀ c o, s.heap.get? c = some o → h'.get? c = some o) → Q (.ref (s.heap.objs.size + 4)) { s with heap := h' }) :
  wpAny (model prog w) A (call (.type "zip") [.ref a, .ref b]) Q E s := by
 refine callType_new F.called_zip (by decide) (F.typeCall_zip_2 _ _) (F.newCall_zip_2 _ _) (fun obj => F.args_object_init_3 obj _ _) F.entry_zip_new (zp_new a b xs ys) ⟨hA, hB, ?_⟩
 have z1 : (zpH1 s.heap a).objs.size = s.heap.objs.size + 1 := Heap.size_push ..
 have z2 : (zpH2 s.heap a b).objs.size = s.heap.objs.size + 2 := by rw [Heap.size_push, z1]
 have z3 : (zpH3 s.heap a b).objs.size = s.heap.objs.size + 3 := by rw [Heap.size_push, z2]
 have z4 : (zpH4 s.heap a b).objs.size = s.heap.objs.size + 4 := by rw [Heap.size_push, z3]
 have g5 : (zpH5 s.heap a b).get? (zpH4 s.heap a b).objs.size = some _ := Heap.get?_push_size _ rfl
 have g4 : (zpH5 s.heap a b).get? (zpH3 s.heap a b).objs.size = some _ := Heap.get?_push_of_some _ (Heap.get?_push_size _ rfl)
 have g3 : (zpH5 s.heap a b).get? (zpH2 s.heap a b).objs.size = some _ := Heap.get?_push_of_some _ (Heap.get?_push_of_some _ (Heap.get?_push_size _ rfl))
 have g2 : (zpH5 s.heap a b).get? (zpH1 s.heap a).objs.size = some _ := Heap.get?_push_of_some _ (Heap.get?_push_of_some _ (Heap.get?_push_of_some _ (Heap.get?_push_size _ rfl)))
 have g1 : (zpH5 s.heap a b).get? s.heap.objs.size = some _ := Heap.get?_push_of_some _ (Heap.get?_push_of_some _ (Heap.get?_push_of_some _ (Heap.get?_push_of_some _ (Heap.get?_push_size _ rfl))))
 show _ ∧ _
 rw [z2, z3, z4] at g5; rw [z1, z2] at g3; rw [z3] at g4; rw [z1] at g2
 have kk : ∀ c o, s.heap.get? c = some o → (zpH5 s.heap a b).get? c = some o := fun c o q => Heap.get?_push_of_some _ (Heap.get?_push_of_some _ (Heap.get?_push_of_some _ (Heap.get?_push_of_some _ (Heap.get?_push_of_some _ q))))
 rw [z4]
 exact ⟨⟨_, g5, rfl⟩, k _ g5 g3 g4 ⟨_, g1, rfl, rfl⟩ ⟨_, g2, rfl, rfl⟩ kk⟩
end
noncomputable def Itz (K : PySem.W.Frag) (a b : Addr) : It :=
 ⟨fun i H => ∃ xs ys x y, SqT K H a xs ∧ SqT K H b ys ∧ xs[i]? = some x ∧ ys[i]? = some y, fun i H v H' => ∃ p x y, v = .ref p ∧ H p = none ∧ H' = upd H p (.tup [x, y]) ∧ (∀ xs, SqT K H a xs → xs[i]? = some x) ∧ ∀ ys, SqT K H b ys → ys[i]? = some y,
  fun i H => ∃ xs ys, SqT K H a xs ∧ SqT K H b ys ∧ (xs.length ≤ i ∨ ys.length ≤ i)⟩
theorem turn_zp {P : Program} {w : World} {K : PySem.W.Frag} {es : List Expr} {kt : Nat} {pt : Pos} (a b z TI TO i1 i2 : Addr) (D : ZipApart z TI TO i1 i2 a b) :
  Turn P w K (.Tuple es kt pt) (Itz K a b) [z, TI, TO, i1, i2] z (fun i h => IsZip h z TI TO .none ∧ IsPair h TI (.ref i1) (.ref i2) ∧ (∃ u v, IsPair h TO u v) ∧ h.IsTupleIter i1 a i ∧ h.IsTupleIter i2 b i) where
 mem := by simp
 obj := fun i h st q hq => by
  obtain ⟨hz, hI, ⟨u, v, hO⟩, ⟨o1, e1, c1, d1⟩, ⟨o2, e2, c2, d2⟩⟩ := st
  simp only [List.mem_cons, List.not_mem_nil, or_false] at hq
  rcases hq with rfl | rfl | rfl | rfl | rfl
  ·exact ⟨_, hz, fun v y => by have y' : Data.fields _ = Data.cell v := y; cases y'⟩
  ·exact ⟨_, hI, fun v y => by have y' : Data.seq _ _ = Data.cell v := y; cases y'⟩
  ·exact ⟨_, hO, fun v y => by have y' : Data.seq _ _ = Data.cell v := y; cases y'⟩
  ·exact ⟨o1, e1, fun v y => by rw [d1] at y; cases y⟩
  ·exact ⟨o2, e2, fun v y => by rw [d2] at y; cases y⟩
 keep := fun i h h' st k => ⟨k z (by simp) _ st.1, k TI (by simp) _ st.2.1, let ⟨u, v, q⟩ := st.2.2.1; ⟨u, v, k TO (by simp) _ q⟩, st.2.2.2.1.at fun o x => k i1 (by simp) o x, st.2.2.2.2.at fun o x => k i2 (by simp) o x⟩
 item := by
  intro X hP hw hK hc i pins s σ H E I hf st hg
  subst hP hw hK
  obtain ⟨xs, ys, x, y, hqa, hqb, hx, hy⟩ := hg
  obtain ⟨ia, rva, pa, za⟩ := I.tuple hqa
  obtain ⟨ib, rvb, pb, zb⟩ := I.tuple hqb
  obtain ⟨u, hu, ru⟩ := rva.get hx
  obtain ⟨v, hv, rv⟩ := rvb.get hy
  obtain ⟨hz, hI, ⟨ou, ov, hO⟩, h1, h2⟩ := st
  have hT : s.TypeIs (.ref z) "zip" := ⟨_, hz, rfl⟩; unfold pyNext
  refine wpAny_bind (wpAny_attempt (wpAny_callSpecial?_slot (name := Str.ofString "__next__") hT F.slot_zip_next (wpAny_call_entry F.slot_zip_next hT F.entry_zip_next
   (zipT_item D hz hI hO h1 h2 pa pb (x := u) (y := v) (by simpa using hu) (by simpa using hv) fun h' z' o' a' b' t' k' => wpAny_pure ?_) (F.args_zip_next_1 _))))
  refine ⟨_, rfl, wpAny_letOwnedTupleGo_zip z' fun h'' z'' sb => ?_⟩
  have nz : s.heap.objs.size ≠ z := Nat.ne_of_gt (Heap.lt_size hz)
  have nTO : s.heap.objs.size ≠ TO := Nat.ne_of_gt (Heap.lt_size hO)
  have nTI : s.heap.objs.size ≠ TI := Nat.ne_of_gt (Heap.lt_size hI)
  have n1 : s.heap.objs.size ≠ i1 := by obtain ⟨o, e, _⟩ := h1; exact Nat.ne_of_gt (Heap.lt_size e)
  have n2 : s.heap.objs.size ≠ i2 := by obtain ⟨o, e, _⟩ := h2; exact Nat.ne_of_gt (Heap.lt_size e)
  have up : ∀ q o, q ≠ z → h'.get? q = some o → h''.get? q = some o := fun q o hq e => (sb.2 q hq).trans e
  have hI'' : IsPair h'' TI (.ref i1) (.ref i2) := up _ _ D.TIz (k' TI _ D.TIz D.TITO D.TIi1 D.TIi2 hI)
  have I2 : Inv X pins σ (upd H s.heap.objs.size (.tup [x, y])) { s with heap := h'', toks := s.toks } := I.turnNew (ch := [z, TI, TO, i1, i2]) hf (fun q o hq e => by
   simp only [List.mem_cons, List.not_mem_nil, or_false, not_or] at hq
   exact up q o hq.1 (k' q o hq.1 hq.2.2.1 hq.2.2.2.1 hq.2.2.2.2 e)) (fun q hq => by
   simp only [List.mem_cons, List.not_mem_nil, or_false] at hq
   rcases hq with rfl | rfl | rfl | rfl | rfl
   ·exact ⟨_, z''⟩
   ·exact ⟨_, hI''⟩
   ·exact ⟨_, up _ _ D.TOz o'⟩
   ·obtain ⟨o, e, _⟩ := a'; exact ⟨o, up _ o D.i1z e⟩
   ·obtain ⟨o, e, _⟩ := b'; exact ⟨o, up _ o D.i2z e⟩) (Nat.le_refl _) (vals := [u, v]) (.cons ru (.cons rv .nil)) (by show 2 ≤ sizeLine; decide) ⟨_, up _ _ nz t', rfl, _, rfl⟩
  refine ⟨.ref s.heap.objs.size, _, I2, rfl, ⟨_, x, y, rfl, I.fresh, rfl, fun zs hzs => by rw [I.tuple_inj hzs hqa]; exact hx, fun zs hzs => by rw [I.tuple_inj hzs hqb]; exact hy⟩,
   ⟨z'', hI'', ⟨_, _, up _ _ D.TOz o'⟩, a'.at fun o e => up _ o D.i1z e, b'.at fun o e => up _ o D.i2z e⟩, fun q hq => ?_⟩
  have hq0 := (hf q hq).1
  simp only [List.mem_cons, List.not_mem_nil, or_false] at hq
  rw [upd_ne]
  ·exact hq0
  ·rcases hq with rfl | rfl | rfl | rfl | rfl
   ·exact Ne.symm nz
   ·exact Ne.symm nTI
   ·exact Ne.symm nTO
   ·exact Ne.symm n1
   ·exact Ne.symm n2
 done := by
  intro X hP hw hK hc i pins s σ H E I hf st hg
  subst hP hw hK
  obtain ⟨xs, ys, hqa, hqb, hx⟩ := hg
  obtain ⟨ia, rva, pa, za⟩ := I.tuple hqa
  obtain ⟨ib, rvb, pb, zb⟩ := I.tuple hqb
  obtain ⟨hz, hI, ⟨ou, ov, hO⟩, h1, h2⟩ := st
  have la := rva.length
  have lb := rvb.length
  have hT : s.TypeIs (.ref z) "zip" := ⟨_, hz, rfl⟩; unfold pyNext
  refine wpAny_bind (wpAny_attempt (wpAny_callSpecial?_slot (name := Str.ofString "__next__") hT F.slot_zip_next (wpAny_call_entry F.slot_zip_next hT F.entry_zip_next
   (zipT_end (I.ok.hd hc) D hz hI hO h1 h2 pa pb (hx.elim (fun q => .inl (by simp; omega)) fun q => .inr (by simp; omega)) fun h' e k' he => ?_) (F.args_zip_next_1 _))))
  obtain ⟨o, ho, hcl⟩ := he
  refine wpAny_bind (wpAny_isInstance (T := "StopIteration") (b := true) ⟨o, ho, hcl⟩ isSubtype_stop ?_)
  refine wpAny_pure ⟨rfl, I.turnOnly (tk := s.toks) hf fun q o hq e => ?_⟩
  simp only [List.mem_cons, List.not_mem_nil, or_false, not_or] at hq
  exact k' q o hq.1 hq.2.2.1 hq.2.2.2.1 hq.2.2.2.2 e
 self := fun _ _ s _ _ st h => wpAny_pyIter_zip st.1 h
section
variable {X : Cx} {es : List Expr} {kt : Nat} {pt : Pos}
noncomputable def iZp (K : PySem.W.Frag) (ta : TA) : TI := fun σ H R => ta σ H fun vs H1 => ∃ a b, vs = [.ref a, .ref b] ∧ (∃ xs, SqT K H1 a xs) ∧ (∃ ys, SqT K H1 b ys) ∧ R (Itz K a b) H1
theorem pi_zp {e e' : Expr} {ta : TA} {p pos : Pos} (hm : X.mg "zip" = none) (ha : PA X [e, e'] ta) (hg : Gl X "zip" := by rfl) (h : isStar e = false := by rfl) (h' : isStar e' = false := by rfl) : PI X (.Tuple es kt pt) (.Call (.Name "zip" p) [e, e'] [] pos) (iZp X.K ta) := by
 intro pins s σ H R I hh
 refine Call_ (ld_blt I hg hm boot_zip (PyProof.Rows.callWith_type1 (thn (ha pos pins s σ H _ I hh) fun us s1 ⟨vs, H1, I1, r1, q1⟩ => ?_) (star1 h) (star_any (by simp [h']))))
 obtain ⟨a, b, rfl, ⟨xs, hqa⟩, ⟨ys, hqb⟩, q⟩ := q1
 cases r1 with
 | cons ru r2 =>
  cases r2 with
  | cons rv r3 =>
   cases r3
   cases ru
   cases rv
   obtain ⟨ia, rva, pa, za⟩ := I1.tuple hqa
   obtain ⟨ib, rvb, pb, zb⟩ := I1.tuple hqb
   have la : a < s1.heap.objs.size := by obtain ⟨o, e, _⟩ := pa; exact Heap.lt_size e
   have lb : b < s1.heap.objs.size := by obtain ⟨o, e, _⟩ := pb; exact Heap.lt_size e
   refine call_zp (xs := ia.toArray) (ys := ib.toArray) pa pb fun g hz hI hO j1 j2 hk => wpAny_pyIter_zip hz ?_
   refine ⟨_, [s1.heap.objs.size + 4, s1.heap.objs.size + 2, s1.heap.objs.size + 3, s1.heap.objs.size, s1.heap.objs.size + 1], _, _, H1, rfl, I1.kept (t' := s1.toks) hk, turn_zp a b _ _ _ _ _ (zipApart_new la lb), ⟨hz, hI, ⟨_, _, hO⟩, j1, j2⟩, fun q hq => ?_, by assumption⟩
   have hq' : s1.heap.objs.size ≤ q := by
    simp only [List.mem_cons, List.not_mem_nil, or_false] at hq
    rcases hq with z | z | z | z | z <;> rw [z] <;> first | exact Nat.le_refl _ | exact Nat.le_add_right _ _
   exact I1.fpOk hq' (I1.hok.fresh hq')
end
section
variable {X : Cx}
noncomputable def rTupF (K : PySem.W.Frag) : List V → Hp → VK → Prop := fun xs H Q => ∃ p ys, xs = [.ref p] ∧ SqL K H p ys ∧ ∀ l o, H l = none → o.dict = none → o.cls = .type "tuple" → Q (.ref l) (upd H l (.frz o (.tup ys)))
theorem call_tupleF : CallR X (.type "tuple") (rTupF X.K) := by
 intro pins s σ H xs us Q I r h
 obtain ⟨p, ys, rfl, hq, q⟩ := h
 obtain ⟨u, rfl, rx⟩ := r.one
 cases rx
 obtain ⟨its, r', pl, hz⟩ := I.list hq
 have hlen := r'.length
 refine call_tuple_list pl.isList (fun h' kp => ?_) (by simp only [List.size_toArray] <;> omega)
 have I1 : Inv X pins σ H { s with heap := h' } := I.kept (t' := s.toks) kp
 have g : (h'.push { cls := .type "tuple", data := .seq its.toArray }).get? h'.objs.size = some { cls := .type "tuple", data := .seq its.toArray } := Heap.get?_push_size _ rfl
 have I2 : Inv X pins σ (upd H h'.objs.size (.frz { cls := .type "tuple", data := .seq its.toArray } (.tup ys))) { s with heap := h'.push { cls := .type "tuple", data := .seq its.toArray } } :=
  I1.laid (t' := s.toks) (fun b o e => Heap.get?_push_of_some _ e) (Nat.le_refl _) ⟨g, hz, its, r', ⟨_, g, rfl, _, rfl⟩⟩
 exact ⟨.ref h'.objs.size, _, I2, rfl, q _ _ (I1.hok.fresh (Nat.le_refl _)) rfl rfl⟩
end
section
variable {prog : Program} {w : World} {A : Around} {E : Value → Shared → Prop} {s : Shared}
end
noncomputable def TupF (H : Hp) (l : Addr) (ys : List V) : Prop := ∃ o, H l = some (.frz o (.tup ys)) ∧ o.dict = none ∧ o.cls = .type "tuple"
theorem TupF.sq {K : PySem.W.Frag} {H : Hp} {l : Addr} {ys : List V} (t : TupF H l ys) : SqT K H l ys := let ⟨o, e, _⟩ := t; .inl (.inr ⟨o, e⟩)
section
variable {X : Cx} {o e : Expr} {to : TE} {ta : TA} {apos cpos : Pos}
end
end L2
namespace K93
open PySem L2
local macro_rules | `(tactic| walk_at "v") => `(tactic| repeat (with_reducible first
  | refine w_seq ?_ | refine w_asg ?_ | refine w_gname ?_ | refine w_op ?_ | refine w_var rfl ?_ | refine w_c ?_ | refine w_rI0 ?_ | refine w_ifs ?_ | refine w_ife ?_ | refine w_test ?_ | refine w_tb ?_ | refine w_bl ?_ | refine w_not ?_ | refine w_ret ?_ | refine w_retN ?_
  | refine w_nil ?_ | refine w_cons ?_ | refine w_lst ?_ | refine w_tup ?_ | refine w_cb ?_ | refine w_call ?_ | refine w_gsub ?_ | refine w_and ?_ | refine w_or ?_ | refine w_next ?_ | refine w_all ?_ | refine w_vals ?_ | refine w_compR ?_ | refine w_compT ?_ | refine w_forR ?_ | refine w_forT ?_ | refine w_forL ?_ | refine w_drop ?_ | refine w_bm ?_ | refine iteT ?_ | refine iteF ?_))
noncomputable abbrev sPot : Stmt := top 33
noncomputable abbrev nPot : List Str := ["_law_feed_here", "_law_many", "_law_sorts", "_law_rules", "_law_left", "_law_inputs", "_law_k", "_law_begin"]
theorem nmPot : Nm nPot (defScope sPot) := ⟨by decide +kernel, by decide +kernel⟩
theorem scPot : FnScope nPot ["_law_feed_here"] (defScope sPot) := ⟨rfl, rfl, rfl, by decide +kernel, rfl, by decide +kernel, by decide +kernel⟩
noncomputable def callComp (s : Stmt) : Scope := match s with
 | .Assign _ (.Call _ [.ListComp _ _ sc _] _ _) _ => sc
 | _ => { kind := .function, names := [], isGenerator := false, isCoroutine := false }
noncomputable abbrev cPot (i : Nat) : Scope := callComp ((defBody sPot).getD i (.Pass ⟨0, 0, 0, 0⟩))
theorem bsPot2 : BScope (defScope sPot) (cPot 2) ["_law_k"] ["_law_feed_here", "_law_many"] ["_law_rule"] := { okind := by decide +kernel, kind := by decide +kernel, nocell := by decide +kernel, names := by decide +kernel, fr := by decide +kernel, ff := by decide +kernel, nd := by decide +kernel, vis := by decide +kernel, loc := by decide +kernel, gl := by decide +kernel }
theorem bsPot6 : BScope (defScope sPot) (cPot 6) ["_law_sort"] ["_law_feed_here"] ["_law_draw"] := { okind := by decide +kernel, kind := by decide +kernel, nocell := by decide +kernel, names := by decide +kernel, fr := by decide +kernel, ff := by decide +kernel, nd := by decide +kernel, vis := by decide +kernel, loc := by decide +kernel, gl := by decide +kernel }
structure TK (H H' : Hp) : Prop where
 t : ∀ q xs, H q = some (.tup xs) → H' q = some (.tup xs)
 f : ∀ q o u, H q = some (.frz o u) → H' q = some (.frz o u)
theorem TK.tf {H H' : Hp} {l : Addr} {ys : List V} (k : TK H H') (x : TupF H l ys) : TupF H' l ys := let ⟨o, e, r⟩ := x; ⟨o, k.f _ _ _ e, r⟩
structure SS (p : Addr) (H0 H : Hp) : Prop where
 fd : FeedAt H p
 bt : But p H0 H
section
variable {p l : Addr} {H0 H H' H'' : Hp} {o : HO}
theorem TK.refl : TK H H := ⟨fun _ _ e => e, fun _ _ _ e => e⟩
theorem TK.trans (a : TK H H') (b : TK H' H'') : TK H H'' := ⟨fun q xs e => b.t q xs (a.t q xs e), fun q o u e => b.f q o u (a.f q o u e)⟩
theorem TK.new (h : H l = none) : TK H (upd H l o) := ⟨fun q xs e => by rw [upd_ne (ne_of_none e h)]; exact e, fun q ob u e => by rw [upd_ne (ne_of_none e h)]; exact e⟩
theorem TK.lst {ys : List V} (h : H l = some (.lst ys)) : TK H (upd H l o) := ⟨fun q xs e => by rw [upd_ne (ne_of e h (by intro z; cases z))]; exact e, fun q ob u e => by rw [upd_ne (ne_of e h (by intro z; cases z))]; exact e⟩
theorem TK.feed (F : FeedAt H p) : TK H (upd H p o) := by
 obtain ⟨x, y, z, e⟩ := F
 exact TK.lst e
theorem TK.but (F : FeedAt H p) (b : But p H H') : TK H H' := by
 obtain ⟨x, y, z, ep⟩ := F
 exact ⟨fun q xs e => b q _ e (ne_of e ep (by intro z; cases z)), fun q ob u e => b q _ e (ne_of e ep (by intro z; cases z))⟩
theorem SS.draw (r : SS p H0 H) {x y z : Int} : SS p H0 (upd H p (.lst [.int x, .int y, .int z])) := ⟨FeedAt.here, r.bt.at⟩
theorem SS.new (r : SS p H0 H) (h : H l = none) : SS p H0 (upd H l o) := ⟨r.fd.new (r.fd.ne h), r.bt.new h⟩
theorem SS.put (r : SS p H0 H) (h : H0 l = none) (hl : p ≠ l) : SS p H0 (upd H l o) := ⟨r.fd.new hl, r.bt.put h⟩
theorem SS.call (r : SS p H0 H) (f : FeedAt H' p) (b : But p H H') : SS p H0 H' := ⟨f, r.bt.trans b⟩
theorem SS.none (r : SS p H0 H) (h : H l = none) : H0 l = none := r.bt.free (r.fd.ne h) h
theorem RuleAt.tk {m : Nat} {r : Addr} (k : TK H H') (R : RuleAt m H r) : RuleAt m H' r := by
 obtain ⟨a, b, e, ⟨ts, et, h1, h2⟩, ⟨gs, eg, h3, h4⟩⟩ := R
 exact ⟨a, b, k.t _ _ e, ⟨ts, k.t _ _ et, h1, h2⟩, ⟨gs, k.t _ _ eg, h3, h4⟩⟩
end
theorem map_erase {α β : Type} (f : α → β) : ∀ (xs : List α) (j : Nat), (xs.map f).eraseIdx j = (xs.eraseIdx j).map f
 | [], _ => rfl
 | _ :: _, 0 => rfl
 | x :: xs, j + 1 => by
  show f x :: (xs.map f).eraseIdx j = f x :: (xs.eraseIdx j).map f
  rw [map_erase f xs j]
theorem pick8 {r : Int} (h0 : 0 ≤ r) (h1 : r < 8) : ∃ m : Nat, 0 < m ∧ m ≤ 8 ∧ atI ([.int 1, .int 2, .int 3, .int 3, .int 4, .int 5, .int 6, .int 8] : List V) r = some (.int (m : Int)) := by
 obtain ⟨j, rfl⟩ := Nat.ofI h0
 have : j = 0 ∨ j = 1 ∨ j = 2 ∨ j = 3 ∨ j = 4 ∨ j = 5 ∨ j = 6 ∨ j = 7 := by omega
 rcases this with rfl | rfl | rfl | rfl | rfl | rfl | rfl | rfl
 ·exact ⟨1, by decide, by decide, rfl⟩
 ·exact ⟨2, by decide, by decide, rfl⟩
 ·exact ⟨3, by decide, by decide, rfl⟩
 ·exact ⟨3, by decide, by decide, rfl⟩
 ·exact ⟨4, by decide, by decide, rfl⟩
 ·exact ⟨5, by decide, by decide, rfl⟩
 ·exact ⟨6, by decide, by decide, rfl⟩
 ·exact ⟨8, by decide, by decide, rfl⟩
theorem pickR {r : Int} (h0 : 0 ≤ r) (h1 : r < 8) : ∃ m : Nat, m ≤ 8 ∧ atI ([.int 0, .int 1, .int 2, .int 2, .int 3, .int 4, .int 5, .int 8] : List V) r = some (.int (m : Int)) := by
 obtain ⟨j, rfl⟩ := Nat.ofI h0
 have : j = 0 ∨ j = 1 ∨ j = 2 ∨ j = 3 ∨ j = 4 ∨ j = 5 ∨ j = 6 ∨ j = 7 := by omega
 rcases this with rfl | rfl | rfl | rfl | rfl | rfl | rfl | rfl
 ·exact ⟨0, by decide, rfl⟩
 ·exact ⟨1, by decide, rfl⟩
 ·exact ⟨2, by decide, rfl⟩
 ·exact ⟨2, by decide, rfl⟩
 ·exact ⟨3, by decide, rfl⟩
 ·exact ⟨4, by decide, rfl⟩
 ·exact ⟨5, by decide, rfl⟩
 ·exact ⟨8, by decide, rfl⟩
theorem pickI {r : Int} (h0 : 0 ≤ r) (h1 : r < 5) : ∃ m : Nat, m ≤ 3 ∧ atI ([.int 0, .int 1, .int 2, .int 2, .int 3] : List V) r = some (.int (m : Int)) := by
 obtain ⟨j, rfl⟩ := Nat.ofI h0
 have : j = 0 ∨ j = 1 ∨ j = 2 ∨ j = 3 ∨ j = 4 := by omega
 rcases this with rfl | rfl | rfl | rfl | rfl
 ·exact ⟨0, by decide, rfl⟩
 ·exact ⟨1, by decide, rfl⟩
 ·exact ⟨2, by decide, rfl⟩
 ·exact ⟨2, by decide, rfl⟩
 ·exact ⟨3, by decide, rfl⟩
theorem pickB {r b : Int} (h0 : 0 ≤ r) (h1 : r < 6) (b0 : 0 ≤ b) (b1 : b < 100) : ∃ m : Int, 0 ≤ m ∧ m ≤ 99 ∧ atI ([.int 0, .int 0, .int 1, .int 2, .int 99, .int b] : List V) r = some (.int m) := by
 obtain ⟨j, rfl⟩ := Nat.ofI h0
 have : j = 0 ∨ j = 1 ∨ j = 2 ∨ j = 3 ∨ j = 4 ∨ j = 5 := by omega
 rcases this with rfl | rfl | rfl | rfl | rfl | rfl
 ·exact ⟨0, by decide, by decide, rfl⟩
 ·exact ⟨0, by decide, by decide, rfl⟩
 ·exact ⟨1, by decide, by decide, rfl⟩
 ·exact ⟨2, by decide, by decide, rfl⟩
 ·exact ⟨99, by decide, by decide, rfl⟩
 ·exact ⟨b, by omega, by omega, rfl⟩
structure PotAt (H : Hp) (p : Addr) (nm : List Str) (ins beg : List Int) (ans : Int) (m : Nat) : Prop where
 ex : ∃ (ps pr pin pb : Addr) (rs : List Addr), H p = some (.tup [.ref ps, .ref pr, .ref pin, .ref pb, .int ans]) ∧ TupF H ps (nm.map V.str) ∧ H pr = some (.tup (rs.map V.ref)) ∧ (∀ r ∈ rs, RuleAt m H r) ∧ rs.length ≤ 8 ∧
  H pin = some (.tup (ins.map V.int)) ∧ H pb = some (.tup (beg.map V.int))
 hn : Names m nm
 m0 : 0 < m
 m8 : m ≤ 8
 hi : ∀ i ∈ ins, 0 ≤ i ∧ i < m
 i3 : ins.length ≤ 3
 bl : beg.length = m
 hb : ∀ b ∈ beg, 0 ≤ b ∧ b ≤ 99
 ha : 0 ≤ ans ∧ ans < m
noncomputable def spPot : Sp := fun vs H Q _ => ∃ (p : Addr), vs = [.ref p] ∧ FeedAt H p ∧ ∀ (l : Addr) (H' : Hp) (nm : List Str) (ins beg : List Int) (ans : Int) (m : Nat), H l = none → PotAt H' l nm ins beg ans m → FeedAt H' p → But p H H' → Q (.ref l) H'
section
variable {P : Program} {w : World} {K : PySem.W.Frag} {mg : Str → Option Value} {base : Heap}
structure Blt2 (mg : Str → Option Value) : Prop extends Blt mg where
 list : mg "list" = none
 min : mg "min" = none
set_option maxHeartbeats 2000000 in
theorem ok_pot {f : Addr} {fd : FuncData} (B : Blt2 mg) (D : Has P w K mg base 1 "_law_draw" ["_law_feed_here", "_law_many"] spDraw) (N : Has P w K mg base 2 "_law_names" ["_law_feed_here", "_law_many"] spNames)
  (R : Has P w K mg base 2 "_law_rule" ["_law_feed_here", "_law_many"] spRule) (F : Fun K "_law_pot" "_law_pot" sPot f fd) : FnOk P w K mg base CX0 3 f fd ["_law_feed_here"] spPot := by
 refine F.ok scPot (fun vs H Q E h => ?_) (fun cdv A outer s H vs Q E hr h => ?_)
 ·obtain ⟨p, rfl, _⟩ := h
  rfl
 ·obtain ⟨p, rfl, hF, k⟩ := h
  refine' ⟨_, ?hb, ?rd⟩
  case hb =>
   refine' pss_cons ?s1 ?r1
   case' r1 => refine' pss_cons ?s2 ?r2
   case' r2 => refine' pss_cons ?s3 ?r3
   case' r3 => refine' pss_cons ?s4 ?r4
   case' r4 => refine' pss_cons ?s5 ?r5
   case' r5 => refine' pss_cons ?s6 ?r6
   case' r6 => refine' pss_cons ?s7 ?r7
   case' r7 => refine' pss_one ?s8
   case s1 =>
    refine' ps_setD nmPot 1 ?p1
    case p1 =>
     refine' pe_ix ix_d ?a1 (pe_f D hr (by decide) (pa_2 (pvd nmPot 0) pe_int)) (fun _ _ => rfl)
     case a1 =>
      refine pe_lstC (vs := [.int 1, .int 2, .int 3, .int 3, .int 4, .int 5, .int 6, .int 8]) ?_
      decide +kernel
   case s2 => exact ps_setD nmPot 2 (pe_cT call_tupleF B.tuple PyProof.Rows.boot_tuple (pa_1 (pe_f N hr (by decide) (pa_2 (pvd nmPot 0) (pvd nmPot 1)))))
   case s3 =>
    refine' ps_setD nmPot 3 ?p3
    case p3 =>
     refine' pe_cT call_tuple_of B.tuple PyProof.Rows.boot_tuple ?qc3
     case' qc3 => refine' pa_1 ?c3
     case c3 =>
      refine' pe_comp (ix := [0, 1]) bsPot2.toCScope rfl rfl ?h3 ?h4 ?h5 ?h6
      case h3 =>
       refine' pi_r1 B.range ?pa3
       case' pa3 => refine' pa_1 ?i3
       case i3 =>
        refine' pe_ix ix_d ?l3 (pe_f D hr (by decide) (pa_2 (pvd nmPot 0) pe_int)) (fun _ _ => rfl)
        case l3 =>
         refine pe_lstC (vs := [.int 0, .int 1, .int 2, .int 2, .int 3, .int 4, .int 5, .int 8]) ?_
         decide +kernel
      case h4 => exact fun _ _ _ _ _ _ => pgb bsPot2 0
      case h5 => exact fun _ _ _ _ _ _ => pts_nil
      case h6 => exact fun _ _ _ _ _ _ => pe_f R hr (by decide) (pa_2 (pvb bsPot2 1) (pvb bsPot2 2)) (bsPot2.g 0)
   case s4 =>
    refine' ps_setD nmPot 4 ?p4
    case' p4 => refine' pe_cT (call_listRng rfl) B.list PyProof.Rows.boot_list ?q4
    case' q4 => refine' pa_1 ?u4
    case u4 => exact pe_cT call_rangeV B.range PyProof.Rows.boot_range (pa_1 (pvd nmPot 1))
   case s5 => exact ps_setD nmPot 5 (pe_lst pa_nil)
   case s6 =>
    refine' ps_for PassesOwn.never rfl ?i6 (pgd nmPot 6) ?b6
    case i6 =>
     refine' pi_r1 B.range ?pa6
     case' pa6 => refine' pa_1 ?j6
     case j6 =>
      refine' pe_cB (call_min2 rfl) B.min PyProof.Rows.boot_min ?q6
      case' q6 => refine' pa_2 ?m6a ?m6
      case m6a => exact pvd nmPot 1
      case m6 =>
       refine' pe_ix ix_d ?l6 (pe_f D hr (by decide) (pa_2 (pvd nmPot 0) pe_int)) (fun _ _ => rfl)
       case l6 =>
        refine pe_lstC (vs := [.int 0, .int 1, .int 2, .int 2, .int 3]) ?_
        decide +kernel
    case b6 =>
     refine' pss_one ?b6a
     case' b6a => refine' ps_expr ?b6b
     case' b6b => refine' pe_bm PySem.F.plainAttrs_list PySem.F.slot_list_append PySem.F.type_list_append mt_append (pvd nmPot 5) ?b6c
     case' b6c => refine' pa_1 ?b6d
     case' b6d => refine' pe_bm PySem.F.plainAttrs_list PySem.F.slot_list_pop PySem.F.type_list_pop mt_popAt (pvd nmPot 4) ?b6e
     case' b6e => refine' pa_1 ?b6f
     case' b6f => refine' pe_f D hr (by decide) ?b6g
     case' b6g => refine' pa_2 (pvd nmPot 0) ?b6h
     case b6h => exact pe_cB call_len_seq B.len PySem.boot_len (pa_1 (pvd nmPot 4))
   case s7 =>
    refine' ps_setD nmPot 7 ?p7
    case p7 =>
     refine' pe_cT call_tuple_of B.tuple PyProof.Rows.boot_tuple ?qc7
     case' qc7 => refine' pa_1 ?c7
     case c7 =>
      refine' pe_comp (ix := [0]) bsPot6.toCScope rfl rfl ?h3 ?h4 ?h5 ?h6
      case h3 => exact pi_tup (pvd nmPot 2)
      case h4 => exact fun _ _ _ _ _ _ => pgb bsPot6 0
      case h5 => exact fun _ _ _ _ _ _ => pts_nil
      case h6 =>
       intro _ _ _ _ _ _
       refine' pe_ix ix_d ?e7 ?g7 (fun _ _ => rfl)
       case g7 => exact pe_f D hr (by decide) (pa_2 (pvb bsPot6 1) pe_int) (bsPot6.g 0)
       case e7 =>
        refine' pe_lst ?e7a
        case' e7a => refine' pa_c pe_int ?e7b
        case' e7b => refine' pa_c pe_int ?e7c
        case' e7c => refine' pa_c pe_int ?e7d
        case' e7d => refine' pa_c pe_int ?e7e
        case' e7e => refine' pa_c pe_int ?e7f
        case' e7f => refine' pa_1 ?e7g
        case e7g => exact pe_f D hr (by decide) (pa_2 (pvb bsPot6 1) pe_int) (bsPot6.g 0)
   case s8 => exact ps_ret (pe_tup (pa_c (pvd nmPot 2) (pa_c (pvd nmPot 3) (pa_c (pe_cT call_tuple_of B.tuple PyProof.Rows.boot_tuple (pa_1 (pvd nmPot 5))) (pa_c (pvd nmPot 7) (pa_c (pe_f D hr (by decide) (pa_2 (pvd nmPot 0) (pvd nmPot 1))) pa_nil))))))
  case rd =>
   have S0 : SS p H H := ⟨hF, But.refl⟩
   walk_at "v"
   refine ⟨by show 8 ≤ sizeLine; decide, fun a1 ha1 => ?_⟩
   have S1 := S0.new (o := .lst [.int 1, .int 2, .int 3, .int 3, .int 4, .int 5, .int 6, .int 8]) ha1
   have np1 := S0.fd.ne ha1
   walk_at "v"
   refine ⟨p, 8, rfl, S1.fd, by decide, by decide, fun r x y z r0 r1 => ?_⟩
   obtain ⟨m, m0, m8, hat⟩ := pick8 r0 r1
   refine w_ixL (by rw [upd_ne (Ne.symm np1), upd_same]) hat ?_
   have S2 := S1.draw (x := x) (y := y) (z := z)
   generalize upd (upd H a1 (.lst [.int 1, .int 2, .int 3, .int 3, .int 4, .int 5, .int 6, .int 8])) p (.lst [.int x, .int y, .int z]) = H2 at S2 ⊢
   clear S1 hat r0 r1
   have hm : ((m : Nat) : Int) < 1000000 := by omega
   have hm0 : (0 : Int) < (m : Int) := by omega
   walk_at "v"
   refine ⟨p, m, rfl, S2.fd, m0, m8, fun l nm H3 hl hN hF3 hB3 hl3 => ?_⟩
   have S3 := S2.call hF3 hB3
   walk_at "v"
   refine ⟨l, _, rfl, SqL.of hl3, fun ps ob hps hod hoc => ?_⟩
   have S4 := S3.new (o := .frz ob (.tup (nm.map V.str))) hps
   have ep : TupF (upd H3 ps (.frz ob (.tup (nm.map V.str)))) ps (nm.map V.str) := ⟨ob, upd_same, hod, hoc⟩
   generalize upd H3 ps (.frz ob (.tup (nm.map V.str))) = H4 at S4 ep ⊢
   clear S3 S2 hl hF3 hB3 hl3 hps
   walk_at "v"
   refine ⟨by show 8 ≤ sizeLine; decide, fun a3 ha3 => ?_⟩
   have S5 := S4.new (o := .lst [.int 0, .int 1, .int 2, .int 2, .int 3, .int 4, .int 5, .int 8]) ha3
   have np3 := S4.fd.ne ha3
   walk_at "v"
   refine ⟨p, 8, rfl, S5.fd, by decide, by decide, fun r x y z r0 r1 => ?_⟩
   obtain ⟨n, n8, hat⟩ := pickR r0 r1
   refine w_ixL (by rw [upd_ne (Ne.symm np3), upd_same]) hat ?_
   have S6 := S5.draw (x := x) (y := y) (z := z)
   have ep6 := ((TK.new (o := .lst [.int 0, .int 1, .int 2, .int 2, .int 3, .int 4, .int 5, .int 8]) ha3).trans (TK.feed (o := .lst [.int x, .int y, .int z]) S5.fd)).tf ep
   generalize upd (upd H4 a3 (.lst [.int 0, .int 1, .int 2, .int 2, .int 3, .int 4, .int 5, .int 8])) p (.lst [.int x, .int y, .int z]) = H6 at S6 ep6 ⊢
   clear S5 hat r0 r1 ep S4 ha3 np3 np1 ha1
   walk_at "v"
   refine ⟨n, rfl, by omega, by omega, fun dr hdr => ?_⟩
   have ndr := S6.none hdr
   have pdr := S6.fd.ne hdr
   refine cgo_range (ρ := [some (.ref p), some (.int m)]) (fun i ys H' => ∃ rs : List Addr, ys = rs.map V.ref ∧ rs.length = i ∧ (∀ r ∈ rs, RuleAt m H' r) ∧ SS p H H' ∧ TK H6 H') ⟨[], rfl, rfl, (fun r h => by cases h), S6.new hdr, TK.new hdr⟩ ?_ ?_
   ·rintro i ys H' hi ⟨rs, rfl, hlen, hrs, S, T⟩ hD R' S' kR _
    walk_at "v"
    refine ⟨p, m, rfl, S.fd, m0, m8, fun r H'' hr0 hR hF' hB => ?_⟩
    have S7 := S.call hF' hB
    have hD' := hB dr _ hD (Ne.symm pdr)
    have T7 := TK.but S.fd hB
    have T8 : TK H'' (upd H'' dr (.lst (rs.map V.ref ++ [.ref r]))) := TK.lst hD'
    refine kR _ _ hD' (by rw [List.length_map]; exact small1000 (by rw [Int.toNat_natCast] at hi; omega)) ⟨rs ++ [r], by rw [List.map_append]; rfl, by simp [hlen], fun q hq => ?_, S7.put ndr pdr, (T.trans T7).trans T8⟩
    rcases List.mem_append.mp hq with old | new
    ·exact ((hrs q old).tk T7).tk T8
    ·rw [List.mem_singleton.mp new]
     exact hR.tk T8
   ·rintro ys H' ⟨rs, rfl, hlen, hrs, S, T⟩ hD
    rw [Int.toNat_natCast] at hlen
    have ep7 := T.tf ep6
    clear ep6 T S6
    walk_at "v"
    refine ⟨dr, _, rfl, .inl ⟨SqL.of hD, fun pr hpr => ?_⟩⟩
    have S8 := S.new (o := .tup (rs.map V.ref)) hpr
    have T8 : TK H' (upd H' pr (.tup (rs.map V.ref))) := TK.new hpr
    have ep8 := T8.tf ep7
    have hrs8 : ∀ r ∈ rs, RuleAt m (upd H' pr (.tup (rs.map V.ref))) r := fun r h => (hrs r h).tk T8
    have er8 : upd H' pr (.tup (rs.map V.ref)) pr = some (.tup (rs.map V.ref)) := upd_same
    generalize upd H' pr (.tup (rs.map V.ref)) = H8 at S8 ep8 er8 hrs8 ⊢
    clear S T8 ep7 hD hrs hpr
    walk_at "v"
    refine ⟨m, rfl, fun rg hrg => ?_⟩
    have S9 := S8.new (o := .rng 0 m) hrg
    have T9 : TK H8 (upd H8 rg (.rng 0 m)) := TK.new hrg
    have erg : upd H8 rg (.rng 0 m) rg = some (.rng 0 m) := upd_same
    generalize upd H8 rg (.rng 0 m) = H9 at S9 T9 erg ⊢
    walk_at "v"
    refine ⟨rg, m, rfl, erg, by omega, fun pl hpl => ?_⟩
    have S10 := S9.new (o := .lst ((List.range m).map fun (i : Nat) => V.int (i : Int))) hpl
    have T10 := T9.trans (TK.new (o := .lst ((List.range m).map fun (i : Nat) => V.int (i : Int))) hpl)
    have npl := S9.none hpl
    have ppl := S9.fd.ne hpl
    have el : upd H9 pl (.lst ((List.range m).map fun (i : Nat) => V.int (i : Int))) pl = some (.lst (((List.range m).map fun (i : Nat) => (i : Int)).map V.int)) := by rw [upd_same, List.map_map]; rfl
    generalize upd H9 pl (.lst ((List.range m).map fun (i : Nat) => V.int (i : Int))) = H10 at S10 T10 el ⊢
    clear S9 T9 erg hpl hrg S8
    walk_at "v"
    refine ⟨Nat.zero_le _, fun pi hpi => ?_⟩
    have S11 := S10.new (o := .lst []) hpi
    have T11 := T10.trans (TK.new (o := .lst []) hpi)
    have npi := S10.none hpi
    have ppi := S10.fd.ne hpi
    have nli : pl ≠ pi := ne_of_none el hpi
    have el11 : upd H10 pi (.lst []) pl = some (.lst (((List.range m).map fun (i : Nat) => (i : Int)).map V.int)) := by rw [upd_ne nli]; exact el
    have ei11 : upd H10 pi (.lst []) pi = some (.lst (([] : List Int).map V.int)) := upd_same
    generalize upd H10 pi (.lst []) = H11 at S11 T11 el11 ei11 ⊢
    clear S10 T10 el hpi
    walk_at "v"
    refine ⟨by show 5 ≤ sizeLine; decide, fun a5 ha5 => ?_⟩
    have S12 := S11.new (o := .lst [.int 0, .int 1, .int 2, .int 2, .int 3]) ha5
    have np5 := S11.fd.ne ha5
    walk_at "v"
    refine ⟨p, 5, rfl, S12.fd, by decide, by decide, fun r x y z r0 r1 => ?_⟩
    obtain ⟨c, c3, hat⟩ := pickI r0 r1
    refine w_ixL (by rw [upd_ne (Ne.symm np5), upd_same]) hat ?_
    have S13 := S12.draw (x := x) (y := y) (z := z)
    have T13 := (T11.trans (TK.new (o := .lst [.int 0, .int 1, .int 2, .int 2, .int 3]) ha5)).trans (TK.feed (o := .lst [.int x, .int y, .int z]) S12.fd)
    have el13 : upd (upd H11 a5 (.lst [.int 0, .int 1, .int 2, .int 2, .int 3])) p (.lst [.int x, .int y, .int z]) pl = some (.lst (((List.range m).map fun (i : Nat) => (i : Int)).map V.int)) := by rw [upd_ne (Ne.symm ppl), upd_ne (ne_of_none el11 ha5)]; exact el11
    have ei13 : upd (upd H11 a5 (.lst [.int 0, .int 1, .int 2, .int 2, .int 3])) p (.lst [.int x, .int y, .int z]) pi = some (.lst (([] : List Int).map V.int)) := by rw [upd_ne (Ne.symm ppi), upd_ne (ne_of_none ei11 ha5)]; exact ei11
    generalize upd (upd H11 a5 (.lst [.int 0, .int 1, .int 2, .int 2, .int 3])) p (.lst [.int x, .int y, .int z]) = H13 at S13 T13 el13 ei13 ⊢
    clear S12 S11 T11 el11 ei11 ha5 np5 hat r0 r1
    walk_at "v"
    refine ⟨m, c, rfl, ?_⟩
    have ec : (if (c : Int) < (m : Int) then (c : Int) else (m : Int)) = ((min c m : Nat) : Int) := by
     by_cases h : (c : Int) < (m : Int)
     ·rw [if_pos h]; omega
     ·rw [if_neg h]; omega
    rw [ec]
    walk_at "v"
    refine ⟨_, rfl, by omega, by omega, ?_⟩
    rw [Int.toNat_natCast]
    refine for_range (fun i σ H' => ∃ (u : Option V) (lf is : List Int), σ = [some (.ref p), some (.int m), some (.ref ps), some (.ref pr), some (.ref pl), some (.ref pi), u, none] ∧ H' pl = some (.lst (lf.map V.int)) ∧ H' pi = some (.lst (is.map V.int)) ∧
      lf.length + i = m ∧ is.length = i ∧ (∀ j ∈ lf, 0 ≤ j ∧ j < (m : Int)) ∧ (∀ j ∈ is, 0 ≤ j ∧ j < (m : Int)) ∧ SS p H H' ∧ TK H8 H')
     ⟨none, _, [], rfl, el13, ei13, by simp, rfl, fun j hj => by
      obtain ⟨q, hq, rfl⟩ := List.mem_map.mp hj
      have := List.mem_range.mp hq
      omega, (fun j hj => by cases hj), S13, T13⟩ ?_ ?_
    ·rintro i σ H' hi ⟨u, lf, is, rfl, el, ei, hlen1, hlen2, hlf, his, S, T⟩
     walk_at "v"
     refine ⟨.inl ⟨rfl, _, SqL.of ei⟩, ?_⟩
     walk_at "v"
     refine ⟨.inl ⟨rfl, _, SqL.of el⟩, ?_⟩
     walk_at "v"
     refine ⟨pl, _, rfl, .inl (SqL.of el), ?_⟩
     rw [List.length_map]
     refine ⟨p, lf.length, rfl, S.fd, by omega, by omega, fun r x y z r0 r1 => ?_⟩
     have S' := S.draw (x := x) (y := y) (z := z)
     have T' := T.trans (TK.feed (o := .lst [.int x, .int y, .int z]) S.fd)
     have el' : upd H' p (.lst [.int x, .int y, .int z]) pl = some (.lst (lf.map V.int)) := by rw [upd_ne (Ne.symm ppl)]; exact el
     have ei' : upd H' p (.lst [.int x, .int y, .int z]) pi = some (.lst (is.map V.int)) := by rw [upd_ne (Ne.symm ppi)]; exact ei
     generalize upd H' p (.lst [.int x, .int y, .int z]) = H2 at S' T' el' ei' ⊢
     obtain ⟨j, rfl⟩ := Nat.ofI r0
     have hj : j < lf.length := by omega
     have hix : ixN (lf.map V.int).length (j : Int) = some j := by
      rw [List.length_map]
      unfold ixN
      rw [if_pos r0, if_pos r1]
      rfl
     walk_at "v"
     refine ⟨pl, _, _, j, .int lf[j], rfl, rfl, el', by omega, by omega, (ixN_seq hix).1, by simp [hj], ?_⟩
     have S'' := S'.put (o := .lst ((lf.map V.int).eraseIdx j)) npl ppl
     have T'' := T'.trans (TK.lst (o := .lst ((lf.map V.int).eraseIdx j)) el')
     have el'' : upd H2 pl (.lst ((lf.map V.int).eraseIdx j)) pl = some (.lst ((lf.eraseIdx j).map V.int)) := by rw [upd_same, map_erase]
     have ei'' : upd H2 pl (.lst ((lf.map V.int).eraseIdx j)) pi = some (.lst (is.map V.int)) := by rw [upd_ne (Ne.symm nli)]; exact ei'
     generalize upd H2 pl (.lst ((lf.map V.int).eraseIdx j)) = H3' at S'' T'' el'' ei'' ⊢
     walk_at "v"
     refine ⟨pi, _, _, rfl, rfl, ei'', by rw [List.length_map]; exact small1000 (by omega), ?_⟩
     refine ⟨_, lf.eraseIdx j, is ++ [lf[j]], rfl, by rw [upd_ne nli]; exact el'', by rw [upd_same, List.map_append]; rfl, ?_, by simp [hlen2], ?_, ?_, S''.put npi ppi, T''.trans (TK.lst ei'')⟩
     ·rw [List.length_eraseIdx_of_lt hj]
      omega
     ·exact fun q hq => hlf q (List.mem_of_mem_eraseIdx hq)
     ·intro q hq
      rcases List.mem_append.mp hq with old | new
      ·exact his q old
      ·rw [List.mem_singleton.mp new]
       exact hlf _ (List.getElem_mem hj)
    ·rintro σ H14 ⟨u, lf, is, rfl, el, ei, hlen1, hlen2, hlf, his, S14, T14⟩
     have ep14 := T14.tf ep8
     have hi3 : is.length ≤ 3 := by omega
     clear S13 T13 el13 ei13 el hlf hlen1
     walk_at "v"
     refine ⟨ps, rfl, ⟨_, ep14.sq⟩, fun db hdb => ?_⟩
     have ndb := S14.none hdb
     have pdb := S14.fd.ne hdb
     have idb : pi ≠ db := ne_of_none ei hdb
     refine cgo_tup (xs := nm.map V.str) (ρ := [some (.ref p)]) (fun i ys H' => ∃ bs : List Int, ys = bs.map V.int ∧ bs.length = i ∧ (∀ b ∈ bs, 0 ≤ b ∧ b ≤ 99) ∧ SS p H H' ∧ TK H14 H' ∧ H' pi = some (.lst (is.map V.int)))
      ⟨[], rfl, rfl, (fun b hb => by cases hb), S14.new hdb, TK.new hdb, by rw [upd_ne idb]; exact ei⟩ (fun i ys H' _ ⟨_, _, _, _, _, T, _⟩ => (T.tf ep14).sq) ?_ ?_
     ·rintro i xv ys H' hxi ⟨bs, rfl, hbl, hbs, S, T, eI⟩ hD R' S' kR _
      have hi8 : i < 8 := by
       have := (List.getElem?_eq_some_iff.mp hxi).1
       rw [List.length_map, hN.1] at this
       omega
      walk_at "v"
      refine ⟨p, 100, rfl, S.fd, by decide, by decide, fun r x y z r0 r1 => ?_⟩
      have S2 := S.draw (x := x) (y := y) (z := z)
      have T2 := T.trans (TK.feed (o := .lst [.int x, .int y, .int z]) S.fd)
      have eI2 : upd H' p (.lst [.int x, .int y, .int z]) pi = some (.lst (is.map V.int)) := by rw [upd_ne (Ne.symm ppi)]; exact eI
      have hD2 : upd H' p (.lst [.int x, .int y, .int z]) db = some (.lst (bs.map V.int)) := by rw [upd_ne (Ne.symm pdb)]; exact hD
      generalize upd H' p (.lst [.int x, .int y, .int z]) = H2 at S2 T2 eI2 hD2 ⊢
      walk_at "v"
      refine ⟨by show 6 ≤ sizeLine; decide, fun a6 ha6 => ?_⟩
      have S3 := S2.new (o := .lst [.int 0, .int 0, .int 1, .int 2, .int 99, .int r]) ha6
      have T3 := T2.trans (TK.new (o := .lst [.int 0, .int 0, .int 1, .int 2, .int 99, .int r]) ha6)
      have p6 := S2.fd.ne ha6
      have eI3 : upd H2 a6 (.lst [.int 0, .int 0, .int 1, .int 2, .int 99, .int r]) pi = some (.lst (is.map V.int)) := by rw [upd_ne (ne_of_none eI2 ha6)]; exact eI2
      have hD3 : upd H2 a6 (.lst [.int 0, .int 0, .int 1, .int 2, .int 99, .int r]) db = some (.lst (bs.map V.int)) := by rw [upd_ne (ne_of_none hD2 ha6)]; exact hD2
      have e6 : upd H2 a6 (.lst [.int 0, .int 0, .int 1, .int 2, .int 99, .int r]) a6 = some (.lst [.int 0, .int 0, .int 1, .int 2, .int 99, .int r]) := upd_same
      generalize upd H2 a6 (.lst [.int 0, .int 0, .int 1, .int 2, .int 99, .int r]) = H3' at S3 T3 eI3 hD3 e6 ⊢
      walk_at "v"
      refine ⟨p, 6, rfl, S3.fd, by decide, by decide, fun r' x' y' z' r0' r1' => ?_⟩
      obtain ⟨bv, b0, b1, hat⟩ := pickB r0' r1' r0 r1
      refine w_ixL (by rw [upd_ne (Ne.symm p6)]; exact e6) hat ?_
      have hD4 : upd H3' p (.lst [.int x', .int y', .int z']) db = some (.lst (bs.map V.int)) := by rw [upd_ne (Ne.symm pdb)]; exact hD3
      refine kR _ _ hD4 (by rw [List.length_map]; exact small1000 (by omega)) ⟨bs ++ [bv], by rw [List.map_append]; rfl, by simp [hbl], fun b hb => ?_, S3.draw.put ndb pdb, (T3.trans (TK.feed S3.fd)).trans (TK.lst hD4), by rw [upd_ne idb, upd_ne (Ne.symm ppi)]; exact eI3⟩
      rcases List.mem_append.mp hb with old | new
      ·exact hbs b old
      ·rw [List.mem_singleton.mp new]
       exact ⟨b0, b1⟩
     ·rintro ys H15 ⟨bs, rfl, hbl, hbs, S15, T15, eI⟩ hD
      rw [List.length_map, hN.1] at hbl
      walk_at "v"
      refine ⟨db, _, rfl, .inl ⟨SqL.of hD, fun pb hpb => ?_⟩⟩
      have S16 := S15.new (o := .tup (bs.map V.int)) hpb
      have T16 := (T14.trans T15).trans (TK.new (o := .tup (bs.map V.int)) hpb)
      have eI16 : upd H15 pb (.tup (bs.map V.int)) pi = some (.lst (is.map V.int)) := by rw [upd_ne (ne_of_none eI hpb)]; exact eI
      have eb16 : upd H15 pb (.tup (bs.map V.int)) pb = some (.tup (bs.map V.int)) := upd_same
      generalize upd H15 pb (.tup (bs.map V.int)) = H16 at S16 T16 eI16 eb16 ⊢
      clear S15 T15 eI hD hpb
      walk_at "v"
      refine ⟨pi, _, rfl, .inl ⟨SqL.of eI16, fun pin hpin => ?_⟩⟩
      have S17 := S16.new (o := .tup (is.map V.int)) hpin
      have T17 : TK H16 (upd H16 pin (.tup (is.map V.int))) := TK.new hpin
      have ein : upd H16 pin (.tup (is.map V.int)) pin = some (.tup (is.map V.int)) := upd_same
      generalize upd H16 pin (.tup (is.map V.int)) = H17 at S17 T17 ein ⊢
      walk_at "v"
      refine ⟨p, m, rfl, S17.fd, hm0, hm, fun ans x y z a0 a1 => ?_⟩
      have S18 := S17.draw (x := x) (y := y) (z := z)
      have T18 : TK H17 (upd H17 p (.lst [.int x, .int y, .int z])) := TK.feed S17.fd
      generalize upd H17 p (.lst [.int x, .int y, .int z]) = H18 at S18 T18 ⊢
      walk_at "v"
      refine ⟨by show 5 ≤ sizeLine; decide, fun l hl => ?_⟩
      have T19 : TK H18 (upd H18 l (.tup [.ref ps, .ref pr, .ref pin, .ref pb, .int ans])) := TK.new hl
      have S19 := S18.new (o := .tup [.ref ps, .ref pr, .ref pin, .ref pb, .int ans]) hl
      have TA : TK H8 (upd H18 l (.tup [.ref ps, .ref pr, .ref pin, .ref pb, .int ans])) := ((T16.trans T17).trans T18).trans T19
      refine k l _ nm is bs ans m (S18.none hl) ⟨⟨ps, pr, pin, pb, rs, upd_same, TA.tf ep8, TA.t _ _ er8, fun r h => (hrs8 r h).tk TA, by omega, (T18.trans T19).t _ _ ein, ((T17.trans T18).trans T19).t _ _ eb16⟩, hN, m0, m8, his, hi3, hbl, hbs, a0, a1⟩ S19.fd S19.bt
end
end K93
namespace L2
open PySem PySem.Spec PyProof.Rows
noncomputable def IsTri (h : Heap) (T : Addr) (a b c : Value) : Prop := h.get? T = some { cls := .type "tuple", data := .seq #[a, b, c] }
structure Apart3 (z TI TO i1 i2 i3 l1 l2 l3 : Addr) : Prop where
 nz : TI ≠ z ∧ TO ≠ z ∧ i1 ≠ z ∧ i2 ≠ z ∧ i3 ≠ z
 nI : TI ≠ TO ∧ TI ≠ i1 ∧ TI ≠ i2 ∧ TI ≠ i3
 nO : TO ≠ i1 ∧ TO ≠ i2 ∧ TO ≠ i3
 ni : i1 ≠ i2 ∧ i1 ≠ i3 ∧ i2 ≠ i3
 l1 : l1 ≠ z ∧ l1 ≠ TO ∧ l1 ≠ i1 ∧ l1 ≠ i2 ∧ l1 ≠ i3
 l2 : l2 ≠ z ∧ l2 ≠ TO ∧ l2 ≠ i1 ∧ l2 ≠ i2 ∧ l2 ≠ i3
 l3 : l3 ≠ z ∧ l3 ≠ TO ∧ l3 ≠ i1 ∧ l3 ≠ i2 ∧ l3 ≠ i3
section
variable {prog : Program} {w : World} {A : Around} {E : Value → Shared → Prop} {s : Shared}
theorem upSeq3 {T : Addr} {a b c x : Value} {k : Nat} {Q : Unit → Shared → Prop} (hT : IsTri s.heap T a b c)
  (h : ∀ h', h'.get? T = some { cls := .type "tuple", data := .seq ((#[a, b, c] : Array Value).setIfInBounds k x) } → Heap.SameBut T s.heap h' → Q () { s with heap := h' }) :
  wpAny (model prog w) A (updateSeq T (·.setIfInBounds k x)) Q E s := by
 refine wpAny_updateSeq hT rfl (h _ ?_ (Heap.SameBut.update ..)); rw [Heap.get?_update_self _ hT rfl]
 simp [Obj.mapSeq]
theorem zip3_item {z TI TO i1 i2 i3 l1 l2 l3 : Addr} {k1 k2 k3 : Nat} {xs ys zs : Array Value} {x y v a b c : Value} {Q : Value → Shared → Prop} (D : Apart3 z TI TO i1 i2 i3 l1 l2 l3) (hz : IsZip s.heap z TI TO .none) (hTI : IsTri s.heap TI (.ref i1) (.ref i2) (.ref i3)) (hTO : IsTri s.heap TO a b c)
  (h1 : s.heap.IsTupleIter i1 l1 k1) (h2 : s.heap.IsTupleIter i2 l2 k2) (h3 : s.heap.IsTupleIter i3 l3 k3) (hl1 : s.heap.IsTuple l1 xs) (hl2 : s.heap.IsTuple l2 ys) (hl3 : s.heap.IsTuple l3 zs) (hx : xs[k1]? = some x) (hy : ys[k2]? = some y) (hv : zs[k3]? = some v)
  (hQ : ∀ h', IsZip h' z TI TO (rawInt s.heap.objs.size) → IsTri h' TO x y v → h'.IsTupleIter i1 l1 (k1 + 1) → h'.IsTupleIter i2 l2 (k2 + 1) → h'.IsTupleIter i3 l3 (k3 + 1) → IsTri h' s.heap.objs.size x y v →
   (∀ d o, d ≠ z → d ≠ TO → d ≠ i1 → d ≠ i2 → d ≠ i3 → s.heap.get? d = some o → h'.get? d = some o) → Q (.ref s.heap.objs.size) { s with heap := h' }) :
  wpAny (model prog w) A (Builtin.«zip.__next__» ⟨[.ref z], []⟩) (fun f s' => ∃ v, f = .done (.ret v) ∧ Q v s') E s := by
 obtain ⟨⟨TIz, TOz, i1z, i2z, i3z⟩, ⟨TITO, TIi1, TIi2, TIi3⟩, ⟨TOi1, TOi2, TOi3⟩, ⟨i12, i13, i23⟩, ⟨l1z, l1TO, l1i1, l1i2, l1i3⟩, ⟨l2z, l2TO, l2i1, l2i2, l2i3⟩, ⟨l3z, l3TO, l3i1, l3i2, l3i3⟩⟩ := D
 show wpAny _ _ (field (.ref z) 2 >>= _) _ _ _; refine wpAny_bind (wpAny_field hz rfl (x := .bool false) rfl ?_)
 show wpAny _ _ (field (.ref z) 3 >>= _) _ _ _; refine wpAny_bind (wpAny_field hz rfl (x := .ref TI) rfl ?_)
 refine wpAny_bind (wpAny_seqItems hTI rfl ?_); show wpAny _ _ (Builtin.SmallTypes.ownedTupleIsFree (.ref z) >>= _) _ _ _
 refine wpAny_bind ?_; unfold Builtin.SmallTypes.ownedTupleIsFree
 refine wpAny_bind (wpAny_field hz rfl (x := .none) rfl (wpAny_pure ?_)); simp only [if_true]
 refine wpAny_bind (wpAny_rule ?_); refine wpAny_bind (wpAny_field hz rfl (x := .ref TO) rfl ?_)
 refine wpAny_bind (wpAny_setField_rec hz (by simp) fun g1 zz1 s1 => ?_); replace zz1 : IsZip g1 z TI TO .ellipsis := zz1
 refine wpAny_bind ?_; simp only [List.zipIdx_cons, List.zipIdx_nil, List.forIn_cons, List.forIn_nil]
 refine wpAny_bind (wpAny_bind (wpAny_onRaise ?_)); show wpAny _ _ (Builtin.SmallTypes.nextOf (.ref i1) >>= _) _ _ _
 refine wpAny_bind (nextT_item (tupJ h1 s1.extBut i1z) (tupX hl1 s1.extBut l1z) hx fun g2 j2 s2 => wpAny_pure ?_)
 have o2 : IsTri g2 TO a b c := s2.extBut _ _ TOi1 (s1.extBut _ _ TOz hTO)
 refine wpAny_bind (wpAny_seqItems o2 rfl ?_); refine wpAny_bind (upSeq3 o2 fun g3 o3 s3 => ?_); replace o3 : IsTri g3 TO x b c := o3
 refine wpAny_bind (wpAny_letGo (wpAny_pure ?_)); refine wpAny_bind (wpAny_bind (wpAny_onRaise ?_)); show wpAny _ _ (Builtin.SmallTypes.nextOf (.ref i2) >>= _) _ _ _
 refine wpAny_bind (nextT_item (tupJ (tupJ (tupJ h2 s1.extBut i2z) s2.extBut i12.symm) s3.extBut TOi2.symm) (tupX (tupX (tupX hl2 s1.extBut l2z) s2.extBut l2i1) s3.extBut l2TO) hy fun g4 j4 s4 => wpAny_pure ?_)
 have o4 : IsTri g4 TO x b c := s4.extBut _ _ TOi2 o3
 refine wpAny_bind (wpAny_seqItems o4 rfl ?_); refine wpAny_bind (upSeq3 o4 fun g5 o5 s5 => ?_); replace o5 : IsTri g5 TO x y c := o5
 refine wpAny_bind (wpAny_letGo (wpAny_pure ?_)); refine wpAny_bind (wpAny_bind (wpAny_onRaise ?_)); show wpAny _ _ (Builtin.SmallTypes.nextOf (.ref i3) >>= _) _ _ _
 refine wpAny_bind (nextT_item (tupJ (tupJ (tupJ (tupJ (tupJ h3 s1.extBut i3z) s2.extBut i13.symm) s3.extBut TOi3.symm) s4.extBut i23.symm) s5.extBut TOi3.symm) (tupX (tupX (tupX (tupX (tupX hl3 s1.extBut l3z) s2.extBut l3i1) s3.extBut l3TO) s4.extBut l3i2) s5.extBut l3TO) hv fun g6 j6 s6 => wpAny_pure ?_)
 have o6 : IsTri g6 TO x y c := s6.extBut _ _ TOi3 o5
 refine wpAny_bind (wpAny_seqItems o6 rfl ?_); refine wpAny_bind (upSeq3 o6 fun g7 o7 s7 => ?_); replace o7 : IsTri g7 TO x y v := o7
 refine wpAny_bind (wpAny_letGo (wpAny_pure (wpAny_pure ?_))); refine wpAny_bind (wpAny_seqItems o7 rfl ?_); refine wpAny_bind (wpAny_newTuple ?_)
 have sz : g7.objs.size = s.heap.objs.size := by rw [s7.1, s6.1, s5.1, s4.1, s3.1, s2.1, s1.1]
 have k7 : ∀ c o, c ≠ TO → c ≠ i1 → c ≠ i2 → c ≠ i3 → g1.get? c = some o → g7.get? c = some o := fun c o c2 c3 c4 c5 q => s7.extBut _ _ c2 (s6.extBut _ _ c5 (s5.extBut _ _ c2 (s4.extBut _ _ c4 (s3.extBut _ _ c2 (s2.extBut _ _ c3 q)))))
 have z7 : IsZip g7 z TI TO .ellipsis := k7 _ _ TOz.symm i1z.symm i2z.symm i3z.symm zz1
 have a7 : g7.IsTupleIter i1 l1 (k1 + 1) := tupJ (tupJ (tupJ (tupJ (tupJ j2 s3.extBut TOi1.symm) s4.extBut i12) s5.extBut TOi1.symm) s6.extBut i13) s7.extBut TOi1.symm
 have b7 : g7.IsTupleIter i2 l2 (k2 + 1) := tupJ (tupJ (tupJ j4 s5.extBut TOi2.symm) s6.extBut i23) s7.extBut TOi2.symm
 have c7 : g7.IsTupleIter i3 l3 (k3 + 1) := tupJ j6 s7.extBut TOi3.symm
 have zlt : z < g7.objs.size := Heap.lt_size z7
 show wpAny _ _ (Builtin.SmallTypes.ownedTupleHandOut (.ref z) (.ref g7.objs.size) >>= _) _ _ _; refine wpAny_bind ?_; unfold Builtin.SmallTypes.ownedTupleHandOut
 have z8 : IsZip (g7.push { cls := .type "tuple", data := .seq #[x, y, v] }) z TI TO .ellipsis := Heap.get?_push_of_some _ z7
 refine wpAny_bind (wpAny_setField_rec z8 (by simp) fun g9 z9 s9 => ?_); replace z9 : IsZip g9 z TI TO (rawInt g7.objs.size) := z9
 refine wpAny_setField_rec z9 (by simp) fun gA zA sA => ?_; replace zA : IsZip gA z TI TO (rawInt g7.objs.size) := zA
 have up : ∀ c o, c ≠ z → g7.get? c = some o → gA.get? c = some o := fun c o c1 q => sA.extBut _ _ c1 (s9.extBut _ _ c1 (Heap.get?_push_of_some _ q))
 have tA : IsTri gA g7.objs.size x y v := sA.extBut _ _ (Nat.ne_of_gt zlt) (s9.extBut _ _ (Nat.ne_of_gt zlt) (Heap.get?_push_size _ rfl))
 rw [sz] at zA tA; refine wpAny_pure ⟨_, rfl, ?_⟩; show Q (.ref g7.objs.size) _; rw [sz]
 exact hQ gA zA (up _ _ TOz o7) (a7.at fun o q => up _ o i1z q) (b7.at fun o q => up _ o i2z q) (c7.at fun o q => up _ o i3z q) tA fun c o c1 c2 c3 c4 c5 q => up c o c1 (k7 c o c2 c3 c4 c5 (s1.extBut _ _ c1 q))
theorem zip3_end {z TI TO i1 i2 i3 l1 l2 l3 : Addr} {k1 : Nat} {xs : Array Value} {a b c : Value} {Q : Fin → Shared → Prop} (hh : A.handled = none) (D : Apart3 z TI TO i1 i2 i3 l1 l2 l3) (hz : IsZip s.heap z TI TO .none) (hTI : IsTri s.heap TI (.ref i1) (.ref i2) (.ref i3)) (hTO : IsTri s.heap TO a b c)
  (h1 : s.heap.IsTupleIter i1 l1 k1) (hl1 : s.heap.IsTuple l1 xs) (hx : xs[k1]? = none)
  (hE : ∀ h' e, (∀ d o, d ≠ z → d ≠ TO → d ≠ i1 → d ≠ i2 → d ≠ i3 → s.heap.get? d = some o → h'.get? d = some o) → (∃ o, h'.get? e = some o ∧ o.cls = .type "StopIteration") → E (.ref e) { s with heap := h' }) : wpAny (model prog w) A (Builtin.«zip.__next__» ⟨[.ref z], []⟩) Q E s := by
 obtain ⟨⟨TIz, TOz, i1z, i2z, i3z⟩, ⟨TITO, TIi1, TIi2, TIi3⟩, ⟨TOi1, TOi2, TOi3⟩, ⟨i12, i13, i23⟩, ⟨l1z, l1TO, l1i1, l1i2, l1i3⟩, _, _⟩ := D
 show wpAny _ _ (field (.ref z) 2 >>= _) _ _ _; refine wpAny_bind (wpAny_field hz rfl (x := .bool false) rfl ?_)
 show wpAny _ _ (field (.ref z) 3 >>= _) _ _ _; refine wpAny_bind (wpAny_field hz rfl (x := .ref TI) rfl ?_)
 refine wpAny_bind (wpAny_seqItems hTI rfl ?_); show wpAny _ _ (Builtin.SmallTypes.ownedTupleIsFree (.ref z) >>= _) _ _ _
 refine wpAny_bind ?_; unfold Builtin.SmallTypes.ownedTupleIsFree
 refine wpAny_bind (wpAny_field hz rfl (x := .none) rfl (wpAny_pure ?_)); simp only [if_true]
 refine wpAny_bind (wpAny_rule ?_); refine wpAny_bind (wpAny_field hz rfl (x := .ref TO) rfl ?_)
 refine wpAny_bind (wpAny_setField_rec hz (by simp) fun g1 zz1 s1 => ?_); replace zz1 : IsZip g1 z TI TO .ellipsis := zz1
 refine wpAny_bind ?_; simp only [List.zipIdx_cons, List.zipIdx_nil, List.forIn_cons, List.forIn_nil]
 refine wpAny_bind (wpAny_bind (wpAny_onRaise ?_)); show wpAny _ _ (Builtin.SmallTypes.nextOf (.ref i1) >>= _) _ _ _
 refine wpAny_bind (nextT_end hh (tupJ h1 s1.extBut i1z) (tupX hl1 s1.extBut l1z) hx fun g2 e s2 he => ?_)
 obtain ⟨oe, hoe, hce⟩ := he; have z2 : IsZip g2 z TI TO .ellipsis := s2 _ _ i1z.symm zz1
 have ez : e ≠ z := fun q => by subst q; rw [z2] at hoe; cases hoe; simp at hce
 refine wpAny_setField_rec z2 (by simp) fun g3 _ s3 => hE g3 e (fun c o c1 _ c3 _ _ q => s3.extBut _ _ c1 (s2 _ _ c3 (s1.extBut _ _ c1 q))) ⟨oe, s3.extBut _ _ ez hoe, hce⟩
end
theorem tyC3 (a b c : Value) : checkTypeCall "zip" ⟨[a, b, c], []⟩ = pure () := by kernel_rfl
theorem nwC3 (a b c : Value) : checkBuiltinCall "zip.__new__" ⟨[.type "zip", a, b, c], []⟩ = pure () := by kernel_rfl
noncomputable abbrev ztH1 (h : Heap) (a : Addr) : Heap := h.push { cls := .type "tuple_iterator", data := .fields #[.ref a, .int 0 0] }
noncomputable abbrev ztH2 (h : Heap) (a b : Addr) : Heap := (ztH1 h a).push { cls := .type "tuple_iterator", data := .fields #[.ref b, .int 0 0] }
noncomputable abbrev ztH3 (h : Heap) (a b c : Addr) : Heap := (ztH2 h a b).push { cls := .type "tuple_iterator", data := .fields #[.ref c, .int 0 0] }
noncomputable abbrev ztH4 (h : Heap) (a b c : Addr) : Heap := (ztH3 h a b c).push { cls := .type "tuple", data := .seq #[.ref h.objs.size, .ref (ztH1 h a).objs.size, .ref (ztH2 h a b).objs.size] }
noncomputable abbrev ztH5 (h : Heap) (a b c : Addr) : Heap := (ztH4 h a b c).push { cls := .type "tuple", data := .seq #[.none, .none, .none] }
noncomputable abbrev ztH6 (h : Heap) (a b c : Addr) : Heap := (ztH5 h a b c).push { cls := .type "zip", data := .fields #[.none, .bool false, .bool false, .ref (ztH3 h a b c).objs.size, .ref (ztH4 h a b c).objs.size] }
set_option maxHeartbeats 8000000 in
theorem zt_new (a b c : Addr) (xs ys zs : Array Value) : Meets (Builtin.«zip.__new__» ⟨[.type "zip", .ref a, .ref b, .ref c], []⟩) (fun _ R s => s.heap.IsTuple a xs ∧ s.heap.IsTuple b ys ∧ s.heap.IsTuple c zs ∧ R (.ok (.ret (.ref (ztH5 s.heap a b c).objs.size))) { s with heap := ztH6 s.heap a b c }) :=
 .of_wp fun prog w A R s h => by
  obtain ⟨hp, g, d, tk, os⟩ := s; obtain ⟨hA, hB, hC, h⟩ := h; have hsub := sub_zip
  have tA : Heap.IsTuple (Shared.heap ⟨hp, g, d, tk, os⟩) a xs := hA
  have tB : Heap.IsTuple (Shared.heap ⟨ztH1 hp a, g, d, tk, os⟩) b ys := let ⟨o, e, r⟩ := hB; ⟨o, Heap.get?_push_of_some _ e, r⟩
  have tC : Heap.IsTuple (Shared.heap ⟨ztH2 hp a b, g, d, tk, os⟩) c zs := let ⟨o, e, r⟩ := hC; ⟨o, Heap.get?_push_of_some _ (Heap.get?_push_of_some _ e), r⟩
  wp_walk using wpAny_pyIter_tuple tA, wpAny_pyIter_tuple tB, wpAny_pyIter_tuple tC
  exact ⟨_, rfl, h⟩
section
variable {D : Addr} {te : TE} {tc : TT} {Q : VK} {ρ : St} {H : Hp}
theorem cgo_zip {K : PySem.W.Frag} {a b : Addr} {xs zs : List V} (hlen : xs.length = zs.length) (Pv : Nat → List V → Hp → Prop) (h0 : Pv 0 [] (upd H D (.lst []))) (hl : ∀ i ys H', i ≤ xs.length → Pv i ys H' → SqT K H' a xs ∧ SqT K H' b zs)
  (hs : ∀ i x z ys H' p, xs[i]? = some x → zs[i]? = some z → Pv i ys H' → H' D = some (.lst ys) → H' p = none → ∀ (R : V → Hp → Prop) (S : Hp → Prop), (∀ y H4, H4 D = some (.lst ys) → ys.length < sizeLine → Pv (i + 1) (ys ++ [y]) (upd H4 D (.lst (ys ++ [y]))) → R y H4) → (∀ H3, H3 D = some (.lst ys) → Pv (i + 1) ys H3 → S H3) →
   tc (some x :: some z :: ρ) (upd H' p (.tup [x, z])) fun b H3 => if b = true then te (some x :: some z :: ρ) H3 R else S H3)
  (hd : ∀ ys H', Pv xs.length ys H' → H' D = some (.lst ys) → Q (.ref D) H') : CGo (Itz K a b) D (gTup K 2 (gCons (gName 0) (gCons (gName 1) gNil))) tc te Q (none :: none :: ρ) H := by
 refine ⟨fun i m τ ys H' => m = xs.length - i ∧ i ≤ xs.length ∧ (∃ tv tw, τ = tv :: tw :: ρ) ∧ Pv i ys H' ∧ H' D = some (.lst ys), ⟨xs.length, by omega, Nat.zero_le _, ⟨_, _, rfl⟩, h0, upd_same⟩, ?_⟩
 rintro i m τ ys H' ⟨rfl, hi, ⟨tv, tw, rfl⟩, hp, hD⟩
 refine ⟨hD, ?_⟩
 obtain ⟨sq, sq'⟩ := hl i ys H' hi hp
 by_cases hlt : i < xs.length
 ·have hlt' : i < zs.length := by omega
  refine .inr ⟨⟨xs, zs, xs[i], zs[i], sq, sq', by simp [hlt], by simp [hlt']⟩, ?_⟩
  rintro v H'' ⟨p, x, z, rfl, hpn, rfl, hx, hz⟩
  have hx' := hx xs sq
  have hz' := hz zs sq'
  refine ⟨p, [x, z], rfl, SqT.of upd_same, rfl, x, [z], rfl, z, [], rfl, rfl, ?_⟩
  exact hs i x z ys _ p hx' hz' hp hD hpn _ _ (fun y H4 a b c => ⟨a, b, xs.length - (i + 1), by omega, rfl, hlt, ⟨_, _, rfl⟩, c, upd_same⟩) fun H3 a c => ⟨xs.length - (i + 1), by omega, rfl, hlt, ⟨_, _, rfl⟩, c, a⟩
 ·have e : i = xs.length := by omega
  subst e
  exact .inl ⟨⟨xs, zs, sq, sq', .inl (Nat.le_refl _)⟩, hd ys _ hp hD⟩
end
section
variable {ta : TA} {tl : TE} {n : Nat} {ix : List Nat} {g : TG} {tc : TT} {te : TE} {σ : St} {H : Hp} {Q : VK}
theorem w_compZ {K : PySem.W.Frag} (h : ta σ H fun vs H1 => ∃ a b, vs = [.ref a, .ref b] ∧ (∃ xs, SqT K H1 a xs) ∧ (∃ ys, SqT K H1 b ys) ∧ ∀ D, H1 D = none → CGo (Itz K a b) D g tc te Q (List.replicate n none ++ sub ix σ) H1) : tComp (iZp K ta) n ix g tc te σ H Q := h
theorem w_compL {K : PySem.W.Frag} (h : tl σ H fun x H1 => ∃ a, x = .ref a ∧ (∃ xs, SqL K H1 a xs) ∧ ∀ D, H1 D = none → CGo (Itl K a) D g tc te Q (List.replicate n none ++ sub ix σ) H1) : tComp (iList K tl) n ix g tc te σ H Q := h
end
section
variable {X : Cx}
end
section
variable {σ : St} {H : Hp} {Q : VK} {te ta tb tc : TE} {r r' : R2} {tl th : TO}
theorem w_chain (h : ta σ H fun x H1 => tb σ H1 fun y H2 => r x y H2 fun z H3 => ∃ k, z = .bl k ∧ (if k = true then tc σ H3 fun w' H4 => r' y w' H4 Q else Q (.bl false) H3)) : tChain r r' ta tb tc σ H Q := h
theorem w_sl {r : V → Option Int → Option Int → Hp → VK → Prop} (h : te σ H fun x H1 => tl σ H1 fun l H2 => th σ H2 fun u H3 => r x l u H3 Q) : tSl r te tl th σ H Q := h
theorem w_nopart {QO : Option Int → Hp → Prop} (h : QO none H) : tNoPart σ H QO := h
theorem w_part {QO : Option Int → Hp → Prop} (h : te σ H fun x H1 => ∃ i, x = .int i ∧ QO (some i) H1) : tPart te σ H QO := h
end
theorem pgb_tup {X : Cx} {sc : Scope} {N : List Str} {cl : List (Str × Addr)} {C : Addr} {fp : List Addr} {s3 : Shared} {H3 : Hp} {xe : Value → Shared → Prop} {es : List Expr} {k n : Nat} {pos : Pos} {t : TGs} (hc : X.calm = true) (h : PGs (cxC X N sc cl C fp s3 H3 xe) es t)
  (hn : (assignEach es (cxC X N sc cl C fp s3 H3 xe).env).length = n := by rfl) (hst : (assignEach es (cxC X N sc cl C fp s3 H3 xe).env).findIdx? (·.1) = none := by rfl) : PG (cxC X N sc cl C fp s3 H3 xe) (.Tuple es k pos) (gTup X.K n t) := pg_tup (X := cxC X N sc cl C fp s3 H3 xe) hc h hn hst
theorem seq_post {t u : TS} {D : Ends} {σ : St} {H : Hp} (Post : St → Hp → Prop) (h2 : ∀ σ' H', Post σ' H' → u D σ' H') (h1 : (∀ σ' H', Post σ' H' → u D σ' H') → t { D with nx := u D } σ H) : tSeq t u D σ H := h1 h2
theorem w_unI {σ : St} {H : Hp} {Q : VK} {g : Int → V} {ta : TE} (h : ta σ H fun x H1 => ∃ i, x = .int i ∧ Q (g i) H1) : tUn (rU g) ta σ H Q := h
end L2
namespace G2
open PySem L2
theorem md {i j : Int} (h : 0 < j) : 0 ≤ i % j ∧ i % j < j := ⟨Int.emod_nonneg _ (Int.ne_of_gt h), Int.emod_lt_of_pos _ h⟩
theorem mulL {i j : Int} (h1 : -4000000000 < i) (h2 : i < 4000000000) : CMul i j := .inl ⟨by omega, by omega⟩
theorem ofI {r : Int} (h : 0 ≤ r) : ∃ n : Nat, r = (n : Int) := ⟨r.toNat, by omega⟩
structure TK (H H' : Hp) : Prop where
 t : ∀ q xs, H q = some (.tup xs) → H' q = some (.tup xs)
 f : ∀ q o u, H q = some (.frz o u) → H' q = some (.frz o u)
section
variable {p l : Addr} {H H' H'' : Hp} {o : HO}
theorem TK.refl : TK H H := ⟨fun _ _ e => e, fun _ _ _ e => e⟩
theorem TK.trans (a : TK H H') (b : TK H' H'') : TK H H'' := ⟨fun q xs e => b.t q xs (a.t q xs e), fun q o u e => b.f q o u (a.f q o u e)⟩
theorem TK.new (h : H l = none) : TK H (upd H l o) := ⟨fun q xs e => by rw [upd_ne (ne_of_none e h)]; exact e, fun q ob u e => by rw [upd_ne (ne_of_none e h)]; exact e⟩
theorem TK.lst {ys : List V} (h : H l = some (.lst ys)) : TK H (upd H l o) := ⟨fun q xs e => by rw [upd_ne (ne_of e h (by intro z; cases z))]; exact e, fun q ob u e => by rw [upd_ne (ne_of e h (by intro z; cases z))]; exact e⟩
theorem TK.same (k : Same H H') : TK H H' := ⟨fun _ _ e => k _ _ e, fun _ _ _ e => k _ _ e⟩
end
theorem _root_.L2.Same.new {H H' : Hp} {l : Addr} {o : HO} (k : Same H H') (h : H' l = none) : Same H (upd H' l o) := fun b u e => by
 rw [upd_ne (ne_of_none (k b u e) h)]
 exact k b u e
theorem _root_.L2.Same.put {H H' : Hp} {l : Addr} {o : HO} (k : Same H H') (h : H l = none) : Same H (upd H' l o) := fun b u e => by
 rw [upd_ne (ne_of_none e h)]
 exact k b u e
noncomputable def SqF (K : PySem.W.Frag) (H : Hp) (a : Addr) (xs : List V) : Prop :=
 (∃ o, H a = some (.frz o (.lst xs))) ∨ ∃ (o : Obj) (its : Array Value) (n : Nat), K.lookup a = some o ∧ o.cls = .type "list" ∧ o.dict = none ∧ o.data = .seq its n ∧ its.size ≤ sizeLine ∧ Vals xs its.toList
theorem SqF.sq {K : PySem.W.Frag} {H : Hp} {a : Addr} {xs : List V} : SqF K H a xs → SqL K H a xs
 | .inl ⟨o, e⟩ => .inl (.inr ⟨o, e⟩)
 | .inr h => .inr h
theorem SqF.of {K : PySem.W.Frag} {H : Hp} {a : Addr} {xs : List V} (O : Only H) : SqL K H a xs → SqF K H a xs
 | .inl (.inl e) => by
  rcases O a with z | ⟨o, ys, z⟩
  ·rw [e] at z; cases z
  ·rw [e] at z; cases z
 | .inl (.inr h) => .inl h
 | .inr h => .inr h
theorem SqF.tk {K : PySem.W.Frag} {H H' : Hp} {a : Addr} {xs : List V} (k : TK H H') : SqF K H a xs → SqF K H' a xs
 | .inl ⟨o, e⟩ => .inl ⟨o, k.f _ _ _ e⟩
 | .inr h => .inr h
structure Tp (H : Hp) (p l : Addr) (ns : List Int) : Prop where
 ex : ∃ c e : Int, H p = some (.lst [.ref l, .int c, .int e])
 hl : H l = some (.lst (ns.map V.int))
 ne : p ≠ l
section
variable {p l a : Addr} {H H' : Hp} {o : HO} {ns : List Int}
theorem Tp.draw (t : Tp H p l ns) {c e : Int} : Tp (upd H p (.lst [.ref l, .int c, .int e])) p l ns := ⟨⟨c, e, upd_same⟩, by rw [upd_ne (Ne.symm t.ne)]; exact t.hl, t.ne⟩
theorem Tp.nl (t : Tp H p l ns) (h : H a = none) : l ≠ a := ne_of_none t.hl h
theorem Tp.new (t : Tp H p l ns) (h : H a = none) : Tp (upd H a o) p l ns := by
 obtain ⟨c, e, hp⟩ := t.ex
 exact ⟨⟨c, e, by rw [upd_ne (ne_of_none hp h)]; exact hp⟩, by rw [upd_ne (ne_of_none t.hl h)]; exact t.hl, t.ne⟩
theorem Tp.put (t : Tp H p l ns) (h1 : p ≠ a) (h2 : l ≠ a) : Tp (upd H a o) p l ns := by
 obtain ⟨c, e, hp⟩ := t.ex
 exact ⟨⟨c, e, by rw [upd_ne h1]; exact hp⟩, by rw [upd_ne h2]; exact t.hl, t.ne⟩
theorem Tp.same (t : Tp H p l ns) (k : Same H H') : Tp H' p l ns := by
 obtain ⟨c, e, hp⟩ := t.ex
 exact ⟨⟨c, e, k _ _ hp⟩, k _ _ t.hl, t.ne⟩
theorem Tp.tk (t : Tp H p l ns) : TK H (upd H p o) := let ⟨_, _, e⟩ := t.ex; TK.lst e
end
theorem log_small {n : Nat} (h : n < 1000000000000000) : n.log2 < 1920 := by
 by_cases h0 : n = 0
 ·subst h0
  decide
 ·exact (Nat.log2_lt h0).mpr (Nat.lt_of_lt_of_le h (by decide +kernel))
noncomputable def Sm (i : Int) : Prop := -1000000000000000 < i ∧ i < 1000000000000000
theorem len_int {n : Int} (h : Sm n) : (PyData.shown (.int n)).length ≤ 16 := by
 obtain ⟨h0, h1⟩ := h
 have := int_text_length_le10 (a := n) (k := 15) (by decide) (by omega)
 show (Str.ofString (toString n)).length ≤ 16
 rw [ofString_length]
 exact this
theorem len_tup (ds : List PyData) : (PyData.shown (.tuple ds)).length ≤ ((PyData.shownAll ds).map (·.length)).sum + 2 * (PyData.shownAll ds).length + 3 := tupleText_len_le _
structure Shw (d : PyData) (n h : Nat) : Prop where
 s : d.showable = true
 nd : d.hasDict = false
 p : d.depth ≤ h
 l : d.shown.length ≤ n
theorem Shw.up {d : PyData} {n h m i : Nat} (x : Shw d n h) (h1 : n ≤ m) (h2 : h ≤ i) : Shw d m i := ⟨x.s, x.nd, Nat.le_trans x.p h2, Nat.le_trans x.l h1⟩
theorem Shw.int {i : Int} (h : Sm i) : Shw (.int i) 16 0 := ⟨by
 obtain ⟨h0, h1⟩ := h
 have hs : i.natAbs.log2 < 1920 := log_small (by omega)
 simp only [PyData.showable, decide_eq_true hs], rfl, Nat.zero_le _, len_int h⟩
theorem Shw.two {a b : PyData} {m n h : Nat} (ha : Shw a m h) (hb : Shw b n h) : Shw (.tuple [a, b]) (m + n + 7) (h + 1) := ⟨by
  simp only [PyData.showable, PyData.showableAll, ha.s, hb.s, Bool.and_self], by
  simp only [PyData.hasDict, PyData.hasDictAll, ha.nd, hb.nd, Bool.or_self], by
  show PyData.depthAll [a, b] + 1 ≤ h + 1
  have := ha.p
  have := hb.p
  simp only [PyData.depthAll]
  omega, by
  have h1 := len_tup [a, b]
  have := ha.l
  have := hb.l
  simp only [PyData.shownAll, List.map_cons, List.map_nil, List.sum_cons, List.sum_nil, List.length_cons, List.length_nil] at h1
  omega⟩
theorem w_shw {H : Hp} {Q : VK} {v : V} {d : PyData} {n h : Nat} (r : RdV H v d) (x : Shw d n h) (hn : n ≤ 100000) (hh : h ≤ 50) (q : Q (.str d.shown) H) : rRepr [v] H Q :=
 ⟨v, d, rfl, r, x.s, x.nd, Nat.le_trans x.p hh, Nat.le_trans x.l (Nat.le_trans hn (by decide : 100000 ≤ sizeLine)), q⟩
end G2
namespace L2
open PySem PySem.Spec PyProof.Rows
theorem w_gtup {K : PySem.W.Frag} {n : Nat} {t : TGs} {σ : St} {H : Hp} {Q : St → Hp → Prop} {a : Addr} {xs : List V} (h : H a = some (.tup xs)) (hn : xs.length = n) (q : t xs σ H Q) : gTup K n t (.ref a) σ H Q := ⟨a, xs, rfl, SqT.of h, hn, q⟩
theorem op_mulB {X : Cx} : OpR X (binaryOp .Mult) (rI IntMulOk fun i j => .int (i * j)) := opI fun _ _ _ _ _ _ _ hc q => mul_int q hc
end L2
namespace G2
open PySem L2
noncomputable def Bg (i : Int) : Prop := i.natAbs < 10 ^ 90
section
variable {D : Addr} {te : TE} {tc : TT} {Q : VK} {ρ : St} {H : Hp} {K : PySem.W.Frag} {a b : Addr}
theorem zip_map {xs ys : List Int} (g : Int → Int → Int) (ha : H a = some (.tup (xs.map V.int))) (hb : H b = some (.tup (ys.map V.int))) (hlen : xs.length = ys.length) (hn : xs.length ≤ 1000)
  (step : ∀ (i : Nat) (x y : Int) (H' : Hp), xs[i]? = some x → ys[i]? = some y → Same H H' → ∀ R : V → Hp → Prop, (∀ H'', Same H' H'' → R (.int (g x y)) H'') → te (some (.int x) :: some (.int y) :: ρ) H' R)
  (q : ∀ H', Same H H' → H' D = some (.lst ((List.zipWith g xs ys).map V.int)) → Q (.ref D) H') (hD : H D = none) : CGo (Itz K a b) D (gTup K 2 (gCons (gName 0) (gCons (gName 1) gNil))) tAll te Q (none :: none :: ρ) H := by
 refine cgo_zip (xs := xs.map V.int) (zs := ys.map V.int) (by simp [hlen]) (fun i zs H' => zs = ((List.zipWith g xs ys).take i).map V.int ∧ Same H H') ⟨rfl, Same.new (Same.refl H) hD⟩ (fun i zs H' _ ⟨_, k'⟩ => ⟨SqT.of (k' _ _ ha), SqT.of (k' _ _ hb)⟩) ?_ ?_
 ·rintro i x z zs H' p hx hz ⟨rfl, K'⟩ hDz hp R S kR _
  have hi1 : i < xs.length := by
   have := (List.getElem?_eq_some_iff.mp hx).1
   simpa using this
  have hi2 : i < ys.length := by omega
  have ex : x = .int xs[i] := by
   rw [List.getElem?_map, List.getElem?_eq_getElem hi1] at hx
   exact (Option.some.inj hx).symm
  have ez : z = .int ys[i] := by
   rw [List.getElem?_map, List.getElem?_eq_getElem hi2] at hz
   exact (Option.some.inj hz).symm
  subst ex ez
  refine w_all ?_
  refine iteT ?_
  have hD' : upd H' p (.tup [.int xs[i], .int ys[i]]) D = some (.lst (((List.zipWith g xs ys).take i).map V.int)) := by rw [upd_ne (ne_of_none hDz hp)]; exact hDz
  refine step i _ _ _ (by simp [hi1]) (by simp [hi2]) (K'.new hp) R fun H'' K'' => ?_
  refine kR _ _ (K'' _ _ hD') (by rw [List.length_map, List.length_take]; exact small1000 (by omega)) ⟨?_, ((K'.new hp).trans K'').put hD⟩
  have hz' : (List.zipWith g xs ys)[i]? = some (g xs[i] ys[i]) := by simp [List.getElem?_zipWith, hi1, hi2]
  rw [List.take_add_one, List.map_append, hz']
  rfl
 ·rintro zs H' ⟨rfl, K'⟩ hDz
  refine q H' K' ?_
  rw [hDz, List.take_of_length_le]
  simp
  omega
theorem rng_gen {n : Nat} (J : Hp → Prop) (Pe : V → Hp → Prop) (hn : n ≤ 1000) (h0 : J (upd H D (.lst []))) (jD : ∀ H' ys zs, J H' → H' D = some (.lst ys) → J (upd H' D (.lst zs))) (pD : ∀ y H' ys zs, Pe y H' → J H' → H' D = some (.lst ys) → Pe y (upd H' D (.lst zs)))
  (step : ∀ (i : Nat) (H' : Hp) (ys : List V), i < n → J H' → H' D = some (.lst ys) → ∀ R : V → Hp → Prop, (∀ y H'', Pe y H'' → J H'' → H'' D = some (.lst ys) → (∀ z, Pe z H' → Pe z H'') → R y H'') → te (some (.int (i : Int)) :: ρ) H' R)
  (q : ∀ ys H', ys.length = n → (∀ y ∈ ys, Pe y H') → J H' → H' D = some (.lst ys) → Q (.ref D) H') : CGo (Itr 0 n) D (gName 0) tAll te Q (none :: ρ) H := by
 refine cgo_range (fun i zs H' => zs.length = i ∧ (∀ y ∈ zs, Pe y H') ∧ J H') ⟨rfl, (fun y h => by cases h), h0⟩ ?_ ?_
 ·rintro i zs H' hi ⟨hl, hp, hJ⟩ hDz R S kR _
  rw [Int.zero_add]
  refine w_all ?_
  refine iteT ?_
  refine step i H' zs hi hJ hDz R fun y H'' hy hJ' hD' hk => ?_
  refine kR _ _ hD' (small1000 (by omega)) ⟨by simp [hl], fun z hz => ?_, jD _ _ _ hJ' hD'⟩
  rcases List.mem_append.mp hz with old | new
  ·exact pD _ _ _ _ (hk z (hp z old)) hJ' hD'
  ·rw [List.mem_singleton.mp new]
   exact pD _ _ _ _ hy hJ' hD'
 ·rintro zs H' ⟨hl, hp, hJ⟩ hDz
  exact q zs H' hl hp hJ hDz
end
theorem Bg.log {i : Int} (h : Bg i) : i.natAbs.log2 < 1920 := by
 unfold Bg at h
 by_cases h0 : i.natAbs = 0
 ·rw [h0]
  decide
 ·exact (Nat.log2_lt h0).mpr (Nat.lt_of_lt_of_le h (by decide +kernel))
theorem Bg.len {n : Int} (h : Bg n) : (PyData.shown (.int n)).length ≤ 91 := by
 have := int_text_length_le10 (a := n) (k := 90) (by decide) h
 show (Str.ofString (toString n)).length ≤ 91
 rw [ofString_length]
 exact this
theorem Shw.big {i : Int} (h : Bg i) : Shw (.int i) 91 0 := ⟨by simp only [PyData.showable, decide_eq_true h.log], rfl, Nat.zero_le _, h.len⟩
section
variable {X : Cx} {k : Nat}
noncomputable def rNeD : R2 := fun x y H Q => ∃ dx dy, RdV H x dx ∧ RdV H y dy ∧ dx.canLay0 = true ∧ dy.canLay0 = true ∧ dx.depth ≤ 60 ∧ Q (.bl (!PyData.eqv dx dy)) H
theorem op_neD (hr : Room k X.A) : OpR X (compareOp .NotEq) rNeD := by
 intro pins s σ H x y v u Q I rx ry h
 obtain ⟨dx, dy, hx, hy, cx, cy, hd, q⟩ := h
 obtain ⟨as, ra⟩ := hx.reads I rx
 obtain ⟨bs, rb⟩ := hy.reads I ry
 have := hr.units
 exact SeqAt.compareNe_reads ra rb cx cy (by omega) ⟨.bl _, H, I, rfl, q⟩
end
structure Fm where
 ins : List Int
 sts : List Int
 plus : Int
noncomputable def FmAt (H : Hp) (q : Addr) (f : Fm) : Prop := ∃ a b, H q = some (.tup [.ref a, .ref b, .int f.plus]) ∧ H a = some (.tup (f.ins.map V.int)) ∧ H b = some (.tup (f.sts.map V.int))
theorem FmAt.same {H H' : Hp} {q : Addr} {f : Fm} (k : Same H H') : FmAt H q f → FmAt H' q f
 | ⟨a, b, h1, h2, h3⟩ => ⟨a, b, k _ _ h1, k _ _ h2, k _ _ h3⟩
theorem FmAt.tk {H H' : Hp} {q : Addr} {f : Fm} (k : TK H H') : FmAt H q f → FmAt H' q f
 | ⟨a, b, h1, h2, h3⟩ => ⟨a, b, k.t _ _ h1, k.t _ _ h2, k.t _ _ h3⟩
structure FmOk (n m : Nat) (B : Int) (f : Fm) : Prop where
 li : f.ins.length = n
 ls : f.sts.length = m
 bi : ∀ x ∈ f.ins, -B ≤ x ∧ x ≤ B
 bs : ∀ x ∈ f.sts, -B ≤ x ∧ x ≤ B
 bp : -B ≤ f.plus ∧ f.plus ≤ B
noncomputable def fmD (f : Fm) : PyData := .tuple [.tuple (f.ins.map .int), .tuple (f.sts.map .int), .int f.plus]
theorem fm_rd {H : Hp} {q : Addr} {f : Fm} : FmAt H q f → RdV H (.ref q) (fmD f)
 | ⟨_, _, hq, ha, hb⟩ => .tup hq (.cons (.tup ha (rdInts _)) (.cons (.tup hb (rdInts _)) (.cons (.int _) .nil)))
theorem Bg.of {x B : Int} (hB : B < 10 ^ 90) (h : -B ≤ x ∧ x ≤ B) : Bg x := by
 unfold Bg
 omega
end G2
namespace L2
open PySem PySem.Spec PyProof.Rows
theorem aoi4 (a b c d : Value) : argsOk "object.__init__" ⟨[a, b, c, d], []⟩ := by unfold argsOk; rw [signature?_of (id := "object.__init__") (n := ['_', '_', 't', 'i', 'n', 'i', '_', '_']) (o := ['t', 'c', 'e', 'j', 'b', 'o']) (by kernel_rfl) F.owner_object]; kernel_rfl
section
variable {prog : Program} {w : World} {A : Around} {E : Value → Shared → Prop} {s : Shared}
theorem call_zt {a b c : Addr} {xs ys zs : Array Value} {Q : Value → Shared → Prop} (hA : s.heap.IsTuple a xs) (hB : s.heap.IsTuple b ys) (hC : s.heap.IsTuple c zs)
  (k : ∀ h', IsZip h' (s.heap.objs.size + 5) (s.heap.objs.size + 3) (s.heap.objs.size + 4) .none → IsTri h' (s.heap.objs.size + 3) (.ref s.heap.objs.size) (.ref (s.heap.objs.size + 1)) (.ref (s.heap.objs.size + 2)) → IsTri h' (s.heap.objs.size + 4) .none .none .none →
   h'.IsTupleIter s.heap.objs.size a 0 → h'.IsTupleIter (s.heap.objs.size + 1) b 0 → h'.IsTupleIter (s.heap.objs.size + 2) c 0 → (∀ d o, s.heap.get? d = some o → h'.get? d = some o) → Q (.ref (s.heap.objs.size + 5)) { s with heap := h' }) :
  wpAny (model prog w) A (call (.type "zip") [.ref a, .ref b, .ref c]) Q E s := by
 refine callType_new F.called_zip (by decide) (tyC3 _ _ _) (nwC3 _ _ _) (fun obj => aoi4 obj _ _ _) F.entry_zip_new (zt_new a b c xs ys zs) ⟨hA, hB, hC, ?_⟩
 have z1 : (ztH1 s.heap a).objs.size = s.heap.objs.size + 1 := Heap.size_push ..
 have z2 : (ztH2 s.heap a b).objs.size = s.heap.objs.size + 2 := by rw [Heap.size_push, z1]
 have z3 : (ztH3 s.heap a b c).objs.size = s.heap.objs.size + 3 := by rw [Heap.size_push, z2]
 have z4 : (ztH4 s.heap a b c).objs.size = s.heap.objs.size + 4 := by rw [Heap.size_push, z3]
 have z5 : (ztH5 s.heap a b c).objs.size = s.heap.objs.size + 5 := by rw [Heap.size_push, z4]
 have p1 : ∀ {h : Heap} {o : Obj} {d : Addr} {u : Obj}, h.get? d = some u → (h.push o).get? d = some u := fun q => Heap.get?_push_of_some _ q
 have g6 : (ztH6 s.heap a b c).get? (ztH5 s.heap a b c).objs.size = some _ := Heap.get?_push_size _ rfl
 have g5 : (ztH6 s.heap a b c).get? (ztH4 s.heap a b c).objs.size = some _ := p1 (Heap.get?_push_size _ rfl)
 have g4 : (ztH6 s.heap a b c).get? (ztH3 s.heap a b c).objs.size = some _ := p1 (p1 (Heap.get?_push_size _ rfl))
 have g3 : (ztH6 s.heap a b c).get? (ztH2 s.heap a b).objs.size = some _ := p1 (p1 (p1 (Heap.get?_push_size _ rfl)))
 have g2 : (ztH6 s.heap a b c).get? (ztH1 s.heap a).objs.size = some _ := p1 (p1 (p1 (p1 (Heap.get?_push_size _ rfl))))
 have g1 : (ztH6 s.heap a b c).get? s.heap.objs.size = some _ := p1 (p1 (p1 (p1 (p1 (Heap.get?_push_size _ rfl)))))
 show _ ∧ _
 rw [z3, z4, z5] at g6; rw [z4] at g5; rw [z1, z2, z3] at g4; rw [z2] at g3; rw [z1] at g2
 have kk : ∀ d o, s.heap.get? d = some o → (ztH6 s.heap a b c).get? d = some o := fun d o q => p1 (p1 (p1 (p1 (p1 (p1 q)))))
 rw [z5]
 exact ⟨⟨_, g6, rfl⟩, k _ g6 g4 g5 ⟨_, g1, rfl, rfl⟩ ⟨_, g2, rfl, rfl⟩ ⟨_, g3, rfl, rfl⟩ kk⟩
end
noncomputable def It3 (K : PySem.W.Frag) (a b c : Addr) : It :=
  ⟨fun i H => ∃ xs ys zs x y z, SqT K H a xs ∧ SqT K H b ys ∧ SqT K H c zs ∧ xs[i]? = some x ∧ ys[i]? = some y ∧ zs[i]? = some z,
   fun i H v H' => ∃ p x y z, v = .ref p ∧ H p = none ∧ H' = upd H p (.tup [x, y, z]) ∧ (∀ xs, SqT K H a xs → xs[i]? = some x) ∧ (∀ ys, SqT K H b ys → ys[i]? = some y) ∧ ∀ zs, SqT K H c zs → zs[i]? = some z,
   fun i H => ∃ xs, SqT K H a xs ∧ xs.length ≤ i⟩
theorem turn_zt {P : Program} {w : World} {K : PySem.W.Frag} {es : List Expr} {kt : Nat} {pt : Pos} (a b c z TI TO i1 i2 i3 : Addr) (D : Apart3 z TI TO i1 i2 i3 a b c) :
  Turn P w K (.Tuple es kt pt) (It3 K a b c) [z, TI, TO, i1, i2, i3] z (fun i h => IsZip h z TI TO .none ∧ IsTri h TI (.ref i1) (.ref i2) (.ref i3) ∧ (∃ u v t, IsTri h TO u v t) ∧ h.IsTupleIter i1 a i ∧ h.IsTupleIter i2 b i ∧ h.IsTupleIter i3 c i) where
 mem := by simp
 obj := fun i h st q hq => by
  obtain ⟨hz, hI, ⟨u, v, t, hO⟩, ⟨o1, e1, c1, d1⟩, ⟨o2, e2, c2, d2⟩, ⟨o3, e3, c3, d3⟩⟩ := st
  simp only [List.mem_cons, List.not_mem_nil, or_false] at hq
  rcases hq with rfl | rfl | rfl | rfl | rfl | rfl
  ·exact ⟨_, hz, fun v y => by have y' : Data.fields _ = Data.cell v := y; cases y'⟩
  ·exact ⟨_, hI, fun v y => by have y' : Data.seq _ _ = Data.cell v := y; cases y'⟩
  ·exact ⟨_, hO, fun v y => by have y' : Data.seq _ _ = Data.cell v := y; cases y'⟩
  ·exact ⟨o1, e1, fun v y => by rw [d1] at y; cases y⟩
  ·exact ⟨o2, e2, fun v y => by rw [d2] at y; cases y⟩
  ·exact ⟨o3, e3, fun v y => by rw [d3] at y; cases y⟩
 keep := fun i h h' st k => ⟨k z (by simp) _ st.1, k TI (by simp) _ st.2.1, let ⟨u, v, t, q⟩ := st.2.2.1; ⟨u, v, t, k TO (by simp) _ q⟩, st.2.2.2.1.at fun o x => k i1 (by simp) o x, st.2.2.2.2.1.at fun o x => k i2 (by simp) o x, st.2.2.2.2.2.at fun o x => k i3 (by simp) o x⟩
 item := by
  intro X hP hw hK hc i pins s σ H E I hf st hg
  subst hP hw hK
  obtain ⟨xs, ys, zs, x, y, t, hqa, hqb, hqc, hx, hy, ht⟩ := hg
  obtain ⟨ia, rva, pa, za⟩ := I.tuple hqa
  obtain ⟨ib, rvb, pb, zb⟩ := I.tuple hqb
  obtain ⟨ic, rvc, pc, zc⟩ := I.tuple hqc
  obtain ⟨u, hu, ru⟩ := rva.get hx
  obtain ⟨v, hv, rv⟩ := rvb.get hy
  obtain ⟨r, hr, rr⟩ := rvc.get ht
  obtain ⟨hz, hI, ⟨ou, ov, ow, hO⟩, h1, h2, h3⟩ := st
  obtain ⟨⟨TIz, TOz, i1z, i2z, i3z⟩, ⟨TITO, TIi1, TIi2, TIi3⟩, _⟩ := id D
  have hT : s.TypeIs (.ref z) "zip" := ⟨_, hz, rfl⟩; unfold pyNext
  refine wpAny_bind (wpAny_attempt (wpAny_callSpecial?_slot (name := Str.ofString "__next__") hT F.slot_zip_next (wpAny_call_entry F.slot_zip_next hT F.entry_zip_next
   (zip3_item D hz hI hO h1 h2 h3 pa pb pc (x := u) (y := v) (v := r) (by simpa using hu) (by simpa using hv) (by simpa using hr) fun h' z' o' a' b' c' t' k' => wpAny_pure ?_) (F.args_zip_next_1 _))))
  refine ⟨_, rfl, wpAny_letOwnedTupleGo_zip z' fun h'' z'' sb => ?_⟩
  have nz : s.heap.objs.size ≠ z := Nat.ne_of_gt (Heap.lt_size hz)
  have nTO : s.heap.objs.size ≠ TO := Nat.ne_of_gt (Heap.lt_size hO)
  have nTI : s.heap.objs.size ≠ TI := Nat.ne_of_gt (Heap.lt_size hI)
  have n1 : s.heap.objs.size ≠ i1 := by obtain ⟨o, e, _⟩ := h1; exact Nat.ne_of_gt (Heap.lt_size e)
  have n2 : s.heap.objs.size ≠ i2 := by obtain ⟨o, e, _⟩ := h2; exact Nat.ne_of_gt (Heap.lt_size e)
  have n3 : s.heap.objs.size ≠ i3 := by obtain ⟨o, e, _⟩ := h3; exact Nat.ne_of_gt (Heap.lt_size e)
  have up : ∀ q o, q ≠ z → h'.get? q = some o → h''.get? q = some o := fun q o hq e => (sb.2 q hq).trans e
  have hI'' : IsTri h'' TI (.ref i1) (.ref i2) (.ref i3) := up _ _ TIz (k' TI _ TIz TITO TIi1 TIi2 TIi3 hI)
  have I2 : Inv X pins σ (upd H s.heap.objs.size (.tup [x, y, t])) { s with heap := h'', toks := s.toks } := I.turnNew (ch := [z, TI, TO, i1, i2, i3]) hf (fun q o hq e => by
   simp only [List.mem_cons, List.not_mem_nil, or_false, not_or] at hq
   exact up q o hq.1 (k' q o hq.1 hq.2.2.1 hq.2.2.2.1 hq.2.2.2.2.1 hq.2.2.2.2.2 e)) (fun q hq => by
   simp only [List.mem_cons, List.not_mem_nil, or_false] at hq
   rcases hq with rfl | rfl | rfl | rfl | rfl | rfl
   ·exact ⟨_, z''⟩
   ·exact ⟨_, hI''⟩
   ·exact ⟨_, up _ _ TOz o'⟩
   ·obtain ⟨o, e, _⟩ := a'; exact ⟨o, up _ o i1z e⟩
   ·obtain ⟨o, e, _⟩ := b'; exact ⟨o, up _ o i2z e⟩
   ·obtain ⟨o, e, _⟩ := c'; exact ⟨o, up _ o i3z e⟩) (Nat.le_refl _) (vals := [u, v, r]) (.cons ru (.cons rv (.cons rr .nil))) (by show 3 ≤ sizeLine; decide) ⟨_, up _ _ nz t', rfl, _, rfl⟩
  refine ⟨.ref s.heap.objs.size, _, I2, rfl, ⟨_, x, y, t, rfl, I.fresh, rfl, fun ws hws => by rw [I.tuple_inj hws hqa]; exact hx, fun ws hws => by rw [I.tuple_inj hws hqb]; exact hy, fun ws hws => by rw [I.tuple_inj hws hqc]; exact ht⟩,
   ⟨z'', hI'', ⟨_, _, _, up _ _ TOz o'⟩, a'.at fun o e => up _ o i1z e, b'.at fun o e => up _ o i2z e, c'.at fun o e => up _ o i3z e⟩, fun q hq => ?_⟩
  have hq0 := (hf q hq).1
  simp only [List.mem_cons, List.not_mem_nil, or_false] at hq
  rw [upd_ne]
  ·exact hq0
  ·rcases hq with rfl | rfl | rfl | rfl | rfl | rfl
   ·exact Ne.symm nz
   ·exact Ne.symm nTI
   ·exact Ne.symm nTO
   ·exact Ne.symm n1
   ·exact Ne.symm n2
   ·exact Ne.symm n3
 done := by
  intro X hP hw hK hc i pins s σ H E I hf st hg
  subst hP hw hK
  obtain ⟨xs, hqa, hx⟩ := hg
  obtain ⟨ia, rva, pa, za⟩ := I.tuple hqa
  obtain ⟨hz, hI, ⟨ou, ov, ow, hO⟩, h1, h2, h3⟩ := st
  have la := rva.length
  have hT : s.TypeIs (.ref z) "zip" := ⟨_, hz, rfl⟩; unfold pyNext
  refine wpAny_bind (wpAny_attempt (wpAny_callSpecial?_slot (name := Str.ofString "__next__") hT F.slot_zip_next (wpAny_call_entry F.slot_zip_next hT F.entry_zip_next
   (zip3_end (I.ok.hd hc) D hz hI hO h1 pa (by simp; omega) fun h' e k' he => ?_) (F.args_zip_next_1 _))))
  obtain ⟨o, ho, hcl⟩ := he
  refine wpAny_bind (wpAny_isInstance (T := "StopIteration") (b := true) ⟨o, ho, hcl⟩ isSubtype_stop ?_)
  refine wpAny_pure ⟨rfl, I.turnOnly (tk := s.toks) hf fun q o hq e => ?_⟩
  simp only [List.mem_cons, List.not_mem_nil, or_false, not_or] at hq
  exact k' q o hq.1 hq.2.2.1 hq.2.2.2.1 hq.2.2.2.2.1 hq.2.2.2.2.2 e
 self := fun _ _ s _ _ st h => wpAny_pyIter_zip st.1 h
theorem apart3 {n a b c : Nat} (ha : a < n) (hb : b < n) (hc : c < n) : Apart3 (n + 5 : Nat) (n + 3 : Nat) (n + 4 : Nat) (n : Nat) (n + 1 : Nat) (n + 2 : Nat) a b c := by
 constructor <;> refine ⟨?_, ?_, ?_⟩ <;> (try refine ⟨?_, ?_⟩) <;> (try refine ⟨?_, ?_⟩) <;> (intro q; have q' : (_ : Nat) = _ := q; omega)
section
variable {X : Cx} {es : List Expr} {kt : Nat} {pt : Pos}
noncomputable def iZt (K : PySem.W.Frag) (ta : TA) : TI := fun σ H R => ta σ H fun vs H1 => ∃ a b c, vs = [.ref a, .ref b, .ref c] ∧ (∃ xs, SqT K H1 a xs) ∧ (∃ ys, SqT K H1 b ys) ∧ (∃ zs, SqT K H1 c zs) ∧ R (It3 K a b c) H1
theorem pi_zt {e e' e'' : Expr} {ta : TA} {p pos : Pos} (hm : X.mg "zip" = none) (ha : PA X [e, e', e''] ta) (hg : Gl X "zip" := by rfl) (h : isStar e = false := by rfl) (h' : isStar e' = false := by rfl) (h'' : isStar e'' = false := by rfl) : PI X (.Tuple es kt pt) (.Call (.Name "zip" p) [e, e', e''] [] pos) (iZt X.K ta) := by
 intro pins s σ H R I hh
 refine Call_ (ld_blt I hg hm boot_zip (PyProof.Rows.callWith_type1 (thn (ha pos pins s σ H _ I hh) fun us s1 ⟨vs, H1, I1, r1, q1⟩ => ?_) (star1 h) (star_any (by simp [h', h'']))))
 obtain ⟨a, b, c, rfl, ⟨xs, hqa⟩, ⟨ys, hqb⟩, ⟨zs, hqc⟩, q⟩ := q1
 cases r1 with
 | cons ru r2 =>
  cases r2 with
  | cons rv r3 =>
   cases r3 with
   | cons rw' r4 =>
    cases r4
    cases ru
    cases rv
    cases rw'
    obtain ⟨ia, rva, pa, za⟩ := I1.tuple hqa
    obtain ⟨ib, rvb, pb, zb⟩ := I1.tuple hqb
    obtain ⟨ic, rvc, pc, zc⟩ := I1.tuple hqc
    have la : a < s1.heap.objs.size := by obtain ⟨o, e, _⟩ := pa; exact Heap.lt_size e
    have lb : b < s1.heap.objs.size := by obtain ⟨o, e, _⟩ := pb; exact Heap.lt_size e
    have lc : c < s1.heap.objs.size := by obtain ⟨o, e, _⟩ := pc; exact Heap.lt_size e
    refine call_zt (xs := ia.toArray) (ys := ib.toArray) (zs := ic.toArray) pa pb pc fun g hz hI hO j1 j2 j3 hk => wpAny_pyIter_zip hz ?_
    refine ⟨_, [s1.heap.objs.size + 5, s1.heap.objs.size + 3, s1.heap.objs.size + 4, s1.heap.objs.size, s1.heap.objs.size + 1, s1.heap.objs.size + 2], _, _, H1, rfl, I1.kept (t' := s1.toks) hk, turn_zt a b c _ _ _ _ _ _ (apart3 la lb lc), ⟨hz, hI, ⟨_, _, _, hO⟩, j1, j2, j3⟩, fun q hq => ?_, by assumption⟩
    have hq' : s1.heap.objs.size ≤ q := by
     simp only [List.mem_cons, List.not_mem_nil, or_false] at hq
     rcases hq with z | z | z | z | z | z <;> rw [z] <;> first | exact Nat.le_refl _ | exact Nat.le_add_right _ _
    exact I1.fpOk hq' (I1.hok.fresh hq')
end
theorem w_comp3 {K : PySem.W.Frag} {ta : TA} {n : Nat} {ix : List Nat} {g : TG} {tc : TT} {te : TE} {σ : St} {H : Hp} {Q : VK} (h : ta σ H fun vs H1 => ∃ a b c, vs = [.ref a, .ref b, .ref c] ∧ (∃ xs, SqT K H1 a xs) ∧ (∃ ys, SqT K H1 b ys) ∧ (∃ zs, SqT K H1 c zs) ∧ ∀ D, H1 D = none → CGo (It3 K a b c) D g tc te Q (List.replicate n none ++ sub ix σ) H1) : tComp (iZt K ta) n ix g tc te σ H Q := h
theorem zip3_map {D : Addr} {te : TE} {Q : VK} {ρ : St} {H : Hp} {K : PySem.W.Frag} {a b c : Addr} {xs ys zs : List Int} (g : Int → Int → Int → Int) (ha : H a = some (.tup (xs.map V.int))) (hb : H b = some (.tup (ys.map V.int))) (hc : H c = some (.tup (zs.map V.int))) (h1 : ys.length = xs.length) (h2 : zs.length = xs.length) (hn : xs.length ≤ 1000)
  (step : ∀ (x y z : Int) (H' : Hp), Same H H' → ∀ R : V → Hp → Prop, (∀ H'', Same H' H'' → R (.int (g x y z)) H'') → te (some (.int x) :: some (.int y) :: some (.int z) :: ρ) H' R)
  (q : ∀ H', Same H H' → H' D = some (.lst (((List.range xs.length).map fun i => g (xs.getD i 0) (ys.getD i 0) (zs.getD i 0)).map V.int)) → Q (.ref D) H') (hD : H D = none) : CGo (It3 K a b c) D (gTup K 3 (gCons (gName 0) (gCons (gName 1) (gCons (gName 2) gNil)))) tAll te Q (none :: none :: none :: ρ) H := by
 refine ⟨fun i m τ vs H' => m = xs.length - i ∧ i ≤ xs.length ∧ (∃ tv tw tx, τ = tv :: tw :: tx :: ρ) ∧ vs = ((List.range i).map fun i => g (xs.getD i 0) (ys.getD i 0) (zs.getD i 0)).map V.int ∧ Same H H' ∧ H' D = some (.lst vs), ⟨xs.length, by omega, Nat.zero_le _, ⟨_, _, _, rfl⟩, rfl, Same.new (Same.refl H) hD, upd_same⟩, ?_⟩
 rintro i m τ vs H' ⟨rfl, hi, ⟨tv, tw, tx, rfl⟩, rfl, K', hDz⟩
 refine ⟨hDz, ?_⟩
 have sa : SqT K H' a (xs.map V.int) := SqT.of (K' _ _ ha)
 have sb : SqT K H' b (ys.map V.int) := SqT.of (K' _ _ hb)
 have sc : SqT K H' c (zs.map V.int) := SqT.of (K' _ _ hc)
 by_cases hlt : i < xs.length
 ·have hy : i < ys.length := by omega
  have hz : i < zs.length := by omega
  refine .inr ⟨⟨_, _, _, .int xs[i], .int ys[i], .int zs[i], sa, sb, sc, by simp [hlt], by simp [hy], by simp [hz]⟩, ?_⟩
  rintro w' H'' ⟨p, x, y, z, rfl, hp, rfl, ex, ey, ez⟩
  have ex' := ex _ sa
  have ey' := ey _ sb
  have ez' := ez _ sc
  rw [List.getElem?_map, List.getElem?_eq_getElem hlt] at ex'
  rw [List.getElem?_map, List.getElem?_eq_getElem hy] at ey'
  rw [List.getElem?_map, List.getElem?_eq_getElem hz] at ez'
  cases ex'
  cases ey'
  cases ez'
  refine ⟨p, _, rfl, SqT.of upd_same, rfl, _, _, rfl, _, _, rfl, _, _, rfl, rfl, ?_⟩
  refine w_all ?_
  refine iteT ?_
  have hD' : upd H' p (.tup [.int xs[i], .int ys[i], .int zs[i]]) D = some (.lst (((List.range i).map fun i => g (xs.getD i 0) (ys.getD i 0) (zs.getD i 0)).map V.int)) := by rw [upd_ne (ne_of_none hDz hp)]; exact hDz
  refine step xs[i] ys[i] zs[i] _ (K'.new hp) _ fun H3 K3 => ⟨K3 _ _ hD', by rw [List.length_map, List.length_map, List.length_range]; exact small1000 (by omega), xs.length - (i + 1), by omega, rfl, hlt, ⟨_, _, _, rfl⟩, ?_, ((K'.new hp).trans K3).put hD, upd_same⟩
  rw [List.range_succ, List.map_append, List.map_append]
  simp [List.getD_eq_getElem?_getD, hlt, hy, hz]
 ·have e : i = xs.length := by omega
  subst e
  exact .inl ⟨⟨_, sa, by simp⟩, q H' K' hDz⟩
section
variable {X : Cx}
theorem bools_of : ∀ {bs : List Bool} {us : List Value}, Vals (bs.map V.bl) us → us = bs.map Value.bool
 | [], us, r => by
  cases r
  rfl
 | b :: bs, us, r => by
  cases r with
  | cons r1 r2 =>
   cases r1
   rw [bools_of r2]
   rfl
noncomputable def rAll : List V → Hp → VK → Prop := fun xs H Q => ∃ (p : Addr) (bs : List Bool), xs = [.ref p] ∧ H p = some (.lst (bs.map V.bl)) ∧ Q (.bl (bs.all id)) H
theorem all_range (bs : List Bool) : (List.range bs.length).all (fun i => bs.getD i false) = bs.all id := by
 rw [Bool.eq_iff_iff, List.all_eq_true, List.all_eq_true]
 constructor
 ·intro h b hb
  obtain ⟨i, hi, rfl⟩ := List.getElem_of_mem hb
  have := h i (List.mem_range.mpr hi)
  simpa [List.getD_eq_getElem?_getD, hi] using this
 ·intro h i hi
  have hi' := List.mem_range.mp hi
  have := h bs[i] (List.getElem_mem hi')
  simpa [List.getD_eq_getElem?_getD, hi'] using this
theorem call_all (hc : X.calm = true) : CallR X (.builtin "all") rAll := by
 intro pins s σ H xs us Q I r h
 obtain ⟨p, bs, rfl, hp, q⟩ := h
 obtain ⟨u, rfl, ru⟩ := r.one
 cases ru
 obtain ⟨its, n, rv, e, z⟩ := I.lst hp
 have hits := bools_of rv
 subst hits
 have hl : s.heap.IsList p (bs.map Value.bool).toArray := ⟨_, e, rfl, n, rfl⟩
 refine call_all_walk (wpAny_pyIter_list hl ?_)
 refine ⟨_, _, _, _, _, _, fun i => bs.getD i false, rfl, Walks.list (A := X.A.in1) (I.ok.hd hc) _ p (Nat.ne_of_lt (Heap.lt_size e)) (bs.map Value.bool).toArray, ⟨⟨_, Heap.get?_push_size _ rfl, rfl, rfl⟩, hl.push _⟩, ?_, fun h' tk hk => ?_⟩
 ·intro i v s' Q' E' hv hQ'
  have hv' : (bs.map Value.bool)[i]? = some v := by simpa using hv
  rw [List.getElem?_map] at hv'
  cases eb : bs[i]? with
  | none => rw [eb] at hv'; cases hv'
  | some b =>
   rw [eb] at hv'
   cases hv'
   have : bs.getD i false = b := by rw [List.getD_eq_getElem?_getD, eb]; rfl
   refine wpAny_truthy_bool ?_
   dsimp only at hQ'
   rw [this] at hQ'
   exact hQ'
 ·have e1 : (List.range (bs.map Value.bool).toArray.size).all (fun i => bs.getD i false) = bs.all id := by simpa using all_range bs
  rw [e1]
  exact ⟨.bl _, H, I.kept (t' := tk) (old_kept (l := p) hk), rfl, q⟩
end
section
variable {X : Cx} {es : List Expr} {kt : Nat} {pt : Pos}
end
noncomputable def isI (i : Int) : Value → Bool
 | .int a _ => a == i
 | _ => false
theorem map_erase (k : Nat) (xs : List Int) : (xs.map V.int).eraseIdx k = (xs.eraseIdx k).map V.int := by
 induction xs generalizing k with
 | nil => rfl
 | cons x xs ih => cases k with
  | zero => rfl
  | succ k => simp [ih]
section
variable {X : Cx}
end
theorem cgo_list {D : Addr} {tc : TT} {te : TE} {Q : VK} {ρ : St} {H : Hp} {K : PySem.W.Frag} {a : Addr} {xs : List V} (Pv : Nat → List V → Hp → Prop) (h0 : Pv 0 [] (upd H D (.lst []))) (hl : ∀ i ys H', i ≤ xs.length → Pv i ys H' → SqL K H' a xs)
  (hs : ∀ i x ys H', xs[i]? = some x → Pv i ys H' → H' D = some (.lst ys) → ∀ (R : V → Hp → Prop) (S : Hp → Prop), (∀ y H4, H4 D = some (.lst ys) → ys.length < sizeLine → Pv (i + 1) (ys ++ [y]) (upd H4 D (.lst (ys ++ [y]))) → R y H4) → (∀ H3, H3 D = some (.lst ys) → Pv (i + 1) ys H3 → S H3) →
   tc (some x :: ρ) H' fun b H3 => if b = true then te (some x :: ρ) H3 R else S H3)
  (hd : ∀ ys H', Pv xs.length ys H' → H' D = some (.lst ys) → Q (.ref D) H') : CGo (Itl K a) D (gName 0) tc te Q (none :: ρ) H := by
 refine ⟨fun i m τ ys H' => m = xs.length - i ∧ i ≤ xs.length ∧ (∃ tv, τ = tv :: ρ) ∧ Pv i ys H' ∧ H' D = some (.lst ys), ⟨xs.length, by omega, Nat.zero_le _, ⟨_, rfl⟩, h0, upd_same⟩, ?_⟩
 rintro i m τ ys H' ⟨rfl, hi, ⟨tv, rfl⟩, hp, hD⟩
 refine ⟨hD, ?_⟩
 have sq := hl i ys H' hi hp
 by_cases hlt : i < xs.length
 ·refine .inr ⟨⟨xs, xs[i], sq, by simp [hlt]⟩, ?_⟩
  rintro v H'' ⟨rfl, hv⟩
  have hv' := hv xs sq
  show tc (some v :: ρ) _ _
  exact hs i v ys _ hv' hp hD _ _ (fun y H4 a b c => ⟨a, b, xs.length - (i + 1), by omega, rfl, hlt, ⟨_, rfl⟩, c, upd_same⟩) fun H3 a c => ⟨xs.length - (i + 1), by omega, rfl, hlt, ⟨_, rfl⟩, c, a⟩
 ·have e : i = xs.length := by omega
  subst e
  exact .inl ⟨⟨xs, sq, Nat.le_refl _⟩, hd ys _ hp hD⟩
section
variable {X : Cx}
noncomputable def rIns : V → List V → Hp → VK → Prop := fun x vs H Q => ∃ (l : Addr) (xs : List V) (i : Int) (y : V), x = .ref l ∧ vs = [.int i, y] ∧ H l = some (.lst xs) ∧ 0 ≤ i ∧ i ≤ xs.length ∧ xs.length < sizeLine ∧ Q .non (upd H l (.lst (xs.take i.toNat ++ y :: xs.drop i.toNat)))
theorem mt_insert : MtM X "list.insert" rIns := by
 intro pins s σ H x vs v us Q I rx rv h
 obtain ⟨l, xs, i, y, rfl, rfl, hH, h0, hi, hz, q⟩ := h
 cases rx
 obtain ⟨u1, us', rfl, ru1, rv'⟩ : ∃ u1 us', us = u1 :: us' ∧ RelV (.int i) u1 ∧ Vals [y] us' := by
  cases rv with
  | cons r1 r2 => exact ⟨_, _, rfl, r1, r2⟩
 obtain ⟨u2, rfl, ru2⟩ := rv'.one
 obtain ⟨t, rfl⟩ := ru1
 obtain ⟨z, its, n, r, hl, e⟩ := I.lstM hH
 have hz' : xs.length < 2 ^ 62 := Nat.lt_of_lt_of_le hz (by decide)
 have hfit : ¬(!Builtin.List.listFitsIndex i) = true := by
  rw [fitsIndex_both (k := i) (by omega) (by omega)]
  decide
 have hsz : its.toArray.size ≤ sizeLine := by rw [List.size_toArray, ← hl]; exact Nat.le_of_lt hz
 refine call_meets F.slot_list_insert ⟨_, e, rfl⟩ F.entry_list_insert (F.args_list_insert_3 _ _ _) (AutoSeq1.list_insert_list_int_val_1 l its.toArray n i t u2 hfit hsz) ⟨e, ?_⟩
 refine ⟨.non, _, I.lset (its' := its.take i.toNat ++ u2 :: its.drop i.toNat) hH e ?_ ((r.take i.toNat).append (.cons ru2 (r.drop i.toNat))) ?_, rfl, q⟩
 ·have hk : (if i < 0 then (i + (its.toArray.size : Int)).toNat else min i.toNat its.toArray.size) = i.toNat := by
   rw [if_neg (by omega), List.size_toArray]
   omega
  show Array.push (its.toArray.extract 0 (if i < 0 then (i + (its.toArray.size : Int)).toNat else min i.toNat its.toArray.size)) u2 ++ its.toArray.extract (if i < 0 then (i + (its.toArray.size : Int)).toNat else min i.toNat its.toArray.size) = _
  rw [hk]
  apply Array.toList_inj.mp
  simp [List.take_drop]
  rw [List.take_of_length_le (by omega)]
 ·rw [List.length_append, List.length_cons, List.length_take, List.length_drop]
  omega
end
noncomputable def Itzl (K : PySem.W.Frag) (a b : Addr) : It :=
 ⟨fun i H => ∃ xs ys x y, SqL K H a xs ∧ SqL K H b ys ∧ xs[i]? = some x ∧ ys[i]? = some y, fun i H v H' => ∃ p x y, v = .ref p ∧ H p = none ∧ H' = upd H p (.tup [x, y]) ∧ (∀ xs, SqL K H a xs → xs[i]? = some x) ∧ ∀ ys, SqL K H b ys → ys[i]? = some y,
  fun i H => ∃ xs ys, SqL K H a xs ∧ SqL K H b ys ∧ (xs.length ≤ i ∨ ys.length ≤ i)⟩
theorem turn_zpl {P : Program} {w : World} {K : PySem.W.Frag} {es : List Expr} {kt : Nat} {pt : Pos} (a b z TI TO i1 i2 : Addr) (D : ZipApart z TI TO i1 i2 a b) :
  Turn P w K (.Tuple es kt pt) (Itzl K a b) [z, TI, TO, i1, i2] z (fun i h => IsZip h z TI TO .none ∧ IsPair h TI (.ref i1) (.ref i2) ∧ (∃ u v, IsPair h TO u v) ∧ h.IsListIter i1 a i ∧ h.IsListIter i2 b i) where
 mem := by simp
 obj := fun i h st q hq => by
  obtain ⟨hz, hI, ⟨u, v, hO⟩, ⟨o1, e1, c1, d1⟩, ⟨o2, e2, c2, d2⟩⟩ := st
  simp only [List.mem_cons, List.not_mem_nil, or_false] at hq
  rcases hq with rfl | rfl | rfl | rfl | rfl
  ·exact ⟨_, hz, fun v y => by have y' : Data.fields _ = Data.cell v := y; cases y'⟩
  ·exact ⟨_, hI, fun v y => by have y' : Data.seq _ _ = Data.cell v := y; cases y'⟩
  ·exact ⟨_, hO, fun v y => by have y' : Data.seq _ _ = Data.cell v := y; cases y'⟩
  ·exact ⟨o1, e1, fun v y => by rw [d1] at y; cases y⟩
  ·exact ⟨o2, e2, fun v y => by rw [d2] at y; cases y⟩
 keep := fun i h h' st k => ⟨k z (by simp) _ st.1, k TI (by simp) _ st.2.1, let ⟨u, v, q⟩ := st.2.2.1; ⟨u, v, k TO (by simp) _ q⟩, st.2.2.2.1.at fun o x => k i1 (by simp) o x, st.2.2.2.2.at fun o x => k i2 (by simp) o x⟩
 item := by
  intro X hP hw hK hc i pins s σ H E I hf st hg
  subst hP hw hK
  obtain ⟨xs, ys, x, y, hqa, hqb, hx, hy⟩ := hg
  obtain ⟨ia, rva, pa, za⟩ := I.list hqa
  obtain ⟨ib, rvb, pb, zb⟩ := I.list hqb
  obtain ⟨u, hu, ru⟩ := rva.get hx
  obtain ⟨v, hv, rv⟩ := rvb.get hy
  obtain ⟨hz, hI, ⟨ou, ov, hO⟩, h1, h2⟩ := st
  refine wpAny_pyNext_zip_item D hz hI hO h1 h2 pa.isList pb.isList (x := u) (y := v) (by simpa using hu) (by simpa using hv) fun h' z' o' a' b' t' _ k' => ?_
  refine ⟨_, rfl, wpAny_letOwnedTupleGo_zip z' fun h'' z'' sb => ?_⟩
  have nz : s.heap.objs.size ≠ z := Nat.ne_of_gt (Heap.lt_size hz)
  have nTO : s.heap.objs.size ≠ TO := Nat.ne_of_gt (Heap.lt_size hO)
  have nTI : s.heap.objs.size ≠ TI := Nat.ne_of_gt (Heap.lt_size hI)
  have n1 : s.heap.objs.size ≠ i1 := by obtain ⟨o, e, _⟩ := h1; exact Nat.ne_of_gt (Heap.lt_size e)
  have n2 : s.heap.objs.size ≠ i2 := by obtain ⟨o, e, _⟩ := h2; exact Nat.ne_of_gt (Heap.lt_size e)
  have up : ∀ q o, q ≠ z → h'.get? q = some o → h''.get? q = some o := fun q o hq e => (sb.2 q hq).trans e
  have hI'' : IsPair h'' TI (.ref i1) (.ref i2) := up _ _ D.TIz (k' TI _ D.TIz D.TITO D.TIi1 D.TIi2 hI)
  have I2 : Inv X pins σ (upd H s.heap.objs.size (.tup [x, y])) { s with heap := h'', toks := s.toks } := I.turnNew (ch := [z, TI, TO, i1, i2]) hf (fun q o hq e => by
   simp only [List.mem_cons, List.not_mem_nil, or_false, not_or] at hq
   exact up q o hq.1 (k' q o hq.1 hq.2.2.1 hq.2.2.2.1 hq.2.2.2.2 e)) (fun q hq => by
   simp only [List.mem_cons, List.not_mem_nil, or_false] at hq
   rcases hq with rfl | rfl | rfl | rfl | rfl
   ·exact ⟨_, z''⟩
   ·exact ⟨_, hI''⟩
   ·exact ⟨_, up _ _ D.TOz o'⟩
   ·obtain ⟨o, e, _⟩ := a'; exact ⟨o, up _ o D.i1z e⟩
   ·obtain ⟨o, e, _⟩ := b'; exact ⟨o, up _ o D.i2z e⟩) (Nat.le_refl _) (vals := [u, v]) (.cons ru (.cons rv .nil)) (by show 2 ≤ sizeLine; decide) ⟨_, up _ _ nz t', rfl, _, rfl⟩
  refine ⟨.ref s.heap.objs.size, _, I2, rfl, ⟨_, x, y, rfl, I.fresh, rfl, fun zs hzs => by rw [I.list_inj hzs hqa]; exact hx, fun zs hzs => by rw [I.list_inj hzs hqb]; exact hy⟩,
   ⟨z'', hI'', ⟨_, _, up _ _ D.TOz o'⟩, a'.at fun o e => up _ o D.i1z e, b'.at fun o e => up _ o D.i2z e⟩, fun q hq => ?_⟩
  have hq0 := (hf q hq).1
  simp only [List.mem_cons, List.not_mem_nil, or_false] at hq
  rw [upd_ne]
  ·exact hq0
  ·rcases hq with rfl | rfl | rfl | rfl | rfl
   ·exact Ne.symm nz
   ·exact Ne.symm nTI
   ·exact Ne.symm nTO
   ·exact Ne.symm n1
   ·exact Ne.symm n2
 done := by
  intro X hP hw hK hc i pins s σ H E I hf st hg
  subst hP hw hK
  obtain ⟨xs, ys, hqa, hqb, hx⟩ := hg
  obtain ⟨ia, rva, pa, za⟩ := I.list hqa
  obtain ⟨ib, rvb, pb, zb⟩ := I.list hqb
  obtain ⟨hz, hI, ⟨ou, ov, hO⟩, h1, h2⟩ := st
  have la := rva.length
  have lb := rvb.length
  refine wpAny_pyNext_zip_end (I.ok.hd hc) D hz hI hO h1 h2 pa.isList pb.isList (hx.elim (fun q => .inl (by simp; omega)) fun q => .inr (by simp; omega)) fun h' k' => ?_
  refine ⟨rfl, I.turnOnly (tk := s.toks) hf fun q o hq e => ?_⟩
  simp only [List.mem_cons, List.not_mem_nil, or_false, not_or] at hq
  exact k' q o hq.1 hq.2.2.1 hq.2.2.2.1 hq.2.2.2.2 e
 self := fun _ _ s _ _ st h => wpAny_pyIter_zip st.1 h
section
variable {X : Cx} {es : List Expr} {kt : Nat} {pt : Pos}
noncomputable def iZpl (K : PySem.W.Frag) (ta : TA) : TI := fun σ H R => ta σ H fun vs H1 => ∃ a b, vs = [.ref a, .ref b] ∧ (∃ xs, SqL K H1 a xs) ∧ (∃ ys, SqL K H1 b ys) ∧ R (Itzl K a b) H1
theorem pi_zpl {e e' : Expr} {ta : TA} {p pos : Pos} (hm : X.mg "zip" = none) (ha : PA X [e, e'] ta) (hg : Gl X "zip" := by rfl) (h : isStar e = false := by rfl) (h' : isStar e' = false := by rfl) : PI X (.Tuple es kt pt) (.Call (.Name "zip" p) [e, e'] [] pos) (iZpl X.K ta) := by
 intro pins s σ H R I hh
 refine Call_ (ld_blt I hg hm boot_zip (PyProof.Rows.callWith_type1 (thn (ha pos pins s σ H _ I hh) fun us s1 ⟨vs, H1, I1, r1, q1⟩ => ?_) (star1 h) (star_any (by simp [h']))))
 obtain ⟨a, b, rfl, ⟨xs, hqa⟩, ⟨ys, hqb⟩, q⟩ := q1
 cases r1 with
 | cons ru r2 =>
  cases r2 with
  | cons rv r3 =>
   cases r3
   cases ru
   cases rv
   obtain ⟨ia, rva, pa, za⟩ := I1.list hqa
   obtain ⟨ib, rvb, pb, zb⟩ := I1.list hqb
   have la : a < s1.heap.objs.size := by obtain ⟨o, _, e, _⟩ := pa; exact Heap.lt_size e
   have lb : b < s1.heap.objs.size := by obtain ⟨o, _, e, _⟩ := pb; exact Heap.lt_size e
   refine call_zip_2 (xs := ia.toArray) (ys := ib.toArray) pa.isList pb.isList fun g hz hI hO j1 j2 _ hk => wpAny_pyIter_zip hz ?_
   refine ⟨_, [s1.heap.objs.size + 4, s1.heap.objs.size + 2, s1.heap.objs.size + 3, s1.heap.objs.size, s1.heap.objs.size + 1], _, _, H1, rfl, I1.kept (t' := s1.toks) hk, turn_zpl a b _ _ _ _ _ (zipApart_new la lb), ⟨hz, hI, ⟨_, _, hO⟩, j1, j2⟩, fun q hq => ?_, by assumption⟩
   have hq' : s1.heap.objs.size ≤ q := by
    simp only [List.mem_cons, List.not_mem_nil, or_false] at hq
    rcases hq with z | z | z | z | z <;> rw [z] <;> first | exact Nat.le_refl _ | exact Nat.le_add_right _ _
   exact I1.fpOk hq' (I1.hok.fresh hq')
end
section
variable {D : Addr} {te : TE} {tc : TT} {Q : VK} {ρ : St} {H : Hp}
theorem cgo_zpl {K : PySem.W.Frag} {a b : Addr} {xs zs : List V} {n : Nat} (n1 : n ≤ xs.length) (n2 : n ≤ zs.length) (n3 : xs.length ≤ n ∨ zs.length ≤ n) (Pv : Nat → List V → Hp → Prop) (h0 : Pv 0 [] (upd H D (.lst []))) (hl : ∀ i ys H', i ≤ n → Pv i ys H' → SqL K H' a xs ∧ SqL K H' b zs)
  (hs : ∀ i x z ys H' p, i < n → xs[i]? = some x → zs[i]? = some z → Pv i ys H' → H' D = some (.lst ys) → H' p = none → ∀ (R : V → Hp → Prop) (S : Hp → Prop), (∀ y H4, H4 D = some (.lst ys) → ys.length < sizeLine → Pv (i + 1) (ys ++ [y]) (upd H4 D (.lst (ys ++ [y]))) → R y H4) → (∀ H3, H3 D = some (.lst ys) → Pv (i + 1) ys H3 → S H3) →
   tc (some x :: some z :: ρ) (upd H' p (.tup [x, z])) fun b H3 => if b = true then te (some x :: some z :: ρ) H3 R else S H3)
  (hd : ∀ ys H', Pv n ys H' → H' D = some (.lst ys) → Q (.ref D) H') : CGo (Itzl K a b) D (gTup K 2 (gCons (gName 0) (gCons (gName 1) gNil))) tc te Q (none :: none :: ρ) H := by
 refine ⟨fun i m τ ys H' => m = n - i ∧ i ≤ n ∧ (∃ tv tw, τ = tv :: tw :: ρ) ∧ Pv i ys H' ∧ H' D = some (.lst ys), ⟨n, by omega, Nat.zero_le _, ⟨_, _, rfl⟩, h0, upd_same⟩, ?_⟩
 rintro i m τ ys H' ⟨rfl, hi, ⟨tv, tw, rfl⟩, hp, hD⟩
 refine ⟨hD, ?_⟩
 obtain ⟨sq, sq'⟩ := hl i ys H' hi hp
 by_cases hlt : i < n
 ·have hlt' : i < zs.length := by omega
  have hlt0 : i < xs.length := by omega
  refine .inr ⟨⟨xs, zs, xs[i], zs[i], sq, sq', by simp [hlt0], by simp [hlt']⟩, ?_⟩
  rintro v H'' ⟨p, x, z, rfl, hpn, rfl, hx, hz⟩
  have hx' := hx xs sq
  have hz' := hz zs sq'
  refine ⟨p, [x, z], rfl, SqT.of upd_same, rfl, x, [z], rfl, z, [], rfl, rfl, ?_⟩
  exact hs i x z ys _ p hlt hx' hz' hp hD hpn _ _ (fun y H4 a b c => ⟨a, b, n - (i + 1), by omega, rfl, hlt, ⟨_, _, rfl⟩, c, upd_same⟩) fun H3 a c => ⟨n - (i + 1), by omega, rfl, hlt, ⟨_, _, rfl⟩, c, a⟩
 ·have e : i = n := by omega
  subst e
  exact .inl ⟨⟨xs, zs, sq, sq', n3⟩, hd ys _ hp hD⟩
end
theorem w_compZl {K : PySem.W.Frag} {ta : TA} {n : Nat} {ix : List Nat} {g : TG} {tc : TT} {te : TE} {σ : St} {H : Hp} {Q : VK} (h : ta σ H fun vs H1 => ∃ a b, vs = [.ref a, .ref b] ∧ (∃ xs, SqL K H1 a xs) ∧ (∃ ys, SqL K H1 b ys) ∧ ∀ D, H1 D = none → CGo (Itzl K a b) D g tc te Q (List.replicate n none ++ sub ix σ) H1) : tComp (iZpl K ta) n ix g tc te σ H Q := h
end L2
namespace G2
open PySem L2
end G2
namespace L2
open PySem PySem.Spec PyProof.Rows
structure NScope (o sc : Scope) (TN F : List Str) : Prop where
 okind : o.kind = .function
 kind : sc.kind = .function
 names : ∀ y ∈ sc.names, y.2 = .local → sc.names.lookup y.1 = some .local
 clN : ∀ y ∈ sc.names, y.2 = .cell → sc.names.lookup y.1 = some .cell
 fr : ∀ y ∈ sc.names, y.2 = .free → o.names.lookup y.1 = some .cell ∧ sc.names.lookup y.1 = some .free
 ff : ∀ y ∈ F, (y, NameKind.free) ∈ sc.names
theorem cellsFrom_app : ∀ (names : List (Str × NameKind)) (n : Nat) (acc : List (Str × Addr)), cellsFrom n names acc = cellsFrom n names [] ++ acc
 | [], n, acc => by simp [cellsFrom]
 | (x, k) :: r, n, acc => by
  unfold cellsFrom
  split
  ·rw [cellsFrom_app r (n + 1) ((x, n) :: acc), cellsFrom_app r (n + 1) [(x, n)]]
   simp
  ·exact cellsFrom_app r n acc
theorem cellsFrom_name : ∀ (names : List (Str × NameKind)) (n : Nat) (acc : List (Str × Addr)) (x : Str) (c : Addr), (x, c) ∈ cellsFrom n names acc → (x, NameKind.cell) ∈ names ∨ (x, c) ∈ acc
 | [], n, acc, x, c, h => .inr h
 | (y, k) :: r, n, acc, x, c, h => by
  unfold cellsFrom at h
  split at h
  ·rename_i hk
   have hk' : k = .cell := by simpa using hk
   subst hk'
   rcases cellsFrom_name r (n + 1) ((y, n) :: acc) x c h with z | z
   ·exact .inl (List.mem_cons_of_mem _ z)
   ·rcases List.mem_cons.mp z with e | z
    ·cases e
     exact .inl List.mem_cons_self
    ·exact .inr z
  ·rcases cellsFrom_name r n acc x c h with z | z
   ·exact .inl (List.mem_cons_of_mem _ z)
   ·exact .inr z
noncomputable def ownC (n : Nat) (sc : Scope) : List (Str × Addr) := cellsFrom (n + 1) sc.names []
noncomputable def allC (env : Env) (n : Nat) (sc : Scope) : List (Str × Addr) := ownC n sc ++ cloF env sc.names []
theorem look_app {α : Type} {x : Str} {c : α} : ∀ {l r : List (Str × α)}, (l ++ r).lookup x = some c → l.lookup x = some c ∨ (l.lookup x = none ∧ r.lookup x = some c)
 | [], r, h => .inr ⟨rfl, h⟩
 | (y, d) :: l, r, h => by
  rw [List.cons_append, List.lookup_cons] at h
  rw [List.lookup_cons]
  cases e : x == y with
  | true => rw [e] at h; exact .inl h
  | false => rw [e] at h; exact look_app h
theorem look_l {α : Type} {x : Str} {c : α} : ∀ {l r : List (Str × α)}, l.lookup x = some c → (l ++ r).lookup x = some c
 | [], r, h => by cases h
 | (y, d) :: l, r, h => by
  rw [List.lookup_cons] at h
  rw [List.cons_append, List.lookup_cons]
  cases e : x == y with
  | true => rw [e] at h; exact h
  | false => rw [e] at h; exact look_l h
theorem look_r {α : Type} {x : Str} : ∀ {l r : List (Str × α)}, l.lookup x = none → (l ++ r).lookup x = r.lookup x
 | [], r, h => rfl
 | (y, d) :: l, r, h => by
  rw [List.lookup_cons] at h
  rw [List.cons_append, List.lookup_cons]
  cases e : x == y with
  | true => rw [e] at h; cases h
  | false => rw [e] at h; exact look_r h
theorem NScope.own {o sc : Scope} {TN F : List Str} (S : NScope o sc TN F) {n : Nat} {x : Str} {c : Addr} (h : (ownC n sc).lookup x = some c) : sc.names.lookup x = some .cell := by
 rcases cellsFrom_name sc.names (n + 1) [] x c (PySem.mem_of_lookup h) with z | z
 ·exact S.clN _ z rfl
 ·cases z
theorem NScope.notown {o sc : Scope} {TN F : List Str} (S : NScope o sc TN F) {n : Nat} {x : Str} (h : (x, NameKind.free) ∈ sc.names) : (ownC n sc).lookup x = none := by
 cases e : (ownC n sc).lookup x with
 | none => rfl
 | some c =>
  have h1 := S.own e
  rw [(S.fr _ h rfl).2] at h1
  cases h1
theorem relabel_from2 {env : Env} {y : Str} : ∀ {names : List (Str × NameKind)},
    ((names.map fun (n, k) => if (k == NameKind.free && env.scope.kind == .function && env.kindOf n == some .cell) then (n, NameKind.cell) else (n, k)).lookup y = some .cell ∨
     (names.map fun (n, k) => if (k == NameKind.free && env.scope.kind == .function && env.kindOf n == some .cell) then (n, NameKind.cell) else (n, k)).lookup y = some .free) → (y, NameKind.free) ∈ names ∨ (y, NameKind.cell) ∈ names
  | [], h => by simp at h
  | (n, k) :: r, h => by
    have ih := @relabel_from2 env y r
    have h' : List.lookup y ((if (k == NameKind.free && env.scope.kind == .function && env.kindOf n == some .cell) = true then (n, NameKind.cell) else (n, k)) :: (r.map fun (n, k) => if (k == NameKind.free && env.scope.kind == .function && env.kindOf n == some .cell) then (n, NameKind.cell) else (n, k))) = some .cell ∨
      List.lookup y ((if (k == NameKind.free && env.scope.kind == .function && env.kindOf n == some .cell) = true then (n, NameKind.cell) else (n, k)) :: (r.map fun (n, k) => if (k == NameKind.free && env.scope.kind == .function && env.kindOf n == some .cell) then (n, NameKind.cell) else (n, k))) = some .free := h
    clear h
    have more : ((y, NameKind.free) ∈ r ∨ (y, NameKind.cell) ∈ r) → (y, NameKind.free) ∈ (n, k) :: r ∨ (y, NameKind.cell) ∈ (n, k) :: r := fun z => z.elim (fun z => .inl (List.mem_cons_of_mem _ z)) fun z => .inr (List.mem_cons_of_mem _ z)
    cases hx : y == n with
    | true =>
      have e : y = n := by simpa using hx
      subst e
      by_cases hc' : (k == NameKind.free && env.scope.kind == .function && env.kindOf y == some .cell) = true
      · have hk : k = .free := by
          have := (Bool.and_eq_true _ _ ▸ (Bool.and_eq_true _ _ ▸ hc').1).1
          simpa using this
        subst hk
        exact .inl List.mem_cons_self
      · rw [if_neg hc'] at h'
        simp only [List.lookup_cons, beq_self_eq_true] at h'
        rcases h' with h' | h'
        · cases h'
          exact .inr List.mem_cons_self
        · cases h'
          exact .inl List.mem_cons_self
    | false =>
      by_cases hc' : (k == NameKind.free && env.scope.kind == .function && env.kindOf n == some .cell) = true
      · rw [if_pos hc'] at h'; simp only [List.lookup_cons, hx] at h'; exact more (ih h')
      · rw [if_neg hc'] at h'; simp only [List.lookup_cons, hx] at h'; exact more (ih h')
theorem newEnv_cells {M : Model} {A : Around} {E : Value → Shared → Prop} {s : Shared} {scope : Scope} {globals : Addr} {cl : List (Str × Addr)} {qual : Str} {env : Env} {Q : Env → Shared → Prop}
  (hQ : ∀ h', h'.Ns s.heap.objs.size (fun _ => none) → (∀ b o, s.heap.get? b = some o → h'.get? b = some o) → (∀ x c, (ownC s.heap.objs.size scope).lookup x = some c → h'.IsCell c none ∧ s.heap.objs.size < c) → ((ownC s.heap.objs.size scope).Pairwise fun x y => x.2 ≠ y.2) →
   Q { scope := scope, locals := s.heap.objs.size, globals := globals, cells := ownC s.heap.objs.size scope ++ cl, qual := qual, func := none, code := env.code, frame := env.frame, builtins := env.builtins } { s with heap := h' }) :
  wpAny M A (newFunctionEnv scope globals cl [] qual none .none (some env)) Q E s := by
 simp only [newFunctionEnv, Option.isSome_some, if_true]
 refine wpAny_bind (wpAny_alloc ?_)
 refine wpAny_bind (wpAny_layCells _ (fun name kind cells => by cases hkc : kind == NameKind.cell <;> simp [hkc]) _ _ _ _ ?_)
 have ok := cellsFrom_ok scope.names (s.heap.push { cls := .type "dict", data := .dict #[] }) (s.heap.objs.size + 1) [] ⟨fun _ _ hm => (nomatch hm), List.Pairwise.nil⟩ (by rw [Heap.size_push]; exact Nat.le_refl _)
 rw [Heap.size_push] at ok
 rw [show ({ s with heap := s.heap.push { cls := .type "dict", data := .dict #[] } } : Shared).heap.objs.size = s.heap.objs.size + 1 from Heap.size_push ..]
 rw [cellsFrom_app]
 refine wpAny_bind ?_
 rw [List.forIn_nil]
 refine wpAny_pure (wpAny_pure ?_)
 exact hQ _ ((Heap.Ns.new s.heap (.type "dict")).keeps (pushCells_keeps _ _)) (fun b o e => pushCells_keeps _ _ b o (Heap.get?_push_of_some _ e)) (fun x c hc => ⟨(ok.empty x c (PySem.mem_of_lookup hc)).1, (ok.empty x c (PySem.mem_of_lookup hc)).2⟩) ok.apart
noncomputable def cxN (X : Cx) (N : List Str) (sc : Scope) (cl : List (Str × Addr)) (C : Addr) (fp : List Addr) (s₃ : Shared) (H₃ : Hp) (xe : Value → Shared → Prop) : Cx :=
 { X with N := N, s₀ := s₃, H₀ := H₃, env := compEnvC sc cl C X.env, outer := X.stack, ex := fp, fn := fun y => sc.names.lookup y == some .cell, pn := [], xe := xe }
theorem inv_compN {X : Cx} {pins : List (Addr × Obj)} {σ : St} {H : Hp} {s : Shared} {sc : Scope} {TN F : List Str} {ix : List Nat} {fp : List Addr} {h4 : Heap} {tk : Nat} {m : Str → Option Value} {xe : Value → Shared → Prop}
  (S : NScope X.env.scope sc TN F) (hix : ix.map (fun i => X.N[i]?) = F.map some) (I : Inv X pins σ H s) (hf : ∀ b ∈ fp, FpOk X pins H b) (ho : ∀ b ∈ fp, ∃ o, s.heap.get? b = some o)
  (hk : ∀ b o, s.heap.get? b = some o → h4.get? b = some o) (hn : h4.Ns s.heap.objs.size m) (hcl : ∀ x c, (ownC s.heap.objs.size sc).lookup x = some c → h4.IsCell c none ∧ s.heap.objs.size < c) (hap : (ownC s.heap.objs.size sc).Pairwise fun x y => x.2 ≠ y.2) :
  Inv (cxN X (TN ++ F) sc (allC X.env s.heap.objs.size sc) s.heap.objs.size fp s H xe) [] (List.replicate TN.length none ++ sub ix σ) H { s with heap := h4, toks := tk } := by
 have cl0 : ∀ x c, (cloF X.env sc.names []).lookup x = some c → X.env.cells.lookup x = some c := fun x c e => by
  rw [cloF_lookup] at e
  by_cases hx : (x, NameKind.free) ∈ sc.names
  ·rw [if_pos hx] at e
   obtain ⟨c', hc'⟩ := I.ok.has x (.inl (S.fr _ hx rfl).1)
   rw [hc'] at e ⊢
   exact e
  ·rw [if_neg hx] at e
   cases e
 have cl : ∀ x c, (allC X.env s.heap.objs.size sc).lookup x = some c → (ownC s.heap.objs.size sc).lookup x = some c ∨ X.env.cells.lookup x = some c := fun x c e => by
  rcases look_app e with z | ⟨_, z⟩
  ·exact .inl z
  ·exact .inr (cl0 x c z)
 have old : ∀ x c, X.env.cells.lookup x = some c → c < s.heap.objs.size := fun x c e => by
  obtain ⟨v, o, ho', _⟩ := I.cell x c e
  exact Heap.lt_size ho'
 have cl' : ∀ x, (x, NameKind.free) ∈ sc.names → (allC X.env s.heap.objs.size sc).lookup x = X.env.cells.lookup x := fun x hx => by
  unfold allC
  rw [look_r (S.notown hx), cloF_lookup, if_pos hx]
  obtain ⟨c', hc'⟩ := I.ok.has x (.inl (S.fr _ hx rfl).1)
  rw [hc']
  rfl
 have hlen : ix.length = F.length := by
  have := congrArg List.length hix
  simpa using this
 refine ⟨⟨I.ok.mod, S.kind, I.ok.glob, I.ok.blt, Nat.le_refl _, fun x y c h1 h2 => ?_, fun x hx => ?_, fun x c z h => ?_, I.ok.hd, I.ok.frames, .inl rfl, fun b hb => ⟨?_, fun x c e => ?_⟩,
  I.bs, Nat.le_trans I.ok.bsz I.sz, fun b o e hb => ?_, fun b hb hfs => ?_, I.stack, I.stkFree⟩, rfl, I.bare, Un.kept hk, ⟨m, hn, fun i x v h1 h2 h3 => ?_⟩, fun x c e => ?_, I.hok.fresh (Nat.le_refl _), fun x c e => ?_, fun p hp => absurd (show p ∈ ([] : List (Addr × Obj)) from hp) (by simp), I.hok.kept hk, ?_⟩
 ·rcases cl x c h1 with a | a <;> rcases cl y c h2 with b | b
  ·exact name_of_addr hap (PySem.mem_of_lookup a) (PySem.mem_of_lookup b)
  ·exact absurd (old y c b) (Nat.not_lt.mpr (Nat.le_of_lt (hcl x c a).2))
  ·exact absurd (old x c a) (Nat.not_lt.mpr (Nat.le_of_lt (hcl y c b).2))
  ·exact I.ok.inj x y c a b
 ·rcases relabel_from2 (env := X.env) hx with hx' | hx'
  ·obtain ⟨c, hc⟩ := I.ok.has x (.inl (S.fr _ hx' rfl).1)
   exact ⟨c, (cl' x hx').trans hc⟩
  ·obtain ⟨c, hc⟩ := cell_has (n := s.heap.objs.size + 1) (S.clN _ hx' rfl)
   exact ⟨c, look_l hc⟩
 ·have z' : sc.names.lookup x = some .cell := by simpa [cxN] using z
  obtain ⟨c', hc⟩ := cell_has (n := s.heap.objs.size + 1) z'
  have hc' : (allC X.env s.heap.objs.size sc).lookup x = some c' := look_l hc
  have h' : (allC X.env s.heap.objs.size sc).lookup x = some c := h
  have ec : c' = c := Option.some.inj (hc'.symm.trans h')
  rw [← ec]
  exact Nat.le_of_lt (hcl x c' hc).2
 ·obtain ⟨o, e⟩ := ho b hb
  exact Nat.ne_of_lt (Heap.lt_size e)
 ·rcases cl x c e with z | z
  ·obtain ⟨o, eb⟩ := ho b hb
   exact fun w => absurd (Heap.lt_size eb) (by rw [← w]; exact Nat.not_lt.mpr (Nat.le_of_lt (hcl x c z).2))
  ·exact (hf b hb).2.2.2.2.1 x c z
 ·rcases (hf b hb).2.2.2.1 with z | z
  ·exact I.ok.noex b o e z
  ·exact absurd (Nat.lt_of_lt_of_le (Heap.lt_size e) (Nat.le_trans I.ok.bsz z)) (Nat.lt_irrefl _)
 ·rcases List.mem_cons.mp (I.stkSub b hfs) with z | z
  ·exact (hf b hb).2.1 z
  ·exact (hf b hb).2.2.1 z
 ·have hi : TN.length ≤ i := by
   apply Nat.le_of_not_lt
   intro hlt
   rw [List.getElem?_append_left (by simpa using hlt), List.getElem?_replicate] at h2
   split at h2 <;> cases h2
  rw [List.getElem?_append_right (by simpa using hi), List.length_replicate] at h2
  have h1' : F[i - TN.length]? = some x := by
   have : (TN ++ F)[i]? = some x := h1
   rw [List.getElem?_append_right hi] at this
   exact this
  have e3 := congrArg (fun l => l[i - TN.length]?) hix
  simp only [List.getElem?_map, h1', Option.map_some] at e3
  unfold sub at h2
  rw [List.getElem?_map] at h2
  cases ej : ix[i - TN.length]? with
  | none => rw [ej] at h2; cases h2
  | some k =>
   rw [ej] at h2 e3
   have h2' : (σ[k]?).join = some v := Option.some.inj h2
   have e3' : X.N[k]? = some x := Option.some.inj e3
   have hσ : σ[k]? = some (some v) := by
    cases e : σ[k]? with
    | none => rw [e] at h2'; cases h2'
    | some q =>
     rw [e] at h2'
     have : q = some v := h2'
     rw [this]
   have hfr := S.ff x (List.mem_of_getElem? h1')
   have hcell := (S.fr _ hfr rfl).1
   obtain ⟨m0, hn0, hl0⟩ := I.loc
   obtain ⟨u, r, l⟩ := hl0 k x v e3' hσ (.inr (.inl hcell))
   refine ⟨u, r, ?_⟩
   rcases l with ⟨l1, _⟩ | ⟨_, c, hc, o, ho', hd⟩
   ·have l1' : X.env.scope.names.lookup x = some .local := l1
    rw [hcell] at l1'
    cases l1'
   ·exact .inr ⟨.inl (relabel_free (env := X.env) S.okind hcell (S.fr _ hfr rfl).2), c, (cl' x hfr).trans hc, o, hk c o ho', hd⟩
 ·rcases cl x c e with z | z
  ·exact ⟨_, (hcl x c z).1⟩
  ·obtain ⟨v, o, ho', hd⟩ := I.cell x c z
   exact ⟨v, o, hk c o ho', hd⟩
 ·rcases cl x c e with z | z
  ·exact I.hok.fresh (Nat.le_of_lt (hcl x c z).2)
  ·exact I.freeC x c z
 ·show _ = (TN ++ F).length
  rw [List.length_append, List.length_append, List.length_replicate]
  unfold sub
  rw [List.length_map, hlen]
theorem comp_blockN {X : Cx} {pins : List (Addr × Obj)} {σ : St} {H : Hp} {s : Shared} {sc : Scope} {TN F : List Str} {ix : List Nat} {elt tg iter : Expr} {ifs : List Expr} {pos : Pos} {g : TG} {tc : TT} {te : TE} {J : It} {fp : List Addr} {it : Addr} {tn : Nat → Heap → Prop} {Q : VK}
  {RR : Value → Addr → Result → Shared → Prop} {E : Value → Shared → Prop}
  (S : NScope X.env.scope sc TN F) (hix : ix.map (fun i => X.N[i]?) = F.map some) (hc : X.calm = true) (I : Inv X pins σ H s) (T : Turn X.prog X.w X.K tg J fp it tn) (st : tn 0 s.heap) (hf : ∀ b ∈ fp, FpOk X pins H b)
  (hg : ∀ cl C fp s3 H3 xe, PG (cxN X (TN ++ F) sc cl C fp s3 H3 xe) tg g) (ht : ∀ cl C fp s3 H3 xe, PTs (cxN X (TN ++ F) sc cl C fp s3 H3 xe) ifs tc) (he : ∀ cl C fp s3 H3 xe, PE (cxN X (TN ++ F) sc cl C fp s3 H3 xe) elt te)
  (hW : ∀ D, H D = none → CGo J D g tc te Q (List.replicate TN.length none ++ sub ix σ) H)
  (fin : ∀ D C H' s', Inv X pins σ H' s' → (∃ m, s'.heap.Ns C m) → H' C = none → C ≠ X.env.locals → X.s₀.heap.objs.size ≤ C → (∀ x c, X.env.cells.lookup x = some c → c ≠ C) → (∀ p ∈ X.pn ++ pins, p.1 ≠ C) → Q (.ref D) H' → RR (.ref D) C (.ok .next) s') :
  wpAny (model X.prog X.w) X.A (newList []) (fun acc s₃ => wpAny (model X.prog X.w) X.A (newFunctionEnv sc X.env.globals (cloF X.env sc.names []) [] X.env.qual none .none (some X.env)) (fun cenv s₄ =>
   codeAny (model X.prog X.w) X.A (.compStart (.ListComp elt [⟨tg, iter, ifs, 0⟩] sc pos) 0 (.ref it) acc { cenv with scope := relabel sc X.env }) (RR acc cenv.locals) s₄) E s₃) E s := by
 have hfo : ∀ b ∈ fp, ∃ o, s.heap.get? b = some o := fun b hb => let ⟨o, e, _⟩ := T.obj 0 _ st b hb; ⟨o, e⟩
 refine wpAny_newObj_type ?_
 obtain ⟨W, ⟨m0, w0⟩, go⟩ := hW s.heap.objs.size I.fresh
 have I3 : Inv X pins σ (upd H s.heap.objs.size (.lst [])) { s with heap := s.heap.push { cls := .type "list", data := .seq ([] : List Value).toArray } } := I.lnew (its := []) (ys := []) (t' := s.toks) .nil (Nat.zero_le _)
 generalize hs3 : ({ s with heap := s.heap.push { cls := .type "list", data := .seq ([] : List Value).toArray } } : Shared) = s3 at I3
 have hk3 : ∀ b o, s.heap.get? b = some o → s3.heap.get? b = some o := fun b o e => by
  rw [← hs3]
  exact Heap.get?_push_of_some _ e
 have hf3 : ∀ b ∈ fp, FpOk X pins (upd H s.heap.objs.size (.lst [])) b := fun b hb => by
  obtain ⟨o, e⟩ := hfo b hb
  exact ⟨by rw [upd_ne (Nat.ne_of_lt (Heap.lt_size e))]; exact (hf b hb).1, (hf b hb).2⟩
 have st3 : tn 0 s3.heap := T.keep 0 _ _ st fun b hb o e => hk3 b o e
 show wpAny _ _ _ _ _ s3
 refine newEnv_cells (fun h4 hn4 hk4 hcl4 hap4 => ?_)
 generalize hR : RR (.ref s.heap.objs.size) s3.heap.objs.size = R
 have loop : ∀ s4 : Shared, s4 = { s3 with heap := h4 } →
   codeAny (model X.prog X.w) X.A (.compLoop (.ListComp elt [⟨tg, iter, ifs, 0⟩] sc pos) 0 (.ref it) (.ref s.heap.objs.size) (compEnvC sc (allC X.env s3.heap.objs.size sc) s3.heap.objs.size X.env)) R s4 := by
  rintro s4 rfl
  let X' : Cx := cxN X (TN ++ F) sc (allC X.env s3.heap.objs.size sc) s3.heap.objs.size fp s3 (upd H s.heap.objs.size (.lst [])) (notedBy (model X.prog X.w) X.A (compEnvC sc (allC X.env s3.heap.objs.size sc) s3.heap.objs.size X.env) fun e s' => R (.error e) s')
  have I4 : Inv X' [] (List.replicate TN.length none ++ sub ix σ) (upd H s.heap.objs.size (.lst [])) { s3 with heap := h4 } :=
   inv_compN S hix I3 hf3 (fun b hb => let ⟨o, e⟩ := hfo b hb; ⟨o, hk3 b o e⟩) hk4 hn4 hcl4 hap4
  have fpx : ∀ {H' : Hp}, (∀ b ∈ fp, H' b = none) → ∀ b ∈ fp, FpOk X' [] H' b := fun {H'} hn b hb => by
   refine ⟨hn b hb, (I4.ok.exf b hb).1, fun z => I4.ok.exfs b hb z, .inl hb, fun x c e => (I4.ok.exf b hb).2 x c e, fun p hp => absurd (show p ∈ ([] : List (Addr × Obj)) from hp) (by simp)⟩
  refine comp_loop (fun n s' => ∃ i τ ys H', Inv X' [] τ H' s' ∧ tn i s'.heap ∧ (∀ b ∈ fp, H' b = none) ∧ W i n τ ys H') ?_ m0 ⟨0, _, [], _, I4, T.keep 0 _ _ st3 fun b hb o e => hk4 b o e, fun b hb => (hf3 b hb).1, w0⟩
  rintro n s5 ⟨i, τ, ys, H5, I5, st5, fr5, w5⟩
  obtain ⟨hD, hgo⟩ := go i n τ ys H5 w5
  rcases hgo with ⟨stop, q⟩ | ⟨hgo, step⟩
  ·refine thn (T.done X' rfl rfl rfl hc i [] s5 τ H5 X'.xe I5 (fpx fr5) st5 stop) fun r s6 ⟨hr, I6⟩ => ?_
   subst hr
   show R (.ok .next) s6
   rw [← hR]
   have J6 : Inv X pins σ H5 s6 := I3.call' (ch := fp) I6.os I6.base I6.hok I6.bare fun b hb => ⟨(hf3 b hb).2.2.2.1, (hf3 b hb).2.1, (hf3 b hb).2.2.2.2.1, (hf3 b hb).2.2.2.2.2⟩
   refine fin s.heap.objs.size s3.heap.objs.size H5 s6 J6 (let ⟨m, hn, _⟩ := I6.loc; ⟨m, hn⟩) I6.free (Nat.ne_of_gt I3.lt) I3.sz (fun x c e z => ?_) (fun p hp z => ?_) q
   ·obtain ⟨v, o, ho, _⟩ := I3.cell x c e
    exact absurd (Heap.lt_size ho) (by rw [z]; exact Nat.lt_irrefl _)
   ·exact absurd (Heap.lt_size (I3.pin p hp).1) (by rw [z]; exact Nat.lt_irrefl _)
  ·refine thn (T.item X' rfl rfl rfl hc i [] s5 τ H5 X'.xe I5 (fpx fr5) st5 hgo) fun r s6 ⟨u, hr, h6⟩ => ?_
   subst hr
   refine thn h6 fun _ s7 ⟨v, H7, I7, r7, y7, st7, fr7⟩ => ?_
   have I7' := I7.pinned (fpx fr7) (T.obj _ _ st7)
   refine thn (hg _ _ _ _ _ _ _ s7 τ H7 v u _ I7' r7 (step v H7 y7)) fun _ s8 ⟨τ8, H8, I8, q8⟩ => ?_
   refine thn (ht _ _ _ _ _ _ _ s8 τ8 H8 _ I8 q8) fun ok s9 ⟨H9, I9, q9⟩ => ?_
   have again : ∀ {ys' : List V} {H' : Hp} {s' : Shared}, Inv X' ([] ++ pinsAt fp s7.heap) τ8 H' s' → (∃ m', m' < n ∧ W (i + 1) m' τ8 ys' H') → ∃ m, m < n ∧ ∃ i τ ys H'', Inv X' [] τ H'' s' ∧ tn i s'.heap ∧ (∀ b ∈ fp, H'' b = none) ∧ W i m τ ys H'' := fun {ys' H' s'} I' ⟨m', hm, w'⟩ => by
    refine ⟨m', hm, i + 1, τ8, ys', H', I'.unpinned, T.keep _ _ _ st7 fun b hb o e => (I'.pin (b, o) (List.mem_append_right _ (List.mem_append_right _ (mem_pinsAt hb e)))).1, fun b hb => ?_, w'⟩
    obtain ⟨o, e, d⟩ := T.obj _ _ st7 b hb
    exact (I'.pin (b, o) (List.mem_append_right _ (List.mem_append_right _ (mem_pinsAt hb e)))).2.1
   cases ok with
   | false =>
    exact again I9 q9
   | true =>
    refine thn (he _ _ _ _ _ _ _ s9 τ8 H9 _ I9 q9) fun x s10 ⟨y, H10, I10, r10, hD10, hz10, q10⟩ => ?_
    exact append_ok (X := X') I10 hD10 hz10 r10 fun s11 I11 => again I11 q10
 subst hR
 exact codeAny_compStart_list (loop _ rfl) (T.self X.A 0 _ _ _ (T.keep 0 _ _ st3 fun b hb o e => hk4 b o e) (loop _ rfl))
section
variable {X : Cx} {sc : Scope} {TN F : List Str} {ix : List Nat} {elt tg iter : Expr} {ifs : List Expr} {pos : Pos} {g : TG} {tc : TT} {te : TE} {wi : TI}
theorem closure_ofN (S : NScope X.env.scope sc TN F) {pins : List (Addr × Obj)} {σ : St} {H : Hp} {s : Shared} (I : Inv X pins σ H s) : closureFor sc X.env = pure (cloF X.env sc.names []) :=
 closure_eq fun x hx hk => I.ok.has x.1 (.inl (S.fr x hx hk).1)
theorem ps_setCN {i : Nat} {y : Str} {py spos : Pos} (hN : X.N.Nodup) (hiy : X.N[i]? = some y) (hy : X.env.scope.names.lookup y = some .local) (S : NScope X.env.scope sc TN F) (hix : ix.map (fun i => X.N[i]?) = F.map some) (hc : X.calm = true) (hi : PI X tg iter wi)
  (hg : ∀ cl C fp s3 H3 xe, PG (cxN X (TN ++ F) sc cl C fp s3 H3 xe) tg g) (ht : ∀ cl C fp s3 H3 xe, PTs (cxN X (TN ++ F) sc cl C fp s3 H3 xe) ifs tc) (he : ∀ cl C fp s3 H3 xe, PE (cxN X (TN ++ F) sc cl C fp s3 H3 xe) elt te)
  (hsw : swapsWith (.ListComp elt [⟨tg, iter, ifs, 0⟩] sc pos) (some (.Name y py)) spos.line X.env = pure true := by rfl)
  (hs : ∀ x, foldedSetIterable iter X.env x = pure x := by intro _; rfl) : PS X (.Assign [.Name y py] (.ListComp elt [⟨tg, iter, ifs, 0⟩] sc pos) spos) (tAsg (tComp wi TN.length ix g tc te) (gName i)) := by
 intro pins s σ H D I h
 rw [exec_Assign_Name_used _ _ _ _ hsw]; refine wpAny_bind (wpAny_standAt (wpAny_bind ?_))
 show wpAny _ X.A (do let _ ← comprehension (.ListComp elt [⟨tg, iter, ifs, 0⟩] sc pos) sc X.env _ (newList []) false (eval iter X.env) (some (assign (.Name y py) X.env))) _ _ s
 refine wpAny_bind (wpAny_mono (wpAny_comprehension_free (use := some (assign (.Name y py) X.env)) (Q := fun _ s' => SP X pins D .next s') rfl hs (closure_ofN S I) S.kind S.names
  (thn (hi pins s σ H _ I h) fun v s1 h1 => thn h1 fun itv s2 h2 => ?_)) (fun _ s' hq => wpAny_pure (wpAny_pure hq)) fun _ _ e => e)
 obtain ⟨it, fp, tn, J, H2, e, I2, T, st2, f2, q2⟩ := h2
 subst e
 refine comp_blockN (RR := fun acc C => compPost (model X.prog X.w) X.A X.xe (some (assign (.Name y py) X.env)) (fun _ s' => SP X pins D .next s') acc C) S hix hc I2 T st2 f2 hg ht he q2 fun Dl C H' s' I' hn hC1 hC2 hC3 hC4 hC5 q => ?_
 obtain ⟨m, hn⟩ := hn
 show wpAny _ X.A (assign (.Name y py) X.env (.ref Dl)) _ _ _
 refine wpAny_assign_Name (store_ok2 I' hN hiy (.inl hy) (show RelV (.ref Dl) (.ref Dl) from rfl) (fun s'' I'' ⟨a, hsb, ha⟩ => ?_) (.inr hy))
 have haC : C ≠ a := by
  rcases ha with z | z
  ·rw [z]; exact hC2
  ·exact fun z' => hC4 y a z z'.symm
 refine ⟨m, hn.sameBut hsb haC, fun h' hs' => ?_⟩
 exact ⟨_, H', I''.turned (t' := s''.toks) (fun b o hb e => (hs'.2 b hb).trans e) hC1 hC2 (.inr hC3) hC4 hC5, q⟩
end
structure NBScope (o sc : Scope) (TN F G : List Str) : Prop extends NScope o sc TN F where
 nd : (TN ++ F).Nodup
 vis : ∀ x ∈ TN ++ F, Vis (relabelS sc o) x
 loc : ∀ x ∈ TN, (relabelS sc o).names.lookup x = some .local ∨ ((relabelS sc o).names.lookup x = some .cell ∧ sc.names.lookup x = some .cell)
 gl : ∀ x ∈ G, (relabelS sc o).names.lookup x = some .globalImplicit
section
variable {X : Cx} {sc : Scope} {TN F G : List Str} {cl : List (Str × Addr)} {C : Addr} {fp : List Addr} {s3 : Shared} {H3 : Hp} {xe : Value → Shared → Prop} {x : Str} {pos : Pos}
theorem pvbN (S : NBScope X.env.scope sc TN F G) (i : Nat) (hN : (TN ++ F)[i]? = some x := by rfl) (hd : (x == ("__debug__" : Str)) = false := by decide) (hcd : (x == ("__classdict__" : Str)) = false := by decide) : PE (cxN X (TN ++ F) sc cl C fp s3 H3 xe) (.Name x pos) (tVar i) :=
 pe_var hN (S.vis x (List.mem_of_getElem? hN)) hd hcd
theorem pgbN (S : NBScope X.env.scope sc TN F G) (i : Nat) (hN : (TN ++ F)[i]? = some x := by rfl) (hT : TN[i]? = some x := by rfl) : PG (cxN X (TN ++ F) sc cl C fp s3 H3 xe) (.Name x pos) (gName i) := by
 rcases S.loc x (List.mem_of_getElem? hT) with z | ⟨z, z'⟩
 ·exact pg_name S.nd hN (.inl z) (.inr z)
 ·exact pg_name S.nd hN (.inr z) (.inl (by show (sc.names.lookup x == some .cell) = true; rw [z']; rfl))
theorem pgb_tupN {N : List Str} {es : List Expr} {k n : Nat} {t : TGs} (hc : X.calm = true) (h : PGs (cxN X N sc cl C fp s3 H3 xe) es t)
  (hn : (assignEach es (cxN X N sc cl C fp s3 H3 xe).env).length = n := by rfl) (hst : (assignEach es (cxN X N sc cl C fp s3 H3 xe).env).findIdx? (·.1) = none := by rfl) : PG (cxN X N sc cl C fp s3 H3 xe) (.Tuple es k pos) (gTup X.K n t) := pg_tup (X := cxN X N sc cl C fp s3 H3 xe) hc h hn hst
theorem NBScope.g (S : NBScope X.env.scope sc TN F G) (i : Nat) (hG : G[i]? = some x := by rfl) : Gl (cxN X (TN ++ F) sc cl C fp s3 H3 xe) x := S.gl x (List.mem_of_getElem? hG)
end
end L2
namespace PySem
open Sem (wp)
open Builtin
open AutoSeq1 (wpAny_loadPart')
end PySem
namespace L2
open PySem PySem.Spec PyProof.Rows
section
variable {X : Cx}
theorem iteNB {c A B : Prop} [Decidable c] (h1 : ¬ c → A) (h2 : c → B) : if (!decide c) = true then A else B := by
 by_cases hc : c
 ·rw [decide_eq_true hc]
  exact h2 hc
 ·rw [decide_eq_false hc]
  exact h1 hc
end
theorem w_forE {K : PySem.W.Frag} {ta : TA} {g : TG} {tb : TS} {D : Ends} {σ : St} {H : Hp} (h : ta σ H fun vs H1 => ∃ a, vs = [.ref a] ∧ (∃ xs, SqT K H1 a xs) ∧ ForJ (Ite K a) g tb D σ H1) : tFor (iEnu K ta) g tb D σ H := h
theorem for_enu {K : PySem.W.Frag} {a : Addr} {xs : List V} {g : TG} {tb : TS} {D : Ends} {σ : St} {H : Hp} (Pv : Nat → St → Hp → Prop) (h0 : Pv 0 σ H) (hl : ∀ i σ H, Pv i σ H → SqT K H a xs)
  (hs : ∀ (i : Nat) (x : V) σ H p, xs[i]? = some x → Pv i σ H → H p = none → g (.ref p) σ (upd H p (.tup [.int (i : Int), x])) fun σ2 H2 => tb { D with nx := Pv (i + 1), ct := Pv (i + 1), bk := D.nx } σ2 H2) (hd : ∀ σ H, Pv xs.length σ H → D.nx σ H) :
  ForJ (Ite K a) g tb D σ H := by
 refine ⟨fun i m σ H => m = xs.length - i ∧ i ≤ xs.length ∧ Pv i σ H, ⟨xs.length, by simp, Nat.zero_le _, h0⟩, ?_⟩
 rintro i m σ H ⟨rfl, hi, p⟩
 have qa := hl i σ H p
 by_cases hlt : i < xs.length
 ·refine .inr ⟨⟨xs, xs[i], qa, by simp [hlt]⟩, Pv (i + 1), fun σ' H' p' => ⟨xs.length - (i + 1), by omega, rfl, hlt, p'⟩, fun v H' yv => ?_⟩
  obtain ⟨q, x, rfl, hq, rfl, ex⟩ := yv
  exact hs i x σ H q (ex xs qa) p hq
 ·have e : i = xs.length := by omega
  subst e
  exact .inl ⟨⟨xs, qa, rfl⟩, hd σ H p⟩
end L2
namespace K93
open PySem L2
local macro_rules | `(tactic| walk_at "v") => `(tactic| repeat (with_reducible first
  | refine w_seq ?_ | refine w_asg ?_ | refine w_gname ?_ | refine w_op ?_ | refine w_var rfl ?_ | refine w_c ?_ | refine w_rI0 ?_ | refine w_ifs ?_ | refine w_ife ?_ | refine w_test ?_ | refine w_tb ?_ | refine w_bl ?_ | refine w_not ?_ | refine w_ret ?_ | refine w_retN ?_
  | refine w_nil ?_ | refine w_cons ?_ | refine w_lst ?_ | refine w_tup ?_ | refine w_cb ?_ | refine w_call ?_ | refine w_gsub ?_ | refine w_and ?_ | refine w_or ?_ | refine w_next ?_ | refine w_all ?_ | refine w_vals ?_ | refine w_compR ?_ | refine w_compT ?_ | refine w_forR ?_ | refine w_forT ?_ | refine w_forL ?_ | refine w_drop ?_ | refine w_bm ?_ | refine w_compZ ?_ | refine w_compL ?_ | refine w_chain ?_ | refine w_sl ?_ | refine w_nopart ?_ | refine w_part ?_ | refine w_unI ?_ | refine iteT ?_ | refine iteF ?_))
noncomputable def Kn (mg : Str → Option Value) (x : Str) (i : Int) : Prop := ∃ t, mg x = some (Value.int i t)
theorem pe_k {X : Cx} {x : Str} {i : Int} {pos : Pos} (h : Kn X.mg x i) (hg : Gl X x := by rfl) (hd : (x == ("__debug__" : Str)) = false := by decide) : PE X (.Name x pos) (tC (.int i)) := by
 obtain ⟨t, e⟩ := h
 exact pe_glob hg e ⟨t, rfl⟩ hd
structure BltK (mg : Str → Option Value) : Prop extends Blt2 mg where
 zip : mg "zip" = none
 sum : mg "sum" = none
 repr : mg "repr" = none
 enu : mg "enumerate" = none
noncomputable def retCallComp (s : Stmt) : Scope := match s with
 | .Return (some (.Call _ [.ListComp _ _ sc _] _ _)) _ => sc
 | _ => { kind := .function, names := [], isGenerator := false, isCoroutine := false }
noncomputable abbrev Rows := List (List Int × List Int)
noncomputable def Rls (H : Hp) (rs : List Addr) (tg : Rows) (m : Nat) : Prop := rs.length = tg.length ∧ ∀ (i : Nat) (r : Addr) (t g : List Int), rs[i]? = some r → tg[i]? = some (t, g) → t.length = m ∧ g.length = m ∧ (∀ x ∈ t, 0 ≤ x ∧ x ≤ 30) ∧ (∀ x ∈ g, 0 ≤ x ∧ x ≤ 30) ∧ ∃ a b, H r = some (.tup [.ref a, .ref b]) ∧ H a = some (.tup (t.map V.int)) ∧ H b = some (.tup (g.map V.int))
theorem Rls.same {H H' : Hp} {rs : List Addr} {tg : Rows} {m : Nat} (k : Same H H') (h : Rls H rs tg m) : Rls H' rs tg m := ⟨h.1, fun i r t g e1 e2 => let ⟨h1, h2, h3, h4, a, b, h5, h6, h7⟩ := h.2 i r t g e1 e2; ⟨h1, h2, h3, h4, a, b, k _ _ h5, k _ _ h6, k _ _ h7⟩⟩
theorem Rls.tk {H H' : Hp} {rs : List Addr} {tg : Rows} {m : Nat} (k : TK H H') (h : Rls H rs tg m) : Rls H' rs tg m := ⟨h.1, fun i r t g e1 e2 => let ⟨h1, h2, h3, h4, a, b, h5, h6, h7⟩ := h.2 i r t g e1 e2; ⟨h1, h2, h3, h4, a, b, k.t _ _ h5, k.t _ _ h6, k.t _ _ h7⟩⟩
theorem rls_of {H : Hp} {m : Nat} : ∀ (rs : List Addr), (∀ r ∈ rs, RuleAt m H r) → ∃ tg : Rows, Rls H rs tg m
 | [], _ => ⟨[], rfl, fun i r t g e => by simp at e⟩
 | r :: rs, h => by
  obtain ⟨tg, h1, h2⟩ := rls_of rs fun q hq => h q (List.mem_cons_of_mem _ hq)
  obtain ⟨a, b, e, ⟨ts, et, hl, hn⟩, ⟨gs, eg, hl', hn'⟩⟩ := h r List.mem_cons_self
  refine ⟨(ts, gs) :: tg, by simp [h1], fun i q t g e1 e2 => ?_⟩
  cases i with
  | zero =>
   simp at e1 e2
   obtain ⟨rfl, rfl⟩ := e2
   subst e1
   exact ⟨hl, hl', hn, hn', a, b, e, et, eg⟩
  | succ i => exact h2 i q t g (by simpa using e1) (by simpa using e2)
structure PotK (H : Hp) (p : Addr) (m : Nat) (tg : Rows) : Prop where
 ex : ∃ (ps pr pin pb : Addr) (ans : Int) (rs : List Addr) (nm : List Str), H p = some (.tup [.ref ps, .ref pr, .ref pin, .ref pb, .int ans]) ∧ TupF H ps (nm.map V.str) ∧ nm.length = m ∧ H pr = some (.tup (rs.map V.ref)) ∧ Rls H rs tg m
 n8 : tg.length ≤ 8
 m8 : m ≤ 8
 m0 : 0 < m
theorem PotK.tk {H H' : Hp} {p : Addr} {m : Nat} {tg : Rows} (k : TK H H') (h : PotK H p m tg) : PotK H' p m tg := let ⟨ps, pr, pin, pb, ans, rs, nm, h1, h2, h3, h4, h5⟩ := h.ex; ⟨⟨ps, pr, pin, pb, ans, rs, nm, k.t _ _ h1, k.tf h2, h3, k.t _ _ h4, h5.tk k⟩, h.n8, h.m8, h.m0⟩
theorem TK.same {H H' : Hp} (k : Same H H') : TK H H' := ⟨fun _ _ e => k _ _ e, fun _ _ _ e => k _ _ e⟩
theorem PotK.same {H H' : Hp} {p : Addr} {m : Nat} {tg : Rows} (k : Same H H') (h : PotK H p m tg) : PotK H' p m tg := h.tk (TK.same k)
theorem PotK.of {H : Hp} {p : Addr} {nm : List Str} {ins beg : List Int} {ans : Int} {m : Nat} (h : PotAt H p nm ins beg ans m) : ∃ tg, PotK H p m tg := by
 obtain ⟨⟨ps, pr, pin, pb, rs, e1, e2, e3, e4, e5, e6, e7⟩, hn, m0, m8, _⟩ := h
 obtain ⟨tg, ht⟩ := rls_of rs e4
 exact ⟨tg, ⟨ps, pr, pin, pb, ans, rs, nm, e1, e2, hn.1, e3, ht⟩, by have := ht.1; omega, m8, m0⟩
theorem Rls.get {H : Hp} {rs : List Addr} {tg : Rows} {m i : Nat} (h : Rls H rs tg m) (hi : i < tg.length) : ∃ (r a b : Addr), rs[i]? = some r ∧ H r = some (.tup [.ref a, .ref b]) ∧ H a = some (.tup (tg[i].1.map V.int)) ∧ H b = some (.tup (tg[i].2.map V.int)) ∧ tg[i].1.length = m ∧ tg[i].2.length = m ∧ (∀ x ∈ tg[i].1, 0 ≤ x ∧ x ≤ 30) ∧ (∀ x ∈ tg[i].2, 0 ≤ x ∧ x ≤ 30) := by
 have hi' : i < rs.length := by have := h.1; omega
 obtain ⟨h1, h2, h3, h4, a, b, h5, h6, h7⟩ := h.2 i rs[i] tg[i].1 tg[i].2 (by simp [hi']) (by simp [hi])
 exact ⟨rs[i], a, b, by simp [hi'], h5, h6, h7, h1, h2, h3, h4⟩
noncomputable def dz (xs ys : List Int) : Int := (List.zipWith (· * ·) xs ys).sum
noncomputable abbrev sKept : Stmt := top 34
noncomputable abbrev nKept : List Str := ["_law_feed_here", "_law_pot_here", "_law_sorts", "_law_weights", "_law_rules", "_law_k", "_law_one", "_law_other", "_law_takes", "_law_gives", "_law_third"]
theorem nmKept : Nm nKept (defScope sKept) := ⟨by decide +kernel, by decide +kernel⟩
theorem scKept : FnScope nKept ["_law_feed_here"] (defScope sKept) := ⟨rfl, rfl, rfl, by decide +kernel, rfl, by decide +kernel, by decide +kernel⟩
noncomputable def asgComp1 (s : Stmt) : Scope := match s with
 | .Assign _ (.ListComp _ _ sc _) _ => sc
 | _ => { kind := .function, names := [], isGenerator := false, isCoroutine := false }
noncomputable abbrev cKept : Scope := asgComp1 ((defBody sKept).getD 3 (.Pass ⟨0, 0, 0, 0⟩))
theorem locKept : (defScope sKept).names.lookup ("_law_weights" : Str) = some .local := by decide +kernel
theorem bsKept : BScope (defScope sKept) cKept ["_law_sort"] ["_law_feed_here"] ["_law_draw"] := { okind := by decide +kernel, kind := by decide +kernel, nocell := by decide +kernel, names := by decide +kernel, fr := by decide +kernel, ff := by decide +kernel, nd := by decide +kernel, vis := by decide +kernel, loc := by decide +kernel, gl := by decide +kernel }
theorem flat0 (n : Nat) : (List.replicate n [V.int 0]).flatten = (List.replicate n (0 : Int)).map V.int := by
 induction n with
 | zero => rfl
 | succ n ih => rw [List.replicate_succ, List.flatten_cons, ih, List.replicate_succ]; rfl
theorem ints_exA {A : Int → Prop} : ∀ {ys : List V}, (∀ y ∈ ys, ∃ n, y = V.int n ∧ A n) → ∃ ns : List Int, ys = ns.map V.int ∧ ∀ n ∈ ns, A n
 | [], _ => ⟨[], rfl, fun n h => by cases h⟩
 | y :: ys, h => by
  obtain ⟨n, rfl, hn⟩ := h y List.mem_cons_self
  obtain ⟨ns, rfl, hs⟩ := ints_exA fun z hz => h z (List.mem_cons_of_mem _ hz)
  exact ⟨n :: ns, rfl, fun m hm => by
   rcases List.mem_cons.mp hm with rfl | hm
   ·exact hn
   ·exact hs m hm⟩
theorem But.same {p : Addr} {H H' : Hp} (k : Same H H') : But p H H' := fun q o e _ => k q o e
theorem FeedAt.same {H H' : Hp} {p : Addr} (k : Same H H') (F : FeedAt H p) : FeedAt H' p := let ⟨x, y, z, e⟩ := F; ⟨x, y, z, k _ _ e⟩
theorem w_neL {H : Hp} {Q : VK} {p q : Addr} {ns ms : List Int} (hp : H p = some (.lst (ns.map V.int))) (hq : H q = some (.lst (ms.map V.int))) (h : Q (.bl (!decide (ns = ms))) H) : G2.rNeD (.ref p) (.ref q) H Q := by
 refine ⟨_, _, .lst hp (rdInts ns), .lst hq (rdInts ms), lay_ints ns, lay_ints ms, ?_, ?_⟩
 ·show PyData.depthAll _ + 1 ≤ 60
  rw [depth_ints]
  decide
 ·show Q (.bl (!PyData.eqvAll _ _)) H
  rw [eqv_ints]
  exact h
theorem w_andV {ta tb : TE} {σ : St} {H : Hp} {Q : VK} (h : ta σ H fun x H1 => ∃ c, x = .bl c ∧ if c = true then tb σ H1 Q else Q (.bl false) H1) : tAndV ta tb σ H Q := h
noncomputable def spKept : Sp := fun vs H Q _ => ∃ (p : Addr), vs = [.ref p] ∧ FeedAt H p ∧ ∀ (l : Addr) (H' : Hp) (m : Nat) (tg : Rows), PotK H' l m tg → FeedAt H' p → But p H H' → Q (.ref l) H'
section
variable {P : Program} {w : World} {K : PySem.W.Frag} {mg : Str → Option Value} {base : Heap}
set_option maxHeartbeats 4000000 in
theorem ok_Kept {f : Addr} {fd : FuncData} (B : BltK mg) (D : Has P w K mg base 1 "_law_draw" ["_law_feed_here", "_law_many"] spDraw) (fP : Has P w K mg base 3 "_law_pot" ["_law_feed_here"] spPot) (F : Fun K "_law_kept_pot" "_law_kept_pot" sKept f fd) : FnOk P w K mg base CX0 4 f fd ["_law_feed_here"] spKept := by
 refine F.ok scKept (fun vs H Q E h => ?_) (fun cdv A outer s H vs Q E hr h => ?_)
 ·obtain ⟨p, rfl, _⟩ := h
  rfl
 ·obtain ⟨p, rfl, F0, k⟩ := h
  refine' ⟨_, ?hb, ?rd⟩
  case hb =>
   refine' pss_cons ?s1 ?r1
   case' r1 => refine' pss_cons ?s2 ?r2
   case' r2 => refine' pss_cons ?s3 ?r3
   case' r3 => refine' pss_cons ?s4 ?r4
   case' r4 => refine' pss_cons ?s5 ?r5
   case' r5 => refine' pss_cons ?s6 ?r6
   case' r6 => refine' pss_one ?s7
   case s1 => exact ps_setD nmKept 1 (pe_f fP hr (by decide) (pa_1 (pvd nmKept 0)))
   case s2 => exact ps_setD nmKept 2 (pe_cB call_len_seq B.len PySem.boot_len (pa_1 (pe_ix ix_d (pvd nmKept 1) pe_int (fun _ _ => rfl))))
   case s3 => exact ps_if (pt_cmpR op_eq (pe_f D hr (by decide) (pa_2 (pvd nmKept 0) pe_int)) pe_int (nomark _)) (pss_one (ps_ret (pvd nmKept 1))) pss_nil
   case s4 =>
    refine' ps_setC (i := 3) (ix := [0]) nmKept.nd rfl locKept bsKept.toCScope rfl rfl (pi_r1 B.range (pa_1 (pvd nmKept 2))) ?h4 ?h5 ?h6
    case h4 => exact fun _ _ _ _ _ _ => pgb bsKept 0
    case h5 => exact fun _ _ _ _ _ _ => pts_nil
    case h6 => exact fun _ _ _ _ _ _ => pe_op op_add pe_int (pe_f D hr (by decide) (pa_2 (pvb bsKept 1) pe_int) (bsKept.g 0))
   case s5 => exact ps_setD nmKept 4 (pe_lst pa_nil)
   case s7 =>
    refine' ps_ret ?z1
    case' z1 => refine' pe_op op_catT ?z2 ?z3
    case z3 => exact pe_slice sl_tup (pvd nmKept 1) (po_some pe_int) po_none
    case' z2 => refine' pe_op op_catT ?z4 ?z5
    case z4 => exact pe_slice sl_tup (pvd nmKept 1) po_none (po_some pe_int)
    case z5 => exact pe_tup (pa_1 (pe_cT call_tuple_of B.tuple PyProof.Rows.boot_tuple (pa_1 (pvd nmKept 4))))
   case s6 =>
    refine' ps_for PassesOwn.never rfl (pi_r1 B.range (pa_1 (pe_f D hr (by decide) (pa_2 (pvd nmKept 0) pe_int)))) (pgd nmKept 5) ?b1
    case b1 =>
     refine' pss_cons ?t1 ?w1
     case' w1 => refine' pss_cons ?t2 ?w2
     case' w2 => refine' pss_one ?t3
     case t1 => exact ps_setD nmKept 6 (pe_f D hr (by decide) (pa_2 (pvd nmKept 0) (pvd nmKept 2)))
     case t2 => exact ps_setD nmKept 7 (pe_f D hr (by decide) (pa_2 (pvd nmKept 0) (pvd nmKept 2)))
     case t3 =>
      refine' ps_if (pt_cmpR op_ne (pvd nmKept 6) (pvd nmKept 7) (nomark _)) ?c0 pss_nil
      case' c0 => refine' pss_cons ?a1 ?v1
      case' v1 => refine' pss_cons ?a2 ?v2
      case' v2 => refine' pss_cons ?a3 ?v3
      case' v3 => refine' pss_cons ?a4 ?v4
      case' v4 => refine' pss_cons ?a5 ?v5
      case' v5 => refine' pss_cons ?a6 ?v6
      case' v6 => refine' pss_cons ?a7 ?v7
      case' v7 => refine' pss_one ?a8
      case a1 => exact ps_setD nmKept 8 (pe_op op_rep (pe_lst (pa_1 pe_int)) (pvd nmKept 2))
      case a2 => exact ps_setD nmKept 9 (pe_op op_rep (pe_lst (pa_1 pe_int)) (pvd nmKept 2))
      case a3 => exact ps_asg (pe_ix ix_d (pvd nmKept 3) (pvd nmKept 7) (fun _ _ => rfl)) (pg_sub (pvd nmKept 8) (pvd nmKept 6) set_d)
      case a4 => exact ps_asg (pe_ix ix_d (pvd nmKept 3) (pvd nmKept 6) (fun _ _ => rfl)) (pg_sub (pvd nmKept 9) (pvd nmKept 7) set_d)
      case a5 => exact ps_setD nmKept 10 (pe_f D hr (by decide) (pa_2 (pvd nmKept 0) (pvd nmKept 2)))
      case a6 => exact ps_asg (pe_op op_add (pe_ix ix_d (pvd nmKept 8) (pvd nmKept 10) (fun _ _ => rfl)) (pe_f D hr (by decide) (pa_2 (pvd nmKept 0) pe_int))) (pg_sub (pvd nmKept 8) (pvd nmKept 10) set_d)
      case a7 =>
       refine' ps_asg ?d1 (pg_sub (pvd nmKept 9) (pvd nmKept 10) set_d)
       case' d1 => refine' pe_op op_add (pe_ix ix_d (pvd nmKept 9) (pvd nmKept 10) (fun _ _ => rfl)) ?d2
       case' d2 => refine' pe_op op_mul (pe_ix ix_d (pvd nmKept 8) (pvd nmKept 10) (fun _ _ => rfl)) ?d3
       case' d3 => refine' pe_cT call_int1 B.int PyProof.Rows.boot_int ?d4
       case' d4 => refine' pa_1 ?d5
       case' d5 => refine' pe_and ?d6 ?d7
       case d6 => exact pe_cmpR op_ne (pvd nmKept 10) (pvd nmKept 6) (nomark _)
       case' d7 => refine' pe_one ?d8
       case d8 => exact pe_cmpR op_ne (pvd nmKept 10) (pvd nmKept 7) (nomark _)
      case a8 =>
       refine' ps_if (pt_cmpR (G2.op_neD hr) (pvd nmKept 8) (pvd nmKept 9) (nomark _)) ?e1 pss_nil
       case' e1 => refine' pss_one ?e2
       case' e2 => refine' ps_expr ?e3
       case' e3 => refine' pe_bm PySem.F.plainAttrs_list PySem.F.slot_list_append PySem.F.type_list_append mt_append (pvd nmKept 4) ?e4
       case' e4 => refine' pa_1 ?e5
       case' e5 => refine' pe_tup ?e6
       case e6 => exact pa_2 (pe_cT call_tuple_of B.tuple PyProof.Rows.boot_tuple (pa_1 (pvd nmKept 8))) (pe_cT call_tuple_of B.tuple PyProof.Rows.boot_tuple (pa_1 (pvd nmKept 9)))
  case rd =>
   walk_at "v"
   refine ⟨p, rfl, F0, fun pl H1 nmz ins beg ans m _ hP F1 b1 => ?_⟩
   obtain ⟨tg, hK⟩ := PotK.of hP
   obtain ⟨ps, pr, pin, pb, ans', rs, nm', e1, e2, e3, e4, hR⟩ := hK.ex
   have m8 := hK.m8
   have m0 := hK.m0
   walk_at "v"
   refine w_ixT e1 rfl ?_
   refine ⟨ps, _, rfl, .inr e2.sq, ?_⟩
   rw [List.length_map, e3]
   walk_at "v"
   refine ⟨p, 3, rfl, F1, by decide, by decide, fun r x y z r0 r1 => ?_⟩
   have b2 : But p H (upd H1 p (.lst [.int x, .int y, .int z])) := b1.at
   have F2 : FeedAt (upd H1 p (.lst [.int x, .int y, .int z])) p := FeedAt.here
   have T2 : TK H1 (upd H1 p (.lst [.int x, .int y, .int z])) := TK.feed F1
   generalize upd H1 p (.lst [.int x, .int y, .int z]) = H2 at b2 F2 T2 ⊢
   walk_at "v"
   refine ⟨rfl, ?_⟩
   walk_at "v"
   refine iteD (fun _ => ?_) (fun _ => ?_)
   ·walk_at "v"
    exact k pl H2 m tg (hK.tk T2) F2 b2
   walk_at "v"
   refine ⟨_, rfl, by omega, by omega, fun wl hwl => ?_⟩
   rw [Int.toNat_natCast]
   have pwl := F2.ne hwl
   refine G2.rng_gen (ρ := [some (.ref p)]) (fun H' => But p H2 H' ∧ FeedAt H' p) (fun y _ => ∃ n, y = V.int n ∧ (0 ≤ n ∧ n ≤ 3)) (by omega) ⟨But.refl.new hwl, F2.new pwl⟩ (fun H' ys zs ⟨a1, a2⟩ _ => ⟨a1.put hwl, a2.new pwl⟩) (fun y H' ys zs h _ _ => h) (fun i' H' ys hi' ⟨a1, a2⟩ hD R kR => ?_) (fun ys H3 hyl hys ⟨b3', F3⟩ hD => ?_)
   ·walk_at "v"
    refine ⟨p, 3, rfl, a2, by decide, by decide, fun r x y z r0 r1 => ?_⟩
    walk_at "v"
    exact kR _ _ ⟨_, rfl, by omega, by omega⟩ ⟨a1.at, FeedAt.here⟩ (by rw [upd_ne (Ne.symm pwl)]; exact hD) fun z hz => hz
   obtain ⟨wts, rfl, hwb⟩ := ints_exA hys
   rw [List.length_map] at hyl
   have b3 := b2.trans b3'
   have T3 := T2.trans (TK.but F2 b3')
   walk_at "v"
   refine ⟨Nat.zero_le _, fun lr hlr => ?_⟩
   have plr := F3.ne hlr
   have hlr0 := b3.free plr hlr
   have nwl : wl ≠ lr := ne_of_none hD hlr
   have b4 : But p H (upd H3 lr (.lst [])) := b3.new hlr
   have F4 : FeedAt (upd H3 lr (.lst [])) p := F3.new plr
   have T4 := T3.trans (TK.new (o := .lst []) hlr)
   have w4 : upd H3 lr (.lst []) wl = some (.lst (wts.map V.int)) := by rw [upd_ne nwl]; exact hD
   have l4 : upd H3 lr (.lst []) lr = some (.lst (([] : List Addr).map V.ref)) := upd_same
   generalize upd H3 lr (.lst []) = H4 at b4 F4 T4 w4 l4 ⊢
   walk_at "v"
   refine ⟨p, 6, rfl, F4, by decide, by decide, fun r x y z r0 r1 => ?_⟩
   have b5 : But p H (upd H4 p (.lst [.int x, .int y, .int z])) := b4.at
   have F5 : FeedAt (upd H4 p (.lst [.int x, .int y, .int z])) p := FeedAt.here
   have T5 := T4.trans (TK.feed (o := .lst [.int x, .int y, .int z]) F4)
   have w5 : upd H4 p (.lst [.int x, .int y, .int z]) wl = some (.lst (wts.map V.int)) := by rw [upd_ne (Ne.symm pwl)]; exact w4
   have l5 : upd H4 p (.lst [.int x, .int y, .int z]) lr = some (.lst (([] : List Addr).map V.ref)) := by rw [upd_ne (Ne.symm plr)]; exact l4
   generalize upd H4 p (.lst [.int x, .int y, .int z]) = H5 at b5 F5 T5 w5 l5 ⊢
   walk_at "v"
   obtain ⟨n, rfl⟩ := Nat.ofI r0
   refine ⟨_, rfl, by omega, by omega, ?_⟩
   rw [Int.toNat_natCast]
   have hm0 : (0 : Int) < (m : Int) := by omega
   have hm2 : (m : Int) < 1000000 := by omega
   refine for_range (fun i σ H' => ∃ (rs : List Addr) (u5 u6 u7 u8 u9 u10 : Option V), σ = [some (.ref p), some (.ref pl), some (.int (m : Int)), some (.ref wl), some (.ref lr), u5, u6, u7, u8, u9, u10] ∧ But p H H' ∧ FeedAt H' p ∧ TK H1 H' ∧ H' wl = some (.lst (wts.map V.int)) ∧ H' lr = some (.lst (rs.map V.ref)) ∧ (∀ r ∈ rs, RuleAt m H' r) ∧ rs.length ≤ i) ⟨[], none, none, none, none, none, none, rfl, b5, F5, T5, w5, l5, (fun r h => by cases h), Nat.le_refl _⟩ ?_ ?_
   ·rintro i σ H6 hi ⟨rz, u5, u6, u7, u8, u9, u10, rfl, b6, F6, T6, w6, l6, h6, c6⟩
    walk_at "v"
    refine ⟨p, m, rfl, F6, hm0, hm2, fun one x y z o0 o1 => ?_⟩
    have b7 : But p H6 (upd H6 p (.lst [.int x, .int y, .int z])) := But.refl.at
    have F7 : FeedAt (upd H6 p (.lst [.int x, .int y, .int z])) p := FeedAt.here
    generalize upd H6 p (.lst [.int x, .int y, .int z]) = H7 at b7 F7 ⊢
    walk_at "v"
    refine ⟨p, m, rfl, F7, hm0, hm2, fun oth x y z t0 t1 => ?_⟩
    have b8 : But p H6 (upd H7 p (.lst [.int x, .int y, .int z])) := b7.at
    have F8 : FeedAt (upd H7 p (.lst [.int x, .int y, .int z])) p := FeedAt.here
    generalize upd H7 p (.lst [.int x, .int y, .int z]) = H8 at b8 F8 ⊢
    have T68 := TK.but F6 b8
    have w8 := b8 _ _ w6 (Ne.symm pwl)
    have l8 := b8 _ _ l6 (Ne.symm plr)
    walk_at "v"
    refine ⟨rfl, ?_⟩
    walk_at "v"
    refine iteNB (fun _ => ?_) (fun _ => ?_)
    ·walk_at "v"
     refine ⟨by show 1 ≤ sizeLine; decide, fun z1 hz1 => ?_⟩
     have K9 : Same H8 (upd H8 z1 (.lst [.int 0])) := Same.new (Same.refl H8) hz1
     have e9 : upd H8 z1 (.lst [.int 0]) z1 = some (.lst [.int 0]) := upd_same
     generalize upd H8 z1 (.lst [.int 0]) = H9 at K9 e9 ⊢
     walk_at "v"
     refine ⟨z1, _, _, rfl, rfl, e9, by omega, by omega, by rw [Int.toNat_natCast]; exact Nat.le_of_lt (small1000 (by simp; omega)), fun a ha => ?_⟩
     rw [Int.toNat_natCast, flat0]
     have KA : Same H8 (upd H9 a (.lst ((List.replicate m (0 : Int)).map V.int))) := K9.new ha
     have eA : upd H9 a (.lst ((List.replicate m (0 : Int)).map V.int)) a = some (.lst ((List.replicate m (0 : Int)).map V.int)) := upd_same
     have ha8 : H8 a = none := by
      cases e : H8 a with
      | none => rfl
      | some o => rw [K9 _ _ e] at ha; cases ha
     generalize upd H9 a (.lst ((List.replicate m (0 : Int)).map V.int)) = HA at KA eA ⊢
     walk_at "v"
     refine ⟨by show 1 ≤ sizeLine; decide, fun z2 hz2 => ?_⟩
     have KB : Same HA (upd HA z2 (.lst [.int 0])) := Same.new (Same.refl HA) hz2
     have eB : upd HA z2 (.lst [.int 0]) z2 = some (.lst [.int 0]) := upd_same
     generalize upd HA z2 (.lst [.int 0]) = HB at KB eB ⊢
     walk_at "v"
     refine ⟨z2, _, _, rfl, rfl, eB, by omega, by omega, by rw [Int.toNat_natCast]; exact Nat.le_of_lt (small1000 (by simp; omega)), fun b hb => ?_⟩
     rw [Int.toNat_natCast, flat0]
     have KC : Same HB (upd HB b (.lst ((List.replicate m (0 : Int)).map V.int))) := Same.new (Same.refl HB) hb
     have eC : upd HB b (.lst ((List.replicate m (0 : Int)).map V.int)) b = some (.lst ((List.replicate m (0 : Int)).map V.int)) := upd_same
     have hb8 : H8 b = none := by
      cases e : H8 b with
      | none => rfl
      | some o => rw [KB _ _ (KA _ _ e)] at hb; cases hb
     have hab : a ≠ b := ne_of_none (KB _ _ eA) hb
     have K8C : Same H8 (upd HB b (.lst ((List.replicate m (0 : Int)).map V.int))) := (KA.trans KB).trans KC
     have zr : ∀ n ∈ List.replicate m (0 : Int), (0 : Int) ≤ n ∧ n ≤ 3 := fun n h => by rw [List.eq_of_mem_replicate h]; exact ⟨by decide, by decide⟩
     have R0 : RS 3 m p a b H8 (upd HB b (.lst ((List.replicate m (0 : Int)).map V.int))) :=
      ⟨F8.same K8C, ⟨_, KC _ _ (KB _ _ eA), List.length_replicate, zr⟩, ⟨_, eC, List.length_replicate, zr⟩, F8.ne ha8, F8.ne hb8, hab, But.same K8C, ha8, hb8⟩
     have wC : upd HB b (.lst ((List.replicate m (0 : Int)).map V.int)) wl = some (.lst (wts.map V.int)) := K8C _ _ w8
     generalize upd HB b (.lst ((List.replicate m (0 : Int)).map V.int)) = HC at R0 wC ⊢
     have nwa : wl ≠ a := ne_of_none w8 ha8
     have nwb : wl ≠ b := ne_of_none w8 hb8
     have WT : ∀ {r : Int}, 0 ≤ r → r < (m : Int) → ∃ v, (0 ≤ v ∧ v ≤ 3) ∧ atI (wts.map V.int) r = some (.int v) := fun {r} h0 h1 => by
      obtain ⟨j, rfl⟩ := Nat.ofI h0
      have hj : j < wts.length := by omega
      exact ⟨wts[j], hwb _ (List.getElem_mem hj), atI_nat (by simp [hj])⟩
     obtain ⟨v1, hv1, at1⟩ := WT t0 t1
     obtain ⟨v2, hv2, at2⟩ := WT o0 o1
     walk_at "v"
     refine w_ixL wC at1 ?_
     walk_at "v"
     obtain ⟨na, xa, ja, ea, hla, hna, h0a, eaa, eia⟩ := R0.ca.item o0 o1
     refine w_set ea eia ?_
     have R1 := R0.setA (j := ja) (v := v1) hla hna hv1
     have wD : upd HC a (.lst ((na.map V.int).set ja (.int v1))) wl = some (.lst (wts.map V.int)) := by rw [upd_ne nwa]; exact wC
     generalize upd HC a (.lst ((na.map V.int).set ja (.int v1))) = HD at R1 wD ⊢
     walk_at "v"
     refine w_ixL wD at2 ?_
     walk_at "v"
     obtain ⟨nb, xb, jb, eb, hlb, hnb, h0b, eab, eib⟩ := R1.cb.item t0 t1
     refine w_set eb eib ?_
     have R2 := R1.setB (j := jb) (v := v2) hlb hnb hv2
     generalize upd HD b (.lst ((nb.map V.int).set jb (.int v2))) = HE at R2 ⊢
     walk_at "v"
     refine ⟨p, m, rfl, R2.fd, hm0, hm2, fun th x y z h0 h1 => ?_⟩
     have R3 := R2.draw (x := x) (y := y) (z := z)
     generalize upd HE p (.lst [.int x, .int y, .int z]) = HF at R3 ⊢
     walk_at "v"
     obtain ⟨nc, xc, jc, ec, hlc, hnc, h0c, eac, eic⟩ := R3.ca.item h0 h1
     refine w_ixL ec eac ?_
     walk_at "v"
     refine ⟨p, 2, rfl, R3.fd, by decide, by decide, fun d x y z d0 d1 => ?_⟩
     have R4 := (R3.draw (x := x) (y := y) (z := z)).up (k' := 4) (by decide)
     have ec' : upd HF p (.lst [.int x, .int y, .int z]) a = some (.lst (nc.map V.int)) := by rw [upd_ne (Ne.symm R3.pa)]; exact ec
     generalize upd HF p (.lst [.int x, .int y, .int z]) = HG at R4 ec' ⊢
     walk_at "v"
     refine w_set ec' eic ?_
     have R5 := R4.setA (j := jc) (v := xc + d) hlc (fun y hy => ⟨(hnc y hy).1, by have := (hnc y hy).2; omega⟩) ⟨by omega, by omega⟩
     generalize upd HG a (.lst ((nc.map V.int).set jc (.int (xc + d)))) = HH at R5 ⊢
     walk_at "v"
     obtain ⟨ne, xe', je, ee, hle, hne, h0e, eae, eie⟩ := R5.cb.item h0 h1
     refine w_ixL ee eae ?_
     walk_at "v"
     obtain ⟨nf, xf, jf, ef, hlf, hnf, h0f, eaf, eif⟩ := R5.ca.item h0 h1
     refine w_ixL ef eaf ?_
     walk_at "v"
     refine w_andV ?_
     walk_at "v"
     refine ⟨rfl, ?_⟩
     have R6 : ∀ c : Int, (c = 0 ∨ c = 1) → RS 8 m p a b H8 (upd HH b (.lst ((ne.map V.int).set je (.int (xe' + xf * c))))) := fun c hc => by
      refine (R5.up (k' := 8) (by decide)).setB hle (fun y hy => ⟨(hne y hy).1, by have := (hne y hy).2; omega⟩) ?_
      rcases hc with rfl | rfl
      ·exact ⟨by omega, by omega⟩
      ·exact ⟨by omega, by omega⟩
     have IO : ∀ c2 : Bool, ∃ c : Int, (c = 0 ∨ c = 1) ∧ (if c2 = true then (1 : Int) else 0) = c := fun c2 => ⟨_, by cases c2 <;> simp, rfl⟩
     generalize (!decide (V.int th = V.int one)) = c1
     refine ⟨c1, rfl, ?_⟩
     cases c1
     all_goals first
      | (
       walk_at "v"
       refine .inr ⟨false, rfl, ?_⟩
       obtain ⟨c, hc, ec9⟩ := IO false
       rw [ec9])
      | (
       walk_at "v"
       refine ⟨rfl, ?_⟩
       generalize (!decide (V.int th = V.int oth)) = c2
       refine .inr ⟨c2, rfl, ?_⟩
       obtain ⟨c, hc, ec9⟩ := IO c2
       rw [ec9])
     all_goals
      refine w_rI (mulL (by omega) (by omega)) ?_
      walk_at "v"
      refine w_set ee eie ?_
      have R7 := R6 c hc
      generalize upd HH b (.lst ((ne.map V.int).set je (.int (xe' + xf * c)))) = HI at R7 ⊢
      obtain ⟨ta, eta, hta, bta⟩ := id R7.ca
      obtain ⟨gb, egb, hgb, bgb⟩ := id R7.cb
      have lI := R7.bt _ _ l8 (Ne.symm plr)
      have wI := R7.bt _ _ w8 (Ne.symm pwl)
      have TI := T68.trans (TK.but F8 R7.bt)
      have bI := b8.trans R7.bt
      walk_at "v"
      refine w_neL eta egb ?_
      walk_at "v"
      by_cases hne' : ta = gb
      ·refine iteNS hne' ?_
       exact ⟨rz, _, _, _, _, _, _, rfl, b6.trans bI, R7.fd, T6.trans TI, wI, lI, fun r hr' => (h6 r hr').tk TI, by omega⟩
      ·rw [if_pos (by rw [decide_eq_false hne']; rfl)]
       walk_at "v"
       refine ⟨.inl ⟨rfl, _, SqL.of lI⟩, ?_⟩
       walk_at "v"
       refine ⟨a, _, rfl, .inl ⟨SqL.of eta, fun qa hqa => ?_⟩⟩
       have KJ : Same HI (upd HI qa (.tup (ta.map V.int))) := Same.new (Same.refl HI) hqa
       have eJ : upd HI qa (.tup (ta.map V.int)) qa = some (.tup (ta.map V.int)) := upd_same
       generalize upd HI qa (.tup (ta.map V.int)) = HJ at KJ eJ ⊢
       walk_at "v"
       refine ⟨b, _, rfl, .inl ⟨SqL.of (KJ _ _ egb), fun qb hqb => ?_⟩⟩
       have KK : Same HJ (upd HJ qb (.tup (gb.map V.int))) := Same.new (Same.refl HJ) hqb
       have eK : upd HJ qb (.tup (gb.map V.int)) qb = some (.tup (gb.map V.int)) := upd_same
       generalize upd HJ qb (.tup (gb.map V.int)) = HK at KK eK ⊢
       walk_at "v"
       refine ⟨by show 2 ≤ sizeLine; decide, fun q hq => ?_⟩
       have KL : Same HK (upd HK q (.tup [.ref qa, .ref qb])) := Same.new (Same.refl HK) hq
       have eL : upd HK q (.tup [.ref qa, .ref qb]) q = some (.tup [.ref qa, .ref qb]) := upd_same
       generalize upd HK q (.tup [.ref qa, .ref qb]) = HL at KL eL ⊢
       have KIL := (KJ.trans KK).trans KL
       have lL := KIL _ _ lI
       have TL := TK.lst (o := .lst (rz.map V.ref ++ [.ref q])) lL
       walk_at "v"
       refine ⟨lr, _, _, rfl, rfl, lL, by rw [List.length_map]; exact small1000 (by omega), ?_⟩
       refine ⟨rz ++ [q], _, _, _, _, _, _, rfl, ((b6.trans bI).trans (But.same KIL)).put hlr0, (R7.fd.same KIL).new plr, ((T6.trans TI).trans (TK.same KIL)).trans TL, by rw [upd_ne nwl]; exact KIL _ _ wI, by rw [upd_same, List.map_append]; rfl, fun r hr' => ?_, by simp; omega⟩
       rcases List.mem_append.mp hr' with old | new
       ·exact ((h6 r old).tk (TI.trans (TK.same KIL))).tk TL
       ·rw [List.mem_singleton.mp new]
        exact ⟨qa, qb, TL.t _ _ eL, ⟨ta, TL.t _ _ (KL _ _ (KK _ _ eJ)), hta, fun y hy => ⟨(bta y hy).1, by have := (bta y hy).2; omega⟩⟩, ⟨gb, TL.t _ _ (KL _ _ eK), hgb, fun y hy => ⟨(bgb y hy).1, by have := (bgb y hy).2; omega⟩⟩⟩
    ·exact ⟨rz, _, _, _, _, _, _, rfl, b6.trans b8, F8, T6.trans T68, w8, l8, fun r hr' => (h6 r hr').tk T68, by omega⟩
   ·rintro σ H6 ⟨rz, u5, u6, u7, u8, u9, u10, rfl, b6, F6, T6, w6, l6, h6, c6⟩
    have e16 := T6.t _ _ e1
    walk_at "v"
    refine ⟨_, rfl, ?_⟩
    refine ⟨pl, _, rfl, SqT.of e16, by simp [HT.sIx], fun q1 hq1 => ?_⟩
    have K7 : Same H6 (upd H6 q1 (.tup [.ref ps])) := Same.new (Same.refl H6) hq1
    have e7 : upd H6 q1 (.tup [.ref ps]) q1 = some (.tup [.ref ps]) := upd_same
    show tTup _ _ (upd H6 q1 (.tup [.ref ps])) _
    generalize upd H6 q1 (.tup [.ref ps]) = H7 at K7 e7 ⊢
    walk_at "v"
    refine ⟨lr, _, rfl, .inl ⟨SqL.of (K7 _ _ l6), fun q2 hq2 => ?_⟩⟩
    have K8 : Same H6 (upd H7 q2 (.tup (rz.map V.ref))) := K7.new hq2
    have K78 : Same H7 (upd H7 q2 (.tup (rz.map V.ref))) := Same.new (Same.refl H7) hq2
    have e8 : upd H7 q2 (.tup (rz.map V.ref)) q2 = some (.tup (rz.map V.ref)) := upd_same
    generalize upd H7 q2 (.tup (rz.map V.ref)) = H8 at K8 K78 e8 ⊢
    walk_at "v"
    refine ⟨by show 1 ≤ sizeLine; decide, fun q3 hq3 => ?_⟩
    have K89 : Same H8 (upd H8 q3 (.tup [.ref q2])) := Same.new (Same.refl H8) hq3
    have e9 : upd H8 q3 (.tup [.ref q2]) q3 = some (.tup [.ref q2]) := upd_same
    generalize upd H8 q3 (.tup [.ref q2]) = H9 at K89 e9 ⊢
    refine ⟨q1, q3, _, _, rfl, rfl, SqT.of (K89 _ _ (K78 _ _ e7)), SqT.of e9, by simp, by show 2 ≤ sizeLine; decide, (fun z => by cases z), fun _ q4 hq4 => ?_⟩
    have K9A : Same H9 (upd H9 q4 (.tup [.ref ps, .ref q2])) := Same.new (Same.refl H9) hq4
    have eA : upd H9 q4 (.tup [.ref ps, .ref q2]) q4 = some (.tup [.ref ps, .ref q2]) := upd_same
    have KA : Same H6 (upd H9 q4 (.tup [.ref ps, .ref q2])) := (K8.trans K89).trans K9A
    show tSl _ _ _ _ _ (upd H9 q4 (.tup [.ref ps, .ref q2])) _
    have e8A : upd H9 q4 (.tup [.ref ps, .ref q2]) q2 = some (.tup (rz.map V.ref)) := K9A _ _ (K89 _ _ e8)
    generalize upd H9 q4 (.tup [.ref ps, .ref q2]) = HA at KA eA e8A ⊢
    walk_at "v"
    refine ⟨_, rfl, ?_⟩
    refine ⟨pl, _, rfl, SqT.of (KA _ _ e16), by simp [HT.sIx], fun q5 hq5 => ?_⟩
    have KB : Same HA (upd HA q5 (.tup [.ref pin, .ref pb, .int ans'])) := Same.new (Same.refl HA) hq5
    have eB : upd HA q5 (.tup [.ref pin, .ref pb, .int ans']) q5 = some (.tup [.ref pin, .ref pb, .int ans']) := upd_same
    show rCatT _ _ _ (upd HA q5 (.tup [.ref pin, .ref pb, .int ans'])) _
    generalize upd HA q5 (.tup [.ref pin, .ref pb, .int ans']) = HB at KB eB ⊢
    refine ⟨q4, q5, _, _, rfl, rfl, SqT.of (KB _ _ eA), SqT.of eB, by simp, by show 5 ≤ sizeLine; decide, (fun z => by cases z), fun _ q6 hq6 => ?_⟩
    have KC : Same HB (upd HB q6 (.tup [.ref ps, .ref q2, .ref pin, .ref pb, .int ans'])) := Same.new (Same.refl HB) hq6
    have eC : upd HB q6 (.tup [.ref ps, .ref q2, .ref pin, .ref pb, .int ans']) q6 = some (.tup [.ref ps, .ref q2, .ref pin, .ref pb, .int ans']) := upd_same
    show Q (.ref q6) (upd HB q6 (.tup [.ref ps, .ref q2, .ref pin, .ref pb, .int ans']))
    generalize upd HB q6 (.tup [.ref ps, .ref q2, .ref pin, .ref pb, .int ans']) = HC at KC eC ⊢
    have KZ := (KA.trans KB).trans KC
    obtain ⟨tg', hT⟩ := rls_of rz fun r hr' => (h6 r hr').tk (TK.same KZ)
    exact k q6 HC m tg' ⟨⟨ps, q2, pin, pb, ans', rz, nm', eC, (T6.trans (TK.same KZ)).tf e2, e3, (KB.trans KC) _ _ e8A, hT⟩, by have := hT.1; omega, m8, m0⟩ (F6.same KZ) (b6.trans (But.same KZ))
end
end K93
namespace L2
open PySem PySem.Spec PyProof.Rows
section
variable {prog : Program} {w : World} {A : Around} {E : Value → Shared → Prop} {s : Shared}
theorem lstX {h h' : Heap} {t a : Addr} {its : Array Value} (T : h.IsList t its) (x : Heap.ExtBut a h h') (n : t ≠ a) : h'.IsList t its := T.extBut x n
theorem lstJ {h h' : Heap} {j t a : Addr} {i : Nat} (J : h.IsListIter j t i) (x : Heap.ExtBut a h h') (n : j ≠ a) : h'.IsListIter j t i := J.at fun o e => x j o n e
end
section
variable {prog : Program} {w : World} {A : Around} {E : Value → Shared → Prop} {s : Shared}
end
section
variable {X : Cx} {es : List Expr} {kt : Nat} {pt : Pos}
end
section
variable {D : Addr} {te : TE} {tc : TT} {Q : VK} {ρ : St} {H : Hp}
end
end L2
namespace HT
open PySem PyProof.Rows
section
variable {prog : Program} {w : World} {A : Around} {E : Value → Shared → Prop} {s : Shared}
theorem getItem_tuple_all {t sl : Addr} {items : Array Value} {vl vu : Value} {lo hi : Option Int} {Q : Value → Shared → Prop} (ht : IsTup s.heap t items) (hs : s.heap.IsSliceOf sl vl vu .none) (pl : IsPart vl lo) (pu : IsPart vu hi)
  (hw : sIx items.size 0 lo = 0 ∧ sIx items.size items.size hi = items.size) (h : Q (.ref t) s) : wpAny (model prog w) A (getItem (.ref t) (.ref sl)) Q E s := by
 obtain ⟨os, hos, hcs, hds⟩ := id hs
 have hTs : s.TypeIs (.ref sl) "slice" := ⟨os, hos, hcs⟩
 unfold getItem
 try with_reducible refine wpAny_holding ?_
 first | refine wpAny_bind (wpAny_pure ?_) | skip
 refine wpAny_bind (wpAny_sequenceKey ht.typeIs (by decide) ?_)
 refine wpAny_bind (wpAny_callSpecial?_slot (name := Str.ofString "__getitem__") ht.typeIs PyProof.Rows.slot_tuple_getitem
  (wpAny_call_entry PyProof.Rows.slot_tuple_getitem ht.typeIs entry_tuple_getitem ?_ (args_tuple_getitem _ _)))
 show wpAny _ _ (Builtin.Tuple.tupleItemsOf (.ref t) >>= _) _ _ s
 refine wpAny_bind (tupleItemsOf_ ht ?_)
 refine wpAny_bind (wpAny_typeOf hTs ?_)
 rw [if_pos (by decide)]
 refine wpAny_bind (sliceApplied_gen hs pl pu ?_)
 have hyes : (((sIx items.size 0 lo : Nat) : Int) == 0 && (1 : Int) == 1 && (sIx items.size items.size hi - sIx items.size 0 lo) == items.size) = true := by
  rw [hw.1, hw.2]
  simp
 show wpAny _ _ (if (((sIx items.size 0 lo : Nat) : Int) == 0 && (1 : Int) == 1 && (sIx items.size items.size hi - sIx items.size 0 lo) == items.size) = true then _ else _) _ _ s
 rw [if_pos hyes]
 refine wpAny_bind (m := Builtin.Tuple.tupleIsExact _) ?_
 unfold Builtin.Tuple.tupleIsExact
 refine wpAny_bind (wpAny_typeOf ht.typeIs (wpAny_pure ?_))
 rw [if_pos (by decide)]
 refine wpAny_bind (wpAny_rule ?_)
 first
  | exact wpAny_pure ⟨_, rfl, wpAny_pure h⟩
  | exact wpAny_bind (wpAny_pure (wpAny_pure ⟨_, rfl, wpAny_pure h⟩))
  | exact wpAny_bind (wpAny_pure ⟨_, rfl, wpAny_pure h⟩)
end
end HT
namespace L2
open PySem PySem.Spec PyProof.Rows
section
variable {X : Cx}
noncomputable def rSlG : V → Option Int → Option Int → Hp → VK → Prop := fun x lo hi H Q => ∃ a xs, x = .ref a ∧ H a = some (.tup xs) ∧ ∀ q H', Same H H' → H' q = some (.tup (cutV xs lo hi)) → Q (.ref q) H'
theorem sl_tupG : SlR X rSlG := by
 intro pins s σ H x v vl vu lo hi sl Q I rx hs pl pu h
 obtain ⟨a, xs, rfl, hH, q⟩ := h
 by_cases hw : HT.sIx xs.length 0 lo = 0 ∧ HT.sIx xs.length xs.length hi = xs.length
 ·cases rx
  obtain ⟨its, r, ht, hz⟩ := I.tuple (SqT.of hH)
  have hlen : its.toArray.size = xs.length := by rw [List.size_toArray]; exact r.length.symm
  refine ⟨"tuple", _, PyProof.Rows.slot_tuple_getitem.lookup, ht.typeIs, ?_⟩
  refine HT.getItem_tuple_all ht hs pl pu (by rw [hlen]; exact hw) ?_
  refine ⟨.ref a, H, I, rfl, q a H (Same.refl H) ?_⟩
  have e : cutV xs lo hi = xs := by
   unfold cutV
   rw [hw.1, hw.2, List.drop_zero, Nat.sub_zero, List.take_length]
  rw [e]
  exact hH
 ·exact sl_tup pins s σ H _ v vl vu lo hi sl Q I rx hs pl pu ⟨a, xs, rfl, SqT.of hH, hw, fun p hp => q p _ (Same.new (Same.refl H) hp) upd_same⟩
end
end L2
namespace PySem
open Sem (wp)
open Builtin
open AutoSeq1 (wpAny_loadPart')
end PySem
namespace L2
open PySem PySem.Spec PyProof.Rows
section
variable {X : Cx}
end
theorem Same.none {H H' : Hp} {a : Addr} (k : Same H H') (h : H' a = .none) : H a = .none := by
 cases e : H a with
 | none => rfl
 | some o => rw [k _ _ e] at h; cases h
section
variable {X : Cx}
noncomputable def rTupL : List V → Hp → VK → Prop := fun xs H Q => ∃ (p : Addr) (ys : List V), xs = [.ref p] ∧ H p = some (.lst ys) ∧ ∀ q H', Same H H' → H' q = some (.tup ys) → Q (.ref q) H'
theorem call_tupL : CallR X (.type "tuple") rTupL := fun pins s σ H xs us Q I r h => call_tuple_of pins s σ H xs us Q I r (let ⟨p, ys, e, hp, q⟩ := h; ⟨p, ys, e, .inl ⟨SqL.of hp, fun l hl => q l _ (Same.new (Same.refl H) hl) upd_same⟩⟩)
end
end L2
namespace G2
open PySem L2
noncomputable def Fms (H : Hp) : List Addr → List Fm → Prop
 | [], [] => True
 | q :: qs, f :: fs => FmAt H q f ∧ Fms H qs fs
 | _, _ => False
theorem Fms.tk {H H' : Hp} (k : TK H H') : ∀ {qs : List Addr} {fs : List Fm}, Fms H qs fs → Fms H' qs fs
 | [], [], _ => trivial
 | q :: qs, f :: fs, h => ⟨h.1.tk k, Fms.tk k h.2⟩
 | [], _ :: _, h => h.elim
 | _ :: _, [], h => h.elim
theorem Fms.len {H : Hp} : ∀ {qs : List Addr} {fs : List Fm}, Fms H qs fs → qs.length = fs.length
 | [], [], _ => rfl
 | q :: qs, f :: fs, h => by rw [List.length_cons, List.length_cons, Fms.len h.2]
 | [], _ :: _, h => h.elim
 | _ :: _, [], h => h.elim
theorem Fms.rd {H : Hp} : ∀ {qs : List Addr} {fs : List Fm}, Fms H qs fs → RdVs H (qs.map V.ref) (fs.map fmD)
 | [], [], _ => .nil
 | q :: qs, f :: fs, h => .cons (fm_rd h.1) (Fms.rd h.2)
 | [], _ :: _, h => h.elim
 | _ :: _, [], h => h.elim
theorem Fms.one {H : Hp} {q : Addr} {f : Fm} (h : FmAt H q f) : Fms H [q] [f] := ⟨h, trivial⟩
theorem Fms.two {H : Hp} {q r : Addr} {f g : Fm} (h : FmAt H q f) (h' : FmAt H r g) : Fms H [q, r] [f, g] := ⟨h, h', trivial⟩
theorem all_shw {n h : Nat} : ∀ ds : List PyData, (∀ d ∈ ds, Shw d n h) → PyData.showableAll ds = true ∧ PyData.hasDictAll ds = false ∧ PyData.depthAll ds ≤ h ∧ ((PyData.shownAll ds).map (·.length)).sum ≤ n * ds.length ∧ (PyData.shownAll ds).length = ds.length
 | [], _ => ⟨rfl, rfl, Nat.zero_le _, Nat.zero_le _, rfl⟩
 | d :: ds, k => by
  obtain ⟨h1, h2, h3, h4, h5⟩ := all_shw ds fun x hx => k x (List.mem_cons_of_mem _ hx)
  have e := k d List.mem_cons_self
  have e3 := e.p
  have e4 := e.l
  refine ⟨?_, ?_, ?_, ?_, ?_⟩
  ·simp only [PyData.showableAll, e.s, h1, Bool.and_self]
  ·simp only [PyData.hasDictAll, e.nd, h2, Bool.or_self]
  ·simp only [PyData.depthAll]
   omega
  ·simp only [PyData.shownAll, List.map_cons, List.sum_cons, List.length_cons, Nat.mul_succ]
   omega
  ·simp only [PyData.shownAll, List.length_cons, h5]
theorem Shw.tups {n h : Nat} {ds : List PyData} (k : ∀ d ∈ ds, Shw d n h) : Shw (.tuple ds) ((n + 2) * ds.length + 3) (h + 1) := by
 obtain ⟨h1, h2, h3, h4, h5⟩ := all_shw ds k
 refine ⟨by simp only [PyData.showable]; exact h1, by simp only [PyData.hasDict]; exact h2, ?_, ?_⟩
 ·show PyData.depthAll _ + 1 ≤ h + 1
  omega
 ·have := len_tup ds
  rw [Nat.add_mul]
  omega
noncomputable def Rs (H : Hp) (v : V) (n h : Nat) : Prop := ∃ d, (∀ H', TK H H' → RdV H' v d) ∧ Shw d n h
theorem Rs.up {H : Hp} {v : V} {n h m i : Nat} (r : Rs H v n h) (h1 : n ≤ m) (h2 : h ≤ i) : Rs H v m i := let ⟨d, a, b⟩ := r; ⟨d, a, b.up h1 h2⟩
theorem Rs.big {H : Hp} {i : Int} (h : Bg i) : Rs H (.int i) 91 0 := ⟨_, fun _ _ => .int i, Shw.big h⟩
theorem Rs.int {H : Hp} {i : Int} (h : Sm i) : Rs H (.int i) 16 0 := ⟨_, fun _ _ => .int i, Shw.int h⟩
theorem Rs.all {H : Hp} {n h : Nat} : ∀ {vs : List V}, (∀ v ∈ vs, Rs H v n h) → ∃ ds : List PyData, ds.length = vs.length ∧ (∀ H', TK H H' → RdVs H' vs ds) ∧ ∀ d ∈ ds, Shw d n h
 | [], _ => ⟨[], rfl, fun _ _ => .nil, fun d hd => by cases hd⟩
 | v :: vs, k => by
  obtain ⟨ds, h1, h2, h3⟩ := Rs.all fun x hx => k x (List.mem_cons_of_mem _ hx)
  obtain ⟨d, a, b⟩ := k v List.mem_cons_self
  refine ⟨d :: ds, by rw [List.length_cons, List.length_cons, h1], fun H' t => .cons (a H' t) (h2 H' t), fun x hx => ?_⟩
  rcases List.mem_cons.mp hx with rfl | hx
  ·exact b
  ·exact h3 x hx
theorem Rs.tup {H : Hp} {n h : Nat} {p : Addr} {vs : List V} (e : H p = some (.tup vs)) (k : ∀ v ∈ vs, Rs H v n h) : Rs H (.ref p) ((n + 2) * vs.length + 3) (h + 1) := by
 obtain ⟨ds, h1, h2, h3⟩ := Rs.all k
 refine ⟨.tuple ds, fun H' t => .tup (t.t _ _ e) (h2 H' t), ?_⟩
 rw [← h1]
 exact Shw.tups h3
theorem Rs.tk {H H' : Hp} {v : V} {n h : Nat} (t : TK H H') (r : Rs H v n h) : Rs H' v n h := let ⟨d, a, b⟩ := r; ⟨d, fun H2 t2 => a H2 (t.trans t2), b⟩
section
variable {D : Addr} {te : TE} {tc : TT} {Q : VK} {ρ : St} {H : Hp} {K : PySem.W.Frag} {a b : Addr}
end
end G2
namespace L2
open PySem PySem.Spec PyProof.Rows
section
variable {κ : Type} [DecidableEq κ]
noncomputable def valV (kvs : List (κ × V)) (k : κ) : Option V := (kvs.find? fun kv => decide (kv.1 = k)).map (·.2)
noncomputable def putK (kvs : List (κ × V)) (k : κ) (v : V) : List (κ × V) :=
 if (kvs.any fun kv => decide (kv.1 = k)) = true then kvs.map (fun kv => if kv.1 = k then (kv.1, v) else kv) else kvs ++ [(k, v)]
noncomputable def dropK (kvs : List (κ × V)) (k : κ) : List (κ × V) := kvs.filter fun kv => decide (kv.1 ≠ k)
theorem valV_pos {p : κ × V} {r : List (κ × V)} {k : κ} (e : p.1 = k) : valV (p :: r) k = some p.2 := by simp [valV, List.find?_cons, e]
theorem valV_neg {p : κ × V} {r : List (κ × V)} {k : κ} (e : ¬ p.1 = k) : valV (p :: r) k = valV r k := by simp [valV, List.find?_cons, e]
theorem valV_any (k : κ) : ∀ kvs : List (κ × V), (kvs.any fun kv => decide (kv.1 = k)) = (valV kvs k).isSome
 | [] => rfl
 | p :: r => by
  rw [List.any_cons]
  by_cases e : p.1 = k
  ·simp only [valV_pos e, decide_eq_true e, Bool.true_or, Option.isSome_some]
  ·rw [valV_neg e, decide_eq_false e, Bool.false_or]; exact valV_any k r
theorem RelO.isSome_eq {o : Option V} {u : Option Value} (r : RelO o u) : o.isSome = u.isSome := by
 cases o with
 | none => cases u with
  | none => rfl
  | some _ => exact (show False from r).elim
 | some _ => cases u with
  | none => exact (show False from r).elim
  | some _ => rfl
theorem RelO.getD {o : Option V} {u : Option Value} {d : V} {d' : Value} (r : RelO o u) (rd : RelV d d') : RelV (o.getD d) (u.getD d') := by
 cases o with
 | none => cases u with
  | none => exact rd
  | some _ => exact (show False from r).elim
 | some _ => cases u with
  | none => exact (show False from r).elim
  | some _ => exact r
theorem KV.val {kvs : List (κ × V)} {vs : List (κ × Value)} (r : KV kvs vs) (k : κ) : RelO (valV kvs k) (valueAt vs k) := by
 unfold KV at r
 induction r with
 | nil => exact True.intro
 | @cons p q ps qs h t ih =>
  obtain ⟨h1, h2⟩ := h
  by_cases e : p.1 = k
  ·have e' : q.1 = k := h1.symm.trans e
   have b : valueAt (q :: qs) k = some q.2 := by simp [valueAt, List.find?_cons, e']
   rw [valV_pos e, b]; exact h2
  ·have e' : ¬ q.1 = k := fun z => e (h1.trans z)
   have b : valueAt (q :: qs) k = valueAt qs k := by simp [valueAt, List.find?_cons, e']
   rw [valV_neg e, b]; exact ih
theorem KV.any {kvs : List (κ × V)} {vs : List (κ × Value)} (r : KV kvs vs) (k : κ) : (kvs.any fun kv => decide (kv.1 = k)) = vs.any fun kv => decide (kv.1 = k) := by
 unfold KV at r
 induction r with
 | nil => rfl
 | cons h t ih => rw [List.any_cons, List.any_cons, ih, h.1]
theorem KV.repl {kvs : List (κ × V)} {vs : List (κ × Value)} (r : KV kvs vs) (k : κ) {y : V} {u : Value} (ry : RelV y u) :
  KV (kvs.map fun kv => if kv.1 = k then (kv.1, y) else kv) (vs.map fun kv => if kv.1 = k then (kv.1, u) else kv) := by
 unfold KV at r ⊢
 induction r with
 | nil => exact .nil
 | @cons p q ps qs h t ih =>
  rw [List.map_cons, List.map_cons]
  refine .cons ?_ ih
  obtain ⟨h1, h2⟩ := h
  by_cases e : p.1 = k
  ·rw [if_pos e, if_pos (h1.symm.trans e)]; exact ⟨h1, ry⟩
  ·rw [if_neg e, if_neg (fun z => e (h1.trans z))]; exact ⟨h1, h2⟩
theorem KV.put {kvs : List (κ × V)} {vs : List (κ × Value)} (r : KV kvs vs) (k : κ) {y : V} {u : Value} (ry : RelV y u) : KV (putK kvs k y) (stored vs k u) := by
 unfold putK stored
 rw [r.any k]
 by_cases e : (vs.any fun kv => decide (kv.1 = k)) = true
 ·rw [if_pos e, if_pos e]; exact r.repl k ry
 ·rw [if_neg e, if_neg e]; exact Paired.snoc r ⟨rfl, ry⟩
theorem KV.drop {kvs : List (κ × V)} {vs : List (κ × Value)} (r : KV kvs vs) (k : κ) : KV (dropK kvs k) (without vs k) := by
 unfold KV at r ⊢
 unfold dropK without
 induction r with
 | nil => exact .nil
 | @cons p q ps qs h t ih =>
  obtain ⟨h1, h2⟩ := h
  rw [List.filter_cons, List.filter_cons]
  by_cases e : p.1 = k
  ·have a : ¬ decide (p.1 ≠ k) = true := by simp [e]
   have b : ¬ decide (q.1 ≠ k) = true := by simp [h1.symm.trans e]
   rw [if_neg a, if_neg b]; exact ih
  ·have e' : ¬ q.1 = k := fun z => e (h1.trans z)
   have a : decide (p.1 ≠ k) = true := by simp [e]
   have b : decide (q.1 ≠ k) = true := by simp [e']
   rw [if_pos a, if_pos b]; exact .cons ⟨h1, h2⟩ ih
theorem KV.length {kvs : List (κ × V)} {vs : List (κ × Value)} (r : KV kvs vs) : kvs.length = vs.length := Paired.length r
end
noncomputable abbrev KT (H : Hp) : List (List Key × V) → List (List Key × Addr × Value) → Prop := Paired fun p q => p.1 = q.1 ∧ H q.2.1 = some (.tup (p.1.map kV)) ∧ RelV p.2 q.2.2
theorem KT.val {H : Hp} {kvs : List (List Key × V)} {xs : List (List Key × Addr × Value)} (r : KT H kvs xs) (k : List Key) : RelO (valV kvs k) ((atKey xs k).map (·.2)) := by
 induction r with
 | nil => exact True.intro
 | @cons p q ps qs h t ih =>
  obtain ⟨h1, _, h2⟩ := h
  by_cases e : p.1 = k
  ·have e' : q.1 = k := h1.symm.trans e
   have b : atKey (q :: qs) k = some q.2 := by simp [atKey, List.find?_cons, e']
   rw [valV_pos e, b]; exact h2
  ·have e' : ¬ q.1 = k := fun z => e (h1.trans z)
   have b : atKey (q :: qs) k = atKey qs k := by simp [atKey, List.find?_cons, e']
   rw [valV_neg e, b]; exact ih
theorem KT.repl {H : Hp} {kvs : List (List Key × V)} {xs : List (List Key × Addr × Value)} (r : KT H kvs xs) (k : List Key) {y : V} {u : Value} (ry : RelV y u) :
  KT H (kvs.map fun kv => if kv.1 = k then (kv.1, y) else kv) (xs.map (putAt k u)) := by
 induction r with
 | nil => exact .nil
 | @cons p q ps qs h t ih =>
  rw [List.map_cons, List.map_cons]
  refine .cons ?_ ih
  obtain ⟨h1, h2, h3⟩ := h
  unfold putAt
  by_cases e : p.1 = k
  ·rw [if_pos e, if_pos (h1.symm.trans e)]; exact ⟨h1, h2, ry⟩
  ·rw [if_neg e, if_neg (fun z => e (h1.trans z))]; exact ⟨h1, h2, h3⟩
theorem KT.put {H : Hp} {kvs : List (List Key × V)} {xs : List (List Key × Addr × Value)} (r : KT H kvs xs) (k : List Key) {b : Addr} {y : V} {u : Value} (hb : H b = some (.tup (k.map kV))) (ry : RelV y u) :
  KT H (putK kvs k y) (storedH xs k b u) := by
 have e : (kvs.any fun kv => decide (kv.1 = k)) = (atKey xs k).isSome := by
  rw [valV_any, (r.val k).isSome_eq, Option.isSome_map]
 unfold putK storedH
 rw [e]
 by_cases q : (atKey xs k).isSome = true
 ·rw [if_pos q, if_pos q]; exact r.repl k ry
 ·rw [if_neg q, if_neg q]; exact Paired.snoc r ⟨rfl, hb, ry⟩
theorem KT.keeps {H H' : Hp} {kvs : List (List Key × V)} {xs : List (List Key × Addr × Value)} (r : KT H kvs xs) (ht : ∀ b ys, H b = some (.tup ys) → H' b = some (.tup ys)) : KT H' kvs xs :=
 Paired.mapP r fun _ _ z => ⟨z.1, ht _ _ z.2.1, z.2.2⟩
section
variable {P : Program} {w : World} {H : Hp} {h : Heap} {a : Addr}
end
noncomputable def DGet (H : Hp) (a : Addr) (y : V) (r : Option V) : Prop :=
 (∃ kvs k, Rd H a (.dK kvs) ∧ y = kV k ∧ r = valV kvs k) ∨ ∃ kvs k b, Rd H a (.dT kvs) ∧ y = .ref b ∧ H b = some (.tup (k.map kV)) ∧ r = valV kvs k
noncomputable def DPut (H : Hp) (a : Addr) (y v : V) (H' : Hp) : Prop :=
 (∃ kvs k, H a = some (.dK kvs) ∧ y = kV k ∧ kvs.length < sizeLine ∧ H' = upd H a (.dK (putK kvs k v))) ∨
 ∃ kvs k b, H a = some (.dT kvs) ∧ y = .ref b ∧ H b = some (.tup (k.map kV)) ∧ kvs.length < sizeLine ∧ H' = upd H a (.dT (putK kvs k v))
theorem DGet.k {H : Hp} {a : Addr} {kvs : List (Key × V)} {k : Key} (e : H a = some (.dK kvs)) : DGet H a (kV k) (valV kvs k) := .inl ⟨kvs, k, .inl e, rfl, rfl⟩
theorem DGet.t {H : Hp} {a b : Addr} {kvs : List (List Key × V)} {k : List Key} (e : H a = some (.dT kvs)) (eb : H b = some (.tup (k.map kV))) : DGet H a (.ref b) (valV kvs k) := .inr ⟨kvs, k, b, .inl e, rfl, eb, rfl⟩
theorem DPut.k {H : Hp} {a : Addr} {kvs : List (Key × V)} {k : Key} {v : V} (e : H a = some (.dK kvs)) (hl : kvs.length < sizeLine) : DPut H a (kV k) v (upd H a (.dK (putK kvs k v))) := .inl ⟨kvs, k, e, rfl, hl, rfl⟩
theorem DPut.t {H : Hp} {a b : Addr} {kvs : List (List Key × V)} {k : List Key} {v : V} (e : H a = some (.dT kvs)) (eb : H b = some (.tup (k.map kV))) (hl : kvs.length < sizeLine) :
  DPut H a (.ref b) v (upd H a (.dT (putK kvs k v))) := .inr ⟨kvs, k, b, e, rfl, eb, hl, rfl⟩
section
variable {X : Cx} {pins : List (Addr × Obj)} {σ : St} {H : Hp} {s : Shared} {a : Addr} {y v : V} {u r : Value} {o : Option V} {A : Around} {E : Value → Shared → Prop}
theorem Inv.big (I : Inv X pins σ H s) : sysModules < s.heap.objs.size := by
 have h : mainGlobals < s.heap.objs.size := (I.mod.glob.keeps I.bk).lt
 exact Nat.lt_trans (by decide) h
end
section
variable {X : Cx} {pins : List (Addr × Obj)} {σ : St} {H : Hp} {s : Shared} {a : Addr} {kvs : List (Key × V)} {k : Key} {u : Value} {A : Around} {E : Value → Shared → Prop}
end
section
variable {X : Cx} {o i e value : Expr} {pos pos' tpos : Pos} {td ty tv : TE}
end
section
variable {X : Cx} {pos : Pos}
end
structure M1 (X : Cx) (o : Expr) (m : Str) (apos : Pos) (e : Expr) (cpos : Pos) : Prop where
 base : attributeBase o m X.env (eval o X.env) = eval o X.env
 few : ((backTo cpos (starEach [e] X.env)).all (fun x => !x.1) && (backToKw cpos (keywordEach [] X.env)).all (fun x => x.1.isSome)
  && decide (([e] : List Expr).length + ([] : List Keyword).length + (if ([] : List Keyword).isEmpty then 0 else 1) < 30)) = true
 line : (apos.endLine == cpos.line) = true
 trees : backTo cpos (starEach [e] X.env) = [(false, eval e X.env)]
structure M2 (X : Cx) (o : Expr) (m : Str) (apos : Pos) (e f : Expr) (cpos : Pos) : Prop where
 base : attributeBase o m X.env (eval o X.env) = eval o X.env
 few : ((backTo cpos (starEach [e, f] X.env)).all (fun x => !x.1) && (backToKw cpos (keywordEach [] X.env)).all (fun x => x.1.isSome)
  && decide (([e, f] : List Expr).length + ([] : List Keyword).length + (if ([] : List Keyword).isEmpty then 0 else 1) < 30)) = true
 line : (apos.endLine == cpos.line) = true
 trees : backTo cpos (starEach [e, f] X.env) = [(false, eval e X.env), (false, eval f X.env)]
section
variable {X : Cx} {pins : List (Addr × Obj)} {σ : St} {H : Hp} {s : Shared} {a : Addr} {y d : V} {u r : Value} {o : Option V} {A : Around} {E : Value → Shared → Prop}
end
section
variable {X : Cx} {o e f : Expr} {apos cpos : Pos} {td ty tx : TE}
end
section
variable {X : Cx} {pins : List (Addr × Obj)} {σ : St} {H : Hp} {s : Shared} {a : Addr} {kvs : List (Key × V)} {A : Around} {E : Value → Shared → Prop}
end
section
variable {X : Cx} {pins : List (Addr × Obj)} {σ : St} {H : Hp} {s : Shared} {a : Addr} {y : V} {u : Value} {A : Around} {E : Value → Shared → Prop}
end
section
variable {X : Cx} {pins : List (Addr × Obj)} {σ : St} {H : Hp} {s : Shared} {a o : Addr} {kvs more : List (Key × V)} {A : Around} {E : Value → Shared → Prop}
end
section
variable {X : Cx} {k : Nat}
noncomputable def rEqE : R2 := fun x y H Q => ∃ (a z : Addr) (xs : List V), x = .ref a ∧ y = .ref z ∧ H a = some (.lst xs) ∧ H z = some (.lst []) ∧ Q (.bl xs.isEmpty) H
theorem op_eqE (hr : Room k X.A) : OpR X (compareOp .Eq) rEqE := by
 intro pins s σ H x y v u Q I rx ry h
 obtain ⟨a, z, xs, rfl, rfl, ha, hz, q⟩ := h
 cases rx
 cases ry
 have hu := hr.units
 obtain ⟨its, r, pl, _⟩ := I.list (SqL.of ha)
 obtain ⟨its2, r2, pl2, _⟩ := I.list (SqL.of hz)
 have e2 : its2 = [] := r2.nil_iff.mpr rfl
 subst e2
 cases xs with
 | nil =>
  have e1 : its = [] := r.nil_iff.mpr rfl
  subst e1
  have R := SeqAt.RcAt.lists (A := X.A) (e := fun _ => true) pl.isList pl2.isList rfl (by omega) (fun j h1 h2 => absurd h1 (by simp))
  exact R X.prog X.w X.xe _ ⟨.bl _, H, I, rfl, q⟩
 | cons y ys =>
  have hne : its ≠ [] := fun e => by have := r.nil_iff.mp e; cases this
  have R := SeqAt.RcAt.lists_lengths (A := X.A) pl.isList pl2.isList (by simp [hne]) (by omega)
  exact R X.prog X.w X.xe _ ⟨.bl _, H, I, rfl, q⟩
noncomputable def rNeE : R2 := fun x y H Q => ∃ (a z : Addr) (xs : List V), x = .ref a ∧ y = .ref z ∧ H a = some (.lst xs) ∧ H z = some (.lst []) ∧ Q (.bl (!xs.isEmpty)) H
theorem op_neE (hr : Room k X.A) : OpR X (compareOp .NotEq) rNeE := by
 intro pins s σ H x y v u Q I rx ry h
 obtain ⟨a, z, xs, rfl, rfl, ha, hz, q⟩ := h
 cases rx
 cases ry
 have hu := hr.units
 obtain ⟨its, r, pl, _⟩ := I.list (SqL.of ha)
 obtain ⟨its2, r2, pl2, _⟩ := I.list (SqL.of hz)
 have e2 : its2 = [] := r2.nil_iff.mpr rfl
 subst e2
 cases xs with
 | nil =>
  have e1 : its = [] := r.nil_iff.mpr rfl
  subst e1
  have R := SeqAt.RcNeAt.lists (A := X.A) (e := fun _ => true) pl.isList pl2.isList rfl (by omega) (fun j h1 h2 => absurd h1 (by simp))
  exact R X.prog X.w X.xe _ ⟨.bl _, H, I, rfl, q⟩
 | cons y ys =>
  have hne : its ≠ [] := fun e => by have := r.nil_iff.mp e; cases this
  have R := SeqAt.RcNeAt.lists_lengths (A := X.A) pl.isList pl2.isList (by simp [hne]) (by omega)
  exact R X.prog X.w X.xe _ ⟨.bl _, H, I, rfl, q⟩
end
end L2
namespace PySem.SeqAt
open PySem.MeetsSeq PySem PySem.Spec
section
variable {A : Around} {s : Shared}
end
end PySem.SeqAt
namespace HT
open PySem PySem.Spec PyProof.Rows
section
variable {prog : Program} {w : World} {A : Around} {E : Value → Shared → Prop} {s : Shared}
end
end HT
namespace L2
open PySem PySem.Spec PyProof.Rows
inductive Th where
 | non
 | bl (b : Bool)
 | int (i : Int)
 | str (s : Str)
 | tup (ts : List Th)
 | lst
 | dct
mutual
inductive ThAt (H : Hp) : V → Th → Prop
 | non : ThAt H .non .non
 | bl (b : Bool) : ThAt H (.bl b) (.bl b)
 | int (i : Int) : ThAt H (.int i) (.int i)
 | str (s : Str) : ThAt H (.str s) (.str s)
 | tup {p : Addr} {vs : List V} {ts : List Th} : H p = some (.tup vs) → ThsAt H vs ts → ThAt H (.ref p) (.tup ts)
 | lst {p : Addr} {vs : List V} : H p = some (.lst vs) → ThAt H (.ref p) .lst
 | dct {p : Addr} {kvs : List (Key × V)} : H p = some (.dK kvs) → ThAt H (.ref p) .dct
inductive ThsAt (H : Hp) : List V → List Th → Prop
 | nil : ThsAt H [] []
 | cons {v : V} {t : Th} {vs : List V} {ts : List Th} : ThAt H v t → ThsAt H vs ts → ThsAt H (v :: vs) (t :: ts)
end
structure KS (H H' : Hp) : Prop where
 t : ∀ q xs, H q = some (.tup xs) → H' q = some (.tup xs)
 l : ∀ q xs, H q = some (.lst xs) → ∃ ys, H' q = some (.lst ys)
 d : ∀ q xs, H q = some (.dK xs) → ∃ ys, H' q = some (.dK ys)
section
variable {H H' H'' : Hp} {a : Addr}
theorem KS.refl : KS H H := ⟨fun _ _ e => e, fun _ _ e => ⟨_, e⟩, fun _ _ e => ⟨_, e⟩⟩
theorem KS.same (k : Same H H') : KS H H' := ⟨fun _ _ e => k _ _ e, fun _ _ e => ⟨_, k _ _ e⟩, fun _ _ e => ⟨_, k _ _ e⟩⟩
theorem KS.trans (x : KS H H') (y : KS H' H'') : KS H H'' := ⟨fun q xs e => y.t _ _ (x.t _ _ e), fun q xs e => let ⟨ys, e'⟩ := x.l _ _ e; y.l _ _ e', fun q xs e => let ⟨ys, e'⟩ := x.d _ _ e; y.d _ _ e'⟩
theorem KS.new {o : HO} (h : H a = none) : KS H (upd H a o) := KS.same (Same.new (Same.refl H) h)
theorem KS.lst {xs ys : List V} (h : H a = some (.lst xs)) : KS H (upd H a (.lst ys)) :=
 ⟨fun q zs e => by rw [upd_ne (ne_of e h (by intro z; cases z))]; exact e, fun q zs e => by
  by_cases hq : q = a
  ·subst hq
   exact ⟨_, upd_same⟩
  ·exact ⟨_, by rw [upd_ne hq]; exact e⟩, fun q zs e => ⟨_, by rw [upd_ne (ne_of e h (by intro z; cases z))]; exact e⟩⟩
mutual
theorem ThAt.ks (k : KS H H') {v : V} {t : Th} : ThAt H v t → ThAt H' v t
 | .non => .non
 | .bl b => .bl b
 | .int i => .int i
 | .str s => .str s
 | .tup h hs => .tup (k.t _ _ h) (ThsAt.ks k hs)
 | .lst h => let ⟨_, h'⟩ := k.l _ _ h; .lst h'
 | .dct h => let ⟨_, h'⟩ := k.d _ _ h; .dct h'
theorem ThsAt.ks (k : KS H H') {vs : List V} {ts : List Th} : ThsAt H vs ts → ThsAt H' vs ts
 | .nil => .nil
 | .cons h hs => .cons (ThAt.ks k h) (ThsAt.ks k hs)
end
theorem ThsAt.len : ∀ {vs : List V} {ts : List Th}, ThsAt H vs ts → vs.length = ts.length
 | [], [], _ => rfl
 | v :: vs, t :: ts, .cons _ h => by rw [List.length_cons, List.length_cons, ThsAt.len h]
theorem ThsAt.at : ∀ {vs : List V} {ts : List Th}, ThsAt H vs ts → ∀ {i : Nat} {t : Th}, ts[i]? = some t → ∃ v, vs[i]? = some v ∧ ThAt H v t
 | v :: vs, t :: ts, .cons h hs, 0, u, e => ⟨v, rfl, by
  have : t = u := by simpa using e
  exact this ▸ h⟩
 | v :: vs, t :: ts, .cons h hs, i + 1, u, e => by
  obtain ⟨w, h1, h2⟩ := ThsAt.at hs (i := i) (t := u) (by simpa using e)
  exact ⟨w, by simpa using h1, h2⟩
 | [], [], .nil, i, u, e => by simp at e
theorem ThsAt.take : ∀ (n : Nat) {vs : List V} {ts : List Th}, ThsAt H vs ts → ThsAt H (vs.take n) (ts.take n)
 | 0, _, _, _ => by simpa using ThsAt.nil
 | n + 1, [], [], .nil => .nil
 | n + 1, _ :: _, _ :: _, .cons a b => .cons a (ThsAt.take n b)
theorem ThsAt.drop : ∀ (n : Nat) {vs : List V} {ts : List Th}, ThsAt H vs ts → ThsAt H (vs.drop n) (ts.drop n)
 | 0, _, _, h => h
 | n + 1, [], [], .nil => .nil
 | n + 1, _ :: _, _ :: _, .cons a b => ThsAt.drop n b
end
noncomputable def Th.tn : Th → String
 | .non => "NoneType"
 | .bl _ => "bool"
 | .int _ => "int"
 | .str _ => "str"
 | .tup _ => "tuple"
 | .lst => "list"
 | .dct => "dict"
theorem ThAt.ty {K : PySem.W.Frag} {H : Hp} {v : V} {t : Th} (h : ThAt H v t) : TyOf K H v (.type t.tn) := by
 cases h with
 | non => exact .non
 | bl b => exact .bl b
 | int i => exact .int i
 | str s => exact .str s
 | tup h _ => exact .tup h
 | lst h => exact .lst h
 | dct h => exact .dK h
noncomputable def Th.isI : Th → Bool
 | .bl _ => true
 | .int _ => true
 | _ => false
noncomputable def Th.isT : Th → Bool
 | .tup _ => true
 | _ => false
section
variable {X : Cx} {k : Nat}
end
noncomputable def GTup (K : PySem.W.Frag) (mg : Str → Option Value) (x : Str) (vs : List V) : Prop := ∃ (a : Addr) (o : Obj) (its : Array Value) (n : Nat), mg x = some (.ref a) ∧ K.lookup a = some o ∧ o.cls = .type "tuple" ∧ o.data = .seq its n ∧ its.size ≤ sizeLine ∧ Vals vs its.toList
theorem GTup.sq {K : PySem.W.Frag} {mg : Str → Option Value} {x : Str} {vs : List V} (g : GTup K mg x vs) : ∃ a, mg x = some (.ref a) ∧ ∀ H, SqT K H a vs := by
 obtain ⟨a, o, its, n, h1, h2, h3, h4, h5, h6⟩ := g
 exact ⟨a, h1, fun H => .inr ⟨o, its, n, h2, h3, h4, h5, h6⟩⟩
end L2
namespace L2
open PySem PySem.Spec PyProof.Rows Builtin Builtin.Str
section
variable {X : Cx}
end
end L2
namespace L2
open PySem
end L2
namespace L2
open PySem PyProof.Rows
noncomputable def sg (x : Str) : List Str := x.cps.toList.map fun c => ⟨#[c]⟩
section
variable {P : Program} {w : World} {K : PySem.W.Frag} {tg : Expr}
end
section
variable {X : Cx} {tg : Expr}
end
end L2
namespace PySem.W
open PySem PySem.Calls PyProof.Rows
noncomputable def KasT.eval {α : Type} (lt : Nat → Nat → Bool) : KasT α → α
 | .ret a => a
 | .ask i j k => (k (lt i j)).eval lt
inductive Nums : List Value → List Int → Prop
 | nil : Nums [] []
 | cons {i : Int} {t : Tok} {us : List Value} {ns : List Int} : Nums us ns → Nums (.int i t :: us) (i :: ns)
theorem Nums.len : ∀ {us : List Value} {ns : List Int}, Nums us ns → us.length = ns.length
 | _, _, .nil => rfl
 | _, _, .cons h => by rw [List.length_cons, List.length_cons, Nums.len h]
section
variable {prog : Program} {w : World} {A : Around} {E : Value → Shared → Prop} {s : Shared}
end
end PySem.W
namespace PySem
open Sem (wp)
open AutoSeq1 (wpAny_loadPart')
section
variable {prog : Program} {w : World} {A : Around} {E : Value → Shared → Prop} {s : Shared}
end
end PySem
namespace L2
open PySem PySem.Spec PyProof.Rows
section
variable {X : Cx} {k : Nat}
noncomputable def RowsAt (H : Hp) : List Addr → List (List Int) → Prop
 | [], [] => True
 | a :: as, ks :: kss => H a = some (.tup (ks.map V.int)) ∧ RowsAt H as kss
 | _, _ => False
theorem RowsAt.tk {H H' : Hp} (k : ∀ q xs, H q = some (.tup xs) → H' q = some (.tup xs)) : ∀ {as : List Addr} {kss : List (List Int)}, RowsAt H as kss → RowsAt H' as kss
 | [], [], _ => trivial
 | a :: as, ks :: kss, h => ⟨k _ _ h.1, RowsAt.tk k h.2⟩
 | [], _ :: _, h => h.elim
 | _ :: _, [], h => h.elim
theorem RowsAt.len {H : Hp} : ∀ {as : List Addr} {kss : List (List Int)}, RowsAt H as kss → as.length = kss.length
 | [], [], _ => rfl
 | a :: as, ks :: kss, h => by rw [List.length_cons, List.length_cons, RowsAt.len h.2]
 | [], _ :: _, h => h.elim
 | _ :: _, [], h => h.elim
theorem RowsAt.at {H : Hp} : ∀ {as : List Addr} {kss : List (List Int)}, RowsAt H as kss → ∀ {i : Nat} {a : Addr}, as[i]? = some a → ∃ ks, kss[i]? = some ks ∧ H a = some (.tup (ks.map V.int))
 | a :: as, ks :: kss, h, 0, b, e => ⟨ks, rfl, by
  have : a = b := by simpa using e
  exact this ▸ h.1⟩
 | a :: as, ks :: kss, h, i + 1, b, e => by
  obtain ⟨k', h1, h2⟩ := RowsAt.at h.2 (i := i) (a := b) (by simpa using e)
  exact ⟨k', by simpa using h1, h2⟩
 | [], [], _, i, b, e => by simp at e
 | [], _ :: _, h, _, _, _ => h.elim
 | _ :: _, [], h, _, _, _ => h.elim
theorem Vals.getD {xs : List V} {us : List Value} (r : Vals xs us) (i : Nat) : RelV (xs.getD i .non) (us.getD i .none) := by
 induction r generalizing i with
 | nil => rfl
 | cons h _ ih =>
  cases i with
  | zero => simpa using h
  | succ i => simpa using ih i
end
section
variable {X : Cx}
end
structure Fly (lo : Nat) (h : Heap) (H : Hp) (a : Addr) (T : Option Addr) (C : Value) (d : Option Addr) (fl : Value) : Prop where
 at_ : ∃ (vs : Array Value) (sl : Array (Option Value)), h.get? a = some ⟨C, d, .fields vs, sl⟩ ∧
  (match T with
   | none => vs[1]? = some .none
   | some t => vs[1]? = some (.ref t) ∧ t ≠ a ∧ ∃ oT ts, h.get? t = some oT ∧ oT.data = .fields ts ∧ ts[3]? = some fl)
 lo : ∀ b ∈ a :: T.toList, lo ≤ b ∧ H b = none
theorem Fly.mono {lo lo' : Nat} {h : Heap} {H : Hp} {a : Addr} {T : Option Addr} {C : Value} {d : Option Addr} {fl : Value} (f : Fly lo h H a T C d fl) (hl : lo' ≤ lo) : Fly lo' h H a T C d fl :=
 ⟨f.at_, fun b hb => ⟨Nat.le_trans hl (f.lo b hb).1, (f.lo b hb).2⟩⟩
section
variable {M : Model} {A : Around} {E : Value → Shared → Prop} {s : Shared} {base : Heap} {env : Env} {outer : List Env} {L a : Addr} {T : Option Addr} {C : Value} {d : Option Addr} {H : Hp} {lo : Nat} {fl : Value} {Q : Unit → Shared → Prop}
end
noncomputable def CXE (P : Program) (w : World) : CXT := fun outer H s E e s' => ∃ (a : Addr) (T : Option Addr) (C : Value) (d : Option Addr) (H' : Hp), e = .ref a ∧ s'.os = s.os ∧ AllBare s'.gens ∧ Un (frs outer) [] H H' s.heap s'.heap ∧
 HOk P w H' s'.heap ∧ Fly s.heap.objs.size s'.heap H' a T C d .none ∧ E C d H'
noncomputable def Lands (X : Cx) (EX : St → XK) : Prop := ∀ (pins : List (Addr × Obj)) (σ : St) (H : Hp) (s : Shared) (a : Addr) (T : Option Addr) (C : Value) (d : Option Addr), Inv X pins σ H s → Fly X.s₀.heap.objs.size s.heap H a T C d .none →
 (∀ p ∈ X.pn, p.1 ∉ a :: T.toList) → EX σ C d H → X.xe (.ref a) s
theorem Un.more {fs : List Addr} {H H' : Hp} {h h' h'' : Heap} (u : Un fs [] H H' h h') (k : ∀ b o, b < h.objs.size → h'.get? b = some o → b ∉ fs → h''.get? b = some o) (sl : ∀ b o, b < h.objs.size → h'.get? b = some o → ∃ z, h''.get? b = some { o with slots := z }) : Un fs [] H H' h h'' where
 keep := fun b o q n hb hx => k b o (Heap.lt_size q) (u.keep b o q n hb hx) hb
 slot := fun b o q n hb hx => by
  obtain ⟨z, e⟩ := u.slot b o q n hb hx
  obtain ⟨z', e'⟩ := sl b _ (Heap.lt_size q) e
  exact ⟨z', e'⟩
 free := u.free
 there := fun b o q hx => by
  obtain ⟨o', e⟩ := u.there b o q hx
  obtain ⟨z, e'⟩ := sl b _ (Heap.lt_size q) e
  exact ⟨_, e'⟩
 tups := u.tups
 frzs := u.frzs
 tbls := u.tbls
theorem Lands.passes {X : Cx} {EX : St → XK} (L : Lands X EX) {pins : List (Addr × Obj)} {σ : St} {H : Hp} {s s' : Shared} {e : Value} (I : Inv X pins σ H s) (h : CXE X.prog X.w X.stack H s (EX σ) e s') : X.xe e s' := by
 obtain ⟨a, T, C, d, H', rfl, os, bare, un, hok, F, hE⟩ := h
 have I' : Inv X pins σ H' s' := I.call' (ch := []) os un hok bare fun b hb => nomatch hb
 refine L pins σ H' s' a T C d I' (F.mono I.sz) (fun p hp hc => ?_) hE
 have q := (I.pin p (List.mem_append_left _ hp)).1
 exact absurd (Nat.lt_of_lt_of_le (Heap.lt_size q) (F.lo _ hc).1) (Nat.lt_irrefl _)
section
variable {X : Cx} {EX : St → XK} {k j : Nat} {f : Addr} {fd : FuncData} {ps : List Str} {sp : Sp} {x : Str} {p pos : Pos} {e : Expr} {es : List Expr} {t : TA}
noncomputable def HasX (P : Program) (w : World) (K : PySem.W.Frag) (mg : Str → Option Value) (base : Heap) (k : Nat) (x : Str) (ps : List Str) (sp : Sp) : Prop :=
 ∃ (f : Addr) (fd : FuncData), FnOk P w K mg base (CXE P w) k f fd ps sp ∧ mg x = some (.ref f) ∧ PySem.W.keepIn K (.ref f) = true ∧ Binds K fd ps []
theorem FnOk.calm {P : Program} {w : World} {K : PySem.W.Frag} {mg : Str → Option Value} {base : Heap} (F : FnOk P w K mg base (CXE P w) k f fd ps sp) : FnOk P w K mg base CX0 k f fd ps (fun vs H Q _ => sp vs H Q E0) := by
 refine ⟨fun vs H Q E h => F.len vs H Q E0 h, fun A outer s H args us vs Q E hr he hb hv hs => codeAny_mono (F.run A outer s H args us vs Q E0 hr he hb hv hs) fun r s' hq => ?_⟩
 cases r with
 | error e =>
  obtain ⟨_, _, _, _, _, _, _, _, _, _, _, h⟩ := hq
  exact False.elim h
 | ok fl => cases fl <;> exact hq
theorem HasX.calm {P : Program} {w : World} {K : PySem.W.Frag} {mg : Str → Option Value} {base : Heap} (h : HasX P w K mg base k x ps sp) : Has P w K mg base k x ps (fun vs H Q _ => sp vs H Q E0) := by
 obtain ⟨f, fd, F, hm, hk, hb⟩ := h
 exact ⟨f, fd, F.calm, hm, hk, hb⟩
end
open Builtin Builtin.ObjectAttr
noncomputable abbrev bmV : List Value := [.type "ValueError", .type "Exception", .type "BaseException", .type "object"]
inductive OverV : List Value → Prop
 | base : OverV bmV
 | own (a : Addr) {l : List Value} : OverV l → OverV (.ref a :: l)
theorem OverV.has {l : List Value} (h : OverV l) {X : String} {b : Bool} (hb : bmV.contains (.type X) = b) : l.contains (.type X) = b := by
 induction h with
 | base => exact hb
 | own a _ ih => rw [List.contains_cons, ih]; rfl
theorem OverV.passes {l : List Value} (h : OverV l) (self : Value) : refuseLoop self "__setattr__" l = pure () := by
 induction h with
 | base => exact PySem.F.store_ValueError.passes self
 | own a _ ih => rw [refuseLoop_ref]; exact ih
structure XC (K : PySem.W.Frag) (C : Addr) (bm : List Value) : Prop where
 at_ : ∃ (nm q : Str) (N : Addr) (bs : List Value) (sn : List Str) (sub : List Value) (ab : Bool) (col : Option Bool) (dd : Option Addr) (k0 k1 k2 k3 k5 : Option Value),
  K.lookup C = some (excClassObj nm q C N bs bm true sn sub ab col dd k0 k1 k2 k3 k5 "ValueError.__new__")
 ov : OverV bm
structure XA (K : PySem.W.Frag) (C : Addr) : Prop where
 bm : ∃ bm, XC K C bm
 ga : PySem.W.findIn K (.ref C) "__getattribute__" = some (some (.builtin "BaseException.__getattribute__"))
 gt : PySem.W.findIn K (.ref C) "__getattr__" = some none
 sa : PySem.W.findIn K (.ref C) "__setattr__" = some (some (.builtin "object.__setattr__"))
 cl : PySem.W.findIn K (.ref C) "__class__" = some (some (.builtin "object.__class__"))
 sg : PySem.W.specialIn K (.builtin "object.__class__") "__get__" = some (some (.builtin "getset_descriptor.__get__"))
 tk : PySem.W.takesIn K (.builtin "object.__class__") = some true
end L2
namespace PySem
open Sem (wp)
open Builtin Builtin.ObjectAttr
open L2 (OverV)
section
variable {prog : Program} {w : World} {A : Around} {E : Value → Shared → Prop} {h : Heap} {g : Array GenState} {d : Drawn} {t : Nat} {os : OsState}
variable {nm q : Str} {C N : Addr} {bs bm : List Value} {sn : List Str} {sub : List Value} {ab : Bool} {col : Option Bool} {dd : Option Addr} {k0 k1 k2 k3 k5 : Option Value}
end
end PySem
namespace PySem
open Sem (wp)
open Builtin Builtin.ObjectAttr
open L2 (OverV XC XA bmV)
section
variable {prog : Program} {w : World} {A : Around} {E : Value → Shared → Prop} {h : Heap} {g : Array GenState} {d : Drawn} {t : Nat} {os : OsState}
variable {nm q : Str} {C N x : Addr} {bs bm : List Value} {sn : List Str} {sub : List Value} {ab : Bool} {col : Option Bool} {dd : Option Addr} {k0 k1 k2 k3 k5 : Option Value}
 {mA : Str → Option Value} {name : Str} {v : Value}
end
section
variable {prog : Program} {w : World} {A : Around} {E : Value → Shared → Prop} {h : Heap} {g : Array GenState} {d : Drawn} {t : Nat} {os : OsState} {K : PySem.W.Frag}
variable {nm q : Str} {C N x : Addr} {bs bm : List Value} {sn : List Str} {sub : List Value} {ab : Bool} {col : Option Bool} {dd : Option Addr} {k0 k1 k2 k3 k5 : Option Value}
 {name : Str} {v : Value} {ox : Obj} {od : Option Obj}
end
end PySem
namespace L2
open PySem PySem.Spec PyProof.Rows
noncomputable def XObj (a C : Addr) (d : Option Addr) (vs : Array Value) : HO := .ext fun h => ∃ sl, h.get? a = some ⟨.ref C, d, .fields vs, sl⟩
noncomputable def XDct (dx : Addr) (fs : List (Str × V)) : HO := .ext fun h => ∃ mA, h.Ns1 dx mA ∧ (∀ f, RelO (fs.lookup f) (mA f)) ∧ PySem.Within mA (fs.map (·.1))
section
variable {P : Program} {w : World} {H : Hp} {h : Heap} {a C dx : Addr} {d : Option Addr} {vs : Array Value} {fs : List (Str × V)}
end
section
variable {X : Cx} {pins : List (Addr × Obj)} {σ : St} {H : Hp} {s : Shared} {h' : Heap}
theorem Inv.two {a dx : Addr} {o o' : HO} {φ : Heap → Prop} {t' : Nat} (I : Inv X pins σ H s) (mu : H a = some (.ext φ)) (hdx : s.heap.objs.size ≤ dx) (k : ∀ b u, b ≠ a → s.heap.get? b = some u → h'.get? b = some u) (ha : ∃ u, h'.get? a = some u)
  (n1 : ObjOk X.prog X.w (upd (upd H dx o) a o') h' dx o) (n2 : ObjOk X.prog X.w (upd (upd H dx o) a o') h' a o') : Inv X pins σ (upd (upd H dx o) a o') { s with heap := h', toks := t' } := by
 have hn : H dx = none := I.hok.fresh hdx
 have up : ∀ b, b ≠ a → b ≠ dx → upd (upd H dx o) a o' b = H b := fun b h1 h2 => by rw [upd_ne h1, upd_ne h2]
 have nea : ∀ b u, H b = some u → (∀ φ, u ≠ .ext φ) → b ≠ a ∧ b ≠ dx := fun b u e hu => ⟨fun z => by rw [z, mu] at e; exact hu φ (Option.some.inj e).symm, ne_of_none e hn⟩
 refine I.un ⟨fun b ob e n _ _ => k b ob (fun z => by rw [z, mu] at n; cases n) e, fun b ob e n _ _ => ⟨ob.slots, k b ob (fun z => by rw [z, mu] at n; cases n) e⟩, fun b ob e n _ => ?_, fun b ob e _ => ?_, fun b xs e => ?_, fun b ob u e => ?_, fun b ps e => ⟨#[], ?_⟩⟩ fun b u e => ?_
 ·rw [up b (fun z => by rw [z, mu] at n; cases n) fun z => absurd (Nat.lt_of_lt_of_le (Heap.lt_size e) (z ▸ hdx)) (Nat.lt_irrefl _)]; exact n
 ·by_cases q : b = a
  ·rw [q]; exact ha
  ·exact ⟨ob, k b ob q e⟩
 ·have q := nea b _ e (fun _ z => by cases z); rw [up b q.1 q.2]; exact e
 ·have q := nea b _ e (fun _ z => by cases z); rw [up b q.1 q.2]; exact e
 ·have q := nea b _ e (fun _ z => by cases z); rw [up b q.1 q.2, e]; simp
 ·by_cases q : b = a
  ·rw [q, upd_same] at e; cases e; rw [q]; exact n2
  ·by_cases q2 : b = dx
   ·rw [q2] at q; rw [q2, upd_ne q, upd_same] at e; cases e; rw [q2]; exact n1
   ·rw [up b q q2] at e
    refine (I.hok b u e).stay (fun c v hc z => k c v (fun y => ?_) z) (fun c z => ?_) fun c xs z => ?_
    ·rcases hc with hc | hc
     ·exact q (hc ▸ y)
     ·rw [y, mu] at hc; cases hc
    ·have q := nea c _ z (fun _ z => by cases z); rw [up c q.1 q.2]; exact z
    ·have q := nea c _ z (fun _ z => by cases z); rw [up c q.1 q.2]; exact z
end
section
variable {X : Cx} {e o value : Expr} {ta tv : TE} {f : Str} {pos pos' : Pos}
end
end L2
namespace PySem
open Sem (wp)
open L2 (OverV)
section
variable {M : Model} {A : Around} {E : Value → Shared → Prop} {env : Env}
variable {nm q : Str} {C N : Addr} {bs bm : List Value} {sn : List Str} {sub : List Value} {ab : Bool} {col : Option Bool} {dd : Option Addr} {k0 k1 k2 k3 k5 : Option Value}
end
end PySem
namespace L2
open PySem PySem.Spec PyProof.Rows
noncomputable def unt (H : Hp) (a : Addr) : Hp := fun b => if b = a then none else H b
theorem unt_same {H : Hp} {a : Addr} : unt H a a = none := if_pos rfl
theorem unt_ne {H : Hp} {a b : Addr} (h : b ≠ a) : unt H a b = H b := if_neg h
structure XMk (K : PySem.W.Frag) (C f : Addr) : Prop where
 init : PySem.W.findIn K (.ref C) "__init__" = some (some (.ref f))
 fn : PySem.W.isFn K (.ref f) = true
 kp : PySem.W.keepIn K (.ref C) = true
 xa : XA K C
section
variable {X : Cx} {pins : List (Addr × Obj)} {σ : St} {H : Hp} {s : Shared}
theorem Inv.drop {a : Addr} {φ : Heap → Prop} (I : Inv X pins σ H s) (e : H a = some (.ext φ)) : Inv X pins σ (unt H a) s := by
 have nea : ∀ b u, H b = some u → (∀ φ, u ≠ .ext φ) → b ≠ a := fun b u h hu z => by rw [z, e] at h; exact hu φ (Option.some.inj h).symm
 have nn : ∀ b, H b = none → unt H a b = none := fun b h => by
  by_cases q : b = a
  ·rw [q]; exact unt_same
  ·rw [unt_ne q]; exact h
 refine ⟨I.ok, I.os, I.bare, ⟨I.base.keep, I.base.slot, fun b o q n hx => nn b (I.base.free b o q n hx), I.base.there, fun b xs q => ?_, fun b o u q => ?_, fun b ps q => ?_⟩, I.loc, I.cell, nn _ I.free, fun x c q => nn _ (I.freeC x c q), fun p hp => ?_, fun b u q => ?_, I.len⟩
 ·have z := I.base.tups b xs q; rw [unt_ne (nea b _ z fun _ y => by cases y)]; exact z
 ·have z := I.base.frzs b o u q; rw [unt_ne (nea b _ z fun _ y => by cases y)]; exact z
 ·obtain ⟨m, z⟩ := I.base.tbls b ps q; exact ⟨m, by rw [unt_ne (nea b _ z fun _ y => by cases y)]; exact z⟩
 ·obtain ⟨p1, p2, p3⟩ := I.pin p hp; exact ⟨p1, nn _ p2, p3⟩
 ·by_cases z : b = a
  ·rw [z, unt_same] at q; cases q
  ·rw [unt_ne z] at q
   refine (I.hok b u q).stay (fun c v _ y => y) (fun c y => ?_) fun c xs y => ?_
   ·rw [unt_ne (nea c _ y fun _ w => by cases w)]; exact y
   ·rw [unt_ne (nea c _ y fun _ w => by cases w)]; exact y
end
end L2
namespace PySem
open Sem (wp)
open L2 (OverV)
end PySem
namespace L2
open PySem PySem.Spec PyProof.Rows
noncomputable abbrev Cx.tr (X : Cx) (pn : List (Addr × Obj)) (xe : Value → Shared → Prop) : Cx := { X with pn := pn, xe := xe }
noncomputable abbrev Cx.hdl (X : Cx) (a : Addr) : Cx := { X with A := X.A.mark (some (.ref a)), calm := false, xe := fun _ _ => False }
section
variable {X : Cx} {pins q : List (Addr × Obj)} {σ : St} {H : Hp} {s : Shared} {xe : Value → Shared → Prop}
theorem Cx.Ok.tr (ok : X.Ok) (pn : List (Addr × Obj)) (xe : Value → Shared → Prop) : (X.tr pn xe).Ok :=
 ⟨ok.mod, ok.kind, ok.glob, ok.blt, ok.above, ok.inj, ok.has, ok.cab, ok.hd, ok.frames, ok.stk, ok.exf, ok.bs, ok.bsz, ok.noex, ok.exfs, ok.funs, ok.frf⟩
theorem Cx.Ok.hdl (ok : X.Ok) (a : Addr) : (X.hdl a).Ok :=
 ⟨ok.mod, ok.kind, ok.glob, ok.blt, ok.above, ok.inj, ok.has, ok.cab, fun z => (nomatch z), ok.frames, ok.stk, ok.exf, ok.bs, ok.bsz, ok.noex, ok.exfs, ok.funs, ok.frf⟩
theorem Inv.tr (I : Inv X pins σ H s) (xe : Value → Shared → Prop) : Inv (X.tr (X.pn ++ pins) xe) [] σ H s := ⟨I.ok.tr _ _, I.os, I.bare, I.base, I.loc, I.cell, I.free, I.freeC, fun p hp => I.pin p (by rw [List.append_nil] at hp; exact hp), I.hok, I.len⟩
theorem Inv.hdl (I : Inv X pins σ H s) (a : Addr) : Inv (X.hdl a) pins σ H s := ⟨I.ok.hdl a, I.os, I.bare, I.base, I.loc, I.cell, I.free, I.freeC, I.pin, I.hok, I.len⟩
end
end L2
namespace PySem
open Sem (wp)
open Builtin Builtin.ObjectAttr
open L2 (OverV XC XA bmV)
section
variable {prog : Program} {w : World} {A : Around} {E : Value → Shared → Prop} {h : Heap} {g : Array GenState} {d : Drawn} {t : Nat} {os : OsState} {K : PySem.W.Frag}
variable {nm q : Str} {C N x : Addr} {bs bm : List Value} {sn : List Str} {sub : List Value} {ab : Bool} {col : Option Bool} {dd : Option Addr} {k0 k1 k2 k3 k5 : Option Value}
 {ox : Obj} {od : Option Obj}
end
end PySem
namespace L2
open PySem PySem.Spec PyProof.Rows
theorem XC.cls {K : PySem.W.Frag} {C : Addr} {bm : List Value} (x : XC K C bm) : ∃ cd, PySem.W.clsIn K C = some cd ∧ cd.mro = .ref C :: bm ∧ PySem.W.typeIn K (.ref C) = some (.type "type") := by
 obtain ⟨nm, q, N, bs, sn, sub, ab, col, dd, k0, k1, k2, k3, k5, hl⟩ := x.at_
 refine ⟨{ name := nm, bases := bs, mro := .ref C :: bm, ns := N, qualname := q, hasDict := true, slotNames := sn, subclasses := sub, abstract := ab, collection := col, hasDel := false }, ?_, rfl, ?_⟩
 ·unfold PySem.W.clsIn
  rw [hl]
 ·unfold PySem.W.typeIn
  simp only [hl]
  rfl
theorem XC.mro {K : PySem.W.Frag} {C : Addr} {bm : List Value} (x : XC K C bm) (v : Value) : PySem.W.mroIn K C v = some ((Value.ref C :: bm).contains v) := by
 obtain ⟨cd, h1, h2, _⟩ := x.cls
 unfold PySem.W.mroIn
 rw [h1, Option.bind_some, h2, if_neg (by simp)]
section
variable {X : Cx} {pins : List (Addr × Obj)} {σ : St} {H : Hp} {s : Shared}
end
theorem XObj.ne {a C : Addr} {d : Option Addr} {vs : Array Value} {H : Hp} {b : Addr} (e : H a = some (XObj a C d vs)) (h : H b = none) : a ≠ b := ne_of_none e h
structure XUni (K : PySem.W.Frag) (mg : Str → Option Value) (D : Addr) (cs : List (Str × Addr)) : Prop where
 base : XC K D bmV
 mD : mg "DropError" = some (.ref D)
 cls : ∀ c ∈ cs, mg c.1 = some (.ref c.2) ∧ XC K c.2 (.ref D :: bmV) ∧ XA K c.2
 nd : (D :: cs.map (·.2)).Nodup
noncomputable def SqA (H : Hp) (a : Addr) (xs : List V) : Prop := H a = some (.tup xs) ∨ H a = some (.lst xs)
theorem SqA.same {H H' : Hp} {a : Addr} {xs : List V} (k : Same H H') (h : SqA H a xs) : SqA H' a xs := h.elim (fun z => .inl (k _ _ z)) fun z => .inr (k _ _ z)
end L2
namespace PySem
open Sem (wp)
open L2 (OverV bmV)
section
variable {prog : Program} {w : World} {A : Around} {E : Value → Shared → Prop} {h : Heap} {g : Array GenState} {d : Drawn} {t : Nat} {os : OsState}
variable {nm q : Str} {C N : Addr} {bs : List Value} {sn : List Str} {sub : List Value} {ab : Bool} {col : Option Bool} {dd : Option Addr} {k0 k1 k2 k3 k5 : Option Value}
end
end PySem
namespace L2
open PySem PySem.Spec PyProof.Rows
structure FnOkH (P : Program) (w : World) (K : PySem.W.Frag) (mg : Str → Option Value) (base : Heap) (k : Nat) (f : Addr) (fd : FuncData) (ps : List Str) (sp : Sp) : Prop where
 len : ∀ vs H Q E, sp vs H Q E → vs.length = ps.length
 run : ∀ (A : Around) (a : Addr) (outer : List Env) (s : Shared) (H : Hp) (args : Args) (us : List Value) (vs : List V) (Q : VK), Room k A → Env0 P w K mg base A outer s H → BindsTo s fd args (ps.zip us) → Vals vs us → sp vs H Q E0 →
  codeAny (model P w) (A.mark (some (.ref a))) (.call (.ref f) args) (CR CX0 outer P w H s Q E0) s
section
variable {X : Cx} {k j : Nat} {f a : Addr} {fd : FuncData} {ps : List Str} {sp : Sp} {x : Str} {p pos : Pos} {e : Expr} {es : List Expr} {t : TA}
end
noncomputable def XAt (H : Hp) (a C : Addr) (d : Option Addr) : Prop := (∃ vs, H a = some (XObj a C d vs)) ∧ (d = none ∨ ∃ dx fs, d = some dx ∧ H dx = some (XDct dx fs))
theorem XAt.same {H H' : Hp} {a C : Addr} {d : Option Addr} (k : Same H H') (h : XAt H a C d) : XAt H' a C d := ⟨let ⟨vs, e⟩ := h.1; ⟨vs, k _ _ e⟩, h.2.elim .inl fun ⟨dx, fs, e, z⟩ => .inr ⟨dx, fs, e, k _ _ z⟩⟩
structure XBase (K : PySem.W.Frag) (C : Addr) : Prop where
 at_ : ∃ (nm q : Str) (N : Addr) (bs : List Value) (sn : List Str) (sub : List Value) (ab : Bool) (col : Option Bool) (dd : Option Addr) (k0 k1 k2 k3 k5 : Option Value),
  K.lookup C = some (excClassObj nm q C N bs bmV true sn sub ab col dd k0 k1 k2 k3 k5 "ValueError.__new__")
 fi : PySem.W.findIn K (.ref C) "__init__" = some (some (.builtin "ValueError.__init__"))
 kp : PySem.W.keepIn K (.ref C) = true
section
variable {X : Cx} {k : Nat}
end
section
variable {pr : Program} {wo : World} {Ar : Around} {R : Result → Shared → Prop} {I : Addr} {fp wr : List Addr} {G : Array GenState → Array GenState → Prop} {n : Nat} {P : Nat → Value → Prop} {St : Nat → Shared → Prop}
end
section
variable {pr : Program} {wo : World} {Ar : Around} {E : Value → Shared → Prop} {s : Shared}
end
end L2
namespace L2
open PySem
structure Bl (mg : Str → Option Value) : Prop where
 len : mg "len" = none
 range : mg "range" = none
 tuple : mg "tuple" = none
 int : mg "int" = none
 bool : mg "bool" = none
 list : mg "list" = none
 str : mg "str" = none
 all : mg "all" = none
 any : mg "any" = none
 isi : mg "isinstance" = none
 repr : mg "repr" = none
 zip : mg "zip" = none
 min : mg "min" = none
 max : mg "max" = none
 sum : mg "sum" = none
 enu : mg "enumerate" = none
 sorted : mg "sorted" = none
 set : mg "set" = none
 dict : mg "dict" = none
 abs : mg "abs" = none
noncomputable def Kn (mg : Str → Option Value) (x : Str) (i : Int) : Prop := ∃ t, mg x = some (Value.int i t)
theorem pe_k {X : Cx} {x : Str} {i : Int} {pos : Pos} (h : Kn X.mg x i) (hg : Gl X x := by rfl) (hd : (x == ("__debug__" : Str)) = false := by decide) : PE X (.Name x pos) (tC (.int i)) := by
 obtain ⟨t, e⟩ := h
 exact pe_glob hg e ⟨t, rfl⟩ hd
theorem pi_r2 {X : Cx} {a b tg : Expr} {ta : TA} {p pos : Pos} (hm : X.mg "range" = none) (ha : PA X [a, b] ta) (hg : Gl X "range" := by rfl) (h : isStar a = false := by rfl) (h' : isStar b = false := by rfl) : PI X tg (.Call (.Name "range" p) [a, b] [] pos) (iRng2 ta) := pi_range2 hg hm ha (by rw [star1 h, star1 h']; rfl) (by rw [star1 h']; rfl)
theorem w_forR2 {ta : TA} {g : TG} {tb : TS} {D : Ends} {σ : St} {H : Hp} (h : ta σ H fun vs H1 => ∃ i j : Int, vs = [.int i, .int j] ∧ (-(2 ^ 62) ≤ i ∧ i < 2 ^ 62 ∧ -(2 ^ 62) ≤ j ∧ j < 2 ^ 62) ∧ ForJ (Itr i (j - i).toNat) g tb D σ H1) : tFor (iRng2 ta) g tb D σ H := h
theorem w_andV {ta tb : TE} {σ : St} {H : Hp} {Q : VK} (h : ta σ H fun x H1 => ∃ c, x = .bl c ∧ if c = true then tb σ H1 Q else Q (.bl false) H1) : tAndV ta tb σ H Q := h
theorem at0 {v : V} {xs : List V} : atI (v :: xs) 0 = some v := atI_nat (show (v :: xs)[0]? = some v from rfl)
theorem iteP {c A B : Prop} [Decidable c] (hc : c) (h : A) : if decide c = true then A else B := by rw [decide_eq_true hc]; exact iteT h
theorem iteQ {c A B : Prop} [Decidable c] (hc : ¬ c) (h : B) : if decide c = true then A else B := by rw [decide_eq_false hc]; exact iteF h
end L2
namespace L2
open PySem PySem.Spec PyProof.Rows Builtin Builtin.Str
section
variable {X : Cx}
noncomputable def isT (b : Str) : Value → Bool
 | .str a _ => decide (a = b)
 | _ => false
end
section
variable {X : Cx} {tg : Expr}
end
end L2
namespace L2
open PySem PySem.Spec PyProof.Rows
section
variable {X : Cx} {e st : Expr} {te ts : TE} {pos p2 : Pos}
end
theorem SqT.sm {K : PySem.W.Frag} {H H' : Hp} {a : Addr} {xs : List V} (e : Same H H') (h : SqT K H a xs) : SqT K H' a xs := by
 rcases h with (h | ⟨o, h⟩) | h
 ·exact .inl (.inl (e _ _ h))
 ·exact .inl (.inr ⟨o, e _ _ h⟩)
 ·exact .inr h
theorem SqL.sm {K : PySem.W.Frag} {H H' : Hp} {a : Addr} {xs : List V} (e : Same H H') (h : SqL K H a xs) : SqL K H' a xs := by
 rcases h with (h | ⟨o, h⟩) | h
 ·exact .inl (.inl (e _ _ h))
 ·exact .inl (.inr ⟨o, e _ _ h⟩)
 ·exact .inr h
section
variable {D : Addr} {te : TE} {Q : VK} {ρ : St} {H : Hp}
theorem cg_tup {K : PySem.W.Frag} {a : Addr} {α : Type} {ws : List α} (c r : α → V) (hs : SqT K H a (ws.map c)) (hn : ws.length ≤ 1000) (hD : H D = none)
  (h : ∀ w ∈ ws, ∀ H', Same H H' → ∀ R : V → Hp → Prop, (∀ H'', Same H' H'' → R (r w) H'') → te (some (c w) :: ρ) H' R)
  (q : ∀ H', Same H H' → H' D = some (.lst (ws.map r)) → Q (.ref D) H') : CGo (Itt K a) D (gName 0) tAll te Q (none :: ρ) H := by
 refine cgo_tup (xs := ws.map c) (fun i ys H' => ys = (ws.take i).map r ∧ Same H H') ⟨rfl, Same.new (Same.refl H) hD⟩ (fun i ys H' _ ⟨_, k'⟩ => SqT.sm k' hs) ?_ ?_
 ·rintro i x ys H' hx ⟨rfl, K'⟩ hDy R S kR _
  have hi : i < ws.length := by
   have := (List.getElem?_eq_some_iff.mp hx).1
   simpa using this
  have ex : x = c ws[i] := by
   rw [List.getElem?_map, List.getElem?_eq_getElem hi] at hx
   exact (Option.some.inj hx).symm
  subst ex
  refine w_all (iteT ?_)
  refine h _ (List.getElem_mem hi) H' K' _ fun H2 K2 => ?_
  refine kR _ _ (K2 _ _ hDy) (by rw [List.length_map, List.length_take]; exact small1000 (by omega)) ⟨?_, (K'.trans K2).put hD⟩
  rw [List.take_add_one, List.getElem?_eq_getElem hi, List.map_append]
  rfl
 ·rintro ys H1 ⟨rfl, K1⟩ e1
  rw [List.length_map, List.take_length] at e1
  exact q H1 K1 e1
theorem cg_rng {lo : Int} {n : Nat} (r : Nat → V) (hn : n ≤ 1000) (hD : H D = none)
  (h : ∀ i, i < n → ∀ H', Same H H' → ∀ R : V → Hp → Prop, (∀ H'', Same H' H'' → R (r i) H'') → te (some (.int (lo + i)) :: ρ) H' R)
  (q : ∀ H', Same H H' → H' D = some (.lst ((List.range n).map r)) → Q (.ref D) H') : CGo (Itr lo n) D (gName 0) tAll te Q (none :: ρ) H := by
 refine cgo_range (n := n) (fun i ys H' => ys = (List.range i).map r ∧ Same H H') ⟨rfl, Same.new (Same.refl H) hD⟩ ?_ ?_
 ·rintro i ys H' hi ⟨rfl, K'⟩ hDy R S kR _
  refine w_all (iteT ?_)
  refine h i hi H' K' _ fun H2 K2 => ?_
  refine kR _ _ (K2 _ _ hDy) (by rw [List.length_map, List.length_range]; exact small1000 (by omega)) ⟨?_, (K'.trans K2).put hD⟩
  rw [List.range_succ, List.map_append]
  rfl
 ·rintro ys H1 ⟨rfl, K1⟩ e1
  exact q H1 K1 e1
theorem cg_lst {K : PySem.W.Frag} {a : Addr} {α : Type} {ws : List α} (c r : α → V) (hs : H a = some (.lst (ws.map c))) (hn : ws.length ≤ 1000) (hD : H D = none)
  (h : ∀ w ∈ ws, ∀ H', Same H H' → ∀ R : V → Hp → Prop, (∀ H'', Same H' H'' → R (r w) H'') → te (some (c w) :: ρ) H' R)
  (q : ∀ H', Same H H' → H' D = some (.lst (ws.map r)) → Q (.ref D) H') : CGo (Itl K a) D (gName 0) tAll te Q (none :: ρ) H := by
 refine cgo_list (xs := ws.map c) (fun i ys H' => ys = (ws.take i).map r ∧ Same H H') ⟨rfl, Same.new (Same.refl H) hD⟩ (fun i ys H' _ ⟨_, k'⟩ => SqL.of (k' _ _ hs)) ?_ ?_
 ·rintro i x ys H' hx ⟨rfl, K'⟩ hDy R S kR _
  have hi : i < ws.length := by
   have := (List.getElem?_eq_some_iff.mp hx).1
   simpa using this
  have ex : x = c ws[i] := by
   rw [List.getElem?_map, List.getElem?_eq_getElem hi] at hx
   exact (Option.some.inj hx).symm
  subst ex
  refine w_all (iteT ?_)
  refine h _ (List.getElem_mem hi) H' K' _ fun H2 K2 => ?_
  refine kR _ _ (K2 _ _ hDy) (by rw [List.length_map, List.length_take]; exact small1000 (by omega)) ⟨?_, (K'.trans K2).put hD⟩
  rw [List.take_add_one, List.getElem?_eq_getElem hi, List.map_append]
  rfl
 ·rintro ys H1 ⟨rfl, K1⟩ e1
  rw [List.length_map, List.take_length] at e1
  exact q H1 K1 e1
end
end L2
namespace EL
inductive Sp (S : (Nat → Int) → Prop) : (Nat → Int) → Prop
 | of {v} : S v → Sp S v
 | zero : Sp S (fun _ => 0)
 | add {u v} : Sp S u → Sp S v → Sp S (fun j => u j + v j)
 | smul {u} (c : Int) : Sp S u → Sp S (fun j => c * u j)
 | div {u} {c : Int} : c ≠ 0 → Sp S (fun j => c * u j) → Sp S u
theorem Sp.le {S T : (Nat → Int) → Prop} (h : ∀ v, S v → Sp T v) {v : Nat → Int} (p : Sp S v) : Sp T v := by
 induction p with
 | of a => exact h _ a
 | zero => exact .zero
 | add _ _ a b => exact .add a b
 | smul c _ a => exact .smul c a
 | div hc _ a => exact .div hc a
theorem Sp.lin {S : (Nat → Int) → Prop} {u v w : Nat → Int} {a b d : Int} (hd : d ≠ 0) (hu : Sp S u) (hv : Sp S v) (h : ∀ j, d * w j = a * u j + b * v j) : Sp S w := by
 refine .div hd ?_
 rw [show (fun j => d * w j) = (fun j => a * u j + b * v j) from funext h]
 exact .add (.smul a hu) (.smul b hv)
theorem Sp.nought {S : (Nat → Int) → Prop} (φ : (Nat → Int) → Int) (ha : ∀ u v, φ (fun j => u j + v j) = φ u + φ v) (hs : ∀ (c : Int) u, φ (fun j => c * u j) = c * φ u) (h0 : ∀ v, S v → φ v = 0) {v : Nat → Int} (p : Sp S v) : φ v = 0 := by
 induction p with
 | of a => exact h0 _ a
 | zero =>
  have := hs 0 (fun _ => 0)
  simpa using this
 | add _ _ a b => rw [ha, a, b]; rfl
 | smul c _ a => rw [hs, a, Int.mul_zero]
 | div hc _ a =>
  rw [hs] at a
  exact (Int.mul_eq_zero.mp a).resolve_left hc
noncomputable def cf (xs : List Int) : Nat → Int := fun j => xs.getD j 0
noncomputable def SpR (rows : List (List Int)) : (Nat → Int) → Prop := Sp (fun v => ∃ r ∈ rows, v = cf r)
theorem SpR.mem {rows : List (List Int)} {r : List Int} (h : r ∈ rows) : SpR rows (cf r) := .of ⟨r, h, rfl⟩
theorem SpR.le {R T : List (List Int)} (h : ∀ r ∈ R, SpR T (cf r)) {v : Nat → Int} (p : SpR R v) : SpR T v := Sp.le (fun v ⟨r, hr, e⟩ => e ▸ h r hr) p
theorem SpR.at0 {R : List (List Int)} {k : Nat} (h : ∀ r ∈ R, cf r k = 0) {v : Nat → Int} (p : SpR R v) : v k = 0 :=
 Sp.nought (fun v => v k) (fun _ _ => rfl) (fun _ _ => rfl) (fun v ⟨r, hr, e⟩ => e ▸ h r hr) p
noncomputable def gcdL (xs : List Int) : Nat := xs.foldl (fun g x => Nat.gcd g x.natAbs) 0
theorem gcd_fold : ∀ (xs : List Int) (g : Nat), xs.foldl (fun g x => Nat.gcd g x.natAbs) g ∣ g ∧ ∀ x ∈ xs, xs.foldl (fun g x => Nat.gcd g x.natAbs) g ∣ x.natAbs
 | [], g => ⟨Nat.dvd_refl g, fun x h => nomatch h⟩
 | y :: xs, g => by
  obtain ⟨h1, h2⟩ := gcd_fold xs (Nat.gcd g y.natAbs)
  refine ⟨Nat.dvd_trans h1 (Nat.gcd_dvd_left _ _), fun x hx => ?_⟩
  rcases List.mem_cons.mp hx with rfl | hx
  ·exact Nat.dvd_trans h1 (Nat.gcd_dvd_right _ _)
  ·exact h2 x hx
theorem gcdL_dvd {xs : List Int} {x : Int} (h : x ∈ xs) : gcdL xs ∣ x.natAbs := (gcd_fold xs 0).2 x h
theorem dvd_fold {d : Nat} : ∀ (xs : List Int) (g : Nat), d ∣ g → (∀ x ∈ xs, d ∣ x.natAbs) → d ∣ xs.foldl (fun g x => Nat.gcd g x.natAbs) g
 | [], _, h, _ => h
 | y :: xs, g, h, k => dvd_fold xs _ (Nat.dvd_gcd h (k y List.mem_cons_self)) fun x hx => k x (List.mem_cons_of_mem _ hx)
theorem dvd_gcdL {d : Nat} {xs : List Int} (h : ∀ x ∈ xs, d ∣ x.natAbs) : d ∣ gcdL xs := dvd_fold xs 0 (Nat.dvd_zero d) h
theorem gcdL_zero {xs : List Int} (h : gcdL xs = 0) : ∀ x ∈ xs, x = 0 := fun x hx => by
 have := gcdL_dvd hx
 rw [h, Nat.zero_dvd] at this
 omega
noncomputable def wd (xs : List Int) : List Int := xs.map fun x => if 0 < gcdL xs then x / (gcdL xs : Int) else 0
theorem wd_len (xs : List Int) : (wd xs).length = xs.length := List.length_map _
noncomputable def dv (xs : List Int) : Int := if 0 < gcdL xs then (gcdL xs : Int) else 1
theorem dv_pos (xs : List Int) : 0 < dv xs := by
 unfold dv
 split <;> omega
theorem wd_mul {xs : List Int} {x : Int} (h : x ∈ xs) : dv xs * (if 0 < gcdL xs then x / (gcdL xs : Int) else 0) = x := by
 unfold dv
 split
 ·exact Int.mul_ediv_cancel' (Int.ofNat_dvd_left.mpr (gcdL_dvd h))
 ·rw [gcdL_zero (by omega) x h]
  rfl
theorem getD_mem {α : Type} {xs : List α} {j : Nat} {d : α} (h : j < xs.length) : xs.getD j d ∈ xs := by
 rw [List.getD_eq_getElem?_getD, List.getElem?_eq_getElem h]
 exact List.getElem_mem h
theorem getD_out {α : Type} {xs : List α} {j : Nat} {d : α} (h : xs.length ≤ j) : xs.getD j d = d := by
 rw [List.getD_eq_getElem?_getD, List.getElem?_eq_none h]
 rfl
theorem getD_map' {α β : Type} (f : α → β) {xs : List α} {j : Nat} {d : β} {e : α} (h : j < xs.length) : (xs.map f).getD j d = f (xs.getD j e) := by
 rw [List.getD_eq_getElem?_getD, List.getD_eq_getElem?_getD, List.getElem?_map, List.getElem?_eq_getElem h]
 rfl
theorem wd_at (xs : List Int) (j : Nat) : dv xs * cf (wd xs) j = cf xs j := by
 unfold cf
 by_cases h : j < xs.length
 ·unfold wd
  rw [getD_map' (e := 0) _ h]
  exact wd_mul (getD_mem h)
 ·rw [getD_out (by rw [wd_len]; omega), getD_out (by omega), Int.mul_zero]
theorem natAbs_le_mul {d y x : Int} (hd : 0 < d) (h : d * y = x) : y.natAbs ≤ x.natAbs := by
 rw [← h, Int.natAbs_mul]
 exact Nat.le_mul_of_pos_left _ (by omega)
theorem wd_abs {xs : List Int} {y : Int} (h : y ∈ wd xs) : ∃ x ∈ xs, y.natAbs ≤ x.natAbs := by
 obtain ⟨x, hx, rfl⟩ := List.mem_map.mp h
 exact ⟨x, hx, natAbs_le_mul (dv_pos xs) (wd_mul hx)⟩
theorem gcd_wd {xs : List Int} (h : ∃ x ∈ xs, x ≠ 0) : gcdL (wd xs) = 1 := by
 have hg : 0 < gcdL xs := by
  obtain ⟨x, hx, h0⟩ := h
  rcases Nat.eq_zero_or_pos (gcdL xs) with z | z
  ·exact absurd (gcdL_zero z x hx) h0
  ·exact z
 have hdv : dv xs = (gcdL xs : Int) := if_pos hg
 have : gcdL xs * gcdL (wd xs) ∣ gcdL xs := by
  refine dvd_gcdL fun x hx => ?_
  have e := wd_mul hx
  have m : (if 0 < gcdL xs then x / (gcdL xs : Int) else 0) ∈ wd xs := List.mem_map.mpr ⟨x, hx, rfl⟩
  rw [← e, Int.natAbs_mul, hdv, Int.natAbs_natCast]
  exact Nat.mul_dvd_mul_left _ (gcdL_dvd m)
 have h2 := Nat.le_of_dvd hg this
 have h3 : gcdL xs * gcdL (wd xs) ≤ gcdL xs * 1 := by omega
 have h4 := Nat.le_of_mul_le_mul_left h3 hg
 rcases Nat.eq_zero_or_pos (gcdL (wd xs)) with z | z
 ·obtain ⟨x, hx, h0⟩ := h
  have m : (if 0 < gcdL xs then x / (gcdL xs : Int) else 0) ∈ wd xs := List.mem_map.mpr ⟨x, hx, rfl⟩
  have e := wd_mul hx
  rw [gcdL_zero z _ m, Int.mul_zero] at e
  exact absurd e.symm h0
 ·omega
noncomputable def wcol (row lead : List Int) (c : Nat) : List Int := wd (List.zipWith (fun a b => lead.getD c 0 * a - row.getD c 0 * b) row lead)
theorem zw_at {row lead : List Int} {n : Nat} (h1 : row.length = n) (h2 : lead.length = n) (g : Int → Int → Int) (g0 : g 0 0 = 0) (j : Nat) : cf (List.zipWith g row lead) j = g (cf row j) (cf lead j) := by
 unfold cf
 by_cases h : j < n
 ·rw [List.getD_eq_getElem?_getD, List.getD_eq_getElem?_getD, List.getD_eq_getElem?_getD, List.getElem?_zipWith, List.getElem?_eq_getElem (by omega), List.getElem?_eq_getElem (by omega)]
  rfl
 ·rw [getD_out (by rw [List.length_zipWith]; omega), getD_out (by omega), getD_out (by omega), g0]
theorem wcol_len {row lead : List Int} {n : Nat} (h1 : row.length = n) (h2 : lead.length = n) (c : Nat) : (wcol row lead c).length = n := by
 unfold wcol
 rw [wd_len, List.length_zipWith]
 omega
theorem wcol_at {row lead : List Int} {n : Nat} (h1 : row.length = n) (h2 : lead.length = n) (c : Nat) : ∃ d : Int, 0 < d ∧ ∀ j, d * cf (wcol row lead c) j = cf lead c * cf row j - cf row c * cf lead j :=
 ⟨_, dv_pos _, fun j => by
  unfold wcol
  rw [wd_at, zw_at h1 h2 _ (by simp)]
  rfl⟩
end EL
namespace EL
noncomputable def ro (left : List (List Int)) (i j : Nat) : Int := cf (left.getD i []) j
noncomputable def firstW (rows : List (List Int)) (start c : Nat) : Option Nat := (List.range' start (rows.length - start)).find? fun i => decide (ro rows i c ≠ 0)
noncomputable def nextL (left : List (List Int)) (m p c : Nat) : List (List Int) := (((left.eraseIdx p).map fun r => wcol r (left.getD p []) c).insertIdx m (left.getD p []))
noncomputable def redS (c : Nat) (st : List (List Int) × List Nat) : List (List Int) × List Nat := match firstW st.1 st.2.length c with
 | none => st
 | some p => (nextL st.1 st.2.length p c, st.2 ++ [c])
noncomputable def red (rows : List (List Int)) : Nat → List (List Int) × List Nat
 | 0 => (rows, [])
 | c + 1 => redS c (red rows c)
noncomputable def bdE (b : Nat) : Nat → Nat
 | 0 => b
 | k + 1 => 2 * bdE b k + 1
structure Rd (b n : Nat) (rows : List (List Int)) (c : Nat) (left : List (List Int)) (leads : List Nat) : Prop where
 len : ∀ r ∈ left, r.length = n
 cnt : left.length = rows.length
 le : leads.length ≤ left.length
 sp1 : ∀ v, SpR left v → SpR rows v
 sp2 : ∀ v, SpR rows v → SpR left v
 up : leads.Pairwise (· < ·)
 lt : ∀ l ∈ leads, l < c
 own : ∀ i, i < leads.length → ro left i (leads.getD i 0) ≠ 0
 oth : ∀ i k, i < leads.length → k < left.length → k ≠ i → ro left k (leads.getD i 0) = 0
 bef : ∀ i j, i < leads.length → j < leads.getD i 0 → ro left i j = 0
 low : ∀ k j, leads.length ≤ k → k < left.length → j < c → ro left k j = 0
 bit : ∀ r ∈ left, ∀ x ∈ r, x.natAbs < 2 ^ bdE b leads.length
theorem firstW_none {rows : List (List Int)} {s c : Nat} (h : firstW rows s c = none) : ∀ k, s ≤ k → k < rows.length → ro rows k c = 0 := fun k h1 h2 => by
 have := List.find?_eq_none.mp h k (List.mem_range'_1.mpr ⟨h1, by omega⟩)
 simpa using this
theorem firstW_some {rows : List (List Int)} {s c p : Nat} (h : firstW rows s c = some p) : s ≤ p ∧ p < rows.length ∧ ro rows p c ≠ 0 := by
 have h1 := List.find?_some h
 have h2 := List.mem_range'_1.mp (List.mem_of_find?_eq_some h)
 exact ⟨h2.1, by omega, by simpa using h1⟩
theorem nextL_len {left : List (List Int)} {m p c : Nat} (hp : p < left.length) (hm : m ≤ p) : (nextL left m p c).length = left.length := by
 unfold nextL
 rw [List.length_insertIdx, List.length_map, List.length_eraseIdx, if_pos hp]
 split <;> omega
theorem nextL_at {left : List (List Int)} {m p c : Nat} (hp : p < left.length) (hm : m ≤ p) (i : Nat) (hi : i < left.length) :
  (i = m ∧ (nextL left m p c).getD i [] = left.getD p []) ∨ (i ≠ m ∧ ∃ k, k < left.length ∧ k ≠ p ∧ (nextL left m p c).getD i [] = wcol (left.getD k []) (left.getD p []) c ∧ (i < m → k = i) ∧ (m < i → m ≤ k)) := by
 have hl : ((left.eraseIdx p).map fun r => wcol r (left.getD p []) c).length = left.length - 1 := by rw [List.length_map, List.length_eraseIdx, if_pos hp]
 have gq : ∀ q, q < left.length → left[q]? = some (left.getD q []) := fun q hq => by
  rw [List.getD_eq_getElem?_getD, List.getElem?_eq_getElem hq]
  rfl
 have key : ∀ q, q < left.length - 1 → ∃ k, k < left.length ∧ k ≠ p ∧ ((left.eraseIdx p).map fun r => wcol r (left.getD p []) c)[q]? = some (wcol (left.getD k []) (left.getD p []) c) ∧ (q < p → k = q) ∧ (p ≤ q → k = q + 1) := fun q hq => by
  by_cases h : q < p
  ·refine ⟨q, by omega, by omega, ?_, fun _ => rfl, fun h' => by omega⟩
   rw [List.getElem?_map, List.getElem?_eraseIdx, if_pos h, gq q (by omega)]
   rfl
  ·refine ⟨q + 1, by omega, by omega, ?_, fun h' => absurd h' h, fun _ => rfl⟩
   rw [List.getElem?_map, List.getElem?_eraseIdx, if_neg h, gq (q + 1) (by omega)]
   rfl
 unfold nextL
 by_cases h1 : i = m
 ·refine .inl ⟨h1, ?_⟩
  rw [List.getD_eq_getElem?_getD, List.getElem?_insertIdx, if_neg (by omega), if_pos h1, if_pos (by rw [hl]; omega)]
  rfl
 ·refine .inr ⟨h1, ?_⟩
  by_cases h2 : i < m
  ·obtain ⟨k, k1, k2, k3, k4, k5⟩ := key i (by omega)
   refine ⟨k, k1, k2, ?_, fun _ => k4 (by omega), fun h => by omega⟩
   rw [List.getD_eq_getElem?_getD, List.getElem?_insertIdx, if_pos h2, k3]
   rfl
  ·obtain ⟨k, k1, k2, k3, k4, k5⟩ := key (i - 1) (by omega)
   refine ⟨k, k1, k2, ?_, fun h => absurd h h2, fun h => ?_⟩
   ·rw [List.getD_eq_getElem?_getD, List.getElem?_insertIdx, if_neg h2, if_neg h1, k3]
    rfl
   ·rcases Nat.lt_or_ge (i - 1) p with z | z
    ·rw [k4 z]
     omega
    ·rw [k5 z]
     omega
theorem mem_getD {left : List (List Int)} {r : List Int} (h : r ∈ left) : ∃ i, i < left.length ∧ left.getD i [] = r := by
 obtain ⟨i, hi, e⟩ := List.getElem_of_mem h
 exact ⟨i, hi, by rw [List.getD_eq_getElem?_getD, List.getElem?_eq_getElem hi, e]; rfl⟩
theorem nextL_mem {left : List (List Int)} {m p c : Nat} (hp : p < left.length) (hm : m ≤ p) {r : List Int} (h : r ∈ nextL left m p c) : r = left.getD p [] ∨ ∃ k, k < left.length ∧ k ≠ p ∧ r = wcol (left.getD k []) (left.getD p []) c := by
 obtain ⟨i, hi, e⟩ := mem_getD h
 rw [nextL_len hp hm] at hi
 rcases nextL_at (c := c) hp hm i hi with ⟨_, h2⟩ | ⟨_, k, k1, k2, k3, _⟩
 ·exact .inl (e.symm.trans h2)
 ·exact .inr ⟨k, k1, k2, e.symm.trans k3⟩
theorem nextL_lead {left : List (List Int)} {m p c : Nat} (hp : p < left.length) (hm : m ≤ p) : left.getD p [] ∈ nextL left m p c := by
 unfold nextL
 rw [List.mem_insertIdx (by rw [List.length_map, List.length_eraseIdx, if_pos hp]; omega)]
 exact .inl rfl
theorem nextL_wcol {left : List (List Int)} {m p c k : Nat} (hp : p < left.length) (hm : m ≤ p) (hk : k < left.length) (hkp : k ≠ p) : wcol (left.getD k []) (left.getD p []) c ∈ nextL left m p c := by
 unfold nextL
 rw [List.mem_insertIdx (by rw [List.length_map, List.length_eraseIdx, if_pos hp]; omega)]
 refine .inr (List.mem_map.mpr ⟨_, ?_, rfl⟩)
 rw [List.mem_eraseIdx_iff_getElem?]
 exact ⟨k, hkp, by rw [List.getD_eq_getElem?_getD, List.getElem?_eq_getElem hk]; rfl⟩
theorem lt_pow_mul {a b : Int} {m : Nat} (ha : a.natAbs < 2 ^ m) (hb : b.natAbs < 2 ^ m) : (a * b).natAbs < 2 ^ (2 * m) := by
 rw [Int.natAbs_mul, Nat.two_mul, Nat.pow_add]
 exact Nat.mul_lt_mul_of_lt_of_lt ha hb
theorem getD_app1 {α : Type} {xs : List α} {a d : α} {i : Nat} (h : i < xs.length) : (xs ++ [a]).getD i d = xs.getD i d := by
 rw [List.getD_eq_getElem?_getD, List.getElem?_append_left h, List.getD_eq_getElem?_getD]
theorem getD_app2 {α : Type} {xs : List α} {a d : α} : (xs ++ [a]).getD xs.length d = a := by
 rw [List.getD_eq_getElem?_getD, List.getElem?_append_right (Nat.le_refl _), Nat.sub_self]
 rfl
theorem cf_bit {b : Nat} {r : List Int} (h : ∀ x ∈ r, x.natAbs < 2 ^ b) (j : Nat) : (cf r j).natAbs < 2 ^ b := by
 unfold cf
 by_cases hj : j < r.length
 ·exact h _ (getD_mem hj)
 ·rw [getD_out (by omega)]
  exact Nat.two_pow_pos b
theorem Rd.step {b n c : Nat} {rows left : List (List Int)} {leads : List Nat} (I : Rd b n rows c left leads) : Rd b n rows (c + 1) (redS c (left, leads)).1 (redS c (left, leads)).2 := by
 unfold redS
 cases hf : firstW left leads.length c with
 | none =>
  have z := firstW_none hf
  refine ⟨I.len, I.cnt, I.le, I.sp1, I.sp2, I.up, fun l hl => Nat.lt_succ_of_lt (I.lt l hl), I.own, I.oth, I.bef, fun k j h1 h2 h3 => ?_, I.bit⟩
  rcases Nat.lt_or_ge j c with q | q
  ·exact I.low k j h1 h2 q
  ·have : j = c := by omega
   rw [this]
   exact z k h1 h2
 | some p =>
  obtain ⟨p1, p2, p3⟩ := firstW_some hf
  show Rd b n rows (c + 1) (nextL left leads.length p c) (leads ++ [c])
  have hL := nextL_len (c := c) p2 p1
  have lenP : (left.getD p []).length = n := I.len _ (getD_mem p2)
  have lenK : ∀ k, k < left.length → (left.getD k []).length = n := fun k hk => I.len _ (getD_mem hk)
  have ll : (leads ++ [c]).length = leads.length + 1 := by simp
  have bitK : ∀ k, k < left.length → ∀ j, (ro left k j).natAbs < 2 ^ bdE b leads.length := fun k hk j => cf_bit (I.bit _ (getD_mem hk)) j
  have at_ := fun i hi => nextL_at (c := c) p2 p1 i hi
  refine ⟨fun r hr => ?_, hL.trans I.cnt, ?_, fun v hv => I.sp1 v (SpR.le (fun r hr => ?_) hv), fun v hv => SpR.le (fun r hr => ?_) (I.sp2 v hv), ?_, fun l hl => ?_, fun i hi => ?_, fun i k hi hk hki => ?_, fun i j hi hj => ?_, fun k j h1 h2 h3 => ?_, fun r hr x hx => ?_⟩
  ·rcases nextL_mem p2 p1 hr with e | ⟨k, k1, _, e⟩
   ·rw [e]; exact lenP
   ·rw [e]; exact wcol_len (lenK k k1) lenP c
  ·rw [ll, hL]
   omega
  ·rcases nextL_mem p2 p1 hr with e | ⟨k, k1, _, e⟩
   ·rw [e]; exact SpR.mem (getD_mem p2)
   ·obtain ⟨d, d0, hd⟩ := wcol_at (lenK k k1) lenP c
    rw [e]
    exact Sp.lin (d := d) (a := cf (left.getD p []) c) (b := -cf (left.getD k []) c) (by omega) (SpR.mem (getD_mem k1)) (SpR.mem (getD_mem p2)) fun j => by rw [hd, Int.neg_mul, Int.sub_eq_add_neg]
  ·obtain ⟨k, k1, e⟩ := mem_getD hr
   by_cases hkp : k = p
   ·rw [← e, hkp]; exact SpR.mem (nextL_lead p2 p1)
   ·obtain ⟨d, d0, hd⟩ := wcol_at (lenK k k1) lenP c
    rw [← e]
    refine Sp.lin (a := d) (b := cf (left.getD k []) c) p3 (SpR.mem (nextL_wcol p2 p1 k1 hkp)) (SpR.mem (nextL_lead p2 p1)) fun j => ?_
    rw [hd]
    show ro left p c * _ = _
    unfold ro
    omega
  ·rw [List.pairwise_append]
   exact ⟨I.up, List.pairwise_singleton _ _, fun a ha b' hb => by rw [List.mem_singleton.mp hb]; exact I.lt a ha⟩
  ·rcases List.mem_append.mp hl with h | h
   ·exact Nat.lt_succ_of_lt (I.lt l h)
   ·rw [List.mem_singleton.mp h]; omega
  ·rw [ll] at hi
   unfold ro
   rcases at_ i (by omega) with ⟨h1, h2⟩ | ⟨h1, k, k1, k2, k3, k4, k5⟩
   ·rw [h2, h1, getD_app2]
    exact p3
   ·have hi' : i < leads.length := by omega
    obtain ⟨d, d0, hd⟩ := wcol_at (lenK k k1) lenP c
    have := hd (leads.getD i 0)
    rw [k3, getD_app1 hi']
    have e1 : cf (left.getD p []) (leads.getD i 0) = 0 := I.oth i p hi' p2 (by omega)
    have e2 : cf (left.getD k []) (leads.getD i 0) ≠ 0 := by rw [k4 hi']; exact I.own i hi'
    rw [e1, Int.mul_zero, Int.sub_zero] at this
    intro z
    rw [z, Int.mul_zero] at this
    exact (Int.mul_eq_zero.mp this.symm).elim p3 e2
  ·rw [ll] at hi
   rw [hL] at hk
   unfold ro
   by_cases hic : i = leads.length
   ·rw [hic, getD_app2]
    rcases at_ k hk with ⟨h1, h2⟩ | ⟨h1, q, k1, k2, k3, k4, k5⟩
    ·omega
    ·obtain ⟨d, d0, hd⟩ := wcol_at (lenK q k1) lenP c
     have := hd c
     rw [k3]
     rw [Int.mul_comm (cf (left.getD q []) c), Int.sub_self] at this
     exact (Int.mul_eq_zero.mp this).resolve_left (by omega)
   ·have hi' : i < leads.length := by omega
    rw [getD_app1 hi']
    have e1 : cf (left.getD p []) (leads.getD i 0) = 0 := I.oth i p hi' p2 (by omega)
    rcases at_ k hk with ⟨h1, h2⟩ | ⟨h1, q, k1, k2, k3, k4, k5⟩
    ·rw [h2]; exact e1
    ·obtain ⟨d, d0, hd⟩ := wcol_at (lenK q k1) lenP c
     have := hd (leads.getD i 0)
     have hqi : q ≠ i := by
      rcases Nat.lt_or_ge k leads.length with z | z
      ·rw [k4 z]; omega
      ·have := k5 (by omega); omega
     rw [k3]
     rw [e1, show cf (left.getD q []) (leads.getD i 0) = 0 from I.oth i q hi' k1 hqi, Int.mul_zero, Int.mul_zero, Int.sub_self] at this
     exact (Int.mul_eq_zero.mp this).resolve_left (by omega)
  ·rw [ll] at hi
   unfold ro
   rcases at_ i (by omega) with ⟨h1, h2⟩ | ⟨h1, k, k1, k2, k3, k4, k5⟩
   ·rw [h1, getD_app2] at hj
    rw [h2]
    exact I.low p j (by omega) p2 hj
   ·have hi' : i < leads.length := by omega
    rw [getD_app1 hi'] at hj
    have hc := I.lt (leads.getD i 0) (getD_mem hi')
    obtain ⟨d, d0, hd⟩ := wcol_at (lenK k k1) lenP c
    have := hd j
    rw [k3]
    rw [show cf (left.getD p []) j = 0 from I.low p j p1 p2 (by omega), show cf (left.getD k []) j = 0 by rw [k4 hi']; exact I.bef i j hi' hj, Int.mul_zero, Int.mul_zero, Int.sub_self] at this
    exact (Int.mul_eq_zero.mp this).resolve_left (by omega)
  ·rw [ll] at h1
   rw [hL] at h2
   unfold ro
   rcases at_ k h2 with ⟨h4, _⟩ | ⟨h4, q, k1, k2, k3, k4, k5⟩
   ·omega
   ·obtain ⟨d, d0, hd⟩ := wcol_at (lenK q k1) lenP c
    have := hd j
    rw [k3]
    rcases Nat.lt_or_ge j c with z | z
    ·rw [show cf (left.getD p []) j = 0 from I.low p j p1 p2 z, show cf (left.getD q []) j = 0 from I.low q j (k5 (by omega)) k1 z, Int.mul_zero, Int.mul_zero, Int.sub_self] at this
     exact (Int.mul_eq_zero.mp this).resolve_left (by omega)
    ·have hj : j = c := by omega
     rw [hj, Int.mul_comm (cf (left.getD q []) c), Int.sub_self] at this
     rw [hj]
     exact (Int.mul_eq_zero.mp this).resolve_left (by omega)
  ·rw [ll]
   show x.natAbs < 2 ^ (2 * bdE b leads.length + 1)
   have up1 : ∀ y : Int, y.natAbs < 2 ^ bdE b leads.length → y.natAbs < 2 ^ (2 * bdE b leads.length + 1) := fun y hy => Nat.lt_of_lt_of_le hy (Nat.pow_le_pow_right (by decide) (by omega))
   rcases nextL_mem p2 p1 hr with e | ⟨k, k1, _, e⟩
   ·rw [e] at hx
    exact up1 x (I.bit _ (getD_mem p2) x hx)
   ·rw [e] at hx
    obtain ⟨y, hy, hxy⟩ := wd_abs hx
    refine Nat.lt_of_le_of_lt hxy ?_
    obtain ⟨j, hj, e2⟩ := List.getElem_of_mem hy
    have e3 : y = cf (left.getD p []) c * cf (left.getD k []) j - cf (left.getD k []) c * cf (left.getD p []) j := by
     have := zw_at (lenK k k1) lenP (fun a b => (left.getD p []).getD c 0 * a - (left.getD k []).getD c 0 * b) (by simp) j
     unfold cf at this ⊢
     rw [← this, List.getD_eq_getElem?_getD, List.getElem?_eq_getElem hj]
     exact e2.symm
    have a1 := lt_pow_mul (bitK p p2 c) (bitK k k1 j)
    have a2 := lt_pow_mul (bitK k k1 c) (bitK p p2 j)
    unfold ro at a1 a2
    rw [e3, Nat.pow_succ]
    omega
theorem Rd.all {b n : Nat} {rows : List (List Int)} (hl : ∀ r ∈ rows, r.length = n) (hb : ∀ r ∈ rows, ∀ x ∈ r, x.natAbs < 2 ^ b) : ∀ c, Rd b n rows c (red rows c).1 (red rows c).2
 | 0 => ⟨hl, rfl, Nat.zero_le _, fun _ h => h, fun _ h => h, List.Pairwise.nil, (fun l h => nomatch h), fun i h => absurd h (Nat.not_lt_zero i), fun i k h => absurd h (Nat.not_lt_zero i), fun i j h => absurd h (Nat.not_lt_zero i), fun k j _ _ h => absurd h (Nat.not_lt_zero j), hb⟩
 | c + 1 => (Rd.all hl hb c).step
end EL
namespace EL
noncomputable def dotF : Nat → (Nat → Int) → (Nat → Int) → Int
 | 0, _, _ => 0
 | n + 1, u, v => dotF n u v + u n * v n
theorem dotF_add (u v w : Nat → Int) : ∀ n, dotF n u (fun j => v j + w j) = dotF n u v + dotF n u w
 | 0 => rfl
 | n + 1 => by
  unfold dotF
  rw [dotF_add u v w n, Int.mul_add]
  omega
theorem dotF_smul (u v : Nat → Int) (c : Int) : ∀ n, dotF n u (fun j => c * v j) = c * dotF n u v
 | 0 => (Int.mul_zero c).symm
 | n + 1 => by
  unfold dotF
  rw [dotF_smul u v c n, Int.mul_add, Int.mul_left_comm]
theorem dotF_comm (u v : Nat → Int) : ∀ n, dotF n u v = dotF n v u
 | 0 => rfl
 | n + 1 => by
  unfold dotF
  rw [dotF_comm u v n, Int.mul_comm]
theorem dotF_sp {R : List (List Int)} {u v : Nat → Int} {n : Nat} (h : ∀ r ∈ R, dotF n u (cf r) = 0) (p : SpR R v) : dotF n u v = 0 :=
 Sp.nought (dotF n u) (fun a b => dotF_add u a b n) (fun c a => dotF_smul u a c n) (fun v ⟨r, hr, e⟩ => e ▸ h r hr) p
theorem dotF_none {u v : Nat → Int} : ∀ n, (∀ j, j < n → u j * v j = 0) → dotF n u v = 0
 | 0, _ => rfl
 | n + 1, h => by
  unfold dotF
  rw [dotF_none n (fun j hj => h j (by omega)), h n (by omega)]
  rfl
theorem dotF_one {u v : Nat → Int} {a : Nat} : ∀ n, a < n → (∀ j, j < n → j ≠ a → u j * v j = 0) → dotF n u v = u a * v a
 | 0, ha, _ => absurd ha (Nat.not_lt_zero a)
 | n + 1, ha, h => by
  unfold dotF
  by_cases e : a = n
  ·rw [dotF_none n fun j hj => h j (by omega) (by omega), e, Int.zero_add]
  ·rw [dotF_one n (by omega) (fun j hj q => h j (by omega) q), h n (by omega) (by omega), Int.add_zero]
theorem dotF_two {u v : Nat → Int} {a b : Nat} (hab : a ≠ b) : ∀ n, a < n → b < n → (∀ j, j < n → j ≠ a → j ≠ b → u j * v j = 0) → dotF n u v = u a * v a + u b * v b
 | 0, ha, _, _ => absurd ha (Nat.not_lt_zero a)
 | n + 1, ha, hb, h => by
  unfold dotF
  by_cases e : a = n
  ·rw [dotF_one n (a := b) (by omega) (fun j hj q => h j (by omega) (by omega) q), e]
   omega
  ·by_cases e2 : b = n
   ·rw [dotF_one n (a := a) (by omega) (fun j hj q => h j (by omega) q (by omega)), e2]
   ·rw [dotF_two hab n (by omega) (by omega) (fun j hj q q2 => h j (by omega) q q2), h n (by omega) (by omega) (by omega), Int.add_zero]
noncomputable def cm (a b : Int) : Int := ((a * b).natAbs : Int) / (gcdL [a, b] : Int)
theorem gcdL_two (a b : Int) : gcdL [a, b] = Nat.gcd a.natAbs b.natAbs := by
 show Nat.gcd (Nat.gcd 0 a.natAbs) b.natAbs = _
 rw [Nat.gcd_zero_left]
theorem cm_eq (a b : Int) : cm a b = (Nat.lcm a.natAbs b.natAbs : Nat) := by
 unfold cm Nat.lcm
 rw [gcdL_two, Int.natAbs_mul]
 rfl
theorem cm_pos {a b : Int} (ha : a ≠ 0) (hb : b ≠ 0) : 0 < cm a b := by
 rw [cm_eq]
 have := Nat.lcm_pos (m := a.natAbs) (n := b.natAbs) (by omega) (by omega)
 omega
theorem cm_left (a b : Int) : a ∣ cm a b := by
 rw [cm_eq]
 exact Int.ofNat_dvd_right.mpr (Nat.dvd_lcm_left _ _)
theorem cm_right (a b : Int) : b ∣ cm a b := by
 rw [cm_eq]
 exact Int.ofNat_dvd_right.mpr (Nat.dvd_lcm_right _ _)
theorem cm_abs (a b : Int) : (cm a b).natAbs ≤ a.natAbs * b.natAbs := by
 rw [cm_eq, Int.natAbs_natCast]
 exact Nat.div_le_self _ _
noncomputable def botK (rows : List (List Int)) (leads : List Nat) : Nat → Int
 | 0 => 1
 | k + 1 => cm (botK rows leads k) (ro rows k (leads.getD k 0))
noncomputable def numV (rows : List (List Int)) (leads : List Nat) (free k : Nat) (bt : Int) : Int := -ro rows k free * (bt.fdiv (ro rows k (leads.getD k 0)))
noncomputable def numK (n : Nat) (rows : List (List Int)) (leads : List Nat) (free : Nat) (bt : Int) : Nat → List Int
 | 0 => (List.replicate n 0).set free bt
 | k + 1 => (numK n rows leads free bt k).set (leads.getD k 0) (numV rows leads free k bt)
theorem bot_all {rows : List (List Int)} {leads : List Nat} {m : Nat} (h : ∀ i, i < m → ro rows i (leads.getD i 0) ≠ 0) : ∀ k, k ≤ m → 0 < botK rows leads k ∧ ∀ i, i < k → ro rows i (leads.getD i 0) ∣ botK rows leads k
 | 0, _ => ⟨by unfold botK; decide, fun i h => absurd h (Nat.not_lt_zero i)⟩
 | k + 1, hk => by
  obtain ⟨h1, h2⟩ := bot_all h k (by omega)
  refine ⟨cm_pos (by omega) (h k (by omega)), fun i hi => ?_⟩
  rcases Nat.lt_or_ge i k with z | z
  ·exact Int.dvd_trans (h2 i z) (cm_left _ _)
  ·have : i = k := by omega
   rw [this]
   exact cm_right _ _
theorem bot_bit {rows : List (List Int)} {leads : List Nat} {m B : Nat} (h : ∀ i, i < m → (ro rows i (leads.getD i 0)).natAbs < 2 ^ B) : ∀ k, k ≤ m → (botK rows leads k).natAbs ≤ 2 ^ (k * B)
 | 0, _ => by simp [botK]
 | k + 1, hk => by
  refine Nat.le_trans (cm_abs _ _) ?_
  rw [Nat.succ_mul, Nat.pow_add]
  exact Nat.mul_le_mul (bot_bit h k (by omega)) (Nat.le_of_lt (h k (by omega)))
theorem numK_len {n : Nat} {rows : List (List Int)} {leads : List Nat} {free : Nat} {bt : Int} : ∀ k, (numK n rows leads free bt k).length = n
 | 0 => by unfold numK; rw [List.length_set, List.length_replicate]
 | k + 1 => by unfold numK; rw [List.length_set, numK_len k]
theorem cf_set {xs : List Int} {i : Nat} {v : Int} (h : i < xs.length) (j : Nat) : cf (xs.set i v) j = if i = j then v else cf xs j := by
 unfold cf
 rw [List.getD_eq_getElem?_getD, List.getElem?_set]
 split
 ·rfl
 ·rw [List.getD_eq_getElem?_getD]
theorem cf_rep (n j : Nat) : cf (List.replicate n 0) j = 0 := by
 unfold cf
 rw [List.getD_eq_getElem?_getD, List.getElem?_replicate]
 split <;> rfl
theorem numK_at {n : Nat} {rows : List (List Int)} {leads : List Nat} {free : Nat} {bt : Int} (hf : free < n) : ∀ k, k ≤ leads.length → (∀ i, i < k → leads.getD i 0 < n ∧ leads.getD i 0 ≠ free) → (∀ i j, i < j → j < k → leads.getD i 0 ≠ leads.getD j 0) →
  cf (numK n rows leads free bt k) free = bt ∧ (∀ i, i < k → cf (numK n rows leads free bt k) (leads.getD i 0) = numV rows leads free i bt) ∧ ∀ j, j ≠ free → (∀ i, i < k → j ≠ leads.getD i 0) → cf (numK n rows leads free bt k) j = 0
 | 0, _, _, _ => by
  unfold numK
  refine ⟨?_, fun i h => absurd h (Nat.not_lt_zero i), fun j hj _ => ?_⟩
  ·rw [cf_set (by rw [List.length_replicate]; exact hf), if_pos rfl]
  ·rw [cf_set (by rw [List.length_replicate]; exact hf), if_neg (fun e => hj e.symm), cf_rep]
 | k + 1, hk, h1, h2 => by
  obtain ⟨a1, a2, a3⟩ := numK_at (rows := rows) (bt := bt) hf k (by omega) (fun i hi => h1 i (by omega)) (fun i j hi hj => h2 i j hi (by omega))
  obtain ⟨b1, b2⟩ := h1 k (by omega)
  have hl : leads.getD k 0 < (numK n rows leads free bt k).length := by rw [numK_len]; exact b1
  unfold numK
  refine ⟨?_, fun i hi => ?_, fun j hj hq => ?_⟩
  ·rw [cf_set hl, if_neg b2]; exact a1
  ·rw [cf_set hl]
   by_cases e : i = k
   ·rw [e, if_pos rfl]
   ·rw [if_neg (fun q => h2 i k (by omega) (by omega) q.symm)]
    exact a2 i (by omega)
  ·rw [cf_set hl, if_neg (fun q => hq k (by omega) q.symm)]
   exact a3 j hj fun i hi => hq i (by omega)
theorem fdiv_mul {a b : Int} (h0 : a ≠ 0) (h : a ∣ b) : a * b.fdiv a = b := by
 rw [Int.fdiv_eq_ediv_of_dvd h]
 exact Int.mul_ediv_cancel' h
noncomputable def vecF (n : Nat) (rows : List (List Int)) (leads : List Nat) (free : Nat) : List Int := wd (numK n rows leads free (botK rows leads leads.length) leads.length)
theorem pw_lt {leads : List Nat} (h : leads.Pairwise (· < ·)) {i j : Nat} (hij : i < j) (hj : j < leads.length) : leads.getD i 0 < leads.getD j 0 := by
 rw [List.getD_eq_getElem?_getD, List.getD_eq_getElem?_getD, List.getElem?_eq_getElem (by omega), List.getElem?_eq_getElem hj]
 exact List.pairwise_iff_getElem.mp h i j (by omega) hj hij
structure Vf (n : Nat) (rows : List (List Int)) (leads : List Nat) (f : Nat) (v : List Int) : Prop where
 len : v.length = n
 own : cf v f ≠ 0
 oth : ∀ g, g ≠ f → g ∉ leads → cf v g = 0
 ker : ∀ r ∈ rows, dotF n (cf v) (cf r) = 0
 gcd : gcdL v = 1
 aft : ∀ j, f < j → cf v j = 0
 pos : 0 < cf v f
theorem bdE_pos {b : Nat} (h : 1 ≤ b) : ∀ k, 1 ≤ bdE b k
 | 0 => h
 | k + 1 => by unfold bdE; omega
theorem Rd.vec {b n : Nat} (hb : 1 ≤ b) {rows left : List (List Int)} {leads : List Nat} (I : Rd b n rows n left leads) {f : Nat} (hf : f < n) (hn : f ∉ leads) : Vf n rows leads f (vecF n left leads f) ∧ ∀ x ∈ vecF n left leads f, x.natAbs < 2 ^ ((leads.length + 1) * bdE b leads.length) := by
 have B := bot_all (rows := left) (leads := leads) (m := leads.length) I.own leads.length (Nat.le_refl _)
 have mm : ∀ i, i < leads.length → leads.getD i 0 ∈ leads := fun i hi => getD_mem hi
 have A := numK_at (rows := left) (leads := leads) (bt := botK left leads leads.length) hf leads.length (Nat.le_refl _) (fun i hi => ⟨I.lt _ (mm i hi), fun e => hn (e ▸ mm i hi)⟩) (fun i j hij hj => Nat.ne_of_lt (pw_lt I.up hij hj))
 obtain ⟨A1, A2, A3⟩ := A
 have nl := numK_len (n := n) (rows := left) (leads := leads) (free := f) (bt := botK left leads leads.length) leads.length
 have bitR : ∀ k, k < left.length → ∀ j, (ro left k j).natAbs < 2 ^ bdE b leads.length := fun k hk j => cf_bit (I.bit _ (getD_mem hk)) j
 have BB := bot_bit (rows := left) (leads := leads) (m := leads.length) (B := bdE b leads.length) (fun i hi => bitR i (Nat.lt_of_lt_of_le hi I.le) _) leads.length (Nat.le_refl _)
 unfold vecF
 generalize hN : numK n left leads f (botK left leads leads.length) leads.length = N at *
 have up : ∀ j, dv N * cf (wd N) j = cf N j := wd_at N
 have dp := dv_pos N
 have rowk : ∀ i, i < left.length → dotF n (cf N) (cf (left.getD i [])) = 0 := fun i hi => by
  by_cases h : i < leads.length
  ·have hl := I.lt _ (mm i h)
   have hne : leads.getD i 0 ≠ f := fun e => hn (e ▸ mm i h)
   rw [dotF_two hne n hl hf ?_, A2 i h, A1]
   ·unfold numV
    have := fdiv_mul (I.own i h) (B.2 i h)
    show -ro left i f * _ * ro left i (leads.getD i 0) + _ * ro left i f = 0
    rw [Int.mul_assoc, Int.mul_comm (Int.fdiv _ _), this, Int.neg_mul, Int.mul_comm (ro left i f)]
    omega
   ·intro j hj q1 q2
    by_cases e : ∃ k, k < leads.length ∧ j = leads.getD k 0
    ·obtain ⟨k, hk, e⟩ := e
     rw [e]
     have : ro left i (leads.getD k 0) = 0 := I.oth k i hk hi (fun z => q1 (by rw [e, z]))
     show _ * ro left i _ = 0
     rw [this, Int.mul_zero]
    ·rw [A3 j q2 fun k hk z => e ⟨k, hk, z⟩, Int.zero_mul]
  ·refine dotF_none n fun j hj => ?_
   show _ * ro left i j = 0
   rw [I.low i j (by omega) hi hj, Int.mul_zero]
 refine ⟨⟨?_, ?_, ?_, ?_, ?_, ?_, ?_⟩, ?_⟩
 ·rw [wd_len, nl]
 ·intro z
  have := up f
  rw [z, Int.mul_zero, A1] at this
  omega
 ·intro g h1 h2
  have := up g
  rw [A3 g h1 fun i hi e => h2 (e ▸ mm i hi)] at this
  exact (Int.mul_eq_zero.mp this).resolve_left (by omega)
 ·intro r hr
  have h1 : ∀ r ∈ left, dotF n (cf (wd N)) (cf r) = 0 := fun r hr => by
   obtain ⟨i, hi, e⟩ := mem_getD hr
   have h := rowk i hi
   rw [show cf N = (fun j => dv N * cf (wd N) j) from funext fun j => (up j).symm, dotF_comm, dotF_smul, e, dotF_comm] at h
   exact (Int.mul_eq_zero.mp h).resolve_left (by omega)
  exact dotF_sp h1 (I.sp2 _ (SpR.mem hr))
 ·refine gcd_wd ⟨cf N f, ?_, by rw [A1]; omega⟩
  exact getD_mem (by rw [nl]; exact hf)
 ·intro j hj
  have := up j
  have z : cf N j = 0 := by
   by_cases e : ∃ k, k < leads.length ∧ j = leads.getD k 0
   ·obtain ⟨k, hk, e⟩ := e
    rw [e, A2 k hk]
    unfold numV
    rw [I.bef k f hk (by omega), Int.neg_zero, Int.zero_mul]
   ·exact A3 j (by omega) fun k hk z => e ⟨k, hk, z⟩
  rw [z] at this
  exact (Int.mul_eq_zero.mp this).resolve_left (by omega)
 ·have := up f
  rw [A1] at this
  rcases Int.lt_trichotomy 0 (cf (wd N) f) with z | z | z
  ·exact z
  ·rw [← z, Int.mul_zero] at this
   have := B.1
   omega
  ·have h1 := Int.mul_neg_of_pos_of_neg dp z
   have := B.1
   omega
 ·intro x hx
  obtain ⟨y, hy, hxy⟩ := wd_abs hx
  refine Nat.lt_of_le_of_lt hxy ?_
  obtain ⟨j, hj, e⟩ := List.getElem_of_mem hy
  have ey : y = cf N j := by
   unfold cf
   rw [List.getD_eq_getElem?_getD, List.getElem?_eq_getElem hj, e]
   rfl
  have big : 2 ^ (leads.length * bdE b leads.length) ≤ 2 ^ ((leads.length + 1) * bdE b leads.length) := Nat.pow_le_pow_right (by decide) (Nat.mul_le_mul_right _ (by omega))
  rw [ey]
  by_cases q : j = f
  ·rw [q, A1]
   refine Nat.lt_of_le_of_lt BB (Nat.pow_lt_pow_right (by decide) ?_)
   rw [Nat.succ_mul]
   have := bdE_pos hb leads.length
   omega
  ·by_cases e : ∃ k, k < leads.length ∧ j = leads.getD k 0
   ·obtain ⟨k, hk, e⟩ := e
    rw [e, A2 k hk]
    unfold numV
    rw [Int.natAbs_mul, Int.natAbs_neg, Nat.succ_mul, Nat.pow_add, Nat.mul_comm]
    refine Nat.mul_lt_mul_of_le_of_lt ?_ (bitR k (Nat.lt_of_lt_of_le hk I.le) f) (Nat.two_pow_pos _)
    refine Nat.le_trans ?_ BB
    have := fdiv_mul (I.own k hk) (B.2 k hk)
    have q2 := I.own k hk
    rw [← congrArg Int.natAbs this, Int.natAbs_mul]
    exact Nat.le_mul_of_pos_left _ (by omega)
   ·rw [A3 j q fun k hk z => e ⟨k, hk, z⟩]
    exact Nat.two_pow_pos _
theorem ro_take {left : List (List Int)} {m i : Nat} (h : i < m) (j : Nat) : ro (left.take m) i j = ro left i j := by
 unfold ro
 rw [List.getD_eq_getElem?_getD, List.getElem?_take, if_pos h, List.getD_eq_getElem?_getD]
theorem bot_take {left : List (List Int)} {leads : List Nat} {m : Nat} : ∀ k, k ≤ m → botK (left.take m) leads k = botK left leads k
 | 0, _ => rfl
 | k + 1, h => by
  unfold botK
  rw [bot_take k (by omega), ro_take (by omega)]
theorem num_take {n : Nat} {left : List (List Int)} {leads : List Nat} {m f : Nat} {bt : Int} : ∀ k, k ≤ m → numK n (left.take m) leads f bt k = numK n left leads f bt k
 | 0, _ => rfl
 | k + 1, h => by
  unfold numK numV
  rw [num_take k (by omega), ro_take (by omega), ro_take (by omega)]
theorem vec_take {n : Nat} {left : List (List Int)} {leads : List Nat} {f : Nat} : vecF n (left.take leads.length) leads f = vecF n left leads f := by
 unfold vecF
 rw [bot_take _ (Nat.le_refl _), num_take _ (Nat.le_refl _)]
end EL
namespace EL
noncomputable def lrow (lead : List Int) (p : Nat) (r : List Int) : List Int := (List.range r.length).map fun k => cf r k * cf lead p - cf lead k * cf r p
noncomputable def lrH (p : Nat) (left : List (List Int)) : List (List Int) := left.filter fun r => decide (cf r p ≠ 0)
noncomputable def lrR (p : Nat) (left : List (List Int)) : List (List Int) := left.filter fun r => decide (cf r p = 0)
noncomputable def lrN (p : Nat) (left : List (List Int)) : List (List Int) := match lrH p left with
 | [] => lrR p left
 | lead :: hs => lrR p left ++ hs.map (lrow lead p)
noncomputable def lrF (p : Nat) (left : List (List Int)) : Nat := if lrH p left = [] then 0 else 1
noncomputable def lr (rows : List (List Int)) : Nat → List (List Int) × Nat
 | 0 => (rows, 0)
 | p + 1 => (lrN p (lr rows p).1, (lr rows p).2 + lrF p (lr rows p).1)
noncomputable def lrank (rows : List (List Int)) : Nat := (lr rows (match rows with | [] => 0 | r :: _ => r.length)).2
theorem lrow_len (lead : List Int) (p : Nat) (r : List Int) : (lrow lead p r).length = r.length := by
 unfold lrow
 rw [List.length_map, List.length_range]
theorem lrow_at {lead r : List Int} {p n : Nat} (h1 : r.length = n) (h2 : lead.length = n) (j : Nat) : cf (lrow lead p r) j = cf lead p * cf r j - cf r p * cf lead j := by
 by_cases hj : j < n
 ·show (lrow lead p r).getD j 0 = _
  unfold lrow
  rw [List.getD_eq_getElem?_getD, List.getElem?_map, List.getElem?_range (by omega)]
  show cf r j * cf lead p - cf lead j * cf r p = _
  rw [Int.mul_comm (cf r j), Int.mul_comm (cf lead j)]
 ·have e1 : cf (lrow lead p r) j = 0 := getD_out (by rw [lrow_len]; omega)
  have e2 : cf r j = 0 := getD_out (by omega)
  have e3 : cf lead j = 0 := getD_out (by omega)
  rw [e1, e2, e3, Int.mul_zero, Int.mul_zero]
  rfl
theorem lrN_mem {p : Nat} {left : List (List Int)} {r : List Int} (h : r ∈ lrN p left) : (r ∈ left ∧ cf r p = 0) ∨ ∃ lead q, lead ∈ left ∧ q ∈ left ∧ cf lead p ≠ 0 ∧ r = lrow lead p q := by
 unfold lrN at h
 have hH : ∀ x, x ∈ lrH p left → x ∈ left ∧ cf x p ≠ 0 := fun x hx => by
  have := List.mem_filter.mp hx
  exact ⟨this.1, of_decide_eq_true this.2⟩
 have hR : ∀ x, x ∈ lrR p left → x ∈ left ∧ cf x p = 0 := fun x hx => by
  have := List.mem_filter.mp hx
  exact ⟨this.1, of_decide_eq_true this.2⟩
 cases e : lrH p left with
 | nil => rw [e] at h; exact .inl (hR r h)
 | cons lead hs =>
  rw [e] at h
  rcases List.mem_append.mp h with h | h
  ·exact .inl (hR r h)
  ·obtain ⟨q, hq, rfl⟩ := List.mem_map.mp h
   exact .inr ⟨lead, q, (hH lead (by rw [e]; exact List.mem_cons_self)).1, (hH q (by rw [e]; exact List.mem_cons_of_mem _ hq)).1, (hH lead (by rw [e]; exact List.mem_cons_self)).2, rfl⟩
structure Lr (b n p : Nat) (left : List (List Int)) : Prop where
 len : ∀ r ∈ left, r.length = n
 low : ∀ r ∈ left, ∀ j, j < p → cf r j = 0
 bit : ∀ r ∈ left, ∀ x ∈ r, x.natAbs < 2 ^ bdE b p
theorem Lr.step {b n p : Nat} {left : List (List Int)} (I : Lr b n p left) : Lr b n (p + 1) (lrN p left) := by
 refine ⟨fun r hr => ?_, fun r hr j hj => ?_, fun r hr x hx => ?_⟩
 ·rcases lrN_mem hr with h | ⟨lead, q, h1, h2, _, rfl⟩
  ·exact I.len r h.1
  ·rw [lrow_len]; exact I.len q h2
 ·rcases lrN_mem hr with h | ⟨lead, q, h1, h2, _, rfl⟩
  ·rcases Nat.lt_or_ge j p with z | z
   ·exact I.low r h.1 j z
   ·rw [show j = p by omega]; exact h.2
  ·rw [lrow_at (I.len q h2) (I.len lead h1)]
   rcases Nat.lt_or_ge j p with z | z
   ·rw [I.low q h2 j z, I.low lead h1 j z, Int.mul_zero, Int.mul_zero]; rfl
   ·rw [show j = p by omega, Int.mul_comm, Int.sub_self]
 ·have hb : bdE b (p + 1) = 2 * bdE b p + 1 := rfl
  rw [hb]
  rcases lrN_mem hr with h | ⟨lead, q, h1, h2, _, rfl⟩
  ·exact Nat.lt_of_lt_of_le (I.bit r h.1 x hx) (Nat.pow_le_pow_right (by decide) (by omega))
  ·obtain ⟨j, hj, e⟩ := List.getElem_of_mem hx
   have ex : x = cf (lrow lead p q) j := by
    unfold cf
    rw [List.getD_eq_getElem?_getD, List.getElem?_eq_getElem hj, e]
    rfl
   rw [ex, lrow_at (I.len q h2) (I.len lead h1), Nat.pow_succ]
   have a1 := lt_pow_mul (cf_bit (I.bit lead h1) p) (cf_bit (I.bit q h2) j)
   have a2 := lt_pow_mul (cf_bit (I.bit q h2) p) (cf_bit (I.bit lead h1) j)
   omega
theorem Lr.all {b n : Nat} {rows : List (List Int)} (hl : ∀ r ∈ rows, r.length = n) (hb : ∀ r ∈ rows, ∀ x ∈ r, x.natAbs < 2 ^ b) : ∀ p, Lr b n p (lr rows p).1
 | 0 => ⟨hl, fun r _ j hj => absurd hj (Nat.not_lt_zero j), hb⟩
 | p + 1 => (Lr.all hl hb p).step
noncomputable def Tg (n : Nat) (ts : List (List Int × Nat)) : Prop := (ts.map Prod.snd).Nodup ∧ (∀ x ∈ ts, x.1.length = n ∧ x.2 < n ∧ cf x.1 x.2 ≠ 0) ∧ ∀ x ∈ ts, ∀ y ∈ ts, x.2 ≠ y.2 → cf x.1 y.2 = 0
theorem Tg.step {n p : Nat} {ts : List (List Int × Nat)} (T : Tg n ts) : ∃ ts', Tg n ts' ∧ ts'.map Prod.fst = lrN p (ts.map Prod.fst) ∧ ts'.length + lrF p (ts.map Prod.fst) = ts.length := by
 obtain ⟨t1, t2, t3⟩ := T
 have eH : lrH p (ts.map Prod.fst) = (ts.filter fun x => decide (cf x.1 p ≠ 0)).map Prod.fst := by
  unfold lrH; rw [List.filter_map]; rfl
 have eR : lrR p (ts.map Prod.fst) = (ts.filter fun x => !decide (cf x.1 p ≠ 0)).map Prod.fst := by
  unfold lrR; rw [List.filter_map]
  congr 1
  refine List.filter_congr fun x _ => ?_
  simp
 have pm : (ts.filter (fun x => decide (cf x.1 p ≠ 0)) ++ ts.filter (fun x => !decide (cf x.1 p ≠ 0))).Perm ts := List.filter_append_perm _ _
 have mH : ∀ x, x ∈ ts.filter (fun x => decide (cf x.1 p ≠ 0)) → x ∈ ts ∧ cf x.1 p ≠ 0 := fun x hx => ⟨(List.mem_filter.mp hx).1, of_decide_eq_true (List.mem_filter.mp hx).2⟩
 have mR : ∀ x, x ∈ ts.filter (fun x => !decide (cf x.1 p ≠ 0)) → x ∈ ts := fun x hx => (List.mem_filter.mp hx).1
 generalize hA : ts.filter (fun x => decide (cf x.1 p ≠ 0)) = A at *
 generalize hB : ts.filter (fun x => !decide (cf x.1 p ≠ 0)) = B at *
 have nd : ((A ++ B).map Prod.snd).Nodup := (pm.map Prod.snd).nodup_iff.mpr t1
 have ln := pm.length_eq
 rw [List.length_append] at ln
 unfold lrN lrF
 rw [eH, eR]
 cases A with
 | nil =>
  refine ⟨B, ⟨by simpa using nd, fun x hx => t2 x (mR x hx), fun x hx y hy => t3 x (mR x hx) y (mR y hy)⟩, rfl, by simpa using ln⟩
 | cons l hs =>
  obtain ⟨l1, l2⟩ := mH l List.mem_cons_self
  rw [List.cons_append, List.map_cons, List.nodup_cons] at nd
  have nl : ∀ x, x ∈ hs ++ B → x.2 ≠ l.2 := fun x hx e => nd.1 (List.mem_map.mpr ⟨x, hx, e⟩)
  have mS : ∀ x, x ∈ hs → x ∈ ts := fun x hx => (mH x (List.mem_cons_of_mem _ hx)).1
  have key : ∀ z, z ∈ B ++ hs.map (fun x => (lrow l.1 p x.1, x.2)) → ∃ x, x ∈ hs ++ B ∧ x ∈ ts ∧ z.2 = x.2 ∧ z.1.length = n ∧ (∀ j, cf l.1 j = 0 → (cf z.1 j = 0 ↔ cf x.1 j = 0)) := fun z hz => by
   rcases List.mem_append.mp hz with h | h
   ·exact ⟨z, List.mem_append.mpr (.inr h), mR z h, rfl, (t2 z (mR z h)).1, fun j _ => Iff.rfl⟩
   ·obtain ⟨x, hx, rfl⟩ := List.mem_map.mp h
    refine ⟨x, List.mem_append.mpr (.inl hx), mS x hx, rfl, ?_, fun j hj => ?_⟩
    ·rw [lrow_len]; exact (t2 x (mS x hx)).1
    ·show cf (lrow l.1 p x.1) j = 0 ↔ _
     rw [lrow_at (t2 x (mS x hx)).1 (t2 l l1).1, hj, Int.mul_zero, Int.sub_zero]
     exact ⟨fun h => (Int.mul_eq_zero.mp h).resolve_left l2, fun h => by rw [h, Int.mul_zero]⟩
  have l0 : ∀ x, x ∈ hs ++ B → x ∈ ts → cf l.1 x.2 = 0 := fun x h1 h2 => t3 l l1 x h2 fun e => nl x h1 e.symm
  refine ⟨B ++ hs.map (fun x => (lrow l.1 p x.1, x.2)), ⟨?_, fun z hz => ?_, fun z hz y hy hne => ?_⟩, ?_, ?_⟩
  ·rw [List.map_append, List.map_map]
   have nd2 := nd.2
   rw [List.map_append] at nd2
   exact (List.perm_append_comm.nodup_iff).mp nd2
  ·obtain ⟨x, x1, x2, x3, x4, x5⟩ := key z hz
   refine ⟨x4, by rw [x3]; exact (t2 x x2).2.1, ?_⟩
   rw [x3]
   intro e
   exact (t2 x x2).2.2 ((x5 _ (l0 x x1 x2)).mp e)
  ·obtain ⟨x, x1, x2, x3, x4, x5⟩ := key z hz
   obtain ⟨y', y1, y2, y3, _⟩ := key y hy
   rw [y3]
   exact (x5 _ (l0 y' y1 y2)).mpr (t3 x x2 y' y2 (by rw [← x3, ← y3]; exact hne))
  ·rw [List.map_append, List.map_map, List.map_cons]
   show _ = List.map Prod.fst B ++ List.map (lrow l.1 p) (List.map Prod.fst hs)
   rw [List.map_map]
   rfl
  ·rw [if_neg (by simp), List.length_append, List.length_map]
   rw [List.length_cons] at ln
   omega
theorem Tg.all {n : Nat} {ts : List (List Int × Nat)} (T : Tg n ts) : ∀ p, ∃ ts', Tg n ts' ∧ ts'.map Prod.fst = (lr (ts.map Prod.fst) p).1 ∧ ts'.length + (lr (ts.map Prod.fst) p).2 = ts.length
 | 0 => ⟨ts, T, rfl, rfl⟩
 | p + 1 => by
  obtain ⟨t1, T1, e1, l1⟩ := Tg.all T p
  obtain ⟨t2, T2, e2, l2⟩ := T1.step (p := p)
  refine ⟨t2, T2, ?_, ?_⟩
  ·rw [e2, e1]; rfl
  ·show t2.length + ((lr (ts.map Prod.fst) p).2 + lrF p (lr (ts.map Prod.fst) p).1) = _
   rw [← e1]
   omega
theorem Tg.rank {n : Nat} {ts : List (List Int × Nat)} (T : Tg n ts) : (lr (ts.map Prod.fst) n).2 = ts.length := by
 obtain ⟨t1, T1, e1, l1⟩ := T.all n
 have hl : ∀ r ∈ ts.map Prod.fst, r.length = n := fun r hr => by
  obtain ⟨x, hx, rfl⟩ := List.mem_map.mp hr
  exact (T.2.1 x hx).1
 obtain ⟨b, hb⟩ : ∃ b, ∀ r ∈ ts.map Prod.fst, ∀ x ∈ r, x.natAbs < 2 ^ b := by
  have one : ∀ r : List Int, ∃ b, ∀ x ∈ r, x.natAbs < 2 ^ b := fun r => by
   induction r with
   | nil => exact ⟨0, fun x h => nomatch h⟩
   | cons y r ih =>
    obtain ⟨b, hb⟩ := ih
    refine ⟨b + y.natAbs, fun x hx => ?_⟩
    rcases List.mem_cons.mp hx with rfl | hx
    ·exact Nat.lt_of_lt_of_le Nat.lt_two_pow_self (Nat.pow_le_pow_right (by decide) (by omega))
    ·exact Nat.lt_of_lt_of_le (hb x hx) (Nat.pow_le_pow_right (by decide) (by omega))
  generalize ts.map Prod.fst = R
  induction R with
  | nil => exact ⟨0, fun r h => nomatch h⟩
  | cons r R ih =>
   obtain ⟨b, hb⟩ := ih
   obtain ⟨b2, hb2⟩ := one r
   refine ⟨b + b2, fun q hq x hx => ?_⟩
   rcases List.mem_cons.mp hq with rfl | hq
   ·exact Nat.lt_of_lt_of_le (hb2 x hx) (Nat.pow_le_pow_right (by decide) (by omega))
   ·exact Nat.lt_of_lt_of_le (hb q hq x hx) (Nat.pow_le_pow_right (by decide) (by omega))
 have L := Lr.all hl hb n
 cases t1 with
 | nil => simpa using l1
 | cons x t1 =>
  have hx := T1.2.1 x List.mem_cons_self
  exact absurd (L.low x.1 (by rw [← e1]; exact List.mem_map.mpr ⟨x, List.mem_cons_self, rfl⟩) x.2 hx.2.1) hx.2.2
theorem Rd.lead_of {b n : Nat} (hb : 1 ≤ b) {rows left : List (List Int)} {leads : List Nat} (I : Rd b n rows n left leads) {v : Nat → Int} (hv : SpR rows v) {p : Nat} (hp : p < n) (h0 : ∀ j, j < p → v j = 0) (h1 : v p ≠ 0) : p ∈ leads := by
 refine Classical.byContradiction fun hn => h1 ?_
 obtain ⟨W, _⟩ := I.vec hb hp hn
 have e := dotF_sp W.ker hv
 rw [dotF_one n hp fun j _ hne => ?_] at e
 ·exact (Int.mul_eq_zero.mp e).resolve_left W.own
 ·rcases Nat.lt_or_gt_of_ne hne with z | z
  ·rw [h0 j z, Int.mul_zero]
  ·rw [W.aft j z, Int.zero_mul]
theorem lrN_sp {n p : Nat} {left : List (List Int)} (hl : ∀ r ∈ left, r.length = n) {v : Nat → Int} (hv : SpR left v) (h0 : v p = 0) : SpR (lrN p left) v := by
 unfold lrN
 have hH : ∀ x, x ∈ lrH p left ↔ x ∈ left ∧ cf x p ≠ 0 := fun x => by
  unfold lrH
  rw [List.mem_filter]
  simp
 have hR : ∀ x, x ∈ lrR p left ↔ x ∈ left ∧ cf x p = 0 := fun x => by
  unfold lrR
  rw [List.mem_filter]
  simp
 cases e : lrH p left with
 | nil =>
  refine SpR.le (fun r hr => SpR.mem ((hR r).mpr ⟨hr, ?_⟩)) hv
  refine Classical.byContradiction fun z => ?_
  have := (hH r).mpr ⟨hr, z⟩
  rw [e] at this
  exact nomatch this
 | cons lead hs =>
  obtain ⟨l1, l2⟩ := (hH lead).mp (by rw [e]; exact List.mem_cons_self)
  show SpR (lrR p left ++ hs.map (lrow lead p)) v
  have key : ∀ v, SpR left v → SpR (lrR p left ++ hs.map (lrow lead p)) (fun j => cf lead p * v j + (-v p) * cf lead j) := by
   intro v hv
   induction hv with
   | of h =>
    obtain ⟨r, hr, rfl⟩ := h
    by_cases z : cf r p = 0
    ·rw [z, Int.neg_zero]
     have : (fun j => cf lead p * cf r j + 0 * cf lead j) = fun j => cf lead p * cf r j := funext fun j => by rw [Int.zero_mul, Int.add_zero]
     rw [this]
     exact .smul _ (SpR.mem (List.mem_append.mpr (.inl ((hR r).mpr ⟨hr, z⟩))))
    ·have m := (hH r).mpr ⟨hr, z⟩
     rw [e] at m
     rcases List.mem_cons.mp m with q | q
     ·rw [q]
      have : (fun j => cf lead p * cf lead j + (-cf lead p) * cf lead j) = fun _ => 0 := funext fun j => by rw [Int.neg_mul]; omega
      rw [this]
      exact .zero
     ·have : (fun j => cf lead p * cf r j + (-cf r p) * cf lead j) = cf (lrow lead p r) := funext fun j => by rw [lrow_at (hl r hr) (hl lead l1), Int.neg_mul, Int.sub_eq_add_neg]
      rw [this]
      exact SpR.mem (List.mem_append.mpr (.inr (List.mem_map.mpr ⟨r, q, rfl⟩)))
   | zero =>
    have : (fun j => cf lead p * (0 : Int) + (-0) * cf lead j) = fun _ => 0 := funext fun j => by simp
    rw [this]
    exact .zero
   | @add u w _ _ a b =>
    have : (fun j => cf lead p * (u j + w j) + (-(u p + w p)) * cf lead j) = fun j => (cf lead p * u j + (-u p) * cf lead j) + (cf lead p * w j + (-w p) * cf lead j) := funext fun j => by
     rw [Int.mul_add, Int.neg_add, Int.add_mul]
     omega
    rw [this]
    exact .add a b
   | @smul u c _ a =>
    have : (fun j => cf lead p * (c * u j) + (-(c * u p)) * cf lead j) = fun j => c * (cf lead p * u j + (-u p) * cf lead j) := funext fun j => by
     rw [Int.mul_add, Int.mul_left_comm, Int.neg_mul, Int.neg_mul, Int.mul_neg, Int.mul_assoc]
    rw [this]
    exact .smul c a
   | @div u c hc _ a =>
    have : (fun j => cf lead p * (c * u j) + (-(c * u p)) * cf lead j) = fun j => c * (cf lead p * u j + (-u p) * cf lead j) := funext fun j => by
     rw [Int.mul_add, Int.mul_left_comm, Int.neg_mul, Int.neg_mul, Int.mul_neg, Int.mul_assoc]
    rw [this] at a
    exact .div hc a
  have := key v hv
  rw [h0, Int.neg_zero] at this
  refine .div l2 ?_
  have e2 : (fun j => cf lead p * v j + 0 * cf lead j) = fun j => cf lead p * v j := funext fun j => by rw [Int.zero_mul, Int.add_zero]
  rw [e2] at this
  exact this
theorem lrN_sub {n p : Nat} {left : List (List Int)} (hl : ∀ r ∈ left, r.length = n) {v : Nat → Int} (hv : SpR (lrN p left) v) : SpR left v := by
 refine SpR.le (fun r hr => ?_) hv
 rcases lrN_mem hr with h | ⟨lead, q, h1, h2, _, rfl⟩
 ·exact SpR.mem h.1
 ·exact Sp.lin (d := 1) (a := cf lead p) (b := -cf q p) (by decide) (SpR.mem h2) (SpR.mem h1) fun j => by rw [lrow_at (hl q h2) (hl lead h1), Int.neg_mul, Int.sub_eq_add_neg, Int.one_mul]
theorem Rd.rank_go {b n : Nat} (hb : 1 ≤ b) {rows left : List (List Int)} {leads : List Nat} (I : Rd b n rows n left leads) (hl : ∀ r ∈ rows, r.length = n) (hbt : ∀ r ∈ rows, ∀ x ∈ r, x.natAbs < 2 ^ b) : ∀ p, p ≤ n → (lr rows p).2 = ((List.range p).filter fun j => decide (j ∈ leads)).length ∧ (∀ v, SpR (lr rows p).1 v → SpR rows v) ∧ ∀ v, SpR rows v → (∀ j, j < p → v j = 0) → SpR (lr rows p).1 v
 | 0, _ => ⟨rfl, fun _ h => h, fun _ h _ => h⟩
 | p + 1, hp => by
  obtain ⟨a1, a2, a3⟩ := Rd.rank_go hb I hl hbt p (by omega)
  have L := Lr.all hl hbt p
  refine ⟨?_, fun v hv => a2 v (lrN_sub L.len hv), fun v hv h0 => lrN_sp L.len (a3 v hv fun j hj => h0 j (by omega)) (h0 p (by omega))⟩
  show (lr rows p).2 + lrF p (lr rows p).1 = _
  rw [a1, List.range_succ, List.filter_append, List.length_append]
  congr 1
  unfold lrF
  have hH : ∀ x, x ∈ lrH p (lr rows p).1 ↔ x ∈ (lr rows p).1 ∧ cf x p ≠ 0 := fun x => by
   unfold lrH
   rw [List.mem_filter]
   simp
  by_cases e : lrH p (lr rows p).1 = []
  ·rw [if_pos e]
   have : p ∉ leads := fun hm => by
    obtain ⟨i, hi, ei⟩ := List.getElem_of_mem hm
    have eg : leads.getD i 0 = p := by rw [List.getD_eq_getElem?_getD, List.getElem?_eq_getElem hi, ei]; rfl
    have h1 := I.own i hi
    have h2 : ∀ j, j < p → ro left i j = 0 := fun j hj => I.bef i j hi (by rw [eg]; exact hj)
    rw [eg] at h1
    have h3 := a3 _ (I.sp1 _ (SpR.mem (getD_mem (d := []) (Nat.lt_of_lt_of_le hi I.le)))) h2
    refine h1 (SpR.at0 (fun r hr => ?_) h3)
    refine Classical.byContradiction fun z => ?_
    have := (hH r).mpr ⟨hr, z⟩
    rw [e] at this
    exact nomatch this
   simp [this]
  ·rw [if_neg e]
   have : p ∈ leads := by
    obtain ⟨r, hr⟩ := List.exists_mem_of_ne_nil _ e
    obtain ⟨r1, r2⟩ := (hH r).mp hr
    exact I.lead_of hb (a2 _ (SpR.mem r1)) (by omega) (fun j hj => L.low r r1 j hj) r2
   simp [this]
theorem cnt_in {n : Nat} : ∀ {leads : List Nat}, leads.Nodup → (∀ l ∈ leads, l < n) → ((List.range n).filter fun j => decide (j ∈ leads)).length = leads.length := by
 induction n with
 | zero =>
  intro leads _ h
  cases leads with
  | nil => rfl
  | cons l _ => exact absurd (h l List.mem_cons_self) (Nat.not_lt_zero l)
 | succ n ih =>
  intro leads nd h
  rw [List.range_succ, List.filter_append, List.length_append]
  by_cases hm : n ∈ leads
  ·have e1 : (List.range n).filter (fun j => decide (j ∈ leads)) = (List.range n).filter (fun j => decide (j ∈ leads.erase n)) := List.filter_congr fun j hj => by
    have : j < n := List.mem_range.mp hj
    have q : j ≠ n := by omega
    exact decide_eq_decide.mpr ⟨fun h => nd.mem_erase_iff.mpr ⟨q, h⟩, fun h => (nd.mem_erase_iff.mp h).2⟩
   rw [e1, ih (nd.erase n) fun l hl => by
    rw [nd.mem_erase_iff] at hl
    have := h l hl.2
    omega, List.length_erase_of_mem hm]
   have : 0 < leads.length := List.length_pos_of_mem hm
   simp [hm]
   omega
  ·rw [ih nd fun l hl => by
    have := h l hl
    have : l ≠ n := fun e => hm (e ▸ hl)
    omega]
   simp [hm]
theorem Rd.nd {b n c : Nat} {rows left : List (List Int)} {leads : List Nat} (I : Rd b n rows c left leads) : leads.Nodup := I.up.imp fun h => Nat.ne_of_lt h
theorem Rd.rank {b n : Nat} (hb : 1 ≤ b) {rows left : List (List Int)} {leads : List Nat} (I : Rd b n rows n left leads) (hl : ∀ r ∈ rows, r.length = n) (hbt : ∀ r ∈ rows, ∀ x ∈ r, x.natAbs < 2 ^ b) : lrank rows = leads.length := by
 unfold lrank
 cases rows with
 | nil =>
  have h1 := I.le
  have h2 := I.cnt
  have : leads.length = 0 := by rw [h2] at h1; exact Nat.le_zero.mp h1
  rw [this]
  rfl
 | cons r rs =>
  show (lr (r :: rs) r.length).2 = _
  rw [hl r List.mem_cons_self, (I.rank_go hb hl hbt n (Nat.le_refl n)).1]
  exact cnt_in I.nd I.lt
noncomputable def frees (n : Nat) (leads : List Nat) : List Nat := (List.range n).filter fun j => decide (j ∉ leads)
theorem frees_len {n : Nat} {leads : List Nat} (nd : leads.Nodup) (h : ∀ l ∈ leads, l < n) : (frees n leads).length + leads.length = n := by
 have e := cnt_in nd h
 have p := (List.filter_append_perm (fun j => decide (j ∈ leads)) (List.range n)).length_eq
 rw [List.length_append, List.length_range, e] at p
 have : frees n leads = (List.range n).filter (fun j => !decide (j ∈ leads)) := List.filter_congr fun j _ => by simp
 rw [this]
 omega
end EL
namespace EL
open PySem L2
open PySem.Builtin.Int
noncomputable def Bb (x : Int) : Prop := intBits x ≤ 60000000
theorem mulBb {x y : Int} (hx : Bb x) (hy : Bb y) : IntMulOk x y := IntMulOk.of_le hx hy (by decide)
theorem bb_of {x : Int} {m : Nat} (h : x.natAbs < 2 ^ m) (hm : m ≤ 60000000) : Bb x := Nat.le_trans (intBits_le_iff.mpr h) hm
theorem w_forZl {K : PySem.W.Frag} {ta : TA} {g : TG} {tb : TS} {D : Ends} {σ : St} {H : Hp} (h : ta σ H fun vs H1 => ∃ a b, vs = [.ref a, .ref b] ∧ (∃ xs, SqL K H1 a xs) ∧ (∃ ys, SqL K H1 b ys) ∧ ForJ (Itzl K a b) g tb D σ H1) : tFor (iZpl K ta) g tb D σ H := h
theorem for_zpl {K : PySem.W.Frag} {a b : Addr} {xs zs : List V} (hz : zs.length = xs.length) {g : TG} {tb : TS} {D : Ends} {σ : St} {H : Hp} (Pv : Nat → St → Hp → Prop) (h0 : Pv 0 σ H) (hl : ∀ i σ H, Pv i σ H → SqL K H a xs ∧ SqL K H b zs)
  (hs : ∀ (i : Nat) (x y : V) σ H p, xs[i]? = some x → zs[i]? = some y → Pv i σ H → H p = none → g (.ref p) σ (upd H p (.tup [x, y])) fun σ2 H2 => tb { D with nx := Pv (i + 1), ct := Pv (i + 1), bk := D.nx } σ2 H2) (hd : ∀ σ H, Pv xs.length σ H → D.nx σ H) :
  ForJ (Itzl K a b) g tb D σ H := by
 refine ⟨fun i m σ H => m = xs.length - i ∧ i ≤ xs.length ∧ Pv i σ H, ⟨xs.length, by simp, Nat.zero_le _, h0⟩, ?_⟩
 rintro i m σ H ⟨rfl, hi, p⟩
 have qa := hl i σ H p
 by_cases hlt : i < xs.length
 ·have hlz : i < zs.length := by omega
  refine .inr ⟨⟨xs, zs, xs[i], zs[i], qa.1, qa.2, by simp [hlt], by simp [hlz]⟩, Pv (i + 1), fun σ' H' p' => ⟨xs.length - (i + 1), by omega, rfl, hlt, p'⟩, fun v H' yv => ?_⟩
  obtain ⟨q, x, y, rfl, hq, rfl, ex, ey⟩ := yv
  exact hs i x y σ H q (ex xs qa.1) (ey zs qa.2) p hq
 ·have e : i = xs.length := by omega
  subst e
  exact .inl ⟨⟨xs, zs, qa.1, qa.2, .inl (Nat.le_refl _)⟩, hd σ H p⟩
theorem w_while {c : TT} {tb : TS} {D : Ends} {σ : St} {H : Hp} (h : ∃ W : Nat → St → Hp → Prop, (∃ m, W m σ H) ∧ ∀ m σ H, W m σ H → c σ H fun b H1 => if b = true then ∃ N : St → Hp → Prop, (∀ σ' H', N σ' H' → ∃ m', m' < m ∧ W m' σ' H') ∧ tb { D with nx := N, ct := N, bk := D.nx } σ H1 else D.nx σ H1) : tWhile c tb D σ H := h
noncomputable def rNiL : R2 := fun x y H Q => ∃ p xs, y = .ref p ∧ H p = some (.lst xs) ∧ flatV x = true ∧ xs.all flatV = true ∧ Q (.bl (!inV x xs)) H
theorem op_notInL {X : Cx} : OpR X (compareOp .NotIn) rNiL := fun pins s σ H x y v u Q I rx ry h => op_notIn_seq pins s σ H x y v u Q I rx ry (let ⟨p, xs, e, hp, f1, f2, q⟩ := h; ⟨p, xs, e, .inl (SqL.of hp), f1, f2, q⟩)
noncomputable def RL (H : Hp) (as : List Addr) (rows : List (List Int)) : Prop := as.length = rows.length ∧ ∀ (i : Nat) (a : Addr) (r : List Int), as[i]? = some a → rows[i]? = some r → H a = some (.lst (r.map V.int))
theorem RL.same {H H' : Hp} {as : List Addr} {rows : List (List Int)} (k : Same H H') (h : RL H as rows) : RL H' as rows := ⟨h.1, fun i a r e1 e2 => k _ _ (h.2 i a r e1 e2)⟩
theorem RL.off {H : Hp} {as : List Addr} {rows : List (List Int)} {D : Addr} {o : HO} (hD : D ∉ as) (h : RL H as rows) : RL (upd H D o) as rows := ⟨h.1, fun i a r e1 e2 => by
 rw [upd_ne (fun e => hD (by rw [← e]; exact List.mem_of_getElem? e1))]
 exact h.2 i a r e1 e2⟩
theorem RL.snoc {H : Hp} {as : List Addr} {rows : List (List Int)} {a : Addr} {r : List Int} (h : RL H as rows) (ha : H a = some (.lst (r.map V.int))) : RL H (as ++ [a]) (rows ++ [r]) := by
 refine ⟨by rw [List.length_append, List.length_append, h.1]; rfl, fun i b q e1 e2 => ?_⟩
 by_cases hi : i < as.length
 ·rw [List.getElem?_append_left hi] at e1
  rw [List.getElem?_append_left (by rw [← h.1]; exact hi)] at e2
  exact h.2 i b q e1 e2
 ·have hi' : i = as.length := by
   have := (List.getElem?_eq_some_iff.mp e1).1
   rw [List.length_append] at this
   have : i < as.length + 1 := this
   omega
  rw [hi', List.getElem?_append_right (Nat.le_refl _), Nat.sub_self] at e1
  rw [hi', h.1, List.getElem?_append_right (Nat.le_refl _), Nat.sub_self] at e2
  cases e1
  cases e2
  exact ha
theorem RL.nil {H : Hp} : RL H [] [] := ⟨rfl, fun i a r e => nomatch e⟩
theorem RL.at_ {H : Hp} {as : List Addr} {rows : List (List Int)} (h : RL H as rows) {i : Nat} (hi : i < rows.length) : ∃ a, as[i]? = some a ∧ rows[i]? = some (rows.getD i []) ∧ H a = some (.lst ((rows.getD i []).map V.int)) := by
 have hi' : i < as.length := by rw [h.1]; exact hi
 have e : rows[i]? = some (rows.getD i []) := by rw [List.getD_eq_getElem?_getD, List.getElem?_eq_getElem hi]; rfl
 exact ⟨as[i], List.getElem?_eq_getElem hi', e, h.2 i _ _ (List.getElem?_eq_getElem hi') e⟩
theorem RL.map {H : Hp} : ∀ {as : List Addr} {rows : List (List Int)} (h : RL H as rows) {a : Addr}, a ∈ as → ∃ r ∈ rows, H a = some (.lst (r.map V.int)) := fun {as rows} h a ha => by
 obtain ⟨i, hi, e⟩ := List.getElem_of_mem ha
 have hi' : i < rows.length := by rw [← h.1]; exact hi
 exact ⟨rows[i], List.getElem_mem hi', h.2 i a _ (by rw [List.getElem?_eq_getElem hi, e]) (List.getElem?_eq_getElem hi')⟩
theorem RL.ne {H : Hp} {as : List Addr} {rows : List (List Int)} (h : RL H as rows) {l : Addr} (hl : H l = some (.lst (as.map V.ref))) : l ∉ as := fun hm => by
 obtain ⟨r, _, e⟩ := h.map hm
 rw [hl] at e
 cases as with
 | nil => exact nomatch hm
 | cons a as => cases r <;> simp at e
theorem cg_LL {D : Addr} {te : TE} {Q : VK} {ρ : St} {H : Hp} {K : PySem.W.Frag} {a : Addr} {as : List Addr} {rows : List (List Int)} (g : List Int → List Int) (ha : H a = some (.lst (as.map V.ref))) (hr : RL H as rows) (hn : rows.length ≤ 1000) (hD : H D = none)
  (h : ∀ (i : Nat) (q : Addr), as[i]? = some q → rows[i]? = some (rows.getD i []) → H q = some (.lst ((rows.getD i []).map V.int)) → ∀ H', Same H H' → ∀ R : V → Hp → Prop, (∀ y H'', Same H' H'' → H' y = none → H'' y = some (.lst ((g (rows.getD i [])).map V.int)) → R (.ref y) H'') → te (some (.ref q) :: ρ) H' R)
  (q : ∀ bs H', Same H H' → H' D = some (.lst (bs.map V.ref)) → RL H' bs (rows.map g) → (∀ b ∈ bs, H b = none) → Q (.ref D) H') : CGo (Itl K a) D (gName 0) tAll te Q (none :: ρ) H := by
 refine cgo_list (xs := as.map V.ref) (fun i ys H' => ∃ bs : List Addr, ys = bs.map V.ref ∧ RL H' bs ((rows.take i).map g) ∧ Same H H' ∧ D ∉ bs ∧ ∀ b ∈ bs, H b = none) ⟨[], rfl, by simpa using RL.nil, Same.new (Same.refl H) hD, by simp, by simp⟩ (fun i ys H' _ ⟨_, _, _, k', _⟩ => SqL.of (k' _ _ ha)) ?_ ?_
 ·rintro i x ys H' hx ⟨bs, rfl, hb, K', hDb, hfr⟩ hDy R S kR _
  have hi : i < as.length := by
   have := (List.getElem?_eq_some_iff.mp hx).1
   simpa using this
  have hi' : i < rows.length := by rw [← hr.1]; exact hi
  have ex : x = .ref as[i] := by
   rw [List.getElem?_map, List.getElem?_eq_getElem hi] at hx
   exact (Option.some.inj hx).symm
  subst ex
  have eg : rows[i]? = some (rows.getD i []) := by rw [List.getD_eq_getElem?_getD, List.getElem?_eq_getElem hi']; rfl
  refine w_all (iteT ?_)
  refine h i as[i] (List.getElem?_eq_getElem hi) eg (hr.2 i _ _ (List.getElem?_eq_getElem hi) eg) H' K' _ fun y H2 K2 hy ey => ?_
  have hyD : y ≠ D := fun e => by rw [e, hDy] at hy; cases hy
  have hyb : y ∉ bs := fun hm => by
   obtain ⟨r, _, e⟩ := hb.map hm
   rw [e] at hy
   cases hy
  have hyH : H y = none := by
   cases e : H y with
   | none => rfl
   | some o => rw [K' _ _ e] at hy; cases hy
  refine kR _ _ (K2 _ _ hDy) ?_ ⟨bs ++ [y], by rw [List.map_append]; rfl, ?_, (K'.trans K2).put hD, ?_, fun b hm => ?_⟩
  ·rw [List.length_map, hb.1, List.length_map, List.length_take]
   exact small1000 (by omega)
  ·rw [List.take_add_one, eg, List.map_append]
   refine RL.off ?_ (RL.snoc (hb.same K2) ey)
   rw [List.mem_append]
   rintro (z | z)
   ·exact hDb z
   ·exact hyD (List.mem_singleton.mp z).symm
  ·rw [List.mem_append]
   rintro (z | z)
   ·exact hDb z
   ·exact hyD (List.mem_singleton.mp z).symm
  ·rcases List.mem_append.mp hm with z | z
   ·exact hfr b z
   ·rw [List.mem_singleton.mp z]; exact hyH
 ·rintro ys H1 ⟨bs, rfl, hb, K1, _, hfr⟩ e1
  rw [List.length_map, List.take_of_length_le (by rw [hr.1]; exact Nat.le_refl _)] at hb
  exact q bs H1 K1 e1 hb hfr
theorem absN (x : Int) : (if x < 0 then -x else x) = (x.natAbs : Int) := by split <;> omega
theorem gcd_take (xs : List Int) (i : Nat) (hi : i < xs.length) : gcdL (xs.take (i + 1)) = Nat.gcd (gcdL (xs.take i)) (xs.getD i 0).natAbs := by
 unfold gcdL
 rw [List.take_add_one, List.getElem?_eq_getElem hi, List.foldl_append, List.getD_eq_getElem?_getD, List.getElem?_eq_getElem hi]
 rfl
theorem atL {xs : List Int} {i : Nat} (h : i < xs.length) : atI (xs.map V.int) (i : Int) = some (.int (xs.getD i 0)) := by
 refine atI_nat ?_
 rw [List.getElem?_map, List.getElem?_eq_getElem h, List.getD_eq_getElem?_getD, List.getElem?_eq_getElem h]
 rfl
theorem itI {xs : List Int} {i : Nat} {x : V} (h : (xs.map V.int)[i]? = some x) : i < xs.length ∧ x = .int (xs.getD i 0) := by
 have hi : i < xs.length := by
  have := (List.getElem?_eq_some_iff.mp h).1
  simpa using this
 rw [List.getElem?_map, List.getElem?_eq_getElem hi] at h
 refine ⟨hi, ?_⟩
 rw [List.getD_eq_getElem?_getD, List.getElem?_eq_getElem hi]
 exact (Option.some.inj h).symm
theorem itR {xs : List Addr} {i : Nat} {x : V} (h : (xs.map V.ref)[i]? = some x) : ∃ q, xs[i]? = some q ∧ x = .ref q := by
 have hi : i < xs.length := by
  have := (List.getElem?_eq_some_iff.mp h).1
  simpa using this
 rw [List.getElem?_map, List.getElem?_eq_getElem hi] at h
 exact ⟨_, List.getElem?_eq_getElem hi, (Option.some.inj h).symm⟩
theorem cg_zpl {D : Addr} {te : TE} {Q : VK} {ρ : St} {H : Hp} {K : PySem.W.Frag} {a b : Addr} {xs ys : List Int} (g : Int → Int → Int) (ha : H a = some (.lst (xs.map V.int))) (hb : H b = some (.lst (ys.map V.int))) (hlen : xs.length = ys.length) (hn : xs.length ≤ 1000) (hD : H D = none)
  (h : ∀ x ∈ xs, ∀ y ∈ ys, ∀ H', Same H H' → ∀ R : V → Hp → Prop, (∀ H'', Same H' H'' → R (.int (g x y)) H'') → te (some (.int x) :: some (.int y) :: ρ) H' R)
  (q : ∀ H', Same H H' → H' D = some (.lst ((List.zipWith g xs ys).map V.int)) → Q (.ref D) H') : CGo (Itzl K a b) D (gTup K 2 (gCons (gName 0) (gCons (gName 1) gNil))) tAll te Q (none :: none :: ρ) H := by
 have lz : (List.zipWith g xs ys).length = xs.length := by rw [List.length_zipWith]; omega
 refine cgo_zpl (xs := xs.map V.int) (zs := ys.map V.int) (n := xs.length) (by rw [List.length_map]; exact Nat.le_refl _) (by rw [List.length_map]; omega) (.inl (by rw [List.length_map]; exact Nat.le_refl _)) (fun i zs H' => zs = ((List.zipWith g xs ys).take i).map V.int ∧ Same H H') ⟨rfl, Same.new (Same.refl H) hD⟩ (fun i zs H' _ ⟨_, k'⟩ => ⟨SqL.of (k' _ _ ha), SqL.of (k' _ _ hb)⟩) ?_ ?_
 ·rintro i x y zs H' p hi hx hy ⟨rfl, K'⟩ hDy hp R S kR _
  obtain ⟨h1, rfl⟩ := itI hx
  obtain ⟨h2, rfl⟩ := itI hy
  refine w_all (iteT ?_)
  refine h _ (getD_mem h1) _ (getD_mem h2) _ (K'.new hp) _ fun H2 K2 => ?_
  have KK : Same H' H2 := (Same.new (Same.refl _) hp).trans K2
  refine kR _ _ (KK _ _ hDy) (by rw [List.length_map, List.length_take]; exact small1000 (by omega)) ⟨?_, (K'.trans KK).put hD⟩
  rw [List.take_add_one, List.getElem?_zipWith, List.map_append, List.getElem?_eq_getElem h1, List.getElem?_eq_getElem h2, List.getD_eq_getElem?_getD, List.getD_eq_getElem?_getD, List.getElem?_eq_getElem h1, List.getElem?_eq_getElem h2]
  rfl
 ·rintro zs H1 ⟨rfl, K1⟩ e1
  rw [List.take_of_length_le (by omega)] at e1
  exact q H1 K1 e1
noncomputable def rListL : List V → Hp → VK → Prop := fun xs H Q => ∃ p ys, xs = [.ref p] ∧ H p = some (.lst ys) ∧ ∀ l, H l = none → Q (.ref l) (upd H l (.lst ys))
theorem call_listL {X : Cx} : CallR X (.type "list") rListL := fun pins s σ H xs us Q I r h => call_list_of pins s σ H xs us Q I r (let ⟨p, ys, e, hp, q⟩ := h; ⟨p, ys, e, .inl (SqL.of hp), q⟩)
theorem ins_td {α : Type} : ∀ (l : List α) (n : Nat) (a : α), n ≤ l.length → l.take n ++ a :: l.drop n = l.insertIdx n a
 | l, 0, a, _ => by simp
 | [], n + 1, a, h => absurd h (by simp)
 | x :: l, n + 1, a, h => by
  rw [List.take_succ_cons, List.drop_succ_cons, List.cons_append, List.insertIdx_succ_cons, ins_td l n a (by simpa using h)]
theorem RL.erase {H : Hp} {as : List Addr} {rows : List (List Int)} (h : RL H as rows) (p : Nat) : RL H (as.eraseIdx p) (rows.eraseIdx p) := by
 refine ⟨by rw [List.length_eraseIdx, List.length_eraseIdx, h.1], fun i a r e1 e2 => ?_⟩
 rw [List.getElem?_eraseIdx] at e1 e2
 split at e1
 ·next hi => rw [if_pos hi] at e2; exact h.2 _ _ _ e1 e2
 ·next hi => rw [if_neg hi] at e2; exact h.2 _ _ _ e1 e2
theorem RL.insert {H : Hp} {as : List Addr} {rows : List (List Int)} (h : RL H as rows) {m : Nat} {a : Addr} {r : List Int} (ha : H a = some (.lst (r.map V.int))) (hm : m ≤ rows.length) : RL H (as.insertIdx m a) (rows.insertIdx m r) := by
 have hl := h.1
 refine ⟨by rw [List.length_insertIdx, List.length_insertIdx, hl], fun i b q e1 e2 => ?_⟩
 rw [List.getElem?_insertIdx] at e1 e2
 split at e1
 ·next hi => rw [if_pos hi] at e2; exact h.2 _ _ _ e1 e2
 ·next hi =>
  rw [if_neg hi] at e2
  split at e1
  ·next hj =>
   rw [if_pos hj] at e2
   rw [if_pos (by omega)] at e1 e2
   cases e1
   cases e2
   exact ha
  ·next hj => rw [if_neg hj] at e2; exact h.2 _ _ _ e1 e2
theorem RL.take {H : Hp} {as : List Addr} {rows : List (List Int)} (h : RL H as rows) (n : Nat) : RL H (as.take n) (rows.take n) := by
 refine ⟨by rw [List.length_take, List.length_take, h.1], fun i a r e1 e2 => ?_⟩
 rw [List.getElem?_take] at e1 e2
 split at e1
 ·next hi => rw [if_pos hi] at e2; exact h.2 _ _ _ e1 e2
 ·cases e1
noncomputable def nL (ls : List Nat) : List V := ls.map fun n : Nat => V.int (n : Int)
noncomputable def oV : Option Nat → V
 | none => .non
 | some t => .int (t : Int)
theorem w_isN {ta : TE} {σ : St} {H : Hp} {Q : VK} (h : ta σ H fun x H1 => Q (.bl (decide (x = .non))) H1) : tIsN ta σ H Q := h
theorem w_cont {D : Ends} {σ : St} {H : Hp} (h : D.ct σ H) : tCont D σ H := h
theorem seqIndex_nat {p n : Nat} (h : p < n) : seqIndex? (p : Int) n = some p := by
 have := PySem.StrLaws.seqIndex_nonneg (i := (p : Int)) (n := n) (by omega) (by omega)
 rw [Int.toNat_natCast] at this
 exact this
theorem cut_to {xs : List V} {k : Nat} (h : k ≤ xs.length) : cutV xs none (some (k : Int)) = xs.take k := by
 unfold cutV
 rw [HT.sIx_none, HT.sIx_nat, List.drop_zero, Nat.sub_zero, Nat.min_eq_left h]
theorem erase_map {α β : Type} (f : α → β) : ∀ (l : List α) (p : Nat), (l.map f).eraseIdx p = (l.eraseIdx p).map f
 | [], _ => rfl
 | _ :: _, 0 => rfl
 | a :: l, p + 1 => by
  rw [List.map_cons, List.eraseIdx_cons_succ, List.eraseIdx_cons_succ, List.map_cons, erase_map f l p]
theorem ins_map {α β : Type} (f : α → β) (l : List α) (n : Nat) (a : α) (h : n ≤ l.length) : (l.map f).insertIdx n (f a) = (l.insertIdx n a).map f := by
 rw [← ins_td _ _ _ h, ← ins_td _ _ _ (by rw [List.length_map]; exact h), List.map_append, List.map_cons, List.map_take, List.map_drop]
theorem ins_mem {α : Type} {l : List α} {n : Nat} {a b : α} (hn : n ≤ l.length) (h : b ∈ l.insertIdx n a) : b = a ∨ b ∈ l := (List.mem_insertIdx hn).mp h
theorem ixK' {n r : Nat} (h1 : r < n) : ixN n (r : Int) = some r := by
 unfold ixN
 rw [if_pos (by omega), if_pos (by omega), Int.toNat_natCast]
theorem bb_fdiv {x y : Int} (h : Bb x) : Bb (x.fdiv y) := intBits_fdiv_le h
end EL
namespace K93
open PySem L2
local macro_rules | `(tactic| walk_at "v") => `(tactic| repeat (with_reducible first
  | refine w_seq ?_ | refine w_asg ?_ | refine w_gname ?_ | refine w_op ?_ | refine w_var rfl ?_ | refine w_c ?_ | refine w_rI0 ?_ | refine w_ifs ?_ | refine w_ife ?_ | refine w_test ?_ | refine w_tb ?_ | refine w_bl ?_ | refine w_not ?_ | refine w_ret ?_ | refine w_retN ?_
  | refine w_nil ?_ | refine w_cons ?_ | refine w_lst ?_ | refine w_tup ?_ | refine w_cb ?_ | refine w_call ?_ | refine w_gsub ?_ | refine w_and ?_ | refine w_or ?_ | refine w_next ?_ | refine w_all ?_ | refine w_vals ?_ | refine w_compR ?_ | refine w_compT ?_ | refine w_forR ?_ | refine w_forT ?_ | refine w_forL ?_ | refine w_drop ?_ | refine w_bm ?_ | refine w_compZ ?_ | refine w_compL ?_ | refine w_chain ?_ | refine w_sl ?_ | refine w_nopart ?_ | refine w_part ?_ | refine w_unI ?_ | refine iteT ?_ | refine iteF ?_))
noncomputable def chg (x : List Int × List Int) : List Int := (List.range x.1.length).map fun j => x.2.getD j 0 - x.1.getD j 0
theorem Same.none {H H' : Hp} {a : Addr} (k : Same H H') (h : H' a = none) : H a = none := by
 cases e : H a with
 | none => rfl
 | some o => rw [k _ _ e] at h; cases h
noncomputable def Sq2 (H : Hp) (q : Addr) (ys : List Int) : Prop := H q = some (.tup (ys.map V.int)) ∨ H q = some (.lst (ys.map V.int))
theorem Sq2.same {H H' : Hp} {q : Addr} {ys : List Int} (k : Same H H') : Sq2 H q ys → Sq2 H' q ys
 | .inl h => .inl (k _ _ h)
 | .inr h => .inr (k _ _ h)
end K93
namespace L2
open PySem PySem.Spec PyProof.Rows
theorem law_callS {P : Program} {w : World} {K : PySem.W.Frag} {mg mb : Str → Option Value} {CX : CXT} {k : Nat} {fa a : Addr} {fd : FuncData} {x : Str} {sp : Sp} {s₁ : Shared} {vs : List Value} {ns : List Int}
  (KX : K.In s₁.heap) (hns : s₁.heap.Ns mainGlobals mg) (hb : s₁.heap.Ns builtinsNs mb) (hbb : ∀ x : Str, x ≠ "__name__" → mb x = bootBuiltins x) (hlim : s₁.heap.NoLimit) (hN : s₁.heap.NoSeer) (hg : s₁.gens = #[])
  (ha : s₁.heap.get? a = some { cls := .type "list", data := .seq vs.toArray }) (hi : IntsAre vs ns) (hl : ns.length ≤ sizeLine) (hr : Room k callerA)
  (F : ∀ base : Heap, K.In base → base.Ns mainGlobals mg → base.NoSeer → FnOk P w K mg base CX k fa fd [x] sp) (hbind : ∀ (s : Shared) (u : Value), BindsTo s fd ⟨[u], []⟩ [(x, u)])
  (hsp : ∀ H : Hp, Only H → SqL K H a (ns.map V.int) → sp [.ref a] H (fun v _ => v = .bl true) fun _ _ _ => False)
  (hCX : ∀ H e s', CX [] H s₁ (fun _ _ _ => False) e s' → False) :
  codeAny (model P w) callerA (.call (.ref fa) ⟨[.ref a], []⟩) (fun r s' => r = .ok (.ret (.bool true)) ∧ OldK s₁.heap s'.heap ∧ s'.os = s₁.os ∧ AllBare s'.gens) s₁ := by
 have rv := vals_ints hi
 have lenV := hi.length
 -- from an abstract heap in which nothing but the script may be tracked
 have core : ∀ H : Hp, Only H → SqL K H a (ns.map V.int) → HOk P w H s₁.heap → (∀ b, H b ≠ none → b = a) → (H a ≠ none → K.lookup a = none) →
   codeAny (model P w) callerA (.call (.ref fa) ⟨[.ref a], []⟩) (fun r s' => r = .ok (.ret (.bool true)) ∧ OldK s₁.heap s'.heap ∧ s'.os = s₁.os ∧ AllBare s'.gens) s₁ := by
  intro H hO hS hok hA hK
  have base_of : ∀ {b : Addr} {o : Obj}, s₁.heap.get? b = some o → H b = none → (hidT s₁.heap H).get? b = some o := fun e n => hidT_get e n
  have noA : ∀ {b : Addr} {o : Obj} {es : Array DictEntry} {ep : Nat}, s₁.heap.get? b = some o → o.data = .dict es ep → H b = none := fun {b o es ep} e d => by
   cases q : H b with
   | none => rfl
   | some u =>
    have e' : b = a := hA b (by rw [q]; simp)
    subst e'
    rw [ha] at e; cases e
    have d' : Data.seq vs.toArray _ = Data.dict es ep := d
    cases d'
  have nsK : ∀ {b : Addr} {m : Str → Option Value}, s₁.heap.Ns b m → (hidT s₁.heap H).Ns b m := fun {b m} ⟨o, es, ep, e, d, r⟩ => ⟨o, es, ep, base_of e (noA e d), d, r⟩
  have hKb : K.In (hidT s₁.heap H) := fun b o e => base_of (KX b o e) (by
   cases q : H b with
   | none => rfl
   | some u =>
    have e' : b = a := hA b (by rw [q]; simp)
    subst e'
    rw [hK (by rw [q]; simp)] at e; cases e)
  have hNb : (hidT s₁.heap H).NoSeer := ⟨let ⟨mc, a1, a2, a3⟩ := hN.statics; ⟨mc, nsK a1, a2, a3⟩, let ⟨mm, a1, a2⟩ := hN.mods; ⟨mm, nsK a1, a2⟩, let ⟨mb', a1, a2⟩ := hN.imp; ⟨mb', nsK a1, a2⟩, let ⟨mg', bm, ob, a1, a2, a3, a4, a5⟩ := hN.main; ⟨mg', bm, ob, nsK a1, a2, base_of a3 (by
   cases q : H bm with
   | none => rfl
   | some u =>
    have e' : bm = a := hA bm (by rw [q]; simp)
    subst e'
    rw [ha] at a3
    cases a3
    simp at a4), a4, a5⟩⟩
  have hM : Mod K mg (hidT s₁.heap H) := ⟨hKb, nsK hns, ⟨mb, nsK hb, hbb⟩, let ⟨mc, h1, h2⟩ := hlim; ⟨mc, nsK h1, h2⟩⟩
  have e0 : Env0 P w K mg (hidT s₁.heap H) callerA [] s₁ H := ⟨rfl, hM, fun b o e => of_hidT e, Nat.le_of_eq (hidT_size _ _), trivial, fun b hb => absurd (show b ∈ ([] : List Addr) from hb) (by simp), hok, .of_eq hg⟩
  refine codeAny_mono ((F _ hKb (nsK hns) hNb).run callerA [] s₁ H ⟨[.ref a], []⟩ [.ref a] [.ref a] _ _ hr e0 (hbind s₁ (.ref a)) (.cons rfl .nil) (hsp H hO hS)) fun r s' h => ?_
  cases r with
  | error e => exact (hCX H e s' h).elim
  | ok fl =>
   cases fl with
   | next => exact False.elim h
   | brk => exact False.elim h
   | cont => exact False.elim h
   | ret u =>
    obtain ⟨v, H', os, bare, un, hok', r', q⟩ := h
    have q' : v = .bl true := q
    subst q'
    obtain rfl : u = Value.bool true := r'
    refine ⟨rfl, OldK.of_keep fun b o e => ?_, os, bare⟩
    cases q : H b with
    | none => exact un.keep b o e q (by intro z; exact absurd (show b ∈ ([] : List Addr) from z) (by simp)) (by simp)
    | some u =>
     rcases hO b with z | ⟨ob, xs, z⟩
     ·rw [q] at z; cases z
     ·have z2 := un.frzs b ob _ z
      obtain ⟨e1, _⟩ := hok b _ z
      obtain ⟨e2, _⟩ := hok' b _ z2
      rw [e] at e1; cases e1
      exact e2
 cases hk : K.lookup a with
 | some o =>
  -- the script is one of the module's own objects
  have e := KX a o hk
  rw [ha] at e
  cases e
  refine core (fun _ => none) (fun _ => .inl rfl) (.inr ⟨_, vs.toArray, _, hk, rfl, rfl, rfl, by rw [List.size_toArray, lenV]; exact hl, by simpa using rv⟩) (fun b u z => by have z' : (none : Option HO) = some u := z; cases z') (fun b z => absurd rfl z) fun z => absurd rfl z
 | none =>
  refine core (fun b => if b = a then some (.frz { cls := .type "list", data := .seq vs.toArray } (.lst (ns.map V.int))) else none) (fun b => ?_) (.inl (.inr ⟨{ cls := .type "list", data := .seq vs.toArray }, if_pos rfl⟩)) (fun b u z => ?_) (fun b z => ?_) fun _ => hk
  ·by_cases hb : b = a
   ·exact .inr ⟨_, _, if_pos hb⟩
   ·exact .inl (if_neg hb)
  ·by_cases hb : b = a
   ·have z' := (if_pos hb).symm.trans z
    cases z'
    subst hb
    exact ⟨ha, by rw [List.length_map]; exact hl, vs, _, rv, ha⟩
   ·have z' := (if_neg hb).symm.trans z
    cases z'
  ·by_cases hb : b = a
   ·exact hb
   ·exact absurd (if_neg hb) z
theorem walk_ofS {l : PySem.W.OpenLaw} {n k : Nat} {q : Program} {loose : List Str} {XP : (Str → Option Value) → Heap → Prop} {YP : World → Heap → Prop} {d : DefRec} {K : Params → PySem.W.Frag} {CX : World → CXT} {sp : World → Sp} {x : Str}
  (hn : l.most = some n) (hn2 : n ≤ sizeLine) (hdf : d.params.defaults = []) (hr : Room k callerA) (hi : PyProof.Rows.importsNone q = true)
  (hY : ∀ (w : World) (h : Heap), YP w h → (K w.params).In h)
  (F : ∀ (w : World) (mg : Str → Option Value) (fa : Addr) (h : Heap), (K w.params).In h → h.Ns mainGlobals mg → mg d.name = some (.ref fa) →
   ∃ fd : FuncData, (∀ (s : Shared) (u : Value), BindsTo s fd ⟨[u], []⟩ [(x, u)]) ∧
    ∀ base : Heap, (K w.params).In base → base.Ns mainGlobals mg → base.NoSeer → FnOk l.prog w (K w.params) mg base (CX w) k fa fd [x] (sp w))
  (hsp : ∀ (w : World) (H : Hp) (a : Addr) (ns : List Int), ns.length ≤ n → Only H → SqL (K w.params) H a (ns.map V.int) → sp w [.ref a] H (fun v _ => v = .bl true) fun _ _ _ => False)
  (hCX : ∀ (w : World) (H : Hp) (s : Shared) (e : Value) (s' : Shared), CX w [] H s (fun _ _ _ => False) e s' → False) :
  PySem.W.WalkO q loose XP YP l.row.toRowW d [] (fun f vs => PySem.call f vs) := by
 refine Att.attach_call hn hdf fun w s₀ s₁ mg mb fa o pm cd doc a vs ns G Y ho hd hcd hmg hobj hints hlen hg => ?_
 have KX := hY w _ Y
 obtain ⟨fd, hb, hF⟩ := F w mg fa _ KX G.T.g hmg
 exact law_callS KX G.T.g G.T.b G.T.builtins G.T.nolimit (G.T.seer hi) hg hobj hints (Nat.le_trans hlen hn2) hr hF hb (fun H hO hS => hsp w H a ns hlen hO hS) fun H e s' => hCX w H s₁ e s'
theorem op_fdivG {X : Cx} {k : Nat} (hr : Room k X.A) (hk : 40 ≤ k) (S : X.base.NoSeer ∧ X.prog.given.tree = none) (hE : ∃ env l, X.stack = env :: l ∧ env.scope.isGenerator = false ∧ env.scope.isCoroutine = false ∧ env.builtins = builtinsNs ∧ env.globals = mainGlobals) : OpR X (binaryOp .FloorDiv) (rI (fun _ j => j ≠ 0) fun i j => .int (i.fdiv j)) := by
 intro pins s σ H x y v u Q I rx ry h
 obtain ⟨i, j, rfl, rfl, h0, q⟩ := h
 obtain ⟨t, rfl⟩ := rx
 obtain ⟨t', rfl⟩ := ry
 obtain ⟨env, l, hs, hg, hc, hb, hm⟩ := hE
 have hfr : X.A.frames = some (env :: l) := by rw [I.ok.frames, hs]
 have hdp : X.A.depth + Builtin.pylongFrames < recursionLimit := by
  have h1 := hr.dp
  have h2 : Builtin.pylongFrames = 100 := rfl
  omega
 exact floordiv_int h0 ⟨.int (i.fdiv j), H, I.tok _, ⟨_, rfl⟩, q⟩ (.inr (PylongRoom.of I.nolimit hdp (SeerAt.of (S.1.keeps I.bk) S.2 hfr hg hc hb hm)))
end L2
namespace K93
open PySem L2 G2 EL
theorem nob {H : Hp} {a : Addr} (o : HO) (h : H a = none) : ∃ H2, upd H a o = H2 ∧ Same H H2 ∧ H2 a = some o := ⟨_, rfl, Same.new (Same.refl _) h, upd_same⟩
theorem nop {H G : Hp} {a : Addr} (o : HO) (M : Same H G) (h : H a = none) : ∃ H2, upd G a o = H2 ∧ Same H H2 ∧ H2 a = some o := ⟨_, rfl, M.put h, upd_same⟩
local macro_rules | `(tactic| walk_at "v") => `(tactic| repeat (with_reducible first
  | refine w_seq ?_ | refine w_asg ?_ | refine w_gname ?_ | refine w_op ?_ | refine w_var rfl ?_ | refine w_c ?_ | refine w_rI0 ?_ | refine w_ifs ?_ | refine w_ife ?_ | refine w_test ?_ | refine w_tb ?_ | refine w_bl ?_ | refine w_not ?_ | refine w_ret ?_ | refine w_retN ?_
  | refine w_nil ?_ | refine w_cons ?_ | refine w_lst ?_ | refine w_tup ?_ | refine w_cb ?_ | refine w_call ?_ | refine w_gsub ?_ | refine w_and ?_ | refine w_or ?_ | refine w_next ?_ | refine w_all ?_ | refine w_vals ?_ | refine w_compR ?_ | refine w_compT ?_ | refine w_forR ?_ | refine w_forT ?_ | refine w_forL ?_ | refine w_drop ?_ | refine w_bm ?_ | refine w_compZ ?_ | refine w_compL ?_ | refine w_chain ?_ | refine w_sl ?_ | refine w_nopart ?_ | refine w_part ?_ | refine w_unI ?_ | refine iteT ?_ | refine iteF ?_))
noncomputable abbrev sCd : Stmt := top 1
noncomputable abbrev nCd : List Str := ["numbers", "divisor", "number", "other", "rest"]
theorem nmCd : Nm nCd (defScope sCd) := ⟨by decide +kernel, by decide +kernel⟩
theorem scCd : FnScope nCd ["numbers"] (defScope sCd) := ⟨rfl, rfl, rfl, by decide +kernel, rfl, by decide +kernel, by decide +kernel⟩
noncomputable def spCd : Sp := fun vs H Q _ => ∃ (p : Addr) (xs : List Int), vs = [.ref p] ∧ H p = some (.lst (xs.map V.int)) ∧ Q (.int ((gcdL xs : Nat) : Int)) H
section
variable {P : Program} {w : World} {K : PySem.W.Frag} {mg : Str → Option Value} {base : Heap}
set_option maxHeartbeats 4000000 in
theorem ok_Cd {f : Addr} {fd : FuncData} (B : Bl mg) (F : Fun K "common_divisor" "common_divisor" sCd f fd) : FnOk P w K mg base CX0 1 f fd ["numbers"] spCd := by
 refine F.ok scCd (fun vs H Q E h => ?_) (fun cdv A outer s H vs Q E hr h => ?_)
 ·obtain ⟨p, xs, rfl, _⟩ := h
  rfl
 ·obtain ⟨p, xs, rfl, hp, k⟩ := h
  refine' ⟨_, ?hb, ?rd⟩
  case' hb => skip
  case' hb => refine' pss_cons ?g1 ?g2
  case' g2 => refine' pss_cons ?g3 ?g4
  case' g4 => refine' pss_one ?g5
  case g1 => exact ps_setD nmCd 1 pe_int
  case' g3 => refine' ps_for PassesOwn.never rfl ?g6 (pgd nmCd 2) ?g7
  case g6 => exact pi_list (pvd nmCd 0)
  case' g7 => refine' pss_cons ?g8 ?g9
  case' g9 => refine' pss_one ?g10
  case g8 => exact ps_setD nmCd 3 (pe_cB call_abs B.abs PyProof.Rows.boot_abs (pa_1 (pvd nmCd 2)))
  case' g10 => refine' ps_while PassesOwn.never ?g11 ?g12
  case g11 => exact pt_cmpR op_ne (pvd nmCd 3) pe_int (nomark _)
  case' g12 => refine' pss_cons ?g13 ?g14
  case' g14 => refine' pss_cons ?g15 ?g16
  case' g16 => refine' pss_one ?g17
  case g13 => exact ps_setD nmCd 4 (pe_op op_mod (pvd nmCd 1) (pvd nmCd 3))
  case g15 => exact ps_setD nmCd 1 (pvd nmCd 3)
  case g17 => exact ps_setD nmCd 3 (pvd nmCd 4)
  case g5 => exact ps_ret (pvd nmCd 1)
  case rd =>
   walk_at "v"
   refine ⟨p, rfl, ⟨_, SqL.of hp⟩, ?_⟩
   refine for_list (xs := xs.map V.int) (fun i σ H' => ∃ u2 u3 u4, σ = [some (.ref p), some (.int ((gcdL (xs.take i) : Nat) : Int)), u2, u3, u4] ∧ H = H') ⟨none, none, none, rfl, rfl⟩ (fun i σ H' _ ⟨_, _, _, _, e⟩ => e ▸ SqL.of hp) ?_ ?_
   ·rintro i x σ H' hx ⟨u2, u3, u4, rfl, rfl⟩
    obtain ⟨hi, rfl⟩ := itI hx
    walk_at "v"
    refine ⟨_, rfl, ?_⟩
    rw [absN]
    walk_at "v"
    refine w_while ⟨fun n σ H' => ∃ (d o : Nat) (u4 : Option V), σ = [some (.ref p), some (.int (d : Int)), some (.int (xs.getD i 0)), some (.int (o : Int)), u4] ∧ H = H' ∧ n = o ∧ Nat.gcd d o = Nat.gcd (gcdL (xs.take i)) (xs.getD i 0).natAbs, ⟨_, _, _, u4, rfl, rfl, rfl, rfl⟩, ?_⟩
    rintro n σ H' ⟨d, o, u4', rfl, rfl, rfl, hg⟩
    walk_at "v"
    refine ⟨rfl, ?_⟩
    walk_at "v"
    refine iteNB (fun h => ?_) (fun h => ?_)
    ·have ho : n ≠ 0 := fun z => h (by rw [z]; rfl)
     refine ⟨_, fun σ' H' w => ⟨d % n, Nat.mod_lt _ (by omega), w⟩, ?_⟩
     walk_at "v"
     refine ⟨_, _, rfl, rfl, by omega, ?_⟩
     walk_at "v"
     refine ⟨n, d % n, _, rfl, rfl, rfl, ?_⟩
     rw [← hg, Nat.gcd_comm, ← Nat.gcd_rec, Nat.gcd_comm]
    ·have ho : n = 0 := by injection h with h; omega
     subst ho
     rw [Nat.gcd_zero_right] at hg
     rw [hg, ← gcd_take xs i hi]
     exact ⟨_, _, _, rfl, rfl⟩
   ·rintro σ H' ⟨u2, u3, u4, rfl, rfl⟩
    rw [List.length_map, List.take_length]
    walk_at "v"
    exact k
end
noncomputable abbrev sWd : Stmt := top 2
noncomputable abbrev nWd : List Str := ["numbers", "divisor"]
theorem nmWd : Nm nWd (defScope sWd) := ⟨by decide +kernel, by decide +kernel⟩
theorem scWd : FnScope nWd ["numbers"] (defScope sWd) := ⟨rfl, rfl, rfl, by decide +kernel, rfl, by decide +kernel, by decide +kernel⟩
noncomputable def qWda (s : Stmt) : Scope := match s with
 | .Return (some (.ListComp _ _ sc _)) _ => sc
 | _ => { kind := .function, names := [], isGenerator := false, isCoroutine := false }
noncomputable abbrev cWda : Scope := qWda ((defBody sWd).getD 1 (.Pass ⟨0, 0, 0, 0⟩))
theorem bsWda : BScope (defScope sWd) cWda ["number"] ["divisor"] [] := { okind := by decide +kernel, kind := by decide +kernel, nocell := by decide +kernel, names := by decide +kernel, fr := by decide +kernel, ff := by decide +kernel, nd := by decide +kernel, vis := by decide +kernel, loc := by decide +kernel, gl := by decide +kernel }
noncomputable def spWd : Sp := fun vs H Q _ => ∃ (p : Addr) (xs : List Int), vs = [.ref p] ∧ H p = some (.lst (xs.map V.int)) ∧ xs.length ≤ 1000 ∧ ∀ q H', Same H H' → H q = none → H' q = some (.lst ((wd xs).map V.int)) → Q (.ref q) H'
section
variable {P : Program} {w : World} {K : PySem.W.Frag} {mg : Str → Option Value} {base : Heap}
set_option maxHeartbeats 4000000 in
theorem ok_Wd {f : Addr} {fd : FuncData} (B : Bl mg) (hN : base.NoSeer) (hT : P.given.tree = none) (fC : Has P w K mg base 1 "common_divisor" ["numbers"] spCd) (F : Fun K "without_divisor" "without_divisor" sWd f fd) : FnOk P w K mg base CX0 41 f fd ["numbers"] spWd := by
 refine F.ok scWd (fun vs H Q E h => ?_) (fun cdv A outer s H vs Q E hr h => ?_)
 ·obtain ⟨p, xs, rfl, _⟩ := h
  rfl
 ·obtain ⟨p, xs, rfl, hp, hl, k⟩ := h
  refine' ⟨_, ?hb, ?rd⟩
  case' hb => skip
  case' hb => refine' pss_cons ?g1 ?g2
  case' g2 => refine' pss_one ?g3
  case g1 => exact ps_setD nmWd 1 (pe_f fC hr (by decide) (pa_1 (pvd nmWd 0)))
  case' g3 => refine' ps_ret ?g4
  case' g4 => refine' pe_comp (ix := [1]) bsWda.toCScope rfl rfl ?g5 ?g6 ?g7 ?g8
  case g5 => exact pi_list (pvd nmWd 0)
  case g6 => exact fun _ _ _ _ _ _ => pgb bsWda 0
  case g7 => exact fun _ _ _ _ _ _ => pts_nil
  case g8 => exact fun _ _ _ _ _ _ => pe_ifExp (pt_cmpR op_gt (pvb bsWda 1) pe_int (nomark _)) (pe_op (op_fdivG hr (by decide) ⟨hN, hT⟩ ⟨_, _, rfl, rfl, rfl, rfl, rfl⟩) (pvb bsWda 0) (pvb bsWda 1)) pe_int
  case rd =>
   walk_at "v"
   refine ⟨p, xs, rfl, hp, ?_⟩
   walk_at "v"
   refine ⟨p, rfl, ⟨_, SqL.of hp⟩, fun D hD => ?_⟩
   refine cg_lst (ws := xs) V.int (fun x => V.int (if 0 < gcdL xs then x / (gcdL xs : Int) else 0)) hp hl hD (fun x hx H' K' R kR => ?_) (fun H2 K2 e2 => ?_)
   ·walk_at "v"
    have kR := kR _ (Same.refl _)
    refine iteD (fun h => ?_) (fun h => ?_)
    ·rw [if_pos (by omega)] at kR
     walk_at "v"
     refine ⟨_, _, rfl, rfl, by omega, ?_⟩
     show R (.int (x.fdiv ((gcdL xs : Nat) : Int))) H'
     rw [Int.fdiv_eq_ediv_of_nonneg x (by omega)]
     exact kR
    ·rw [if_neg (by omega)] at kR
     walk_at "v"
     exact kR
   exact k D H2 K2 hD (by rw [e2]; unfold wd; rw [List.map_map]; rfl)
end
noncomputable abbrev sFw : Stmt := top 6
noncomputable abbrev nFw : List Str := ["rows", "start", "column", "place"]
theorem nmFw : Nm nFw (defScope sFw) := ⟨by decide +kernel, by decide +kernel⟩
theorem scFw : FnScope nFw ["rows", "start", "column"] (defScope sFw) := ⟨rfl, rfl, rfl, by decide +kernel, rfl, by decide +kernel, by decide +kernel⟩
noncomputable def spFw : Sp := fun vs H Q _ => ∃ (l : Addr) (s c : Nat) (as : List Addr) (rows : List (List Int)), vs = [.ref l, .int (s : Int), .int (c : Int)] ∧ H l = some (.lst (as.map V.ref)) ∧ RL H as rows ∧ s ≤ rows.length ∧ rows.length ≤ 1000 ∧ (∀ r ∈ rows, c < r.length) ∧ Q (oV (firstW rows s c)) H
section
variable {P : Program} {w : World} {K : PySem.W.Frag} {mg : Str → Option Value} {base : Heap}
set_option maxHeartbeats 4000000 in
theorem ok_Fw {f : Addr} {fd : FuncData} (B : Bl mg) (F : Fun K "first_with" "first_with" sFw f fd) : FnOk P w K mg base CX0 1 f fd ["rows", "start", "column"] spFw := by
 refine F.ok scFw (fun vs H Q E h => ?_) (fun cdv A outer s H vs Q E hr h => ?_)
 ·obtain ⟨l, s', c, as, rows, rfl, _⟩ := h
  rfl
 ·obtain ⟨l, s', c, as, rows, rfl, hl, hr, hs, hn, hc, k⟩ := h
  refine' ⟨_, ?hb, ?rd⟩
  case' hb => skip
  case' hb => refine' pss_cons ?g1 ?g2
  case' g2 => refine' pss_one ?g3
  case' g1 => refine' ps_for PassesOwn.never rfl ?g4 (pgd nmFw 3) ?g5
  case g4 => exact pi_r2 B.range (pa_2 (pvd nmFw 1) (pe_cB call_len_seq B.len PySem.boot_len (pa_1 (pvd nmFw 0))))
  case' g5 => refine' pss_one ?g6
  case' g6 => refine' ps_if ?g7 ?g8 pss_nil
  case g7 => exact pt_cmpR op_ne (pe_ix ix_d (pe_ix ix_d (pvd nmFw 0) (pvd nmFw 3) (fun _ _ => rfl)) (pvd nmFw 2) (fun _ _ => rfl)) pe_int (nomark _)
  case' g8 => refine' pss_one ?g10
  case g10 => exact ps_ret (pvd nmFw 3)
  case g3 => exact ps_ret pe_non
  case rd =>
   walk_at "v"
   refine w_forR2 ?_
   walk_at "v"
   refine ⟨l, _, rfl, .inl (SqL.of hl), ?_⟩
   rw [List.length_map, hr.1]
   walk_at "v"
   refine ⟨_, _, rfl, ⟨by omega, by omega, by omega, by omega⟩, ?_⟩
   rw [show ((rows.length : Int) - (s' : Int)).toNat = rows.length - s' by omega]
   refine for_range (n := rows.length - s') (fun i σ H' => ∃ u, σ = [some (.ref l), some (.int (s' : Int)), some (.int (c : Int)), u] ∧ H = H' ∧ ∀ j, s' ≤ j → j < s' + i → ro rows j c = 0) ⟨none, rfl, rfl, fun j h1 h2 => by omega⟩ ?_ ?_
   ·rintro i σ H' hi ⟨u, rfl, rfl, hf⟩
    obtain ⟨a, e1, e2, e3⟩ := hr.at_ (i := s' + i) (by omega)
    have ei : (s' : Int) + (i : Int) = ((s' + i : Nat) : Int) := by omega
    rw [ei]
    walk_at "v"
    refine w_ixL (v := .ref a) hl (atI_nat (by rw [List.getElem?_map, e1]; rfl)) ?_
    walk_at "v"
    refine w_ixL e3 (atL (hc _ (List.mem_of_getElem? e2))) ?_
    walk_at "v"
    refine ⟨rfl, ?_⟩
    walk_at "v"
    refine iteNB (fun h => ?_) (fun h => ?_)
    ·have hne : ro rows (s' + i) c ≠ 0 := fun z => h (congrArg V.int z)
     have ef : firstW rows s' c = some (s' + i) := by
      unfold firstW
      rw [List.find?_range'_eq_some]
      refine ⟨by simpa using hne, List.mem_range'_1.mpr ⟨by omega, by omega⟩, fun j h1 h2 => ?_⟩
      simpa using hf j h1 h2
     rw [ef] at k
     walk_at "v"
     exact k
    ·have he : ro rows (s' + i) c = 0 := by injection h
     refine ⟨_, rfl, rfl, fun j h1 h2 => ?_⟩
     rcases Nat.lt_or_ge j (s' + i) with z | z
     ·exact hf j h1 z
     ·rw [show j = s' + i by omega]; exact he
   ·rintro σ H' ⟨u, rfl, rfl, hf⟩
    have ef : firstW rows s' c = none := by
     unfold firstW
     rw [List.find?_eq_none]
     intro j hj
     have := List.mem_range'_1.mp hj
     simpa using hf j this.1 (by omega)
    rw [ef] at k
    walk_at "v"
    exact k
end
noncomputable abbrev sWc : Stmt := top 7
noncomputable abbrev nWc : List Str := ["row", "lead", "column", "size", "times"]
theorem nmWc : Nm nWc (defScope sWc) := ⟨by decide +kernel, by decide +kernel⟩
theorem scWc : FnScope nWc ["row", "lead", "column"] (defScope sWc) := ⟨rfl, rfl, rfl, by decide +kernel, rfl, by decide +kernel, by decide +kernel⟩
noncomputable def qWca (s : Stmt) : Scope := match s with
 | .Return (some (.Call _ [(.ListComp _ _ sc _)] _ _)) _ => sc
 | _ => { kind := .function, names := [], isGenerator := false, isCoroutine := false }
noncomputable abbrev cWca : Scope := qWca ((defBody sWc).getD 2 (.Pass ⟨0, 0, 0, 0⟩))
theorem bsWca : BScope (defScope sWc) cWca ["one", "other"] ["size", "times"] [] := { okind := by decide +kernel, kind := by decide +kernel, nocell := by decide +kernel, names := by decide +kernel, fr := by decide +kernel, ff := by decide +kernel, nd := by decide +kernel, vis := by decide +kernel, loc := by decide +kernel, gl := by decide +kernel }
noncomputable def spWc : Sp := fun vs H Q _ => ∃ (a b : Addr) (c n m : Nat) (row lead : List Int), vs = [.ref a, .ref b, .int (c : Int)] ∧ H a = some (.lst (row.map V.int)) ∧ H b = some (.lst (lead.map V.int)) ∧ row.length = n ∧ lead.length = n ∧ n ≤ 1000 ∧ c < n ∧ (∀ x ∈ row, x.natAbs < 2 ^ m) ∧ (∀ x ∈ lead, x.natAbs < 2 ^ m) ∧ m ≤ 60000000 ∧ ∀ q H', Same H H' → H q = none → H' q = some (.lst ((wcol row lead c).map V.int)) → Q (.ref q) H'
section
variable {P : Program} {w : World} {K : PySem.W.Frag} {mg : Str → Option Value} {base : Heap}
set_option maxHeartbeats 4000000 in
theorem ok_Wc {f : Addr} {fd : FuncData} (B : Bl mg) (fW : Has P w K mg base 41 "without_divisor" ["numbers"] spWd) (F : Fun K "without_column" "without_column" sWc f fd) : FnOk P w K mg base CX0 42 f fd ["row", "lead", "column"] spWc := by
 refine F.ok scWc (fun vs H Q E h => ?_) (fun cdv A outer s H vs Q E hr h => ?_)
 ·obtain ⟨a, b, c, n, m, row, lead, rfl, _⟩ := h
  rfl
 ·obtain ⟨a, b, c, n, m, row, lead, rfl, ha, hb, h1, h2, hn, hc, b1, b2, hm, k⟩ := h
  refine' ⟨_, ?hb, ?rd⟩
  case' hb => skip
  case' hb => refine' pss_cons ?g1 ?g2
  case' g2 => refine' pss_cons ?g3 ?g4
  case' g4 => refine' pss_one ?g5
  case g1 => exact ps_setD nmWc 3 (pe_ix ix_d (pvd nmWc 1) (pvd nmWc 2) (fun _ _ => rfl))
  case g3 => exact ps_setD nmWc 4 (pe_ix ix_d (pvd nmWc 0) (pvd nmWc 2) (fun _ _ => rfl))
  case' g5 => refine' ps_ret ?g6
  case' g6 => refine' pe_f fW hr (by decide) ?g7
  case' g7 => refine' pa_1 ?g8
  case' g8 => refine' pe_comp (ix := [3, 4]) bsWca.toCScope rfl rfl ?g9 ?g10 ?g11 ?g12
  case g9 => exact pi_zpl B.zip (pa_2 (pvd nmWc 0) (pvd nmWc 1))
  case g10 =>
   intro _ _ _ _ _ _
   refine' pgb_tup (n := 2) rfl ?g13
   case' g13 => refine' pgs_cons ?g17 ?g16
   case g17 => exact pgb bsWca 0
   case' g16 => refine' pgs_cons ?g19 pgs_nil
   case g19 => exact pgb bsWca 1
  case g11 => exact fun _ _ _ _ _ _ => pts_nil
  case g12 => exact fun _ _ _ _ _ _ => pe_op op_sub (pe_op op_mulB (pvb bsWca 2) (pvb bsWca 0)) (pe_op op_mulB (pvb bsWca 3) (pvb bsWca 1))
  case rd =>
   walk_at "v"
   refine w_ixL hb (atL (by omega)) ?_
   walk_at "v"
   refine w_ixL ha (atL (by omega)) ?_
   walk_at "v"
   refine w_compZl ?_
   walk_at "v"
   refine ⟨a, b, rfl, ⟨_, SqL.of ha⟩, ⟨_, SqL.of hb⟩, fun D hD => ?_⟩
   have q1 := cf_bit b1 c
   have q2 := cf_bit b2 c
   refine cg_zpl (fun x y => lead.getD c 0 * x - row.getD c 0 * y) ha hb (by omega) (by omega) hD (fun x hx y hy H' K' R kR => ?_) (fun H2 K2 e2 => ?_)
   ·walk_at "v"
    refine w_rI (mulBb (bb_of q2 (by omega)) (bb_of (b1 x hx) (by omega))) ?_
    walk_at "v"
    refine w_rI (mulBb (bb_of q1 (by omega)) (bb_of (b2 y hy) (by omega))) ?_
    walk_at "v"
    exact kR _ (Same.refl _)
   walk_at "v"
   refine ⟨D, _, rfl, e2, by rw [List.length_zipWith]; omega, fun q H3 K3 hq e3 => ?_⟩
   exact k q H3 (K2.trans K3) (Same.none K2 hq) e3
end
noncomputable abbrev sRd : Stmt := top 5
noncomputable abbrev nRd : List Str := ["many", "rows", "left", "leads", "column", "place", "lead"]
theorem nmRd : Nm nRd (defScope sRd) := ⟨by decide +kernel, by decide +kernel⟩
theorem scRd : FnScope nRd ["many", "rows"] (defScope sRd) := ⟨rfl, rfl, rfl, by decide +kernel, rfl, by decide +kernel, by decide +kernel⟩
noncomputable def qRda (s : Stmt) : Scope := match s with
 | .Assign _ (.ListComp _ _ sc _) _ => sc
 | _ => { kind := .function, names := [], isGenerator := false, isCoroutine := false }
noncomputable abbrev cRda : Scope := qRda ((defBody sRd).getD 0 (.Pass ⟨0, 0, 0, 0⟩))
theorem bsRda : BScope (defScope sRd) cRda ["row"] [] ["list"] := { okind := by decide +kernel, kind := by decide +kernel, nocell := by decide +kernel, names := by decide +kernel, fr := by decide +kernel, ff := by decide +kernel, nd := by decide +kernel, vis := by decide +kernel, loc := by decide +kernel, gl := by decide +kernel }
noncomputable def qRdb (s : Stmt) : Scope := match s with
 | .For _ _ [_, _, _, (.Assign _ (.ListComp _ _ sc _) _), _, _] _ _ => sc
 | _ => { kind := .function, names := [], isGenerator := false, isCoroutine := false }
noncomputable abbrev cRdb : Scope := qRdb ((defBody sRd).getD 2 (.Pass ⟨0, 0, 0, 0⟩))
theorem bsRdb : BScope (defScope sRd) cRdb ["row"] ["column", "lead"] ["without_column"] := { okind := by decide +kernel, kind := by decide +kernel, nocell := by decide +kernel, names := by decide +kernel, fr := by decide +kernel, ff := by decide +kernel, nd := by decide +kernel, vis := by decide +kernel, loc := by decide +kernel, gl := by decide +kernel }
theorem loRd_2 : (defScope sRd).names.lookup ("left" : Str) = some .local := by decide +kernel
noncomputable def spRd : Sp := fun vs H Q _ => ∃ (l : Addr) (n b : Nat) (as : List Addr) (rows : List (List Int)), vs = [.int (n : Int), .ref l] ∧ H l = some (.lst (as.map V.ref)) ∧ RL H as rows ∧ (∀ r ∈ rows, r.length = n) ∧ n ≤ 100 ∧ rows.length ≤ 100 ∧ (∀ r ∈ rows, ∀ x ∈ r, x.natAbs < 2 ^ b) ∧ bdE b (min n rows.length) ≤ 60000000 ∧
 ∀ t l1 l2 as' H', Same H H' → H' t = some (.tup [.ref l1, .ref l2]) → H' l1 = some (.lst (as'.map V.ref)) → RL H' as' ((red rows n).1.take (red rows n).2.length) → H' l2 = some (.lst (nL (red rows n).2)) → Q (.ref t) H'
theorem bdE_mono {b : Nat} : ∀ {i j : Nat}, i ≤ j → bdE b i ≤ bdE b j
 | i, 0, h => by rw [Nat.le_zero.mp h]; exact Nat.le_refl _
 | i, j + 1, h => by
  rcases Nat.lt_or_ge i (j + 1) with z | z
  ·have := bdE_mono (b := b) (i := i) (j := j) (by omega)
   show _ ≤ 2 * bdE b j + 1
   omega
  ·rw [show i = j + 1 by omega]; exact Nat.le_refl _
theorem Rd.lele {b n c : Nat} {rows left : List (List Int)} {leads : List Nat} (I : Rd b n rows c left leads) : leads.length ≤ c := by
 have h1 := cnt_in I.nd I.lt
 have h2 := List.length_filter_le (fun j => decide (j ∈ leads)) (List.range c)
 rw [List.length_range] at h2
 omega
section
variable {P : Program} {w : World} {K : PySem.W.Frag} {mg : Str → Option Value} {base : Heap}
set_option maxHeartbeats 4000000 in
theorem ok_Rd {f : Addr} {fd : FuncData} (B : Bl mg) (fF : Has P w K mg base 1 "first_with" ["rows", "start", "column"] spFw) (fW : Has P w K mg base 42 "without_column" ["row", "lead", "column"] spWc) (F : Fun K "reduced" "reduced" sRd f fd) : FnOk P w K mg base CX0 43 f fd ["many", "rows"] spRd := by
 refine F.ok scRd (fun vs H Q E h => ?_) (fun cdv A outer s H vs Q E hr h => ?_)
 ·obtain ⟨l, n, b, as, rows, rfl, _⟩ := h
  rfl
 ·obtain ⟨l, n, b, as, rows, rfl, hl, hR, hlen, hn, hrn, hb, hbd, k⟩ := h
  refine' ⟨_, ?hb, ?rd⟩
  case' hb => skip
  case' hb => refine' pss_cons ?g1 ?g2
  case' g2 => refine' pss_cons ?g3 ?g4
  case' g4 => refine' pss_cons ?g5 ?g6
  case' g6 => refine' pss_one ?g7
  case' g1 => refine' ps_setC (i := 2) (ix := []) nmRd.nd rfl loRd_2 bsRda.toCScope rfl rfl ?g8 ?g9 ?g10 ?g11
  case g8 => exact pi_list (pvd nmRd 1)
  case g9 => exact fun _ _ _ _ _ _ => pgb bsRda 0
  case g10 => exact fun _ _ _ _ _ _ => pts_nil
  case g11 => exact fun _ _ _ _ _ _ => pe_cT call_listL B.list PyProof.Rows.boot_list (pa_1 (pvb bsRda 0)) (bsRda.g 0)
  case g3 => exact ps_setD nmRd 3 (pe_lst pa_nil)
  case' g5 => refine' ps_for PassesOwn.never rfl ?g12 (pgd nmRd 4) ?g13
  case g12 => exact pi_r1 B.range (pa_1 (pvd nmRd 0))
  case' g13 => refine' pss_cons ?g14 ?g15
  case' g15 => refine' pss_cons ?g16 ?g17
  case' g17 => refine' pss_cons ?g18 ?g19
  case' g19 => refine' pss_cons ?g20 ?g21
  case' g21 => refine' pss_cons ?g22 ?g23
  case' g23 => refine' pss_one ?g24
  case g14 => exact ps_setD nmRd 5 (pe_f fF hr (by decide) (pa_c (pvd nmRd 2) (pa_2 (pe_cB call_len_seq B.len PySem.boot_len (pa_1 (pvd nmRd 3))) (pvd nmRd 4))))
  case' g16 => refine' ps_if ?g25 ?g26 pss_nil
  case g25 => exact pt_cmp (pc_isN (pvd nmRd 5))
  case' g26 => refine' pss_one ?g28
  case g28 => exact ps_continue
  case g18 => exact ps_setD nmRd 6 (pe_bm PySem.F.plainAttrs_list PySem.F.slot_list_pop PySem.F.type_list_pop mt_popAt (pvd nmRd 2) (pa_1 (pvd nmRd 5)))
  case' g20 => refine' ps_setC (i := 2) (ix := [4, 6]) nmRd.nd rfl loRd_2 bsRdb.toCScope rfl rfl ?g29 ?g30 ?g31 ?g32
  case g29 => exact pi_list (pvd nmRd 2)
  case g30 => exact fun _ _ _ _ _ _ => pgb bsRdb 0
  case g31 => exact fun _ _ _ _ _ _ => pts_nil
  case g32 => exact fun _ _ _ _ _ _ => pe_f fW hr (by decide) (pa_c (pvb bsRdb 0) (pa_2 (pvb bsRdb 2) (pvb bsRdb 1))) (bsRdb.g 0)
  case g22 => exact ps_expr (pe_bm PySem.F.plainAttrs_list PySem.F.slot_list_insert PySem.F.type_list_insert mt_insert (pvd nmRd 2) (pa_2 (pe_cB call_len_seq B.len PySem.boot_len (pa_1 (pvd nmRd 3))) (pvd nmRd 6)))
  case g24 => exact ps_expr (pe_bm PySem.F.plainAttrs_list PySem.F.slot_list_append PySem.F.type_list_append mt_append (pvd nmRd 3) (pa_1 (pvd nmRd 4)))
  case g7 => exact ps_ret (pe_tup (pa_2 (pe_slice sl_list (pvd nmRd 2) po_none (po_some (pe_cB call_len_seq B.len PySem.boot_len (pa_1 (pvd nmRd 3))))) (pvd nmRd 3)))
  case rd =>
   walk_at "v"
   refine ⟨l, rfl, ⟨_, SqL.of hl⟩, fun D hD => ?_⟩
   refine cg_LL id hl hR (by omega) hD (fun i q e1 e2 e3 H' K' R kR => ?_) (fun bs H1 K1 e1 hb1 hf1 => ?_)
   ·walk_at "v"
    refine ⟨q, _, rfl, K' _ _ e3, fun y hy => ?_⟩
    exact kR y _ (Same.new (Same.refl _) hy) hy upd_same
   rw [List.map_id] at hb1
   walk_at "v"
   refine ⟨Nat.zero_le _, fun ld hld => ?_⟩
   obtain ⟨H2, q, K2, e2⟩ := nob (.lst []) hld; rw [q]; clear q
   have hDH : H D = none := hD
   have hldD : ld ≠ D := fun e => by rw [e, e1] at hld; cases hld
   have hldH : H ld = none := Same.none K1 hld
   have hldb : ld ∉ bs := fun hm => by
    obtain ⟨r, _, e⟩ := hb1.map hm
    rw [e] at hld
    cases hld
   walk_at "v"
   refine ⟨_, rfl, by omega, by omega, ?_⟩
   rw [Int.toNat_natCast]
   refine for_range (n := n) (fun c σ H' => ∃ (u4 u5 u6 : Option V) (l' : Addr) (as' : List Addr), σ = [some (.int (n : Int)), some (.ref l), some (.ref l'), some (.ref ld), u4, u5, u6] ∧ Same H H' ∧ H' l' = some (.lst (as'.map V.ref)) ∧ RL H' as' (red rows c).1 ∧ H' ld = some (.lst (nL (red rows c).2)) ∧ H l' = none ∧ l' ≠ ld ∧ ld ∉ as') ⟨none, none, none, D, bs, rfl, K1.trans K2, K2 _ _ e1, hb1.same K2, e2, hDH, Ne.symm hldD, hldb⟩ ?_ ?_
   ·rintro c σ H3 hc ⟨u4, u5, u6, l', as', rfl, K3, e3, r3, f3, hl', hne, hni⟩
    have I := Rd.all hlen hb c
    have hcnt := I.cnt
    have hle := I.le
    have hlc := Rd.lele I
    have I1 := I.step
    rw [Int.zero_add]
    show _
    walk_at "v"
    refine ⟨ld, _, rfl, .inl (SqL.of f3), ?_⟩
    rw [show (nL (red rows c).2).length = (red rows c).2.length from List.length_map _]
    walk_at "v"
    refine ⟨l', (red rows c).2.length, c, as', (red rows c).1, rfl, e3, r3, hle, by omega, fun r hr' => by rw [I.len r hr']; exact hc, ?_⟩
    have er : red rows (c + 1) = redS c (red rows c) := rfl
    unfold redS at er
    walk_at "v"
    refine w_isN ?_
    walk_at "v"
    cases hf : firstW (red rows c).1 (red rows c).2.length c with
    | none =>
     rw [hf] at er
     refine iteP rfl ?_
     refine w_cont ?_
     exact ⟨_, _, _, l', as', rfl, K3, e3, er ▸ r3, er ▸ f3, hl', hne, hni⟩
    | some p =>
     rw [hf] at er
     obtain ⟨p1, p2, p3⟩ := firstW_some hf
     refine iteQ (fun z => by cases z) ?_
     obtain ⟨ap, a1, a2, a3⟩ := r3.at_ p2
     have hpa : p < as'.length := by rw [r3.1]; exact p2
     walk_at "v"
     refine ⟨.inl ⟨rfl, _, SqL.of e3⟩, ?_⟩
     walk_at "v"
     refine ⟨l', _, _, p, .ref ap, rfl, rfl, e3, by omega, by omega, ?_, ?_, ?_⟩
     ·exact seqIndex_nat (by rw [List.length_map]; exact hpa)
     ·rw [List.getElem?_map, a1]; rfl
     have hnl' : l' ∉ as' := r3.ne e3
     have K4 : Same H (upd H3 l' (.lst ((as'.map V.ref).eraseIdx p))) := K3.put hl'
     have e4 : upd H3 l' (.lst ((as'.map V.ref).eraseIdx p)) l' = some (.lst ((as'.eraseIdx p).map V.ref)) := by rw [upd_same, erase_map]
     have r4 : RL (upd H3 l' (.lst ((as'.map V.ref).eraseIdx p))) as' (red rows c).1 := r3.off hnl'
     have f4 : upd H3 l' (.lst ((as'.map V.ref).eraseIdx p)) ld = some (.lst (nL (red rows c).2)) := by rw [upd_ne (Ne.symm hne)]; exact f3
     have a4 : upd H3 l' (.lst ((as'.map V.ref).eraseIdx p)) ap = some (.lst (((red rows c).1.getD p []).map V.int)) := r4.2 p ap _ a1 a2
     generalize upd H3 l' (.lst ((as'.map V.ref).eraseIdx p)) = H4 at K4 e4 r4 f4 a4 ⊢
     walk_at "v"
     refine ⟨l', rfl, ⟨_, SqL.of e4⟩, fun D2 hD2 => ?_⟩
     have bdc : bdE b (red rows c).2.length ≤ 60000000 := by
      have h1 : bdE b ((red rows c).2.length + 1) ≤ bdE b (min n rows.length) := bdE_mono (by omega)
      have h2 : bdE b ((red rows c).2.length + 1) = 2 * bdE b (red rows c).2.length + 1 := rfl
      omega
     refine cg_LL (fun r => wcol r ((red rows c).1.getD p []) c) e4 (r4.erase p) (by rw [List.length_eraseIdx]; split <;> omega) hD2 (fun i q g1 g2 g3 H' K' R kR => ?_) (fun bs2 H5 K5 e5 r5 hf5 => ?_)
     ·have hmem := List.mem_of_mem_eraseIdx (List.mem_of_getElem? g2)
      walk_at "v"
      exact ⟨q, ap, c, n, bdE b (red rows c).2.length, _, _, rfl, K' _ _ g3, K' _ _ a4, I.len _ hmem, I.len _ (List.mem_of_getElem? a2), by omega, hc, I.bit _ hmem, I.bit _ (List.mem_of_getElem? a2), bdc, fun y H'' KK hy ey => kR y H'' KK hy ey⟩
     have f5 := K5 _ _ f4
     have hD2H : H D2 = none := Same.none K4 hD2
     have hD2ld : D2 ≠ ld := fun e => by rw [e, f4] at hD2; cases hD2
     have hD2ap : D2 ≠ ap := fun e => by rw [e, a4] at hD2; cases hD2
     have hapld : ap ≠ ld := fun e => hni (e ▸ List.mem_of_getElem? a1)
     have hldb2 : ld ∉ bs2 := fun hm => by rw [hf5 _ hm] at f4; cases f4
     walk_at "v"
     refine ⟨.inl ⟨rfl, _, SqL.of e5⟩, ?_⟩
     walk_at "v"
     refine ⟨ld, _, rfl, .inl (SqL.of f5), ?_⟩
     rw [show (nL (red rows c).2).length = (red rows c).2.length from List.length_map _]
     walk_at "v"
     have lb2 : bs2.length = (red rows c).1.length - 1 := by rw [r5.1, List.length_map, List.length_eraseIdx, if_pos p2]
     generalize hmi : (((red rows c).2.length : Nat) : Int) = mi
     have hmn : mi.toNat = (red rows c).2.length := by omega
     refine ⟨D2, _, mi, .ref ap, rfl, rfl, e5, by omega, by rw [List.length_map]; omega, by rw [List.length_map]; exact small1000 (by omega), ?_⟩
     have e6 : (bs2.map V.ref).take mi.toNat ++ V.ref ap :: (bs2.map V.ref).drop mi.toNat = (bs2.insertIdx (red rows c).2.length ap).map V.ref := by
      rw [hmn, ins_td _ _ _ (by rw [List.length_map]; omega), ins_map _ _ _ _ (by omega)]
     rw [e6]
     have r6 : RL H5 (bs2.insertIdx (red rows c).2.length ap) (red rows (c + 1)).1 := by
      rw [er]
      exact RL.insert r5 (K5 _ _ a4) (by rw [List.length_map, List.length_eraseIdx, if_pos p2]; omega)
     have hD2n : D2 ∉ bs2.insertIdx (red rows c).2.length ap := fun hm => by
      rcases ins_mem (by omega) hm with z | z
      ·exact hD2ap z
      ·exact r5.ne e5 z
     have K6 : Same H (upd H5 D2 (.lst ((bs2.insertIdx (red rows c).2.length ap).map V.ref))) := (K4.trans K5).put hD2H
     have e7 : upd H5 D2 (.lst ((bs2.insertIdx (red rows c).2.length ap).map V.ref)) D2 = some (.lst ((bs2.insertIdx (red rows c).2.length ap).map V.ref)) := upd_same
     have r7 := r6.off (o := .lst ((bs2.insertIdx (red rows c).2.length ap).map V.ref)) hD2n
     have f7 : upd H5 D2 (.lst ((bs2.insertIdx (red rows c).2.length ap).map V.ref)) ld = some (.lst (nL (red rows c).2)) := by rw [upd_ne (Ne.symm hD2ld)]; exact f5
     generalize upd H5 D2 (.lst ((bs2.insertIdx (red rows c).2.length ap).map V.ref)) = H6 at K6 e7 r7 f7 ⊢
     have hldn : ld ∉ bs2.insertIdx (red rows c).2.length ap := fun hm => by
      rcases ins_mem (by omega) hm with z | z
      ·exact hapld z.symm
      ·exact hldb2 z
     walk_at "v"
     refine ⟨.inl ⟨rfl, _, SqL.of f7⟩, ?_⟩
     walk_at "v"
     refine ⟨ld, _, _, rfl, rfl, f7, by rw [show (nL (red rows c).2).length = (red rows c).2.length from List.length_map _]; exact small1000 (by omega), ?_⟩
     refine ⟨_, _, _, D2, bs2.insertIdx (red rows c).2.length ap, rfl, K6.put hldH, by rw [upd_ne hD2ld]; exact e7, r7.off hldn, ?_, hD2H, hD2ld, hldn⟩
     rw [upd_same, er]
     show some (HO.lst _) = some (HO.lst (nL ((red rows c).2 ++ [c])))
     unfold nL
     rw [List.map_append]
     rfl
   ·rintro σ H3 ⟨u4, u5, u6, l', as', rfl, K3, e3, r3, f3, hl', hne, hni⟩
    have I := Rd.all hlen hb n
    have hle := I.le
    have hcnt := I.cnt
    walk_at "v"
    refine ⟨ld, _, rfl, .inl (SqL.of f3), ?_⟩
    rw [show (nL (red rows n).2).length = (red rows n).2.length from List.length_map _]
    refine ⟨_, rfl, ?_⟩
    refine ⟨l', _, rfl, SqL.of e3, fun s1 hs1 => ?_⟩
    have ec : cutV (as'.map V.ref) none (some (((red rows n).2.length : Nat) : Int)) = (as'.take (red rows n).2.length).map V.ref := by
     rw [cut_to (by rw [List.length_map, r3.1]; exact hle), List.map_take]
    rw [ec]
    obtain ⟨H4, q, K4, e4⟩ := nob (.lst ((as'.take (red rows n).2.length).map V.ref)) hs1; rw [q]; clear q
    walk_at "v"
    refine ⟨by show 2 ≤ sizeLine; decide, fun t ht => ?_⟩
    obtain ⟨H5, q, K5, e5⟩ := nob (.tup [.ref s1, .ref ld]) ht; rw [q]; clear q
    exact k t s1 ld _ H5 ((K3.trans K4).trans K5) e5 (K5 _ _ e4) ((r3.take _).same (K4.trans K5)) ((K4.trans K5) _ _ f3)
end
noncomputable abbrev sCm : Stmt := top 9
noncomputable abbrev nCm : List Str := ["one", "other"]
theorem nmCm : Nm nCm (defScope sCm) := ⟨by decide +kernel, by decide +kernel⟩
theorem scCm : FnScope nCm ["one", "other"] (defScope sCm) := ⟨rfl, rfl, rfl, by decide +kernel, rfl, by decide +kernel, by decide +kernel⟩
noncomputable def spCm : Sp := fun vs H Q _ => ∃ a b : Int, vs = [.int a, .int b] ∧ b ≠ 0 ∧ Bb a ∧ Bb b ∧ ∀ H', Same H H' → Q (.int (cm a b)) H'
section
variable {P : Program} {w : World} {K : PySem.W.Frag} {mg : Str → Option Value} {base : Heap}
set_option maxHeartbeats 4000000 in
theorem ok_Cm {f : Addr} {fd : FuncData} (B : Bl mg) (hN : base.NoSeer) (hT : P.given.tree = none) (fC : Has P w K mg base 1 "common_divisor" ["numbers"] spCd) (F : Fun K "common_multiple" "common_multiple" sCm f fd) : FnOk P w K mg base CX0 41 f fd ["one", "other"] spCm := by
 refine F.ok scCm (fun vs H Q E h => ?_) (fun cdv A outer s H vs Q E hr h => ?_)
 ·obtain ⟨a, b, rfl, _⟩ := h
  rfl
 ·obtain ⟨a, b, rfl, hb0, ha, hb, k⟩ := h
  refine' ⟨_, ?hb, ?rd⟩
  case' hb => skip
  case' hb => refine' pss_one ?g1
  case g1 => exact ps_ret (pe_op (op_fdivG hr (by decide) ⟨hN, hT⟩ ⟨_, _, rfl, rfl, rfl, rfl, rfl⟩) (pe_cB call_abs B.abs PyProof.Rows.boot_abs (pa_1 (pe_op op_mulB (pvd nmCm 0) (pvd nmCm 1)))) (pe_f fC hr (by decide) (pa_1 (pe_lst (pa_2 (pvd nmCm 0) (pvd nmCm 1))))))
  case rd =>
   walk_at "v"
   refine w_rI (mulBb ha hb) ?_
   walk_at "v"
   refine ⟨_, rfl, ?_⟩
   rw [absN]
   walk_at "v"
   refine ⟨by show 2 ≤ sizeLine; decide, fun l hl => ?_⟩
   obtain ⟨H1, q, K1, e1⟩ := nob (.lst [.int a, .int b]) hl; rw [q]; clear q
   walk_at "v"
   refine ⟨l, [a, b], rfl, e1, ?_⟩
   have hm : b ∈ [a, b] := by simp
   have hz : gcdL [a, b] ≠ 0 := fun z => hb0 (gcdL_zero z b hm)
   refine ⟨_, _, rfl, rfl, by omega, ?_⟩
   show Q (.int (((a * b).natAbs : Int).fdiv ((gcdL [a, b] : Nat) : Int))) H1
   rw [Int.fdiv_eq_ediv_of_nonneg _ (by omega)]
   exact k _ K1
end
noncomputable abbrev sNm : Stmt := top 8
noncomputable abbrev nNm : List Str := ["many", "rows", "leads", "free", "bottom", "row", "lead", "numbers"]
theorem nmNm : Nm nNm (defScope sNm) := ⟨by decide +kernel, by decide +kernel⟩
theorem scNm : FnScope nNm ["many", "rows", "leads", "free"] (defScope sNm) := ⟨rfl, rfl, rfl, by decide +kernel, rfl, by decide +kernel, by decide +kernel⟩
noncomputable def qNma (s : Stmt) : Scope := match s with
 | .Assign _ (.ListComp _ _ sc _) _ => sc
 | _ => { kind := .function, names := [], isGenerator := false, isCoroutine := false }
noncomputable abbrev cNma : Scope := qNma ((defBody sNm).getD 2 (.Pass ⟨0, 0, 0, 0⟩))
theorem bsNma : BScope (defScope sNm) cNma ["column"] [] [] := { okind := by decide +kernel, kind := by decide +kernel, nocell := by decide +kernel, names := by decide +kernel, fr := by decide +kernel, ff := by decide +kernel, nd := by decide +kernel, vis := by decide +kernel, loc := by decide +kernel, gl := by decide +kernel }
theorem loNm_7 : (defScope sNm).names.lookup ("numbers" : Str) = some .local := by decide +kernel
noncomputable def spNm : Sp := fun vs H Q _ => ∃ (l ld : Addr) (n f b : Nat) (as : List Addr) (R : List (List Int)) (leads : List Nat), vs = [.int (n : Int), .ref l, .ref ld, .int (f : Int)] ∧ H l = some (.lst (as.map V.ref)) ∧ RL H as R ∧ H ld = some (.lst (nL leads)) ∧ R.length = leads.length ∧ (∀ r ∈ R, r.length = n) ∧ n ≤ 100 ∧ leads.length ≤ 100 ∧ f < n ∧ (∀ x ∈ leads, x < n) ∧ (∀ i, i < leads.length → ro R i (leads.getD i 0) ≠ 0) ∧ (∀ r ∈ R, ∀ x ∈ r, x.natAbs < 2 ^ b) ∧ b ≤ 60000000 ∧ leads.length * b + 1 ≤ 60000000 ∧
 ∀ q H', Same H H' → H' q = some (.tup ((vecF n R leads f).map V.int)) → Q (.ref q) H'
theorem itN {ls : List Nat} {i : Nat} {x : V} (h : (nL ls)[i]? = some x) : i < ls.length ∧ x = .int ((ls.getD i 0 : Nat) : Int) := by
 unfold nL at h
 have hi : i < ls.length := by
  have := (List.getElem?_eq_some_iff.mp h).1
  simpa using this
 rw [List.getElem?_map, List.getElem?_eq_getElem hi] at h
 refine ⟨hi, ?_⟩
 rw [List.getD_eq_getElem?_getD, List.getElem?_eq_getElem hi]
 exact (Option.some.inj h).symm
theorem nL_len (ls : List Nat) : (nL ls).length = ls.length := List.length_map _
section
variable {P : Program} {w : World} {K : PySem.W.Frag} {mg : Str → Option Value} {base : Heap}
set_option maxHeartbeats 4000000 in
theorem ok_Nm {f : Addr} {fd : FuncData} (B : Bl mg) (hN : base.NoSeer) (hT : P.given.tree = none) (fC : Has P w K mg base 41 "common_multiple" ["one", "other"] spCm) (fW : Has P w K mg base 41 "without_divisor" ["numbers"] spWd) (F : Fun K "nought_maker" "nought_maker" sNm f fd) : FnOk P w K mg base CX0 42 f fd ["many", "rows", "leads", "free"] spNm := by
 refine F.ok scNm (fun vs H Q E h => ?_) (fun cdv A outer s H vs Q E hr h => ?_)
 ·obtain ⟨l, ld, n, fr, b, as, R, leads, rfl, _⟩ := h
  rfl
 ·obtain ⟨l, ld, n, fr, b, as, R, leads, rfl, hl, hR, hld, hrl, hlen, hn, hll, hfr, hlt, hown, hbit, hb, hbl, k⟩ := h
  refine' ⟨_, ?hb, ?rd⟩
  case' hb => skip
  case' hb => refine' pss_cons ?g1 ?g2
  case' g2 => refine' pss_cons ?g3 ?g4
  case' g4 => refine' pss_cons ?g5 ?g6
  case' g6 => refine' pss_cons ?g7 ?g8
  case' g8 => refine' pss_cons ?g9 ?g10
  case' g10 => refine' pss_one ?g11
  case g1 => exact ps_setD nmNm 4 pe_int
  case' g3 => refine' ps_for PassesOwn.never rfl ?g12 (pg_tup rfl (pgs_cons (pgd nmNm 5) (pgs_cons (pgd nmNm 6) pgs_nil))) ?g13
  case g12 => exact pi_zpl B.zip (pa_2 (pvd nmNm 1) (pvd nmNm 2))
  case' g13 => refine' pss_one ?g14
  case g14 => exact ps_setD nmNm 4 (pe_f fC hr (by decide) (pa_2 (pvd nmNm 4) (pe_ix ix_d (pvd nmNm 5) (pvd nmNm 6) (fun _ _ => rfl))))
  case' g5 => refine' ps_setC (i := 7) (ix := []) nmNm.nd rfl loNm_7 bsNma.toCScope rfl rfl ?g15 ?g16 ?g17 ?g18
  case g15 => exact pi_r1 B.range (pa_1 (pvd nmNm 0))
  case g16 => exact fun _ _ _ _ _ _ => pgb bsNma 0
  case g17 => exact fun _ _ _ _ _ _ => pts_nil
  case g18 => exact fun _ _ _ _ _ _ => pe_int
  case g7 => exact ps_asg (pvd nmNm 4) (pg_sub (pvd nmNm 7) (pvd nmNm 3) set_d)
  case' g9 => refine' ps_for PassesOwn.never rfl ?g19 (pg_tup rfl (pgs_cons (pgd nmNm 5) (pgs_cons (pgd nmNm 6) pgs_nil))) ?g20
  case g19 => exact pi_zpl B.zip (pa_2 (pvd nmNm 1) (pvd nmNm 2))
  case' g20 => refine' pss_one ?g21
  case g21 => exact ps_asg (pe_op op_mulB (pe_un un_neg (pe_ix ix_d (pvd nmNm 5) (pvd nmNm 3) (fun _ _ => rfl))) (pe_op (op_fdivG hr (by decide) ⟨hN, hT⟩ ⟨_, _, rfl, rfl, rfl, rfl, rfl⟩) (pvd nmNm 4) (pe_ix ix_d (pvd nmNm 5) (pvd nmNm 6) (fun _ _ => rfl)))) (pg_sub (pvd nmNm 7) (pvd nmNm 6) set_d)
  case g11 => exact ps_ret (pe_cT call_tupL B.tuple PyProof.Rows.boot_tuple (pa_1 (pe_f fW hr (by decide) (pa_1 (pvd nmNm 7)))))
  case rd =>
   have bbit := bot_bit (rows := R) (leads := leads) (m := leads.length) (B := b) (fun i hi => cf_bit (hbit _ (getD_mem (by omega))) _)
   have bbb : ∀ i, i ≤ leads.length → Bb (botK R leads i) := fun i hi => by
    refine bb_of (m := i * b + 1) (Nat.lt_of_le_of_lt (bbit i hi) (Nat.pow_lt_pow_right (by decide) (by omega))) ?_
    have : i * b ≤ leads.length * b := Nat.mul_le_mul_right _ hi
    omega
   walk_at "v"
   refine w_forZl ?_
   walk_at "v"
   refine ⟨l, ld, rfl, ⟨_, SqL.of hl⟩, ⟨_, SqL.of hld⟩, ?_⟩
   refine for_zpl (xs := as.map V.ref) (zs := nL leads) (by rw [List.length_map, nL_len, hR.1, hrl]) (fun i σ H' => ∃ u5 u6 u7, σ = [some (.int (n : Int)), some (.ref l), some (.ref ld), some (.int (fr : Int)), some (.int (botK R leads i)), u5, u6, u7] ∧ Same H H') ⟨none, none, none, rfl, Same.refl H⟩ (fun i σ H' ⟨_, _, _, _, k'⟩ => ⟨SqL.of (k' _ _ hl), SqL.of (k' _ _ hld)⟩) ?_ ?_
   ·rintro i x y σ H1 z hx hy ⟨u5, u6, u7, rfl, K1⟩ hz
    obtain ⟨a, ea, rfl⟩ := itR hx
    obtain ⟨hi, rfl⟩ := itN hy
    obtain ⟨a', e1, e2, e3⟩ := hR.at_ (i := i) (by omega)
    rw [ea] at e1
    cases e1
    have hli := hlt _ (getD_mem (d := 0) hi)
    have hlr : (R.getD i []).length = n := hlen _ (List.mem_of_getElem? e2)
    have hbr := hbit _ (List.mem_of_getElem? e2)
    have q1 := cf_bit hbr (leads.getD i 0)
    refine w_gtup upd_same rfl ?_
    refine ⟨_, _, rfl, ?_⟩
    walk_at "v"
    refine ⟨_, _, rfl, ?_⟩
    walk_at "v"
    refine ⟨rfl, ?_⟩
    have K2 : Same H1 (upd H1 z (.tup [.ref a, .int ((leads.getD i 0 : Nat) : Int)])) := Same.new (Same.refl _) hz
    generalize upd H1 z (.tup [.ref a, .int ((leads.getD i 0 : Nat) : Int)]) = H2 at K2 ⊢
    have e4 := (K1.trans K2) _ _ e3
    walk_at "v"
    refine w_ixL e4 (atL (by omega)) ?_
    walk_at "v"
    refine ⟨_, _, rfl, hown i hi, bbb i (by omega), bb_of q1 (by omega), fun H3 K3 => ?_⟩
    exact ⟨_, _, _, rfl, (K1.trans K2).trans K3⟩
   rintro σ H1 ⟨u5, u6, u7, rfl, K1⟩
   rw [List.length_map, hR.1, hrl]
   generalize hbt : botK R leads leads.length = bt at *
   have hbbt : Bb bt := hbt ▸ bbb _ (Nat.le_refl _)
   walk_at "v"
   refine ⟨_, rfl, by omega, by omega, fun D hD => ?_⟩
   rw [Int.toNat_natCast]
   have hDH : H D = none := Same.none K1 hD
   refine cg_rng (lo := 0) (n := n) (fun _ => V.int 0) (by omega) hD (fun i hi H' K' R' kR => ?_) (fun H2 K2 e2 => ?_)
   ·walk_at "v"
    exact kR _ (Same.refl _)
   have e2' : H2 D = some (.lst ((List.replicate n (0 : Int)).map V.int)) := by
    rw [e2, List.map_const', List.length_range, List.map_replicate]
   walk_at "v"
   refine w_set (j := fr) e2' (ixK' (by rw [List.length_map, List.length_replicate]; exact hfr)) ?_
   rw [← List.map_set]
   have K3 : Same H (upd H2 D (.lst (((List.replicate n (0 : Int)).set fr bt).map V.int))) := (K1.trans K2).put hDH
   have e3 : upd H2 D (.lst (((List.replicate n (0 : Int)).set fr bt).map V.int)) D = some (.lst ((numK n R leads fr bt 0).map V.int)) := upd_same
   generalize upd H2 D (.lst (((List.replicate n (0 : Int)).set fr bt).map V.int)) = H3 at K3 e3 ⊢
   walk_at "v"
   refine w_forZl ?_
   walk_at "v"
   refine ⟨l, ld, rfl, ⟨_, SqL.of (K3 _ _ hl)⟩, ⟨_, SqL.of (K3 _ _ hld)⟩, ?_⟩
   refine for_zpl (xs := as.map V.ref) (zs := nL leads) (by rw [List.length_map, nL_len, hR.1, hrl]) (fun i σ H' => ∃ u5 u6, σ = [some (.int (n : Int)), some (.ref l), some (.ref ld), some (.int (fr : Int)), some (.int bt), u5, u6, some (.ref D)] ∧ Same H H' ∧ H' D = some (.lst ((numK n R leads fr bt i).map V.int))) ⟨_, _, rfl, K3, e3⟩ (fun i σ H' ⟨_, _, _, k', _⟩ => ⟨SqL.of (k' _ _ hl), SqL.of (k' _ _ hld)⟩) ?_ ?_
   ·rintro i x y σ H1 z hx hy ⟨u5, u6, rfl, K1, eD⟩ hz
    obtain ⟨a, ea, rfl⟩ := itR hx
    obtain ⟨hi, rfl⟩ := itN hy
    obtain ⟨a', e1, e2, e3⟩ := hR.at_ (i := i) (by omega)
    rw [ea] at e1
    cases e1
    have hli := hlt _ (getD_mem (d := 0) hi)
    have hlr : (R.getD i []).length = n := hlen _ (List.mem_of_getElem? e2)
    have hbr := hbit _ (List.mem_of_getElem? e2)
    have q1 := cf_bit hbr (leads.getD i 0)
    refine w_gtup upd_same rfl ?_
    refine ⟨_, _, rfl, ?_⟩
    walk_at "v"
    refine ⟨_, _, rfl, ?_⟩
    walk_at "v"
    refine ⟨rfl, ?_⟩
    have K2 : Same H1 (upd H1 z (.tup [.ref a, .int ((leads.getD i 0 : Nat) : Int)])) := Same.new (Same.refl _) hz
    generalize upd H1 z (.tup [.ref a, .int ((leads.getD i 0 : Nat) : Int)]) = H2 at K2 ⊢
    have e4 := (K1.trans K2) _ _ e3
    walk_at "v"
    refine w_ixL e4 (atL (by omega)) ?_
    refine ⟨_, rfl, ?_⟩
    walk_at "v"
    refine w_ixL e4 (atL (i := leads.getD i 0) (by omega)) ?_
    refine ⟨_, _, rfl, rfl, hown i hi, ?_⟩
    have q2 := cf_bit hbr fr
    have hnb : Bb (-(R.getD i []).getD fr 0) := bb_of (m := b) (by rw [Int.natAbs_neg]; exact q2) (by omega)
    have hdb : Bb (bt.fdiv ((R.getD i []).getD (leads.getD i 0) 0)) := bb_fdiv hbbt
    refine w_rI (mulBb hnb hdb) ?_
    walk_at "v"
    refine w_set (j := leads.getD i 0) (K2 _ _ eD) (ixK' (by rw [List.length_map, numK_len]; exact hli)) ?_
    refine ⟨_, _, rfl, (K1.trans K2).put hDH, ?_⟩
    rw [upd_same, ← List.map_set]
    rfl
   rintro σ H1 ⟨u5, u6, rfl, K1, eD⟩
   rw [List.length_map, hR.1, hrl] at eD
   walk_at "v"
   refine ⟨D, _, rfl, eD, by rw [numK_len]; omega, fun q H4 K4 hq e4 => ?_⟩
   walk_at "v"
   refine ⟨q, _, rfl, e4, fun t H5 K5 e5 => ?_⟩
   refine k t H5 ((K1.trans K4).trans K5) ?_
   rw [e5]
   unfold vecF
   rw [hbt]
end
structure KZ (mg : Str → Option Value) : Prop where
 sorts : Kn mg "SORTS" 0
 rules : Kn mg "RULES" 1
 takes : Kn mg "TAKES" 0
 gives : Kn mg "GIVES" 1
noncomputable abbrev sCo : Stmt := top 19
noncomputable abbrev nCo : List Str := ["rule"]
theorem nmCo : Nm nCo (defScope sCo) := ⟨by decide +kernel, by decide +kernel⟩
theorem scCo : FnScope nCo ["rule"] (defScope sCo) := ⟨rfl, rfl, rfl, by decide +kernel, rfl, by decide +kernel, by decide +kernel⟩
noncomputable def qCoa (s : Stmt) : Scope := match s with
 | .Return (some (.ListComp _ _ sc _)) _ => sc
 | _ => { kind := .function, names := [], isGenerator := false, isCoroutine := false }
noncomputable abbrev cCoa : Scope := qCoa ((defBody sCo).getD 0 (.Pass ⟨0, 0, 0, 0⟩))
theorem bsCoa : BScope (defScope sCo) cCoa ["taken", "given"] [] [] := { okind := by decide +kernel, kind := by decide +kernel, nocell := by decide +kernel, names := by decide +kernel, fr := by decide +kernel, ff := by decide +kernel, nd := by decide +kernel, vis := by decide +kernel, loc := by decide +kernel, gl := by decide +kernel }
theorem chg_zip {x : List Int × List Int} (h : x.1.length = x.2.length) : chg x = List.zipWith (fun t g => g - t) x.1 x.2 := by
 refine List.ext_getElem? fun i => ?_
 unfold chg
 rw [List.getElem?_map, List.getElem?_zipWith]
 by_cases hi : i < x.1.length
 ·rw [List.getElem?_range hi, List.getElem?_eq_getElem hi, List.getElem?_eq_getElem (by omega)]
  show some (x.2.getD i 0 - x.1.getD i 0) = some (x.2[i] - x.1[i])
  rw [List.getD_eq_getElem?_getD, List.getD_eq_getElem?_getD, List.getElem?_eq_getElem hi, List.getElem?_eq_getElem (by omega)]
  rfl
 ·rw [List.getElem?_eq_none (by rw [List.length_range]; omega), List.getElem?_eq_none (by omega)]
  rfl
theorem chg_len (x : List Int × List Int) : (chg x).length = x.1.length := by
 unfold chg
 rw [List.length_map, List.length_range]
noncomputable def spCo : Sp := fun vs H Q _ => ∃ (r a b : Addr) (x : List Int × List Int), vs = [.ref r] ∧ H r = some (.tup [.ref a, .ref b]) ∧ H a = some (.tup (x.1.map V.int)) ∧ H b = some (.tup (x.2.map V.int)) ∧ x.1.length = x.2.length ∧ x.1.length ≤ 1000 ∧ ∀ q H', Same H H' → H q = none → H' q = some (.lst ((chg x).map V.int)) → Q (.ref q) H'
section
variable {P : Program} {w : World} {K : PySem.W.Frag} {mg : Str → Option Value} {base : Heap}
set_option maxHeartbeats 4000000 in
theorem ok_Co {f : Addr} {fd : FuncData} (B : Bl mg) (Z : KZ mg) (F : Fun K "change_of" "change_of" sCo f fd) : FnOk P w K mg base CX0 1 f fd ["rule"] spCo := by
 refine F.ok scCo (fun vs H Q E h => ?_) (fun cdv A outer s H vs Q E hr h => ?_)
 ·obtain ⟨r, a, b, x, rfl, _⟩ := h
  rfl
 ·obtain ⟨r, a, b, x, rfl, h1, h2, h3, hl, hn, k⟩ := h
  refine' ⟨_, ?hb, ?rd⟩
  case' hb => skip
  case' hb => refine' pss_one ?g1
  case' g1 => refine' ps_ret ?g2
  case' g2 => refine' pe_comp (ix := []) bsCoa.toCScope rfl rfl ?g3 ?g4 ?g5 ?g6
  case g3 => exact pi_zp B.zip (pa_2 (pe_ix ix_d (pvd nmCo 0) (pe_k Z.takes) (fun _ _ => rfl)) (pe_ix ix_d (pvd nmCo 0) (pe_k Z.gives) (fun _ _ => rfl)))
  case g4 =>
   intro _ _ _ _ _ _
   refine' pgb_tup (n := 2) rfl ?g7
   case' g7 => refine' pgs_cons ?g11 ?g10
   case g11 => exact pgb bsCoa 0
   case' g10 => refine' pgs_cons ?g13 pgs_nil
   case g13 => exact pgb bsCoa 1
  case g5 => exact fun _ _ _ _ _ _ => pts_nil
  case g6 => exact fun _ _ _ _ _ _ => pe_op op_sub (pvb bsCoa 1) (pvb bsCoa 0)
  case rd =>
   walk_at "v"
   refine w_ixT h1 rfl ?_
   walk_at "v"
   refine w_ixT h1 rfl ?_
   walk_at "v"
   refine ⟨a, b, rfl, ⟨_, SqT.of h2⟩, ⟨_, SqT.of h3⟩, fun D hD => ?_⟩
   refine G2.zip_map (fun t g => g - t) h2 h3 hl hn (fun i t g H' _ _ K' R kR => ?_) (fun H2 K2 e2 => ?_) hD
   ·walk_at "v"
    exact kR _ (Same.refl _)
   exact k D H2 K2 hD (by rw [e2, chg_zip hl])
end
noncomputable abbrev sAk : Stmt := top 18
noncomputable abbrev nAk : List Str := ["pot", "many", "solved"]
theorem nmAk : Nm nAk (defScope sAk) := ⟨by decide +kernel, by decide +kernel⟩
theorem scAk : FnScope nAk ["pot"] (defScope sAk) := ⟨rfl, rfl, rfl, by decide +kernel, rfl, by decide +kernel, by decide +kernel⟩
noncomputable def qAka (s : Stmt) : Scope := match s with
 | .Assign _ (.Call _ [_, (.ListComp _ _ sc _)] _ _) _ => sc
 | _ => { kind := .function, names := [], isGenerator := false, isCoroutine := false }
noncomputable abbrev cAka : Scope := qAka ((defBody sAk).getD 1 (.Pass ⟨0, 0, 0, 0⟩))
theorem bsAka : BScope (defScope sAk) cAka ["rule"] [] ["change_of"] := { okind := by decide +kernel, kind := by decide +kernel, nocell := by decide +kernel, names := by decide +kernel, fr := by decide +kernel, ff := by decide +kernel, nd := by decide +kernel, vis := by decide +kernel, loc := by decide +kernel, gl := by decide +kernel }
noncomputable def qAkb (s : Stmt) : Scope := match s with
 | .Return (some (.ListComp _ _ sc _)) _ => sc
 | _ => { kind := .function, names := [], isGenerator := false, isCoroutine := false }
noncomputable abbrev cAkb : Scope := qAkb ((defBody sAk).getD 2 (.Pass ⟨0, 0, 0, 0⟩))
theorem bsAkb : BScope (defScope sAk) cAkb ["sort"] ["many", "solved"] ["nought_maker"] := { okind := by decide +kernel, kind := by decide +kernel, nocell := by decide +kernel, names := by decide +kernel, fr := by decide +kernel, ff := by decide +kernel, nd := by decide +kernel, vis := by decide +kernel, loc := by decide +kernel, gl := by decide +kernel }
noncomputable def TL (H : Hp) (as : List Addr) (rows : List (List Int)) : Prop := as.length = rows.length ∧ ∀ (i : Nat) (a : Addr) (r : List Int), as[i]? = some a → rows[i]? = some r → H a = some (.tup (r.map V.int))
theorem TL.same {H H' : Hp} {as : List Addr} {rows : List (List Int)} (k : Same H H') (h : TL H as rows) : TL H' as rows := ⟨h.1, fun i a r e1 e2 => k _ _ (h.2 i a r e1 e2)⟩
theorem TL.off {H : Hp} {as : List Addr} {rows : List (List Int)} {D : Addr} {ys : List V} {o : HO} (hD : H D = some (.lst ys)) (h : TL H as rows) : TL (upd H D o) as rows := ⟨h.1, fun i a r e1 e2 => by
 have := h.2 i a r e1 e2
 rw [upd_ne (fun e => by rw [e, hD] at this; cases this)]
 exact this⟩
theorem TL.snoc {H : Hp} {as : List Addr} {rows : List (List Int)} {a : Addr} {r : List Int} (h : TL H as rows) (ha : H a = some (.tup (r.map V.int))) : TL H (as ++ [a]) (rows ++ [r]) := by
 refine ⟨by rw [List.length_append, List.length_append, h.1]; rfl, fun i b q e1 e2 => ?_⟩
 by_cases hi : i < as.length
 ·rw [List.getElem?_append_left hi] at e1
  rw [List.getElem?_append_left (by rw [← h.1]; exact hi)] at e2
  exact h.2 i b q e1 e2
 ·have hi' : i = as.length := by
   have := (List.getElem?_eq_some_iff.mp e1).1
   rw [List.length_append] at this
   have : i < as.length + 1 := this
   omega
  rw [hi', List.getElem?_append_right (Nat.le_refl _), Nat.sub_self] at e1
  rw [hi', h.1, List.getElem?_append_right (Nat.le_refl _), Nat.sub_self] at e2
  cases e1
  cases e2
  exact ha
noncomputable def chs (tg : Rows) : List (List Int) := tg.map chg
noncomputable def kepts (m : Nat) (tg : Rows) : List (List Int) := (frees m (red (chs tg) m).2).map (vecF m (red (chs tg) m).1 (red (chs tg) m).2)
theorem chs_ok {H : Hp} {rs : List Addr} {tg : Rows} {m : Nat} (h : Rls H rs tg m) : (∀ r ∈ chs tg, r.length = m) ∧ ∀ r ∈ chs tg, ∀ x ∈ r, x.natAbs < 2 ^ 5 := by
 have key : ∀ y ∈ tg, y.1.length = m ∧ y.2.length = m ∧ (∀ x ∈ y.1, 0 ≤ x ∧ x ≤ 30) ∧ ∀ x ∈ y.2, 0 ≤ x ∧ x ≤ 30 := fun y hy => by
  obtain ⟨i, hi, e⟩ := List.getElem_of_mem hy
  obtain ⟨r, a, b, _, _, _, _, h1, h2, h3, h4⟩ := h.get hi
  rw [e] at h1 h2 h3 h4
  exact ⟨h1, h2, h3, h4⟩
 refine ⟨fun r hr => ?_, fun r hr x hx => ?_⟩
 ·obtain ⟨y, hy, rfl⟩ := List.mem_map.mp hr
  rw [chg_len]
  exact (key y hy).1
 ·obtain ⟨y, hy, rfl⟩ := List.mem_map.mp hr
  obtain ⟨h1, h2, h3, h4⟩ := key y hy
  unfold chg at hx
  obtain ⟨j, hj, rfl⟩ := List.mem_map.mp hx
  have hj' := List.mem_range.mp hj
  have q1 := h3 _ (getD_mem (d := 0) hj')
  have q2 := h4 _ (getD_mem (j := j) (d := 0) (by omega))
  show _ < 32
  omega
noncomputable def spAk : Sp := fun vs H Q _ => ∃ (p : Addr) (m : Nat) (tg : Rows), vs = [.ref p] ∧ PotK H p m tg ∧ ∀ D bs H', Same H H' → H D = none → H' D = some (.lst (bs.map V.ref)) → TL H' bs (kepts m tg) → Q (.ref D) H'
theorem inN {x : Nat} {ls : List Nat} : inV (.int (x : Int)) (nL ls) = decide (x ∈ ls) := by
 unfold inV nL
 rw [Bool.eq_iff_iff, List.any_map, List.any_eq_true, decide_eq_true_iff]
 constructor
 ·rintro ⟨y, hy, e⟩
  have : (y : Int) = (x : Int) := by simpa [eqV] using e
  rw [show x = y by omega]
  exact hy
 ·exact fun h => ⟨x, h, by simp [eqV]⟩
theorem flN (ls : List Nat) : (nL ls).all flatV = true := by
 unfold nL
 rw [List.all_map, List.all_eq_true]
 exact fun _ _ => rfl
section
variable {P : Program} {w : World} {K : PySem.W.Frag} {mg : Str → Option Value} {base : Heap}
set_option maxHeartbeats 4000000 in
theorem ok_Ak {f : Addr} {fd : FuncData} (B : Bl mg) (Z : KZ mg) (fR : Has P w K mg base 43 "reduced" ["many", "rows"] spRd) (fC : Has P w K mg base 1 "change_of" ["rule"] spCo) (fN : Has P w K mg base 42 "nought_maker" ["many", "rows", "leads", "free"] spNm) (F : Fun K "all_kept" "all_kept" sAk f fd) : FnOk P w K mg base CX0 44 f fd ["pot"] spAk := by
 refine F.ok scAk (fun vs H Q E h => ?_) (fun cdv A outer s H vs Q E hr h => ?_)
 ·obtain ⟨p, m, tg, rfl, _⟩ := h
  rfl
 ·obtain ⟨p, m, tg, rfl, hP, k⟩ := h
  refine' ⟨_, ?hb, ?rd⟩
  case' hb => skip
  case' hb => refine' pss_cons ?g1 ?g2
  case' g2 => refine' pss_cons ?g3 ?g4
  case' g4 => refine' pss_one ?g5
  case g1 => exact ps_setD nmAk 1 (pe_cB call_len_seq B.len PySem.boot_len (pa_1 (pe_ix ix_d (pvd nmAk 0) (pe_k Z.sorts) (fun _ _ => rfl))))
  case' g3 => refine' ps_setD nmAk 2 ?g6
  case' g6 => refine' pe_f fR hr (by decide) ?g7
  case' g7 => refine' pa_2 (pvd nmAk 1) ?g8
  case' g8 => refine' pe_comp (ix := []) bsAka.toCScope rfl rfl ?g9 ?g10 ?g11 ?g12
  case g9 => exact pi_tup (pe_ix ix_d (pvd nmAk 0) (pe_k Z.rules) (fun _ _ => rfl))
  case g10 => exact fun _ _ _ _ _ _ => pgb bsAka 0
  case g11 => exact fun _ _ _ _ _ _ => pts_nil
  case g12 => exact fun _ _ _ _ _ _ => pe_f fC hr (by decide) (pa_1 (pvb bsAka 0)) (bsAka.g 0)
  case' g5 => refine' ps_ret ?g13
  case' g13 => refine' pe_comp (ix := [1, 2]) bsAkb.toCScope rfl rfl ?g14 ?g15 ?g16 ?g17
  case g14 => exact pi_r1 B.range (pa_1 (pvd nmAk 1))
  case g15 => exact fun _ _ _ _ _ _ => pgb bsAkb 0
  case g16 => exact fun _ _ _ _ _ _ => pts_one (pt_cmpR op_notInL (pvb bsAkb 0) (pe_ix ix_d (pvb bsAkb 2) pe_int (fun _ _ => rfl)) (by with_unfolding_all rfl))
  case g17 => exact fun _ _ _ _ _ _ => pe_f fN hr (by decide) (pa_c (pvb bsAkb 1) (pa_c (pe_ix ix_d (pvb bsAkb 2) pe_int (fun _ _ => rfl)) (pa_2 (pe_ix ix_d (pvb bsAkb 2) pe_int (fun _ _ => rfl)) (pvb bsAkb 0)))) (bsAkb.g 0)
  case rd =>
   obtain ⟨ps, pr, pin, pb, ans, rs, nm, h1, h2, h3, h4, hR⟩ := hP.ex
   have n8 := hP.n8
   have m8 := hP.m8
   have rl := hR.1
   obtain ⟨c1, c2⟩ := chs_ok hR
   have clen : (chs tg).length = tg.length := List.length_map _
   walk_at "v"
   refine w_ixT h1 rfl ?_
   walk_at "v"
   refine ⟨ps, _, rfl, .inr h2.sq, ?_⟩
   rw [List.length_map, h3]
   walk_at "v"
   refine w_ixT h1 rfl ?_
   walk_at "v"
   refine ⟨pr, rfl, ⟨_, SqT.of h4⟩, fun D hD => ?_⟩
   refine cgo_tup (xs := rs.map V.ref) (fun i ys H' => ∃ bs : List Addr, ys = bs.map V.ref ∧ RL H' bs ((chs tg).take i) ∧ Same H H' ∧ D ∉ bs) ⟨[], rfl, by simpa using RL.nil, Same.new (Same.refl H) hD, by simp⟩ (fun i ys H' _ ⟨_, _, _, k', _⟩ => SqT.of (k' _ _ h4)) ?_ ?_
   ·rintro i x ys H1 hx ⟨bs, rfl, hb, K1, hDb⟩ hDy R S kR _
    obtain ⟨q, eq, rfl⟩ := itR hx
    have hi : i < tg.length := by
     have := (List.getElem?_eq_some_iff.mp eq).1
     omega
    obtain ⟨r, a, b, g1, g2, g3, g4, g5, g6, g7, g8⟩ := hR.get hi
    rw [eq] at g1
    cases g1
    refine w_all (iteT ?_)
    walk_at "v"
    refine ⟨q, a, b, tg[i], rfl, K1 _ _ g2, K1 _ _ g3, K1 _ _ g4, by rw [g5, g6], by omega, fun y H2 K2 hy ey => ?_⟩
    have hyD : y ≠ D := fun e => by rw [e, hDy] at hy; cases hy
    have hyb : D ∉ bs ++ [y] := fun hm => by
     rcases List.mem_append.mp hm with z | z
     ·exact hDb z
     ·exact hyD (List.mem_singleton.mp z).symm
    refine kR _ _ (K2 _ _ hDy) (by rw [List.length_map, hb.1, List.length_take]; exact small1000 (by omega)) ⟨bs ++ [y], by rw [List.map_append]; rfl, ?_, (K1.trans K2).put hD, hyb⟩
    rw [List.take_add_one, show (chs tg)[i]? = some (chg tg[i]) by unfold chs; rw [List.getElem?_map, List.getElem?_eq_getElem hi]; rfl]
    exact RL.off hyb (RL.snoc (hb.same K2) ey)
   rintro ys H1 ⟨bs, rfl, hb, K1, _⟩ e1
   rw [List.length_map, List.take_of_length_le (by omega)] at hb
   have b8 : bdE 5 (min m (chs tg).length) ≤ 60000000 := Nat.le_trans (bdE_mono (j := 8) (by omega)) (by decide)
   walk_at "v"
   refine ⟨D, m, 5, bs, chs tg, rfl, e1, hb, c1, by omega, by omega, c2, b8, fun t l1 l2 as' H2 K2 et el1 hr1 el2 => ?_⟩
   have I := Rd.all c1 c2 m
   have hle := I.le
   have KA := K1.trans K2
   walk_at "v"
   refine ⟨_, rfl, by omega, by omega, fun D2 hD2 => ?_⟩
   rw [Int.toNat_natCast]
   have hfl : ∀ c, c < m → (frees (c + 1) (red (chs tg) m).2) = frees c (red (chs tg) m).2 ++ (if c ∈ (red (chs tg) m).2 then [] else [c]) := fun c _ => by
    unfold frees
    rw [List.range_succ, List.filter_append]
    congr 1
    by_cases h : c ∈ (red (chs tg) m).2 <;> simp [h]
   refine cgo_range (n := m) (fun i ys H' => ∃ bs : List Addr, ys = bs.map V.ref ∧ TL H' bs ((frees i (red (chs tg) m).2).map (vecF m (red (chs tg) m).1 (red (chs tg) m).2)) ∧ Same H2 H') ⟨[], rfl, ⟨rfl, fun i a r e => nomatch e⟩, Same.new (Same.refl H2) hD2⟩ ?_ ?_
   ·rintro i ys H3 hi ⟨bs3, rfl, hb3, K3⟩ hDy R S kR kS
    rw [Int.zero_add]
    walk_at "v"
    refine w_ixT (K3 _ _ et) rfl ?_
    refine ⟨l2, _, rfl, K3 _ _ el2, rfl, flN _, ?_⟩
    rw [inN]
    walk_at "v"
    refine iteDN (fun h => ?_) (fun h => ?_)
    ·have kl := frees_len I.nd I.lt
     have hin : i ∈ frees m (red (chs tg) m).2 := List.mem_filter.mpr ⟨List.mem_range.mpr hi, decide_eq_true h⟩
     have hk7 : (red (chs tg) m).2.length ≤ 7 := by
      have := List.length_pos_of_mem hin
      omega
     have hB : bdE 5 (red (chs tg) m).2.length ≤ 767 := Nat.le_trans (bdE_mono (j := 7) hk7) (by decide)
     have hBk : (red (chs tg) m).2.length * bdE 5 (red (chs tg) m).2.length ≤ 7 * 767 := Nat.mul_le_mul hk7 hB
     walk_at "v"
     refine w_ixT (K3 _ _ et) rfl ?_
     walk_at "v"
     refine w_ixT (K3 _ _ et) rfl ?_
     walk_at "v"
     refine ⟨l1, l2, m, i, bdE 5 (red (chs tg) m).2.length, as', _, (red (chs tg) m).2, rfl, K3 _ _ el1, hr1.same K3, K3 _ _ el2, by rw [List.length_take]; omega, fun r hr' => I.len r (List.mem_of_mem_take hr'), by omega, by omega, hi, I.lt, fun j hj => by rw [ro_take hj]; exact I.own j hj, fun r hr' => I.bit r (List.mem_of_mem_take hr'), by omega, by omega, fun q H4 K4 e4 => ?_⟩
     rw [vec_take] at e4
     have lb3 : bs3.length ≤ m := by
      rw [hb3.1, List.length_map]
      unfold frees
      have := List.length_filter_le (fun j => decide (j ∉ (red (chs tg) m).2)) (List.range i)
      rw [List.length_range] at this
      omega
     refine kR _ _ (K4 _ _ hDy) (by rw [List.length_map]; exact small1000 (by omega)) ⟨bs3 ++ [q], by rw [List.map_append]; rfl, ?_, (K3.trans K4).put hD2⟩
     rw [hfl i hi, if_neg h, List.map_append]
     exact TL.off (K4 _ _ hDy) (TL.snoc (hb3.same K4) e4)
    ·refine kS _ hDy ⟨bs3, rfl, ?_, K3⟩
     rw [hfl i hi, if_pos h, List.append_nil]
     exact hb3
   rintro ys H3 ⟨bs3, rfl, hb3, K3⟩ e3
   exact k D2 bs3 H3 (KA.trans K3) (Same.none KA hD2) e3 hb3
end
end K93
namespace EL
theorem dotF_add' (u v w : Nat → Int) (n : Nat) : dotF n (fun j => u j + v j) w = dotF n u w + dotF n v w := by
 rw [dotF_comm, dotF_add, dotF_comm w u, dotF_comm w v]
theorem dotF_smul' (u v : Nat → Int) (c : Int) (n : Nat) : dotF n (fun j => c * u j) v = c * dotF n u v := by
 rw [dotF_comm, dotF_smul, dotF_comm]
noncomputable def eF (i : Nat) : Nat → Int := fun j => if j = i then 1 else 0
theorem dotF_e {i n : Nat} (h : i < n) (v : Nat → Int) : dotF n (eF i) v = v i := by
 rw [dotF_one n h fun j _ hne => by unfold eF; rw [if_neg hne, Int.zero_mul]]
 unfold eF
 rw [if_pos rfl, Int.one_mul]
theorem dotF_congr {u v w : Nat → Int} : ∀ n, (∀ j, j < n → v j = w j) → dotF n u v = dotF n u w
 | 0, _ => rfl
 | n + 1, h => by
  unfold dotF
  rw [dotF_congr n (fun j hj => h j (by omega)), h n (by omega)]
theorem sp_weights {rows : List (List Int)} {v : Nat → Int} (p : SpR rows v) : ∃ d : Int, d ≠ 0 ∧ ∃ w : Nat → Int, ∀ j, d * v j = dotF rows.length w (fun s => ro rows s j) := by
 induction p with
 | of h =>
  obtain ⟨r, hr, rfl⟩ := h
  obtain ⟨i, hi, e⟩ := mem_getD hr
  refine ⟨1, by decide, eF i, fun j => ?_⟩
  rw [dotF_e hi, Int.one_mul]
  unfold ro
  rw [e]
 | zero => exact ⟨1, by decide, fun _ => 0, fun j => by rw [dotF_none _ fun j _ => Int.zero_mul _, Int.mul_zero]⟩
 | @add u v _ _ a b =>
  obtain ⟨d1, h1, w1, e1⟩ := a
  obtain ⟨d2, h2, w2, e2⟩ := b
  refine ⟨d1 * d2, Int.mul_ne_zero h1 h2, fun s => d2 * w1 s + d1 * w2 s, fun j => ?_⟩
  rw [dotF_add', dotF_smul', dotF_smul', ← e1, ← e2, Int.mul_add]
  rw [Int.mul_comm d1 d2, Int.mul_assoc, Int.mul_comm d2 d1, Int.mul_assoc]
 | @smul u c _ a =>
  obtain ⟨d, h, w, e⟩ := a
  exact ⟨d, h, fun s => c * w s, fun j => by rw [dotF_smul', ← e, Int.mul_left_comm]⟩
 | @div u c hc _ a =>
  obtain ⟨d, h, w, e⟩ := a
  exact ⟨d * c, Int.mul_ne_zero h hc, w, fun j => by rw [← e, Int.mul_assoc]⟩
noncomputable abbrev Tw := List Int × Nat × (Nat → Int)
noncomputable def TW (n : Nat) (ts : List Tw) : Prop := (ts.map fun x => x.2.1).Nodup ∧ (∀ x ∈ ts, x.1.length = n ∧ dotF n x.2.2 (cf x.1) ≠ 0) ∧ ∀ x ∈ ts, ∀ y ∈ ts, x.2.1 ≠ y.2.1 → dotF n y.2.2 (cf x.1) = 0
theorem TW.step {n p : Nat} {ts : List Tw} (T : TW n ts) : ∃ ts' : List Tw, TW n ts' ∧ ts'.map Prod.fst = lrN p (ts.map Prod.fst) ∧ ts'.length + lrF p (ts.map Prod.fst) = ts.length := by
 obtain ⟨t1, t2, t3⟩ := T
 have eH : lrH p (ts.map Prod.fst) = (ts.filter fun x => decide (cf x.1 p ≠ 0)).map Prod.fst := by
  unfold lrH; rw [List.filter_map]; rfl
 have eR : lrR p (ts.map Prod.fst) = (ts.filter fun x => !decide (cf x.1 p ≠ 0)).map Prod.fst := by
  unfold lrR; rw [List.filter_map]
  congr 1
  refine List.filter_congr fun x _ => ?_
  simp
 have pm : (ts.filter (fun x => decide (cf x.1 p ≠ 0)) ++ ts.filter (fun x => !decide (cf x.1 p ≠ 0))).Perm ts := List.filter_append_perm _ _
 have mH : ∀ x, x ∈ ts.filter (fun x => decide (cf x.1 p ≠ 0)) → x ∈ ts ∧ cf x.1 p ≠ 0 := fun x hx => ⟨(List.mem_filter.mp hx).1, of_decide_eq_true (List.mem_filter.mp hx).2⟩
 have mR : ∀ x, x ∈ ts.filter (fun x => !decide (cf x.1 p ≠ 0)) → x ∈ ts := fun x hx => (List.mem_filter.mp hx).1
 generalize hA : ts.filter (fun x => decide (cf x.1 p ≠ 0)) = A at *
 generalize hB : ts.filter (fun x => !decide (cf x.1 p ≠ 0)) = B at *
 have nd : ((A ++ B).map fun x => x.2.1).Nodup := (pm.map fun x => x.2.1).nodup_iff.mpr t1
 have ln := pm.length_eq
 rw [List.length_append] at ln
 unfold lrN lrF
 rw [eH, eR]
 cases A with
 | nil =>
  refine ⟨B, ⟨by simpa using nd, fun x hx => t2 x (mR x hx), fun x hx y hy => t3 x (mR x hx) y (mR y hy)⟩, rfl, by simpa using ln⟩
 | cons l hs =>
  obtain ⟨l1, l2⟩ := mH l List.mem_cons_self
  rw [List.cons_append, List.map_cons, List.nodup_cons] at nd
  have nl : ∀ x, x ∈ hs ++ B → x.2.1 ≠ l.2.1 := fun x hx e => nd.1 (List.mem_map.mpr ⟨x, hx, e⟩)
  have mS : ∀ x, x ∈ hs → x ∈ ts := fun x hx => (mH x (List.mem_cons_of_mem _ hx)).1
  have key : ∀ z : Tw, z ∈ B ++ hs.map (fun x => ((lrow l.1 p x.1, x.2) : Tw)) → ∃ x, x ∈ hs ++ B ∧ x ∈ ts ∧ z.2 = x.2 ∧ z.1.length = n ∧ (∀ w, dotF n w (cf l.1) = 0 → (dotF n w (cf z.1) = 0 ↔ dotF n w (cf x.1) = 0)) := fun z hz => by
   rcases List.mem_append.mp hz with h | h
   ·exact ⟨z, List.mem_append.mpr (.inr h), mR z h, rfl, (t2 z (mR z h)).1, fun j _ => Iff.rfl⟩
   ·obtain ⟨x, hx, rfl⟩ := List.mem_map.mp h
    refine ⟨x, List.mem_append.mpr (.inl hx), mS x hx, rfl, ?_, fun w hw => ?_⟩
    ·show (lrow l.1 p x.1).length = n
     rw [lrow_len]; exact (t2 x (mS x hx)).1
    ·show dotF n w (cf (lrow l.1 p x.1)) = 0 ↔ _
     rw [show cf (lrow l.1 p x.1) = (fun j => cf l.1 p * cf x.1 j + (-cf x.1 p) * cf l.1 j) from funext fun j => by rw [lrow_at (t2 x (mS x hx)).1 (t2 l l1).1, Int.neg_mul, Int.sub_eq_add_neg], dotF_add, dotF_smul, dotF_smul, hw, Int.mul_zero, Int.add_zero]
     exact ⟨fun h => (Int.mul_eq_zero.mp h).resolve_left l2, fun h => by rw [h, Int.mul_zero]⟩
  have l0 : ∀ x, x ∈ hs ++ B → x ∈ ts → dotF n x.2.2 (cf l.1) = 0 := fun x h1 h2 => t3 l l1 x h2 fun e => nl x h1 e.symm
  refine ⟨B ++ hs.map (fun x => ((lrow l.1 p x.1, x.2) : Tw)), ⟨?_, fun z hz => ?_, fun z hz y hy hne => ?_⟩, ?_, ?_⟩
  ·rw [List.map_append, List.map_map]
   have nd2 := nd.2
   rw [List.map_append] at nd2
   exact (List.perm_append_comm.nodup_iff).mp nd2
  ·obtain ⟨x, x1, x2, x3, x4, x5⟩ := key z hz
   refine ⟨x4, ?_⟩
   rw [x3]
   intro e
   exact (t2 x x2).2 ((x5 _ (l0 x x1 x2)).mp e)
  ·obtain ⟨x, x1, x2, x3, x4, x5⟩ := key z hz
   obtain ⟨y', y1, y2, y3, _⟩ := key y hy
   rw [y3]
   exact (x5 _ (l0 y' y1 y2)).mpr (t3 x x2 y' y2 (by rw [← x3, ← y3]; exact hne))
  ·rw [List.map_append, List.map_map, List.map_cons]
   show _ = List.map Prod.fst B ++ List.map (lrow l.1 p) (List.map Prod.fst hs)
   rw [List.map_map]
   rfl
  ·rw [if_neg (by simp), List.length_append, List.length_map]
   rw [List.length_cons] at ln
   omega
theorem TW.all {n : Nat} {ts : List Tw} (T : TW n ts) : ∀ p, ∃ ts' : List Tw, TW n ts' ∧ ts'.map Prod.fst = (lr (ts.map Prod.fst) p).1 ∧ ts'.length + (lr (ts.map Prod.fst) p).2 = ts.length
 | 0 => ⟨ts, T, rfl, rfl⟩
 | p + 1 => by
  obtain ⟨t1, T1, e1, l1⟩ := TW.all T p
  obtain ⟨t2, T2, e2, l2⟩ := T1.step (p := p)
  refine ⟨t2, T2, ?_, ?_⟩
  ·rw [e2, e1]; rfl
  ·show t2.length + ((lr (ts.map Prod.fst) p).2 + lrF p (lr (ts.map Prod.fst) p).1) = _
   rw [← e1]
   omega
theorem TW.rank {n b : Nat} {ts : List Tw} (T : TW n ts) (hb : ∀ r ∈ ts.map Prod.fst, ∀ x ∈ r, x.natAbs < 2 ^ b) : (lr (ts.map Prod.fst) n).2 = ts.length := by
 obtain ⟨t1, T1, e1, l1⟩ := T.all n
 have hl : ∀ r ∈ ts.map Prod.fst, r.length = n := fun r hr => by
  obtain ⟨x, hx, rfl⟩ := List.mem_map.mp hr
  exact (T.2.1 x hx).1
 have L := Lr.all hl hb n
 cases t1 with
 | nil => simpa using l1
 | cons x t1 =>
  have hx := T1.2.1 x List.mem_cons_self
  refine absurd (dotF_none n fun j hj => ?_) hx.2
  rw [L.low x.1 (by rw [← e1]; exact List.mem_map.mpr ⟨x, List.mem_cons_self, rfl⟩) j hj, Int.mul_zero]
noncomputable def mrow (ks : List (List Int)) (a : List Int) (s : Nat) : List Int := (ks.map fun v => v.getD s 0) ++ [a.getD s 0]
noncomputable def mrows (n : Nat) (ks : List (List Int)) (a : List Int) : List (List Int) := (List.range n).map (mrow ks a)
theorem mrow_len (ks : List (List Int)) (a : List Int) (s : Nat) : (mrow ks a s).length = ks.length + 1 := by
 unfold mrow
 rw [List.length_append, List.length_map]
 rfl
theorem mrow_at {ks : List (List Int)} {a : List Int} {s j : Nat} (h : j < ks.length) : cf (mrow ks a s) j = cf (ks.getD j []) s := by
 unfold mrow cf
 rw [List.getD_eq_getElem?_getD, List.getElem?_append_left (by rw [List.length_map]; exact h), List.getElem?_map, List.getElem?_eq_getElem h, List.getD_eq_getElem?_getD (l := ks), List.getElem?_eq_getElem h]
 rfl
theorem mrow_last {ks : List (List Int)} {a : List Int} {s : Nat} : cf (mrow ks a s) ks.length = cf a s := by
 unfold mrow cf
 rw [List.getD_eq_getElem?_getD, List.getElem?_append_right (by rw [List.length_map]; exact Nat.le_refl _), List.length_map, Nat.sub_self]
 rfl
theorem mrows_ro {n : Nat} {ks : List (List Int)} {a : List Int} {s : Nat} (h : s < n) (j : Nat) : ro (mrows n ks a) s j = cf (mrow ks a s) j := by
 unfold ro mrows
 rw [List.getD_eq_getElem?_getD, List.getElem?_map, List.getElem?_range h]
 rfl
theorem made_none {b n : Nat} {ks : List (List Int)} {a : List Int} {left : List (List Int)} {leads : List Nat} (I : Rd b (ks.length + 1) (mrows n ks a) (ks.length + 1) left leads) (h : ks.length ∈ leads) :
  ∃ w : Nat → Int, (∀ v ∈ ks, dotF n w (cf v) = 0) ∧ dotF n w (cf a) ≠ 0 := by
 obtain ⟨i, hi, e⟩ := List.getElem_of_mem h
 have eg : leads.getD i 0 = ks.length := by rw [List.getD_eq_getElem?_getD, List.getElem?_eq_getElem hi, e]; rfl
 have h1 := I.own i hi
 rw [eg] at h1
 obtain ⟨d, hd, w, hw⟩ := sp_weights (I.sp1 _ (SpR.mem (getD_mem (d := []) (Nat.lt_of_lt_of_le hi I.le))))
 have ln : (mrows n ks a).length = n := by unfold mrows; rw [List.length_map, List.length_range]
 rw [ln] at hw
 refine ⟨w, fun v hv => ?_, fun z => ?_⟩
 ·obtain ⟨j, hj, ej⟩ := mem_getD hv
  have h2 := hw j
  rw [show cf (left.getD i []) j = 0 from I.bef i j hi (by rw [eg]; exact hj), Int.mul_zero] at h2
  rw [h2]
  refine dotF_congr n fun s hs => ?_
  rw [mrows_ro hs, mrow_at hj, ej]
 ·have h2 := hw ks.length
  rw [dotF_congr (w := cf a) n fun s hs => by rw [mrows_ro hs, mrow_last], z] at h2
  exact (Int.mul_eq_zero.mp h2).elim hd h1
theorem made_some {b n : Nat} (hb : 1 ≤ b) {ks : List (List Int)} {a : List Int} {left : List (List Int)} {leads : List Nat} (I : Rd b (ks.length + 1) (mrows n ks a) (ks.length + 1) left leads) (h : ks.length ∉ leads) :
  let v := vecF (ks.length + 1) left leads ks.length
  v.length = ks.length + 1 ∧ 0 < cf v ks.length ∧ ∀ s, s < n → dotF ks.length (fun j => -cf v j) (fun j => cf (ks.getD j []) s) = cf v ks.length * cf a s := by
 obtain ⟨W, _⟩ := I.vec hb (Nat.lt_succ_self _) h
 refine ⟨W.len, W.pos, fun s hs => ?_⟩
 have hm : mrow ks a s ∈ mrows n ks a := List.mem_map.mpr ⟨s, List.mem_range.mpr hs, rfl⟩
 have e := W.ker _ hm
 unfold dotF at e
 rw [mrow_last, dotF_congr (w := fun j => cf (ks.getD j []) s) ks.length fun j hj => mrow_at hj] at e
 have e2 : dotF ks.length (fun j => -cf (vecF (ks.length + 1) left leads ks.length) j) (fun j => cf (ks.getD j []) s) = -dotF ks.length (cf (vecF (ks.length + 1) left leads ks.length)) (fun j => cf (ks.getD j []) s) := by
  have := dotF_smul' (cf (vecF (ks.length + 1) left leads ks.length)) (fun j => cf (ks.getD j []) s) (-1) ks.length
  rw [show (fun j => -cf (vecF (ks.length + 1) left leads ks.length) j) = fun j => -1 * cf (vecF (ks.length + 1) left leads ks.length) j from funext fun j => by omega, this]
  omega
 rw [e2]
 omega
end EL
namespace EL
theorem dotF_swap (r p : Nat → Int) (M : Nat → Nat → Int) (n : Nat) : ∀ k, dotF n r (fun s => dotF k p (fun j => M j s)) = dotF k p (fun j => dotF n r (M j))
 | 0 => dotF_none n fun j _ => Int.mul_zero _
 | k + 1 => by
  show dotF n r (fun s => dotF k p (fun j => M j s) + p k * M k s) = dotF k p (fun j => dotF n r (M j)) + p k * dotF n r (M k)
  rw [dotF_add, dotF_smul, dotF_swap r p M n k]
theorem Rd.ker_w {b n : Nat} (hb : 1 ≤ b) {rows left : List (List Int)} {leads : List Nat} (I : Rd b n rows n left leads) {v w : Nat → Int} (hv : ∀ r ∈ rows, dotF n v (cf r) = 0) (hw : ∀ f, f < n → f ∉ leads → dotF n w (cf (vecF n left leads f)) = 0) : dotF n w v = 0 := by
 have key : ∀ fs : List Nat, fs.Nodup → (∀ f ∈ fs, f < n ∧ f ∉ leads) → ∃ d : Int, d ≠ 0 ∧ ∃ s : Nat → Int, dotF n w s = 0 ∧ (∀ r ∈ rows, dotF n s (cf r) = 0) ∧ ∀ f ∈ fs, d * v f = s f := by
  intro fs
  induction fs with
  | nil => exact fun _ _ => ⟨1, by decide, fun _ => 0, dotF_none n fun j _ => Int.mul_zero _, fun r _ => dotF_none n fun j _ => Int.zero_mul _, fun f h => nomatch h⟩
  | cons f fs ih =>
   intro nd hf
   rw [List.nodup_cons] at nd
   obtain ⟨d, hd, s, s1, s2, s3⟩ := ih nd.2 fun g hg => hf g (List.mem_cons_of_mem _ hg)
   obtain ⟨f1, f2⟩ := hf f List.mem_cons_self
   obtain ⟨W, _⟩ := I.vec hb f1 f2
   have h0 := hw f f1 f2
   generalize vecF n left leads f = k at W h0
   refine ⟨cf k f * d, Int.mul_ne_zero W.own hd, fun j => cf k f * s j + (d * v f - s f) * cf k j, ?_, fun r hr => ?_, fun g hg => ?_⟩
   ·rw [dotF_add, dotF_smul, dotF_smul, s1, h0, Int.mul_zero, Int.mul_zero]
    rfl
   ·rw [dotF_add', dotF_smul', dotF_smul', s2 r hr, W.ker r hr, Int.mul_zero, Int.mul_zero]
    rfl
   ·show cf k f * d * v g = cf k f * s g + (d * v f - s f) * cf k g
    rcases List.mem_cons.mp hg with e | hg'
    ·rw [e, Int.mul_comm (d * v f - s f), ← Int.mul_add, Int.mul_assoc]
     congr 1
     omega
    ·have hgf : g ≠ f := fun e => nd.1 (e ▸ hg')
     rw [W.oth g hgf (hf g hg).2, Int.mul_zero, Int.add_zero, Int.mul_assoc, s3 g hg']
 obtain ⟨d, hd, s, s1, s2, s3⟩ := key (frees n leads) (List.Nodup.sublist List.filter_sublist List.nodup_range) fun f hf => ⟨List.mem_range.mp (List.mem_filter.mp hf).1, of_decide_eq_true (List.mem_filter.mp hf).2⟩
 have z : ∀ j, j < n → d * v j = s j := fun j hj => by
  by_cases h : j ∈ leads
  ·obtain ⟨i, hi, e⟩ := List.getElem_of_mem h
   have eg : leads.getD i 0 = j := by rw [List.getD_eq_getElem?_getD, List.getElem?_eq_getElem hi, e]; rfl
   have hr := I.sp1 _ (SpR.mem (getD_mem (d := []) (Nat.lt_of_lt_of_le hi I.le)))
   have h1 : dotF n (fun j => d * v j + -1 * s j) (cf (left.getD i [])) = 0 := by
    rw [dotF_add', dotF_smul', dotF_smul', dotF_sp hv hr, dotF_sp s2 hr, Int.mul_zero, Int.mul_zero]
    rfl
   rw [dotF_one n hj fun q hq hne => ?_] at h1
   ·have h2 : cf (left.getD i []) j ≠ 0 := by
     have := I.own i hi
     rw [eg] at this
     exact this
    have := (Int.mul_eq_zero.mp h1).resolve_right h2
    omega
   ·by_cases hl : q ∈ leads
    ·obtain ⟨i', hi', e'⟩ := List.getElem_of_mem hl
     have eg' : leads.getD i' 0 = q := by rw [List.getD_eq_getElem?_getD, List.getElem?_eq_getElem hi', e']; rfl
     have : ro left i (leads.getD i' 0) = 0 := I.oth i' i hi' (Nat.lt_of_lt_of_le hi I.le) fun e => hne (by rw [← eg, ← eg', e])
     rw [eg'] at this
     show _ * ro left i q = 0
     rw [this, Int.mul_zero]
    ·have := s3 q (List.mem_filter.mpr ⟨List.mem_range.mpr hq, decide_eq_true hl⟩)
     rw [this, show s q + -1 * s q = 0 by omega, Int.zero_mul]
  ·exact s3 j (List.mem_filter.mpr ⟨List.mem_range.mpr hj, decide_eq_true h⟩)
 have h3 : dotF n w (fun j => d * v j) = 0 := by rw [dotF_congr n z]; exact s1
 rw [dotF_smul] at h3
 exact (Int.mul_eq_zero.mp h3).resolve_left hd
end EL
namespace L2
open PySem PySem.Spec PyProof.Rows
section
variable {prog : Program} {w : World} {A : Around} {E : Value → Shared → Prop} {s : Shared}
theorem zipW_item {z TI TO i1 i2 l1 l2 : Addr} {k1 k2 : Nat} {xs ys : Array Value} {x y a b : Value} {Q : Value → Shared → Prop} (D : ZipApart z TI TO i1 i2 l1 l2) (hz : IsZip s.heap z TI TO .none) (hTI : IsPair s.heap TI (.ref i1) (.ref i2)) (hTO : IsPair s.heap TO a b)
  (h1 : s.heap.IsListIter i1 l1 k1) (h2 : s.heap.IsTupleIter i2 l2 k2) (hl1 : s.heap.IsList l1 xs) (hl2 : s.heap.IsTuple l2 ys) (hx : xs[k1]? = some x) (hy : ys[k2]? = some y)
  (hQ : ∀ h', IsZip h' z TI TO (rawInt s.heap.objs.size) → IsPair h' TO x y → h'.IsListIter i1 l1 (k1 + 1) → h'.IsTupleIter i2 l2 (k2 + 1) → IsPair h' s.heap.objs.size x y →
   (∀ d o, d ≠ z → d ≠ TO → d ≠ i1 → d ≠ i2 → s.heap.get? d = some o → h'.get? d = some o) → Q (.ref s.heap.objs.size) { s with heap := h' }) :
  wpAny (model prog w) A (Builtin.«zip.__next__» ⟨[.ref z], []⟩) (fun f s' => ∃ v, f = .done (.ret v) ∧ Q v s') E s := by
 show wpAny _ _ (field (.ref z) 2 >>= _) _ _ _; refine wpAny_bind (wpAny_field hz rfl (x := .bool false) rfl ?_)
 show wpAny _ _ (field (.ref z) 3 >>= _) _ _ _; refine wpAny_bind (wpAny_field hz rfl (x := .ref TI) rfl ?_)
 refine wpAny_bind (wpAny_seqItems hTI rfl ?_); show wpAny _ _ (Builtin.SmallTypes.ownedTupleIsFree (.ref z) >>= _) _ _ _
 refine wpAny_bind ?_; unfold Builtin.SmallTypes.ownedTupleIsFree
 refine wpAny_bind (wpAny_field hz rfl (x := .none) rfl (wpAny_pure ?_)); simp only [if_true]
 refine wpAny_bind (wpAny_rule ?_); refine wpAny_bind (wpAny_field hz rfl (x := .ref TO) rfl ?_)
 refine wpAny_bind (wpAny_setField_rec hz (by simp) fun g1 zz1 s1 => ?_); replace zz1 : IsZip g1 z TI TO .ellipsis := zz1
 refine wpAny_bind ?_; simp only [List.zipIdx_cons, List.zipIdx_nil, List.forIn_cons, List.forIn_nil]
 refine wpAny_bind (wpAny_bind (wpAny_onRaise ?_)); show wpAny _ _ (Builtin.SmallTypes.nextOf (.ref i1) >>= _) _ _ _
 refine wpAny_bind (wpAny_nextOf_list_item (lstJ h1 s1.extBut D.i1z) (lstX hl1 s1.extBut D.l1z) hx fun g2 j2 s2 => wpAny_pure ?_)
 have o2 : IsPair g2 TO a b := s2.extBut _ _ D.TOi1 (s1.extBut _ _ D.TOz hTO)
 refine wpAny_bind (wpAny_seqItems o2 rfl ?_); refine wpAny_bind (wpAny_updateSeq_pair o2 fun g3 o3 s3 => ?_); replace o3 : IsPair g3 TO x b := o3
 refine wpAny_bind (wpAny_letGo (wpAny_pure ?_)); refine wpAny_bind (wpAny_bind (wpAny_onRaise ?_)); show wpAny _ _ (Builtin.SmallTypes.nextOf (.ref i2) >>= _) _ _ _
 refine wpAny_bind (nextT_item (tupJ (tupJ (tupJ h2 s1.extBut D.i2z) s2.extBut D.i12.symm) s3.extBut D.TOi2.symm) (tupX (tupX (tupX hl2 s1.extBut D.l2z) s2.extBut D.l2i1) s3.extBut D.l2TO) hy fun g4 j4 s4 => wpAny_pure ?_)
 have o4 : IsPair g4 TO x b := s4.extBut _ _ D.TOi2 o3
 refine wpAny_bind (wpAny_seqItems o4 rfl ?_); refine wpAny_bind (wpAny_updateSeq_pair o4 fun g5 o5 s5 => ?_); replace o5 : IsPair g5 TO x y := o5
 refine wpAny_bind (wpAny_letGo (wpAny_pure (wpAny_pure ?_))); refine wpAny_bind (wpAny_seqItems o5 rfl ?_); refine wpAny_bind (wpAny_newTuple ?_)
 have sz : g5.objs.size = s.heap.objs.size := by rw [s5.1, s4.1, s3.1, s2.1, s1.1]
 have z5 : IsZip g5 z TI TO .ellipsis := s5.extBut _ _ D.TOz.symm (s4.extBut _ _ D.i2z.symm (s3.extBut _ _ D.TOz.symm (s2.extBut _ _ D.i1z.symm zz1)))
 have k5 : ∀ c o, c ≠ z → c ≠ TO → c ≠ i1 → c ≠ i2 → s.heap.get? c = some o → g5.get? c = some o := fun c o c1 c2 c3 c4 q => s5.extBut _ _ c2 (s4.extBut _ _ c4 (s3.extBut _ _ c2 (s2.extBut _ _ c3 (s1.extBut _ _ c1 q))))
 have a5 : g5.IsListIter i1 l1 (k1 + 1) := lstJ (lstJ (lstJ j2 s3.extBut D.TOi1.symm) s4.extBut D.i12) s5.extBut D.TOi1.symm
 have b5 : g5.IsTupleIter i2 l2 (k2 + 1) := tupJ j4 s5.extBut D.TOi2.symm
 have zlt : z < g5.objs.size := Heap.lt_size z5
 show wpAny _ _ (Builtin.SmallTypes.ownedTupleHandOut (.ref z) (.ref g5.objs.size) >>= _) _ _ _; refine wpAny_bind ?_; unfold Builtin.SmallTypes.ownedTupleHandOut
 have z6 : IsZip (g5.push { cls := .type "tuple", data := .seq #[x, y] }) z TI TO .ellipsis := Heap.get?_push_of_some _ z5
 refine wpAny_bind (wpAny_setField_rec z6 (by simp) fun g7 z7 s7 => ?_); replace z7 : IsZip g7 z TI TO (rawInt g5.objs.size) := z7
 refine wpAny_setField_rec z7 (by simp) fun g8 z8 s8 => ?_; replace z8 : IsZip g8 z TI TO (rawInt g5.objs.size) := z8
 have up : ∀ c o, c ≠ z → g5.get? c = some o → g8.get? c = some o := fun c o c1 q => s8.extBut _ _ c1 (s7.extBut _ _ c1 (Heap.get?_push_of_some _ q))
 have t8 : IsPair g8 g5.objs.size x y := s8.extBut _ _ (Nat.ne_of_gt zlt) (s7.extBut _ _ (Nat.ne_of_gt zlt) (Heap.get?_push_size _ rfl))
 rw [sz] at z8 t8; refine wpAny_pure ⟨_, rfl, ?_⟩; show Q (.ref g5.objs.size) _; rw [sz]
 exact hQ g8 z8 (up _ _ D.TOz o5) (a5.at fun o q => up _ o D.i1z q) (b5.at fun o q => up _ o D.i2z q) t8 fun c o c1 c2 c3 c4 q => up c o c1 (k5 c o c1 c2 c3 c4 q)
theorem zipW_end {z TI TO i1 i2 l1 l2 : Addr} {k1 k2 : Nat} {xs ys : Array Value} {a b : Value} {Q : Fin → Shared → Prop} (hh : A.handled = none) (D : ZipApart z TI TO i1 i2 l1 l2) (hz : IsZip s.heap z TI TO .none) (hTI : IsPair s.heap TI (.ref i1) (.ref i2)) (hTO : IsPair s.heap TO a b)
  (h1 : s.heap.IsListIter i1 l1 k1) (h2 : s.heap.IsTupleIter i2 l2 k2) (hl1 : s.heap.IsList l1 xs) (hl2 : s.heap.IsTuple l2 ys) (hend : xs[k1]? = none ∨ ys[k2]? = none)
  (hE : ∀ h' e, (∀ d o, d ≠ z → d ≠ TO → d ≠ i1 → d ≠ i2 → s.heap.get? d = some o → h'.get? d = some o) → (∃ o, h'.get? e = some o ∧ o.cls = .type "StopIteration") → E (.ref e) { s with heap := h' }) : wpAny (model prog w) A (Builtin.«zip.__next__» ⟨[.ref z], []⟩) Q E s := by
 show wpAny _ _ (field (.ref z) 2 >>= _) _ _ _; refine wpAny_bind (wpAny_field hz rfl (x := .bool false) rfl ?_)
 show wpAny _ _ (field (.ref z) 3 >>= _) _ _ _; refine wpAny_bind (wpAny_field hz rfl (x := .ref TI) rfl ?_)
 refine wpAny_bind (wpAny_seqItems hTI rfl ?_); show wpAny _ _ (Builtin.SmallTypes.ownedTupleIsFree (.ref z) >>= _) _ _ _
 refine wpAny_bind ?_; unfold Builtin.SmallTypes.ownedTupleIsFree
 refine wpAny_bind (wpAny_field hz rfl (x := .none) rfl (wpAny_pure ?_)); simp only [if_true]
 refine wpAny_bind (wpAny_rule ?_); refine wpAny_bind (wpAny_field hz rfl (x := .ref TO) rfl ?_)
 refine wpAny_bind (wpAny_setField_rec hz (by simp) fun g1 zz1 s1 => ?_); replace zz1 : IsZip g1 z TI TO .ellipsis := zz1
 refine wpAny_bind ?_; simp only [List.zipIdx_cons, List.zipIdx_nil, List.forIn_cons, List.forIn_nil]
 refine wpAny_bind (wpAny_bind (wpAny_onRaise ?_)); show wpAny _ _ (Builtin.SmallTypes.nextOf (.ref i1) >>= _) _ _ _
 cases hx : xs[k1]? with
 | none =>
  refine wpAny_bind (wpAny_nextOf_list_end hh (lstJ h1 s1.extBut D.i1z) (lstX hl1 s1.extBut D.l1z) hx fun g2 e s2 he => ?_)
  obtain ⟨oe, hoe, hce⟩ := he; have z2 : IsZip g2 z TI TO .ellipsis := s2 _ _ D.i1z.symm zz1
  have ez : e ≠ z := fun q => by subst q; rw [z2] at hoe; cases hoe; simp at hce
  refine wpAny_setField_rec z2 (by simp) fun g3 _ s3 => hE g3 e (fun c o c1 _ c3 _ q => s3.extBut _ _ c1 (s2 _ _ c3 (s1.extBut _ _ c1 q))) ⟨oe, s3.extBut _ _ ez hoe, hce⟩
 | some x =>
  have hy : ys[k2]? = none := by rcases hend with q | q; rw [hx] at q; cases q; exact q
  refine wpAny_bind (wpAny_nextOf_list_item (lstJ h1 s1.extBut D.i1z) (lstX hl1 s1.extBut D.l1z) hx fun g2 j2 s2 => wpAny_pure ?_)
  have o2 : IsPair g2 TO a b := s2.extBut _ _ D.TOi1 (s1.extBut _ _ D.TOz hTO)
  refine wpAny_bind (wpAny_seqItems o2 rfl ?_); refine wpAny_bind (wpAny_updateSeq_pair o2 fun g3 o3 s3 => ?_); refine wpAny_bind (wpAny_letGo (wpAny_pure ?_))
  refine wpAny_bind (wpAny_bind (wpAny_onRaise ?_)); show wpAny _ _ (Builtin.SmallTypes.nextOf (.ref i2) >>= _) _ _ _
  refine wpAny_bind (nextT_end hh (tupJ (tupJ (tupJ h2 s1.extBut D.i2z) s2.extBut D.i12.symm) s3.extBut D.TOi2.symm) (tupX (tupX (tupX hl2 s1.extBut D.l2z) s2.extBut D.l2i1) s3.extBut D.l2TO) hy fun g4 e s4 he => ?_)
  obtain ⟨oe, hoe, hce⟩ := he; have z4 : IsZip g4 z TI TO .ellipsis := s4 _ _ D.i2z.symm (s3.extBut _ _ D.TOz.symm (s2.extBut _ _ D.i1z.symm zz1))
  have ez : e ≠ z := fun q => by subst q; rw [z4] at hoe; cases hoe; simp at hce
  refine wpAny_setField_rec z4 (by simp) fun g5 _ s5 => hE g5 e (fun c o c1 c2 c3 c4 q => s5.extBut _ _ c1 (s4 _ _ c4 (s3.extBut _ _ c2 (s2.extBut _ _ c3 (s1.extBut _ _ c1 q))))) ⟨oe, s5.extBut _ _ ez hoe, hce⟩
end
noncomputable abbrev zwH1 (h : Heap) (a : Addr) : Heap := h.push { cls := .type "list_iterator", data := .fields #[.ref a, .int 0 0] }
noncomputable abbrev zwH2 (h : Heap) (a b : Addr) : Heap := (zwH1 h a).push { cls := .type "tuple_iterator", data := .fields #[.ref b, .int 0 0] }
noncomputable abbrev zwH3 (h : Heap) (a b : Addr) : Heap := (zwH2 h a b).push { cls := .type "tuple", data := .seq #[.ref h.objs.size, .ref (zwH1 h a).objs.size] }
noncomputable abbrev zwH4 (h : Heap) (a b : Addr) : Heap := (zwH3 h a b).push { cls := .type "tuple", data := .seq #[.none, .none] }
noncomputable abbrev zwH5 (h : Heap) (a b : Addr) : Heap := (zwH4 h a b).push { cls := .type "zip", data := .fields #[.none, .bool false, .bool false, .ref (zwH2 h a b).objs.size, .ref (zwH3 h a b).objs.size] }
theorem zw_new (a b : Addr) (xs ys : Array Value) : Meets (Builtin.«zip.__new__» ⟨[.type "zip", .ref a, .ref b], []⟩) (fun _ R s => s.heap.IsList a xs ∧ s.heap.IsTuple b ys ∧ R (.ok (.ret (.ref (zwH4 s.heap a b).objs.size))) { s with heap := zwH5 s.heap a b }) :=
 .of_wp fun prog w A R s h => by
  obtain ⟨hp, g, d, tk, os⟩ := s; obtain ⟨hA, hB, h⟩ := h; have hsub := sub_zip
  have tA : Heap.IsList (Shared.heap ⟨hp, g, d, tk, os⟩) a xs := hA
  have tB : Heap.IsTuple (Shared.heap ⟨hp.push { cls := .type "list_iterator", data := .fields #[.ref a, .int 0 0] }, g, d, tk, os⟩) b ys := let ⟨o, e, r⟩ := hB; ⟨o, Heap.get?_push_of_some _ e, r⟩
  wp_walk using wpAny_pyIter_list tA, wpAny_pyIter_tuple tB
  exact ⟨_, rfl, h⟩
section
variable {prog : Program} {w : World} {A : Around} {E : Value → Shared → Prop} {s : Shared}
theorem call_zw {a b : Addr} {xs ys : Array Value} {Q : Value → Shared → Prop} (hA : s.heap.IsList a xs) (hB : s.heap.IsTuple b ys)
  (k : ∀ h', IsZip h' (s.heap.objs.size + 4) (s.heap.objs.size + 2) (s.heap.objs.size + 3) .none → IsPair h' (s.heap.objs.size + 2) (.ref s.heap.objs.size) (.ref (s.heap.objs.size + 1)) → IsPair h' (s.heap.objs.size + 3) .none .none →
   h'.IsListIter s.heap.objs.size a 0 → h'.IsTupleIter (s.heap.objs.size + 1) b 0 → (∀ c o, s.heap.get? c = some o → h'.get? c = some o) → Q (.ref (s.heap.objs.size + 4)) { s with heap := h' }) :
  wpAny (model prog w) A (call (.type "zip") [.ref a, .ref b]) Q E s := by
 refine callType_new F.called_zip (by decide) (F.typeCall_zip_2 _ _) (F.newCall_zip_2 _ _) (fun obj => F.args_object_init_3 obj _ _) F.entry_zip_new (zw_new a b xs ys) ⟨hA, hB, ?_⟩
 have z1 : (zwH1 s.heap a).objs.size = s.heap.objs.size + 1 := Heap.size_push ..
 have z2 : (zwH2 s.heap a b).objs.size = s.heap.objs.size + 2 := by rw [Heap.size_push, z1]
 have z3 : (zwH3 s.heap a b).objs.size = s.heap.objs.size + 3 := by rw [Heap.size_push, z2]
 have z4 : (zwH4 s.heap a b).objs.size = s.heap.objs.size + 4 := by rw [Heap.size_push, z3]
 have g5 : (zwH5 s.heap a b).get? (zwH4 s.heap a b).objs.size = some _ := Heap.get?_push_size _ rfl
 have g4 : (zwH5 s.heap a b).get? (zwH3 s.heap a b).objs.size = some _ := Heap.get?_push_of_some _ (Heap.get?_push_size _ rfl)
 have g3 : (zwH5 s.heap a b).get? (zwH2 s.heap a b).objs.size = some _ := Heap.get?_push_of_some _ (Heap.get?_push_of_some _ (Heap.get?_push_size _ rfl))
 have g2 : (zwH5 s.heap a b).get? (zwH1 s.heap a).objs.size = some _ := Heap.get?_push_of_some _ (Heap.get?_push_of_some _ (Heap.get?_push_of_some _ (Heap.get?_push_size _ rfl)))
 have g1 : (zwH5 s.heap a b).get? s.heap.objs.size = some _ := Heap.get?_push_of_some _ (Heap.get?_push_of_some _ (Heap.get?_push_of_some _ (Heap.get?_push_of_some _ (Heap.get?_push_size _ rfl))))
 show _ ∧ _
 rw [z2, z3, z4] at g5; rw [z1, z2] at g3; rw [z3] at g4; rw [z1] at g2
 have kk : ∀ c o, s.heap.get? c = some o → (zwH5 s.heap a b).get? c = some o := fun c o q => Heap.get?_push_of_some _ (Heap.get?_push_of_some _ (Heap.get?_push_of_some _ (Heap.get?_push_of_some _ (Heap.get?_push_of_some _ q))))
 rw [z4]
 exact ⟨⟨_, g5, rfl⟩, k _ g5 g3 g4 ⟨_, g1, rfl, rfl⟩ ⟨_, g2, rfl, rfl⟩ kk⟩
end
noncomputable def Itw (K : PySem.W.Frag) (a b : Addr) : It :=
 ⟨fun i H => ∃ xs ys x y, SqL K H a xs ∧ SqT K H b ys ∧ xs[i]? = some x ∧ ys[i]? = some y, fun i H v H' => ∃ p x y, v = .ref p ∧ H p = none ∧ H' = upd H p (.tup [x, y]) ∧ (∀ xs, SqL K H a xs → xs[i]? = some x) ∧ ∀ ys, SqT K H b ys → ys[i]? = some y,
  fun i H => ∃ xs ys, SqL K H a xs ∧ SqT K H b ys ∧ (xs.length ≤ i ∨ ys.length ≤ i)⟩
theorem turn_zw {P : Program} {w : World} {K : PySem.W.Frag} {es : List Expr} {kt : Nat} {pt : Pos} (a b z TI TO i1 i2 : Addr) (D : ZipApart z TI TO i1 i2 a b) :
  Turn P w K (.Tuple es kt pt) (Itw K a b) [z, TI, TO, i1, i2] z (fun i h => IsZip h z TI TO .none ∧ IsPair h TI (.ref i1) (.ref i2) ∧ (∃ u v, IsPair h TO u v) ∧ h.IsListIter i1 a i ∧ h.IsTupleIter i2 b i) where
 mem := by simp
 obj := fun i h st q hq => by
  obtain ⟨hz, hI, ⟨u, v, hO⟩, ⟨o1, e1, c1, d1⟩, ⟨o2, e2, c2, d2⟩⟩ := st
  simp only [List.mem_cons, List.not_mem_nil, or_false] at hq
  rcases hq with rfl | rfl | rfl | rfl | rfl
  ·exact ⟨_, hz, fun v y => by have y' : Data.fields _ = Data.cell v := y; cases y'⟩
  ·exact ⟨_, hI, fun v y => by have y' : Data.seq _ _ = Data.cell v := y; cases y'⟩
  ·exact ⟨_, hO, fun v y => by have y' : Data.seq _ _ = Data.cell v := y; cases y'⟩
  ·exact ⟨o1, e1, fun v y => by rw [d1] at y; cases y⟩
  ·exact ⟨o2, e2, fun v y => by rw [d2] at y; cases y⟩
 keep := fun i h h' st k => ⟨k z (by simp) _ st.1, k TI (by simp) _ st.2.1, let ⟨u, v, q⟩ := st.2.2.1; ⟨u, v, k TO (by simp) _ q⟩, st.2.2.2.1.at fun o x => k i1 (by simp) o x, st.2.2.2.2.at fun o x => k i2 (by simp) o x⟩
 item := by
  intro X hP hw hK hc i pins s σ H E I hf st hg
  subst hP hw hK
  obtain ⟨xs, ys, x, y, hqa, hqb, hx, hy⟩ := hg
  obtain ⟨ia, rva, pa, za⟩ := I.list hqa
  obtain ⟨ib, rvb, pb, zb⟩ := I.tuple hqb
  obtain ⟨u, hu, ru⟩ := rva.get hx
  obtain ⟨v, hv, rv⟩ := rvb.get hy
  obtain ⟨hz, hI, ⟨ou, ov, hO⟩, h1, h2⟩ := st
  have hT : s.TypeIs (.ref z) "zip" := ⟨_, hz, rfl⟩; unfold pyNext
  refine wpAny_bind (wpAny_attempt (wpAny_callSpecial?_slot (name := Str.ofString "__next__") hT F.slot_zip_next (wpAny_call_entry F.slot_zip_next hT F.entry_zip_next
   (zipW_item D hz hI hO h1 h2 pa.isList pb (x := u) (y := v) (by simpa using hu) (by simpa using hv) fun h' z' o' a' b' t' k' => wpAny_pure ?_) (F.args_zip_next_1 _))))
  refine ⟨_, rfl, wpAny_letOwnedTupleGo_zip z' fun h'' z'' sb => ?_⟩
  have nz : s.heap.objs.size ≠ z := Nat.ne_of_gt (Heap.lt_size hz)
  have nTO : s.heap.objs.size ≠ TO := Nat.ne_of_gt (Heap.lt_size hO)
  have nTI : s.heap.objs.size ≠ TI := Nat.ne_of_gt (Heap.lt_size hI)
  have n1 : s.heap.objs.size ≠ i1 := by obtain ⟨o, e, _⟩ := h1; exact Nat.ne_of_gt (Heap.lt_size e)
  have n2 : s.heap.objs.size ≠ i2 := by obtain ⟨o, e, _⟩ := h2; exact Nat.ne_of_gt (Heap.lt_size e)
  have up : ∀ q o, q ≠ z → h'.get? q = some o → h''.get? q = some o := fun q o hq e => (sb.2 q hq).trans e
  have hI'' : IsPair h'' TI (.ref i1) (.ref i2) := up _ _ D.TIz (k' TI _ D.TIz D.TITO D.TIi1 D.TIi2 hI)
  have I2 : Inv X pins σ (upd H s.heap.objs.size (.tup [x, y])) { s with heap := h'', toks := s.toks } := I.turnNew (ch := [z, TI, TO, i1, i2]) hf (fun q o hq e => by
   simp only [List.mem_cons, List.not_mem_nil, or_false, not_or] at hq
   exact up q o hq.1 (k' q o hq.1 hq.2.2.1 hq.2.2.2.1 hq.2.2.2.2 e)) (fun q hq => by
   simp only [List.mem_cons, List.not_mem_nil, or_false] at hq
   rcases hq with rfl | rfl | rfl | rfl | rfl
   ·exact ⟨_, z''⟩
   ·exact ⟨_, hI''⟩
   ·exact ⟨_, up _ _ D.TOz o'⟩
   ·obtain ⟨o, e, _⟩ := a'; exact ⟨o, up _ o D.i1z e⟩
   ·obtain ⟨o, e, _⟩ := b'; exact ⟨o, up _ o D.i2z e⟩) (Nat.le_refl _) (vals := [u, v]) (.cons ru (.cons rv .nil)) (by show 2 ≤ sizeLine; decide) ⟨_, up _ _ nz t', rfl, _, rfl⟩
  refine ⟨.ref s.heap.objs.size, _, I2, rfl, ⟨_, x, y, rfl, I.fresh, rfl, fun zs hzs => by rw [I.list_inj hzs hqa]; exact hx, fun zs hzs => by rw [I.tuple_inj hzs hqb]; exact hy⟩,
   ⟨z'', hI'', ⟨_, _, up _ _ D.TOz o'⟩, a'.at fun o e => up _ o D.i1z e, b'.at fun o e => up _ o D.i2z e⟩, fun q hq => ?_⟩
  have hq0 := (hf q hq).1
  simp only [List.mem_cons, List.not_mem_nil, or_false] at hq
  rw [upd_ne]
  ·exact hq0
  ·rcases hq with rfl | rfl | rfl | rfl | rfl
   ·exact Ne.symm nz
   ·exact Ne.symm nTI
   ·exact Ne.symm nTO
   ·exact Ne.symm n1
   ·exact Ne.symm n2
 done := by
  intro X hP hw hK hc i pins s σ H E I hf st hg
  subst hP hw hK
  obtain ⟨xs, ys, hqa, hqb, hx⟩ := hg
  obtain ⟨ia, rva, pa, za⟩ := I.list hqa
  obtain ⟨ib, rvb, pb, zb⟩ := I.tuple hqb
  obtain ⟨hz, hI, ⟨ou, ov, hO⟩, h1, h2⟩ := st
  have la := rva.length
  have lb := rvb.length
  have hT : s.TypeIs (.ref z) "zip" := ⟨_, hz, rfl⟩; unfold pyNext
  refine wpAny_bind (wpAny_attempt (wpAny_callSpecial?_slot (name := Str.ofString "__next__") hT F.slot_zip_next (wpAny_call_entry F.slot_zip_next hT F.entry_zip_next
   (zipW_end (I.ok.hd hc) D hz hI hO h1 h2 pa.isList pb (hx.elim (fun q => .inl (by simp; omega)) fun q => .inr (by simp; omega)) fun h' e k' he => ?_) (F.args_zip_next_1 _))))
  obtain ⟨o, ho, hcl⟩ := he
  refine wpAny_bind (wpAny_isInstance (T := "StopIteration") (b := true) ⟨o, ho, hcl⟩ isSubtype_stop ?_)
  refine wpAny_pure ⟨rfl, I.turnOnly (tk := s.toks) hf fun q o hq e => ?_⟩
  simp only [List.mem_cons, List.not_mem_nil, or_false, not_or] at hq
  exact k' q o hq.1 hq.2.2.1 hq.2.2.2.1 hq.2.2.2.2 e
 self := fun _ _ s _ _ st h => wpAny_pyIter_zip st.1 h
section
variable {X : Cx} {es : List Expr} {kt : Nat} {pt : Pos}
noncomputable def iZw (K : PySem.W.Frag) (ta : TA) : TI := fun σ H R => ta σ H fun vs H1 => ∃ a b, vs = [.ref a, .ref b] ∧ (∃ xs, SqL K H1 a xs) ∧ (∃ ys, SqT K H1 b ys) ∧ R (Itw K a b) H1
theorem pi_zw {e e' : Expr} {ta : TA} {p pos : Pos} (hm : X.mg "zip" = none) (ha : PA X [e, e'] ta) (hg : Gl X "zip" := by rfl) (h : isStar e = false := by rfl) (h' : isStar e' = false := by rfl) : PI X (.Tuple es kt pt) (.Call (.Name "zip" p) [e, e'] [] pos) (iZw X.K ta) := by
 intro pins s σ H R I hh
 refine Call_ (ld_blt I hg hm boot_zip (PyProof.Rows.callWith_type1 (thn (ha pos pins s σ H _ I hh) fun us s1 ⟨vs, H1, I1, r1, q1⟩ => ?_) (star1 h) (star_any (by simp [h']))))
 obtain ⟨a, b, rfl, ⟨xs, hqa⟩, ⟨ys, hqb⟩, q⟩ := q1
 cases r1 with
 | cons ru r2 =>
  cases r2 with
  | cons rv r3 =>
   cases r3
   cases ru
   cases rv
   obtain ⟨ia, rva, pa, za⟩ := I1.list hqa
   obtain ⟨ib, rvb, pb, zb⟩ := I1.tuple hqb
   have la : a < s1.heap.objs.size := by obtain ⟨o, _, e, _⟩ := pa; exact Heap.lt_size e
   have lb : b < s1.heap.objs.size := by obtain ⟨o, e, _⟩ := pb; exact Heap.lt_size e
   refine call_zw (xs := ia.toArray) (ys := ib.toArray) pa.isList pb fun g hz hI hO j1 j2 hk => wpAny_pyIter_zip hz ?_
   refine ⟨_, [s1.heap.objs.size + 4, s1.heap.objs.size + 2, s1.heap.objs.size + 3, s1.heap.objs.size, s1.heap.objs.size + 1], _, _, H1, rfl, I1.kept (t' := s1.toks) hk, turn_zw a b _ _ _ _ _ (zipApart_new la lb), ⟨hz, hI, ⟨_, _, hO⟩, j1, j2⟩, fun q hq => ?_, by assumption⟩
   have hq' : s1.heap.objs.size ≤ q := by
    simp only [List.mem_cons, List.not_mem_nil, or_false] at hq
    rcases hq with z | z | z | z | z <;> rw [z] <;> first | exact Nat.le_refl _ | exact Nat.le_add_right _ _
   exact I1.fpOk hq' (I1.hok.fresh hq')
end
section
variable {D : Addr} {te : TE} {tc : TT} {Q : VK} {ρ : St} {H : Hp}
theorem cgo_enu {K : PySem.W.Frag} {a : Addr} {xs : List V} (Pv : Nat → List V → Hp → Prop) (h0 : Pv 0 [] (upd H D (.lst []))) (hl : ∀ i ys H', i ≤ xs.length → Pv i ys H' → SqT K H' a xs)
  (hs : ∀ (i : Nat) x ys H' p, xs[i]? = some x → Pv i ys H' → H' D = some (.lst ys) → H' p = none → ∀ (R : V → Hp → Prop) (S : Hp → Prop), (∀ y H4, H4 D = some (.lst ys) → ys.length < sizeLine → Pv (i + 1) (ys ++ [y]) (upd H4 D (.lst (ys ++ [y]))) → R y H4) → (∀ H3, H3 D = some (.lst ys) → Pv (i + 1) ys H3 → S H3) →
   tc (some (.int (i : Int)) :: some x :: ρ) (upd H' p (.tup [.int (i : Int), x])) fun b H3 => if b = true then te (some (.int (i : Int)) :: some x :: ρ) H3 R else S H3)
  (hd : ∀ ys H', Pv xs.length ys H' → H' D = some (.lst ys) → Q (.ref D) H') : CGo (Ite K a) D (gTup K 2 (gCons (gName 0) (gCons (gName 1) gNil))) tc te Q (none :: none :: ρ) H := by
 refine ⟨fun i m τ ys H' => m = xs.length - i ∧ i ≤ xs.length ∧ (∃ tv tw, τ = tv :: tw :: ρ) ∧ Pv i ys H' ∧ H' D = some (.lst ys), ⟨xs.length, by omega, Nat.zero_le _, ⟨_, _, rfl⟩, h0, upd_same⟩, ?_⟩
 rintro i m τ ys H' ⟨rfl, hi, ⟨tv, tw, rfl⟩, hp, hD⟩
 refine ⟨hD, ?_⟩
 have sq := hl i ys H' hi hp
 by_cases hlt : i < xs.length
 ·refine .inr ⟨⟨xs, xs[i], sq, by simp [hlt]⟩, ?_⟩
  rintro v H'' ⟨p, x, rfl, hpn, rfl, hx⟩
  have hx' := hx xs sq
  refine ⟨p, [.int (i : Int), x], rfl, SqT.of upd_same, rfl, .int (i : Int), [x], rfl, x, [], rfl, rfl, ?_⟩
  exact hs i x ys _ p hx' hp hD hpn _ _ (fun y H4 a b c => ⟨a, b, xs.length - (i + 1), by omega, rfl, hlt, ⟨_, _, rfl⟩, c, upd_same⟩) fun H3 a c => ⟨xs.length - (i + 1), by omega, rfl, hlt, ⟨_, _, rfl⟩, c, a⟩
 ·have e : i = xs.length := by omega
  subst e
  exact .inl ⟨⟨xs, sq, rfl⟩, hd ys _ hp hD⟩
end
theorem w_compE {K : PySem.W.Frag} {ta : TA} {n : Nat} {ix : List Nat} {g : TG} {tc : TT} {te : TE} {σ : St} {H : Hp} {Q : VK} (h : ta σ H fun vs H1 => ∃ a, vs = [.ref a] ∧ (∃ xs, SqT K H1 a xs) ∧ ∀ D, H1 D = none → CGo (Ite K a) D g tc te Q (List.replicate n none ++ sub ix σ) H1) : tComp (iEnu K ta) n ix g tc te σ H Q := h
end L2
namespace K93
open PySem L2 G2 EL
local macro_rules | `(tactic| walk_at "v") => `(tactic| repeat (with_reducible first
  | refine w_seq ?_ | refine w_asg ?_ | refine w_gname ?_ | refine w_op ?_ | refine w_var rfl ?_ | refine w_c ?_ | refine w_rI0 ?_ | refine w_ifs ?_ | refine w_ife ?_ | refine w_test ?_ | refine w_tb ?_ | refine w_bl ?_ | refine w_not ?_ | refine w_ret ?_ | refine w_retN ?_
  | refine w_nil ?_ | refine w_cons ?_ | refine w_lst ?_ | refine w_tup ?_ | refine w_cb ?_ | refine w_call ?_ | refine w_gsub ?_ | refine w_and ?_ | refine w_or ?_ | refine w_next ?_ | refine w_all ?_ | refine w_vals ?_ | refine w_compR ?_ | refine w_compT ?_ | refine w_forR ?_ | refine w_forT ?_ | refine w_forL ?_ | refine w_drop ?_ | refine w_bm ?_ | refine w_compZ ?_ | refine w_compL ?_ | refine w_chain ?_ | refine w_sl ?_ | refine w_nopart ?_ | refine w_part ?_ | refine w_unI ?_ | refine iteT ?_ | refine iteF ?_))
noncomputable abbrev sMo : Stmt := top 20
noncomputable abbrev nMo : List Str := ["kepts", "kept", "many", "rows", "solved", "numbers"]
theorem nmMo : Nm nMo (defScope sMo) := ⟨by decide +kernel, by decide +kernel⟩
theorem scMo : FnScope nMo ["kepts", "kept"] (defScope sMo) := ⟨rfl, rfl, rfl, by decide +kernel, rfl, by decide +kernel, by decide +kernel⟩
noncomputable def qMoO (s : Stmt) : Scope := match s with
 | .Assign _ (.ListComp _ _ sc _) _ => sc
 | _ => { kind := .function, names := [], isGenerator := false, isCoroutine := false }
noncomputable def qMoI (s : Stmt) : Scope := match s with
 | .Assign _ (.ListComp (.BinOp (.ListComp _ _ sc _) _ _ _) _ _ _) _ => sc
 | _ => { kind := .function, names := [], isGenerator := false, isCoroutine := false }
noncomputable def qMoT (s : Stmt) : Scope := match s with
 | .Return (some (.Tuple [_, (.Call _ [(.ListComp _ _ sc _)] _ _)] _ _)) _ => sc
 | _ => { kind := .function, names := [], isGenerator := false, isCoroutine := false }
noncomputable abbrev cMoO : Scope := qMoO ((defBody sMo).getD 1 (.Pass ⟨0, 0, 0, 0⟩))
noncomputable abbrev cMoI : Scope := qMoI ((defBody sMo).getD 1 (.Pass ⟨0, 0, 0, 0⟩))
noncomputable abbrev cMoT : Scope := qMoT ((defBody sMo).getD 5 (.Pass ⟨0, 0, 0, 0⟩))
theorem nbMoO : NBScope (defScope sMo) cMoO ["sort", "number"] ["kepts"] [] := { okind := by decide +kernel, kind := by decide +kernel, names := by decide +kernel, clN := by decide +kernel, fr := by decide +kernel, ff := by decide +kernel, nd := by decide +kernel, vis := by decide +kernel, loc := by decide +kernel, gl := by decide +kernel }
theorem bsMoI : BScope (relabelS cMoO (defScope sMo)) cMoI ["one"] ["sort"] [] := { okind := by decide +kernel, kind := by decide +kernel, nocell := by decide +kernel, names := by decide +kernel, fr := by decide +kernel, ff := by decide +kernel, nd := by decide +kernel, vis := by decide +kernel, loc := by decide +kernel, gl := by decide +kernel }
theorem loMo_3 : (defScope sMo).names.lookup ("rows" : Str) = some .local := by decide +kernel
theorem bsMoT : BScope (defScope sMo) cMoT ["number"] [] [] := { okind := by decide +kernel, kind := by decide +kernel, nocell := by decide +kernel, names := by decide +kernel, fr := by decide +kernel, ff := by decide +kernel, nd := by decide +kernel, vis := by decide +kernel, loc := by decide +kernel, gl := by decide +kernel }
theorem pi_listB {X : Cx} {tg l : Expr} {tl : TE} {K : PySem.W.Frag} (hl : PE X l tl) (hK : X.K = K) : PI X tg l (iList K tl) := hK ▸ pi_list hl
noncomputable def mv (n : Nat) (ks : List (List Int)) (a : List Int) : List Int := vecF (ks.length + 1) (red (mrows n ks a) (ks.length + 1)).1 (red (mrows n ks a) (ks.length + 1)).2 ks.length
noncomputable def spMo : Sp := fun vs H Q _ => ∃ (l q : Addr) (n b : Nat) (bs : List Addr) (ks : List (List Int)) (a : List Int), vs = [.ref l, .ref q] ∧ H l = some (.lst (bs.map V.ref)) ∧ TL H bs ks ∧ H q = some (.tup (a.map V.int)) ∧ a.length = n ∧ (∀ v ∈ ks, v.length = n) ∧ ks.length ≤ 8 ∧ n ≤ 8 ∧ 1 ≤ b ∧ b ≤ 6200 ∧ (∀ v ∈ ks, ∀ x ∈ v, x.natAbs < 2 ^ b) ∧ (∀ x ∈ a, x.natAbs < 2 ^ b) ∧
 (ks.length ∈ (red (mrows n ks a) (ks.length + 1)).2 → ∀ H', Same H H' → Q .non H') ∧
 (ks.length ∉ (red (mrows n ks a) (ks.length + 1)).2 → ∀ t u H', Same H H' → H' t = some (.tup [.int (cf (mv n ks a) ks.length), .ref u]) → H' u = some (.tup ((((mv n ks a).take ks.length).map fun x => -x).map V.int)) → Q (.ref t) H')
theorem atI_last {xs : List V} {v : V} {k : Nat} (h : xs.length = k + 1) (e : xs[k]? = some v) : atI xs (-1) = some v := by
 unfold atI ixN
 rw [if_neg (by decide), if_pos (by omega), show ((-1 : Int) + (xs.length : Int)).toNat = k by omega]
 exact e
theorem cut_init {xs : List V} {k : Nat} (h : xs.length = k + 1) : cutV xs none (some (-1)) = xs.take k := by
 have e : HT.sIx xs.length xs.length (some (-1)) = k := by
  show (if (-1 : Int) < 0 then ((-1 : Int) + (xs.length : Int)).toNat else min (-1 : Int).toNat xs.length) = _
  rw [if_pos (by decide)]
  omega
 unfold cutV
 rw [e, HT.sIx_none]
 simp
section
variable {P : Program} {w : World} {K : PySem.W.Frag} {mg : Str → Option Value} {base : Heap}
set_option maxHeartbeats 4000000 in
theorem ok_Mo {f : Addr} {fd : FuncData} (B : Bl mg) (fR : Has P w K mg base 43 "reduced" ["many", "rows"] spRd) (fN : Has P w K mg base 42 "nought_maker" ["many", "rows", "leads", "free"] spNm) (F : Fun K "made_of" "made_of" sMo f fd) : FnOk P w K mg base CX0 44 f fd ["kepts", "kept"] spMo := by
 refine F.ok scMo (fun vs H Q E h => ?_) (fun cdv A outer s H vs Q E hr h => ?_)
 ·obtain ⟨l, q, n, b, bs, ks, a, rfl, _⟩ := h
  rfl
 ·obtain ⟨l, q, n, b, bs, ks, a, rfl, hl, hT, hq, han, hkn, k8, n8, b1, b2, hkb, hab, kN, kS⟩ := h
  refine' ⟨_, ?hb, ?rd⟩
  case hb =>
   refine' pss_cons ?s1 ?r1
   case' r1 => refine' pss_cons ?s2 ?r2
   case' r2 => refine' pss_cons ?s3 ?r3
   case' r3 => refine' pss_cons ?s4 ?r4
   case' r4 => refine' pss_cons ?s5 ?r5
   case' r5 => refine' pss_one ?s6
   case s1 => exact ps_setD nmMo 2 (pe_op op_add (pe_cB call_len_seq B.len PySem.boot_len (pa_1 (pvd nmMo 0))) pe_int)
   case s2 =>
    refine' ps_setCN (i := 3) (ix := [0]) nmMo.nd rfl loMo_3 nbMoO.toNScope rfl rfl (pi_enu B.enu (pa_1 (pvd nmMo 1))) ?h4 ?h5 ?h6
    case h4 =>
     intro _ _ _ _ _ _
     refine' pgb_tupN (n := 2) rfl ?z1
     case' z1 => refine' pgs_cons ?z2 ?z3
     case z2 => exact pgbN nbMoO 0
     case' z3 => refine' pgs_cons ?z4 pgs_nil
     case z4 => exact pgbN nbMoO 1
    case h5 => exact fun _ _ _ _ _ _ => pts_nil
    case h6 =>
     intro _ _ _ _ _ _
     refine' pe_op op_cat ?j1 ?j2
     case j2 => exact pe_lst (pa_1 (pvbN nbMoO 1))
     case j1 =>
      refine' pe_comp (ix := [0]) bsMoI.toCScope rfl rfl ?i3 ?i4 ?i5 ?i6
      case i3 => exact pi_listB (K := K) (pvbN nbMoO 2) rfl
      case i4 => exact fun _ _ _ _ _ _ => pgb bsMoI 0
      case i5 => exact fun _ _ _ _ _ _ => pts_nil
      case i6 => exact fun _ _ _ _ _ _ => pe_ix ix_d (pvb bsMoI 0) (pvb bsMoI 1) (fun _ _ => rfl)
   case s3 => exact ps_setD nmMo 4 (pe_f fR hr (by decide) (pa_2 (pvd nmMo 2) (pvd nmMo 3)))
   case s4 => exact ps_if (pt_cmpR op_in_seq (pe_op op_sub (pvd nmMo 2) pe_int) (pe_ix ix_d (pvd nmMo 4) pe_int (fun _ _ => rfl)) (by with_unfolding_all rfl)) (pss_one (ps_ret pe_non)) pss_nil
   case s5 => exact ps_setD nmMo 5 (pe_f fN hr (by decide) (pa_c (pvd nmMo 2) (pa_c (pe_ix ix_d (pvd nmMo 4) pe_int (fun _ _ => rfl)) (pa_2 (pe_ix ix_d (pvd nmMo 4) pe_int (fun _ _ => rfl)) (pe_op op_sub (pvd nmMo 2) pe_int)))))
   case s6 =>
    refine' ps_ret ?t1
    case' t1 => refine' pe_tup ?t2
    case' t2 => refine' pa_2 ?t3 ?t4
    case t3 => exact pe_ix ix_d (pvd nmMo 5) (pe_un un_neg pe_int) (fun _ _ => rfl)
    case' t4 => refine' pe_cT call_tupL B.tuple PyProof.Rows.boot_tuple ?t5
    case' t5 => refine' pa_1 ?t6
    case t6 =>
     refine' pe_comp (ix := []) bsMoT.toCScope rfl rfl ?u3 ?u4 ?u5 ?u6
     case u3 => exact pi_tup (pe_slice sl_tupG (pvd nmMo 5) po_none (po_some (pe_un un_neg pe_int)))
     case u4 => exact fun _ _ _ _ _ _ => pgb bsMoT 0
     case u5 => exact fun _ _ _ _ _ _ => pts_nil
     case u6 => exact fun _ _ _ _ _ _ => pe_un un_neg (pvb bsMoT 0)
  case rd =>
   have bT := hT.1
   have ml : (mrows n ks a).length = n := by unfold mrows; rw [List.length_map, List.length_range]
   have m1 : ∀ r ∈ mrows n ks a, r.length = ks.length + 1 := fun r hr' => by
    obtain ⟨s', _, rfl⟩ := List.mem_map.mp hr'
    exact mrow_len ks a s'
   have m2 : ∀ r ∈ mrows n ks a, ∀ x ∈ r, x.natAbs < 2 ^ b := fun r hr' x hx => by
    obtain ⟨s', _, rfl⟩ := List.mem_map.mp hr'
    unfold mrow at hx
    rcases List.mem_append.mp hx with z | z
    ·obtain ⟨v, hv, rfl⟩ := List.mem_map.mp z
     exact cf_bit (hkb v hv) s'
    ·rw [List.mem_singleton.mp z]
     exact cf_bit hab s'
   have I := Rd.all m1 m2 (ks.length + 1)
   have hle := I.le
   have hlc := Rd.lele I
   have hcn := I.cnt
   have bb8 : bdE b 8 ≤ 1587455 := by
    have e : bdE b 8 = 256 * b + 255 := by
     simp only [bdE]
     omega
    omega
   walk_at "v"
   refine ⟨l, _, rfl, .inl (SqL.of hl), ?_⟩
   rw [List.length_map, bT]
   walk_at "v"
   refine w_compE ?_
   walk_at "v"
   refine ⟨q, rfl, ⟨_, SqT.of hq⟩, fun D hD => ?_⟩
   refine cgo_enu (xs := a.map V.int) (fun i ys H' => ∃ cs : List Addr, ys = cs.map V.ref ∧ RL H' cs ((mrows n ks a).take i) ∧ Same H H' ∧ D ∉ cs) ⟨[], rfl, by simpa using RL.nil, Same.new (Same.refl H) hD, by simp⟩ (fun i ys H' _ ⟨_, _, _, k', _⟩ => SqT.of (k' _ _ hq)) ?_ ?_
   ·rintro i x ys H1 z hx ⟨cs, rfl, hc, K1, hDc⟩ hDy hz R S kR _
    obtain ⟨hi, rfl⟩ := itI hx
    have hin : i < n := by omega
    refine w_all (iteT ?_)
    have K2 : Same H1 (upd H1 z (.tup [.int (i : Int), .int (a.getD i 0)])) := Same.new (Same.refl _) hz
    generalize upd H1 z (.tup [.int (i : Int), .int (a.getD i 0)]) = H2 at K2 ⊢
    have K02 := K1.trans K2
    walk_at "v"
    refine ⟨l, rfl, ⟨_, SqL.of (K02 _ _ hl)⟩, fun D3 hD3 => ?_⟩
    refine cg_lst (ws := (List.range ks.length)) (fun j => V.ref (bs.getD j 0)) (fun j => V.int ((ks.getD j []).getD i 0)) ?_ (by rw [List.length_range]; omega) hD3 (fun j hj H' K' R' kR' => ?_) (fun H3 K3 e3 => ?_)
    ·rw [K02 _ _ hl]
     congr 2
     refine List.ext_getElem? fun j => ?_
     rw [List.getElem?_map, List.getElem?_map]
     by_cases hj : j < ks.length
     ·rw [List.getElem?_range hj, List.getElem?_eq_getElem (by omega)]
      show some (V.ref bs[j]) = some (V.ref (bs.getD j 0))
      rw [List.getD_eq_getElem?_getD, List.getElem?_eq_getElem (by omega)]
      rfl
     ·rw [List.getElem?_eq_none (by omega), List.getElem?_eq_none (by rw [List.length_range]; omega)]
      rfl
    ·have hj' := List.mem_range.mp hj
     have hb0 : bs[j]? = some (bs.getD j 0) := by
      rw [List.getD_eq_getElem?_getD, List.getElem?_eq_getElem (by omega)]
      rfl
     have hk0 : ks[j]? = some (ks.getD j []) := by
      rw [List.getD_eq_getElem?_getD, List.getElem?_eq_getElem hj']
      rfl
     have hv := hT.2 j _ _ hb0 hk0
     walk_at "v"
     refine w_ixT ((K02.trans K') _ _ hv) (atL (by rw [hkn _ (List.mem_of_getElem? hk0)]; exact hin)) ?_
     exact kR' _ (Same.refl _)
    have e3' : H3 D3 = some (.lst ((ks.map fun v => v.getD i 0).map V.int)) := by
     rw [e3]
     congr 2
     refine List.ext_getElem? fun j => ?_
     rw [List.getElem?_map, List.getElem?_map, List.getElem?_map]
     by_cases hj : j < ks.length
     ·rw [List.getElem?_range hj, List.getElem?_eq_getElem hj]
      show some (V.int ((ks.getD j []).getD i 0)) = some (V.int (ks[j].getD i 0))
      rw [List.getD_eq_getElem?_getD (l := ks), List.getElem?_eq_getElem hj]
      rfl
     ·rw [List.getElem?_eq_none (by rw [List.length_range]; omega), List.getElem?_eq_none (by omega)]
      rfl
    walk_at "v"
    refine ⟨by show 1 ≤ sizeLine; decide, fun z4 hz4 => ?_⟩
    obtain ⟨H4, q, K4, e4⟩ := nob (.lst [.int (a.getD i 0)]) hz4; rw [q]; clear q
    refine ⟨D3, z4, _, _, rfl, rfl, K4 _ _ e3', e4, by rw [List.length_map, List.length_map]; exact Nat.le_of_lt (small1000 (by show ks.length + 1 ≤ 1000; omega)), fun y hy => ?_⟩
    have K24 := K3.trans K4
    have hyD : y ≠ D := fun e => by rw [e, K24 _ _ (K2 _ _ hDy)] at hy; cases hy
    have hcn' : D ∉ cs ++ [y] := fun hm => by
     rcases List.mem_append.mp hm with zz | zz
     ·exact hDc zz
     ·exact hyD (List.mem_singleton.mp zz).symm
    have K5 : Same H4 (upd H4 y (.lst ((ks.map fun v => v.getD i 0).map V.int ++ [.int (a.getD i 0)]))) := Same.new (Same.refl _) hy
    have e5 : upd H4 y (.lst ((ks.map fun v => v.getD i 0).map V.int ++ [.int (a.getD i 0)])) y = some (.lst ((mrow ks a i).map V.int)) := by
     rw [upd_same]
     unfold mrow
     rw [List.map_append]
     rfl
    generalize upd H4 y (.lst ((ks.map fun v => v.getD i 0).map V.int ++ [.int (a.getD i 0)])) = H5 at K5 e5 ⊢
    have K15 := (K2.trans K24).trans K5
    refine kR _ _ (K15 _ _ hDy) (by rw [List.length_map, hc.1, List.length_take]; exact small1000 (by omega)) ⟨cs ++ [y], by rw [List.map_append]; rfl, ?_, (K1.trans K15).put hD, hcn'⟩
    rw [List.take_add_one, show (mrows n ks a)[i]? = some (mrow ks a i) by unfold mrows; rw [List.getElem?_map, List.getElem?_range hin]; rfl]
    exact RL.off hcn' (RL.snoc (hc.same K15) e5)
   rintro ys H1 ⟨cs, rfl, hc, K1, _⟩ e1
   rw [List.length_map, han, List.take_of_length_le (by omega)] at hc
   walk_at "v"
   refine ⟨D, ks.length + 1, b, cs, mrows n ks a, by rfl, e1, hc, m1, by omega, by omega, m2, Nat.le_trans (bdE_mono (j := 8) (by omega)) (by omega), fun t l1 l2 as' H2 K2 et el1 hr1 el2 => ?_⟩
   have K02 := K1.trans K2
   walk_at "v"
   refine w_ixT et rfl ?_
   refine ⟨l2, _, rfl, .inl (SqL.of el2), rfl, flN _, ?_⟩
   rw [if_neg Bool.false_ne_true, show ((ks.length : Int) + 1 - 1) = ((ks.length : Nat) : Int) by omega, inN]
   walk_at "v"
   refine iteD (fun h => ?_) (fun h => ?_)
   ·walk_at "v"
    exact kN h _ K02
   have hll7 : (red (mrows n ks a) (ks.length + 1)).2.length ≤ 8 := by omega
   have hB := Nat.le_trans (bdE_mono (b := b) hll7) bb8
   have hBk : (red (mrows n ks a) (ks.length + 1)).2.length * bdE b (red (mrows n ks a) (ks.length + 1)).2.length ≤ 8 * 1587455 := Nat.mul_le_mul hll7 hB
   walk_at "v"
   refine w_ixT et rfl ?_
   walk_at "v"
   refine w_ixT et rfl ?_
   walk_at "v"
   refine ⟨l1, l2, ks.length + 1, ks.length, bdE b (red (mrows n ks a) (ks.length + 1)).2.length, as', _, (red (mrows n ks a) (ks.length + 1)).2, ?_, el1, hr1, el2, by rw [List.length_take]; omega, fun r hr' => I.len r (List.mem_of_mem_take hr'), by omega, by omega, by omega, I.lt, fun j hj => by rw [ro_take hj]; exact I.own j hj, fun r hr' => I.bit r (List.mem_of_mem_take hr'), by omega, by omega, fun u H3 K3 e3 => ?_⟩
   ·rw [show ((ks.length : Int) + 1 - 1) = ((ks.length : Nat) : Int) by omega]
    rfl
   rw [vec_take] at e3
   have W := (I.vec b1 (Nat.lt_succ_self _) h).1
   have mvl : (mv n ks a).length = ks.length + 1 := W.len
   have e3 : H3 u = some (.tup ((mv n ks a).map V.int)) := e3
   have K03 := K02.trans K3
   walk_at "v"
   refine ⟨_, rfl, ?_⟩
   refine w_ixT e3 (atI_last (k := ks.length) (v := .int (cf (mv n ks a) ks.length)) (by rw [List.length_map, mvl]) ?_) ?_
   ·rw [List.getElem?_map, List.getElem?_eq_getElem (by omega)]
    show some (V.int _) = some (V.int ((mv n ks a).getD ks.length 0))
    rw [List.getD_eq_getElem?_getD, List.getElem?_eq_getElem (by omega)]
    rfl
   walk_at "v"
   refine ⟨_, rfl, _, rfl, ?_⟩
   refine ⟨u, _, rfl, e3, fun q4 H4 K4 e4 => ?_⟩
   rw [cut_init (k := ks.length) (by rw [List.length_map, mvl]), ← List.map_take] at e4
   refine ⟨q4, rfl, ⟨_, SqT.of e4⟩, fun D5 hD5 => ?_⟩
   refine cg_tup (ws := (mv n ks a).take ks.length) V.int (fun x => V.int (-x)) (SqT.of e4) (by rw [List.length_take]; omega) hD5 (fun x hx H' K' R kR => ?_) (fun H5 K5 e5 => ?_)
   ·walk_at "v"
    exact ⟨_, rfl, kR _ (Same.refl _)⟩
   walk_at "v"
   refine ⟨D5, _, rfl, e5, fun u6 H6 K6 e6 => ?_⟩
   walk_at "v"
   refine ⟨by show 2 ≤ sizeLine; decide, fun t7 ht7 => ?_⟩
   obtain ⟨H7, q, K7, e7⟩ := nob (.tup [.int (cf (mv n ks a) ks.length), .ref u6]) ht7; rw [q]; clear q
   refine kS h t7 u6 H7 ((((K03.trans K4).trans K5).trans K6).trans K7) e7 ?_
   rw [K7 _ _ e6, List.map_map]
   rfl
end
end K93
namespace K93
open PySem L2
local macro_rules | `(tactic| walk_at "v") => `(tactic| repeat (with_reducible first
  | refine w_seq ?_ | refine w_asg ?_ | refine w_gname ?_ | refine w_op ?_ | refine w_var rfl ?_ | refine w_c ?_ | refine w_rI0 ?_ | refine w_ifs ?_ | refine w_ife ?_ | refine w_test ?_ | refine w_tb ?_ | refine w_bl ?_ | refine w_not ?_ | refine w_ret ?_ | refine w_retN ?_
  | refine w_nil ?_ | refine w_cons ?_ | refine w_lst ?_ | refine w_tup ?_ | refine w_cb ?_ | refine w_call ?_ | refine w_gsub ?_ | refine w_and ?_ | refine w_or ?_ | refine w_next ?_ | refine w_all ?_ | refine w_vals ?_ | refine w_compR ?_ | refine w_compT ?_ | refine w_forR ?_ | refine w_forT ?_ | refine w_forL ?_ | refine w_drop ?_ | refine w_bm ?_ | refine w_compZ ?_ | refine w_compL ?_ | refine w_chain ?_ | refine w_sl ?_ | refine w_nopart ?_ | refine w_part ?_ | refine w_unI ?_ | refine iteT ?_ | refine iteF ?_))
noncomputable abbrev sCan : Stmt := top 25
noncomputable abbrev sGone : Stmt := top 26
noncomputable abbrev sThere : Stmt := top 27
structure Blt8 (mg : Str → Option Value) : Prop extends Blt2 mg where
 zip : mg "zip" = none
 all : mg "all" = none
 repr : mg "repr" = none
 ruK : Kn mg "RULES" 1
 taK : Kn mg "TAKES" 0
 giK : Kn mg "GIVES" 1
theorem zip_mapV {D : Addr} {te : TE} {Q : VK} {ρ : St} {H : Hp} {K : PySem.W.Frag} {a b : Addr} {xs ys : List Int} (g : Int → Int → V) (ha : H a = some (.tup (xs.map V.int))) (hb : H b = some (.tup (ys.map V.int))) (hlen : xs.length = ys.length) (hn : xs.length ≤ 1000)
  (step : ∀ (x y : Int) (H' : Hp), Same H H' → ∀ R : V → Hp → Prop, (∀ H'', Same H' H'' → R (g x y) H'') → te (some (.int x) :: some (.int y) :: ρ) H' R)
  (q : ∀ H', Same H H' → H' D = some (.lst (List.zipWith g xs ys)) → Q (.ref D) H') (hD : H D = none) : CGo (Itz K a b) D (gTup K 2 (gCons (gName 0) (gCons (gName 1) gNil))) tAll te Q (none :: none :: ρ) H := by
 refine cgo_zip (xs := xs.map V.int) (zs := ys.map V.int) (by simp [hlen]) (fun i zs H' => zs = (List.zipWith g xs ys).take i ∧ Same H H') ⟨rfl, Same.new (Same.refl H) hD⟩ (fun i zs H' _ ⟨_, k'⟩ => ⟨SqT.of (k' _ _ ha), SqT.of (k' _ _ hb)⟩) ?_ ?_
 ·rintro i x z zs H' p hx hz ⟨rfl, K'⟩ hDz hp R S kR _
  have hi1 : i < xs.length := by
   have := (List.getElem?_eq_some_iff.mp hx).1
   simpa using this
  have hi2 : i < ys.length := by omega
  have ex : x = .int xs[i] := by
   rw [List.getElem?_map, List.getElem?_eq_getElem hi1] at hx
   exact (Option.some.inj hx).symm
  have ez : z = .int ys[i] := by
   rw [List.getElem?_map, List.getElem?_eq_getElem hi2] at hz
   exact (Option.some.inj hz).symm
  subst ex ez
  refine w_all ?_
  refine iteT ?_
  have hD' : upd H' p (.tup [.int xs[i], .int ys[i]]) D = some (.lst ((List.zipWith g xs ys).take i)) := by rw [upd_ne (ne_of_none hDz hp)]; exact hDz
  refine step _ _ _ (K'.new hp) R fun H'' K'' => ?_
  refine kR _ _ (K'' _ _ hD') (by rw [List.length_take]; exact small1000 (by omega)) ⟨?_, ((K'.new hp).trans K'').put hD⟩
  have hz' : (List.zipWith g xs ys)[i]? = some (g xs[i] ys[i]) := by simp [List.getElem?_zipWith, hi1, hi2]
  rw [List.take_add_one, hz']
  rfl
 ·rintro zs H' ⟨rfl, K'⟩ hDz
  refine q H' K' ?_
  rw [hDz, List.take_of_length_le]
  simp
  omega
structure PotR (H : Hp) (p : Addr) (m : Nat) (tg : Rows) : Prop where
 ex : ∃ (ps pr pin pb : Addr) (ans : Int) (rs : List Addr), H p = some (.tup [.ref ps, .ref pr, .ref pin, .ref pb, .int ans]) ∧ H pr = some (.tup (rs.map V.ref)) ∧ Rls H rs tg m
 n8 : tg.length ≤ 8
 m8 : m ≤ 8
 m0 : 0 < m
theorem PotR.same {H H' : Hp} {p : Addr} {m : Nat} {tg : Rows} (k : Same H H') (h : PotR H p m tg) : PotR H' p m tg := let ⟨ps, pr, pin, pb, ans, rs, h1, h2, h3⟩ := h.ex; ⟨⟨ps, pr, pin, pb, ans, rs, k _ _ h1, k _ _ h2, h3.same k⟩, h.n8, h.m8, h.m0⟩
theorem PotR.tk {H H' : Hp} {p : Addr} {m : Nat} {tg : Rows} (k : TK H H') (h : PotR H p m tg) : PotR H' p m tg := let ⟨ps, pr, pin, pb, ans, rs, h1, h2, h3⟩ := h.ex; ⟨⟨ps, pr, pin, pb, ans, rs, k.t _ _ h1, k.t _ _ h2, h3.tk k⟩, h.n8, h.m8, h.m0⟩
theorem PotR.of {H : Hp} {p : Addr} {nm : List Str} {ins beg : List Int} {ans : Int} {m : Nat} (h : PotAt H p nm ins beg ans m) : ∃ tg, PotR H p m tg := by
 obtain ⟨⟨ps, pr, pin, pb, rs, e1, e2, e3, e4, e5, e6, e7⟩, hn, m0, m8, _⟩ := h
 obtain ⟨tg, ht⟩ := rls_of rs e4
 exact ⟨tg, ⟨ps, pr, pin, pb, ans, rs, e1, e3, ht⟩, by have := ht.1; omega, m8, m0⟩
noncomputable def fits (st t : List Int) : Bool := (List.zipWith (fun s x => decide (x ≤ s)) st t).all id
noncomputable def rl (tg : Rows) (r : Int) : List Int × List Int := tg.getD r.toNat ([], [])
noncomputable def cg (tg : Rows) (st : List Int) (r : Int) : Bool := decide (0 ≤ r ∧ r < tg.length) && fits st (rl tg r).1
noncomputable def goL (st : List Int) (x : List Int × List Int) : List Int := (List.range st.length).map fun i => st.getD i 0 - x.1.getD i 0 + x.2.getD i 0
noncomputable def thN (tg : Rows) (st : List Int) (n : Nat) : List Int := ((List.range n).filter fun (r : Nat) => cg tg st (r : Int)).map fun (r : Nat) => (r : Int)
noncomputable def thL (tg : Rows) (st : List Int) : List Int := thN tg st tg.length
theorem thN_succ {tg : Rows} {st : List Int} {n : Nat} : thN tg st (n + 1) = if cg tg st (n : Int) = true then thN tg st n ++ [(n : Int)] else thN tg st n := by
 unfold thN
 rw [List.range_succ, List.filter_append]
 by_cases h : cg tg st (n : Int) = true
 ·simp [h]
 ·simp [h]
theorem thN_len {tg : Rows} {st : List Int} {n : Nat} : (thN tg st n).length ≤ n := by
 unfold thN
 rw [List.length_map]
 exact Nat.le_trans (List.length_filter_le _ _) (by simp)
theorem th_mem {tg : Rows} {st : List Int} {r : Int} (h : r ∈ thL tg st) : cg tg st r = true := by
 obtain ⟨n, hn, rfl⟩ := List.mem_map.mp h
 exact (List.mem_filter.mp hn).2
theorem cg_range {tg : Rows} {st : List Int} {r : Int} (h : cg tg st r = true) : 0 ≤ r ∧ r < tg.length := by
 unfold cg at h
 rw [Bool.and_eq_true] at h
 exact of_decide_eq_true h.1
theorem go_len {st : List Int} {x : List Int × List Int} : (goL st x).length = st.length := by simp [goL]
noncomputable abbrev nCan : List Str := ["pot", "stand", "rule", "takes"]
theorem nmCan : Nm nCan (defScope sCan) := ⟨by decide +kernel, by decide +kernel⟩
theorem scCan : FnScope nCan ["pot", "stand", "rule"] (defScope sCan) := ⟨rfl, rfl, rfl, by decide +kernel, rfl, by decide +kernel, by decide +kernel⟩
noncomputable abbrev cCan : Scope := retCallComp ((defBody sCan).getD 2 (.Pass ⟨0, 0, 0, 0⟩))
theorem bsCan : BScope (defScope sCan) cCan ["there", "taken"] [] [] := { okind := by decide +kernel, kind := by decide +kernel, nocell := by decide +kernel, names := by decide +kernel, fr := by decide +kernel, ff := by decide +kernel, nd := by decide +kernel, vis := by decide +kernel, loc := by decide +kernel, gl := by decide +kernel }
noncomputable def spCan : Sp := fun vs H Q _ => ∃ (p s : Addr) (r : Int) (m : Nat) (tg : Rows) (st : List Int), vs = [.ref p, .ref s, .int r] ∧ PotR H p m tg ∧ H s = some (.tup (st.map V.int)) ∧ st.length = m ∧ ∀ H', Same H H' → Q (.bl (cg tg st r)) H'
section
variable {P : Program} {w : World} {K : PySem.W.Frag} {mg : Str → Option Value} {base : Heap}
set_option maxHeartbeats 4000000 in
theorem ok_Can {f : Addr} {fd : FuncData} (B : Blt8 mg) (F : Fun K "can_go" "can_go" sCan f fd) : FnOk P w K mg base CX0 1 f fd ["pot", "stand", "rule"] spCan := by
 refine F.ok scCan (fun vs H Q E h => ?_) (fun cdv A outer s H vs Q E hr h => ?_)
 ·obtain ⟨p, s, r, m, tg, st, rfl, _⟩ := h
  rfl
 ·obtain ⟨p, sa, r, m, tg, st, rfl, hP, hs, hst, k⟩ := h
  refine' ⟨_, ?hb, ?rd⟩
  case hb =>
   refine' pss_cons ?s1 ?r1
   case' r1 => refine' pss_cons ?s2 ?r2
   case' r2 => refine' pss_one ?s3
   case s1 =>
    refine' ps_if ?c1 (pss_one (ps_ret pe_bl)) pss_nil
    case' c1 => refine' pt_not ?c2
    case' c2 => refine' pt_chain op_le op_lt pe_int (pvd nmCan 2) ?c3
    case' c3 => refine' pe_cB call_len_seq B.len PySem.boot_len ?c4
    case c4 => exact pa_1 (pe_ix ix_d (pvd nmCan 0) (pe_k B.ruK) (fun _ _ => rfl))
   case s2 =>
    refine' ps_setD nmCan 3 ?d1
    case' d1 => refine' pe_ix ix_d ?d2 (pe_k B.taK) (fun _ _ => rfl)
    case d2 => exact pe_ix ix_d (pe_ix ix_d (pvd nmCan 0) (pe_k B.ruK) (fun _ _ => rfl)) (pvd nmCan 2) (fun _ _ => rfl)
   case s3 =>
    refine' ps_ret ?e1
    case' e1 => refine' pe_cB (call_all rfl) B.all PyProof.Rows.boot_all ?e2
    case' e2 => refine' pa_1 ?e3
    case e3 =>
     refine' pe_comp (ix := []) bsCan.toCScope rfl rfl (pi_zp B.zip (pa_2 (pvd nmCan 1) (pvd nmCan 3))) ?h4 ?h5 ?h6
     case h4 =>
      intro _ _ _ _ _ _
      refine' pgb_tup (n := 2) rfl ?z1
      case' z1 => refine' pgs_cons ?z2 ?z3
      case z2 => exact pgb bsCan 0
      case' z3 => refine' pgs_cons ?z4 pgs_nil
      case z4 => exact pgb bsCan 1
     case h5 => exact fun _ _ _ _ _ _ => pts_nil
     case h6 => exact fun _ _ _ _ _ _ => pe_cmpR op_ge (pvb bsCan 0) (pvb bsCan 1) (nomark _)
  case rd =>
   obtain ⟨ps, pr, pin, pb, ans, rs, h1, h2, h3⟩ := hP.ex
   have hrl := h3.1
   have n8 := hP.n8
   have m8 := hP.m8
   have no : ¬ (0 ≤ r ∧ r < (tg.length : Int)) → cg tg st r = false := fun z => by
    unfold cg
    rw [decide_eq_false z, Bool.false_and]
   walk_at "v"
   refine iteD (fun h0 => ?_) (fun h0 => ?_)
   ·walk_at "v"
    refine w_ixT h1 rfl ?_
    walk_at "v"
    refine ⟨pr, _, rfl, .inr (SqT.of h2), ?_⟩
    rw [List.length_map, hrl]
    walk_at "v"
    refine iteDN (fun h => ?_) (fun h => ?_)
    ·walk_at "v"
     have := k _ (Same.refl _)
     rw [no (by omega)] at this
     exact this
    ·obtain ⟨j, rfl⟩ := Nat.ofI h0
     have hj : j < tg.length := by omega
     have hj' : j < rs.length := by omega
     obtain ⟨t, g, htg⟩ : ∃ t g, tg[j] = (t, g) := ⟨_, _, rfl⟩
     obtain ⟨lt, lg, bt, bg, a, b, e1, e2, e3⟩ := h3.2 j rs[j] t g (by simp [hj']) (by rw [List.getElem?_eq_getElem hj, htg])
     have hcg : cg tg st (j : Int) = fits st t := by
      unfold cg rl
      rw [decide_eq_true ⟨h0, h⟩, Bool.true_and, Int.toNat_natCast, List.getD_eq_getElem?_getD, List.getElem?_eq_getElem hj, htg]
      rfl
     rw [hcg] at k
     walk_at "v"
     refine w_ixT h1 rfl ?_
     walk_at "v"
     refine w_ixT (v := .ref rs[j]) h2 (atI_nat (by simp [hj'])) ?_
     walk_at "v"
     refine w_ixT e1 rfl ?_
     walk_at "v"
     refine ⟨sa, a, rfl, ⟨_, SqT.of hs⟩, ⟨_, SqT.of e2⟩, fun D hD => ?_⟩
     refine zip_mapV (ρ := []) (fun x y => .bl (decide (y ≤ x))) hs e2 (by omega) (by omega) (fun x y H' _ R kR => ?_) (fun H1 K1 hD1 => ?_) hD
     ·walk_at "v"
      exact kR _ (Same.refl _)
     walk_at "v"
     refine ⟨D, List.zipWith (fun s x => decide (x ≤ s)) st t, rfl, ?_, k _ K1⟩
     rw [hD1, List.map_zipWith]
   ·refine ⟨false, rfl, ?_⟩
    walk_at "v"
    refine iteT ?_
    walk_at "v"
    have := k _ (Same.refl _)
    rw [no (by omega)] at this
    exact this
noncomputable abbrev nGone : List Str := ["pot", "stand", "rule", "takes", "gives"]
theorem nmGone : Nm nGone (defScope sGone) := ⟨by decide +kernel, by decide +kernel⟩
theorem scGone : FnScope nGone ["pot", "stand", "rule"] (defScope sGone) := ⟨rfl, rfl, rfl, by decide +kernel, rfl, by decide +kernel, by decide +kernel⟩
noncomputable abbrev cGone : Scope := retCallComp ((defBody sGone).getD 3 (.Pass ⟨0, 0, 0, 0⟩))
theorem bsGone : BScope (defScope sGone) cGone ["there", "taken", "given"] [] [] := { okind := by decide +kernel, kind := by decide +kernel, nocell := by decide +kernel, names := by decide +kernel, fr := by decide +kernel, ff := by decide +kernel, nd := by decide +kernel, vis := by decide +kernel, loc := by decide +kernel, gl := by decide +kernel }
noncomputable def spGone : Sp := fun vs H Q _ => ∃ (p s : Addr) (r : Int) (m : Nat) (tg : Rows) (st : List Int), vs = [.ref p, .ref s, .int r] ∧ PotR H p m tg ∧ H s = some (.tup (st.map V.int)) ∧ st.length = m ∧ cg tg st r = true ∧ ∀ q H', Same H H' → H' q = some (.tup ((goL st (rl tg r)).map V.int)) → Q (.ref q) H'
set_option maxHeartbeats 4000000 in
theorem ok_Gone {f : Addr} {fd : FuncData} (B : Blt8 mg) (C : Has P w K mg base 1 "can_go" ["pot", "stand", "rule"] spCan) (F : Fun K "gone" "gone" sGone f fd) : FnOk P w K mg base CX0 2 f fd ["pot", "stand", "rule"] spGone := by
 refine F.ok scGone (fun vs H Q E h => ?_) (fun cdv A outer s H vs Q E hr h => ?_)
 ·obtain ⟨p, s, r, m, tg, st, rfl, _⟩ := h
  rfl
 ·obtain ⟨p, sa, r, m, tg, st, rfl, hP, hs, hst, hc, k⟩ := h
  refine' ⟨_, ?hb, ?rd⟩
  case hb =>
   refine' pss_cons ?s1 ?r1
   case' r1 => refine' pss_cons ?s2 ?r2
   case' r2 => refine' pss_cons ?s3 ?r3
   case' r3 => refine' pss_one ?s4
   case s1 =>
    refine' ps_if ?c1 (pss_one ps_never) pss_nil
    case' c1 => refine' pt_not ?c2
    case' c2 => refine' pt_val ?c3
    case c3 => exact pe_f C hr (by decide) (pa_c (pvd nmGone 0) (pa_2 (pvd nmGone 1) (pvd nmGone 2)))
   case s2 =>
    refine' ps_setD nmGone 3 ?d1
    case' d1 => refine' pe_ix ix_d ?d2 (pe_k B.taK) (fun _ _ => rfl)
    case d2 => exact pe_ix ix_d (pe_ix ix_d (pvd nmGone 0) (pe_k B.ruK) (fun _ _ => rfl)) (pvd nmGone 2) (fun _ _ => rfl)
   case s3 =>
    refine' ps_setD nmGone 4 ?f1
    case' f1 => refine' pe_ix ix_d ?f2 (pe_k B.giK) (fun _ _ => rfl)
    case f2 => exact pe_ix ix_d (pe_ix ix_d (pvd nmGone 0) (pe_k B.ruK) (fun _ _ => rfl)) (pvd nmGone 2) (fun _ _ => rfl)
   case s4 =>
    refine' ps_ret ?e1
    case' e1 => refine' pe_cT call_tuple_of B.tuple PyProof.Rows.boot_tuple ?e2
    case' e2 => refine' pa_1 ?e3
    case e3 =>
     refine' pe_comp (ix := []) bsGone.toCScope rfl rfl (pi_zt B.zip (pa_c (pvd nmGone 1) (pa_2 (pvd nmGone 3) (pvd nmGone 4)))) ?h4 ?h5 ?h6
     case h4 =>
      intro _ _ _ _ _ _
      refine' pgb_tup (n := 3) rfl ?z1
      case' z1 => refine' pgs_cons ?z2 ?z3
      case z2 => exact pgb bsGone 0
      case' z3 => refine' pgs_cons ?z4 ?z5
      case z4 => exact pgb bsGone 1
      case' z5 => refine' pgs_cons ?z6 pgs_nil
      case z6 => exact pgb bsGone 2
     case h5 => exact fun _ _ _ _ _ _ => pts_nil
     case h6 => exact fun _ _ _ _ _ _ => pe_op op_add (pe_op op_sub (pvb bsGone 0) (pvb bsGone 1)) (pvb bsGone 2)
  case rd =>
   obtain ⟨h0, h0'⟩ := cg_range hc
   obtain ⟨j, rfl⟩ := Nat.ofI h0
   have m8 := hP.m8
   walk_at "v"
   refine ⟨p, sa, _, m, tg, st, rfl, hP, hs, hst, fun H1 K1 => ?_⟩
   rw [hc]
   walk_at "v"
   refine iteF ?_
   obtain ⟨ps, pr, pin, pb, ans, rs, h1, h2, h3⟩ := (hP.same K1).ex
   have hrl := h3.1
   have hj : j < tg.length := by omega
   have hj' : j < rs.length := by omega
   obtain ⟨t, g, htg⟩ : ∃ t g, tg[j] = (t, g) := ⟨_, _, rfl⟩
   obtain ⟨lt, lg, bt, bg, a, b, e1, e2, e3⟩ := h3.2 j rs[j] t g (by simp [hj']) (by rw [List.getElem?_eq_getElem hj, htg])
   have hrl' : rl tg (j : Int) = (t, g) := by
    unfold rl
    rw [Int.toNat_natCast, List.getD_eq_getElem?_getD, List.getElem?_eq_getElem hj, htg]
    rfl
   rw [hrl'] at k
   walk_at "v"
   refine w_ixT h1 rfl ?_
   walk_at "v"
   refine w_ixT (v := .ref rs[j]) h2 (atI_nat (by simp [hj'])) ?_
   walk_at "v"
   refine w_ixT e1 rfl ?_
   walk_at "v"
   refine w_ixT h1 rfl ?_
   walk_at "v"
   refine w_ixT (v := .ref rs[j]) h2 (atI_nat (by simp [hj'])) ?_
   walk_at "v"
   refine w_ixT e1 rfl ?_
   walk_at "v"
   refine w_comp3 ?_
   walk_at "v"
   refine ⟨sa, a, b, rfl, ⟨_, SqT.of (K1 _ _ hs)⟩, ⟨_, SqT.of e2⟩, ⟨_, SqT.of e3⟩, fun D hD => ?_⟩
   refine zip3_map (ρ := []) (fun x y z => x - y + z) (K1 _ _ hs) e2 e3 (by omega) (by omega) (by omega) (fun x y z H' _ R kR => ?_) (fun H2 K2 hD2 => ?_) hD
   ·walk_at "v"
    exact kR _ (Same.refl _)
   walk_at "v"
   refine ⟨D, _, rfl, .inl ⟨SqL.of hD2, fun q hq => ?_⟩⟩
   exact k q _ ((K1.trans K2).new hq) upd_same
noncomputable abbrev nThere : List Str := ["pot", "stand"]
theorem nmThere : Nm nThere (defScope sThere) := ⟨by decide +kernel, by decide +kernel⟩
theorem scThere : FnScope nThere ["pot", "stand"] (defScope sThere) := ⟨rfl, rfl, rfl, by decide +kernel, rfl, by decide +kernel, by decide +kernel⟩
noncomputable def retComp8 (s : Stmt) : Scope := match s with
 | .Return (some (.ListComp _ _ sc _)) _ => sc
 | _ => { kind := .function, names := [], isGenerator := false, isCoroutine := false }
noncomputable abbrev cThere : Scope := retComp8 ((defBody sThere).getD 0 (.Pass ⟨0, 0, 0, 0⟩))
theorem bsThere : BScope (defScope sThere) cThere ["rule"] ["pot", "stand"] ["can_go"] := { okind := by decide +kernel, kind := by decide +kernel, nocell := by decide +kernel, names := by decide +kernel, fr := by decide +kernel, ff := by decide +kernel, nd := by decide +kernel, vis := by decide +kernel, loc := by decide +kernel, gl := by decide +kernel }
noncomputable def spThere : Sp := fun vs H Q _ => ∃ (p s : Addr) (m : Nat) (tg : Rows) (st : List Int), vs = [.ref p, .ref s] ∧ PotR H p m tg ∧ H s = some (.tup (st.map V.int)) ∧ st.length = m ∧ ∀ l H', Same H H' → H l = none → H' l = some (.lst ((thL tg st).map V.int)) → Q (.ref l) H'
set_option maxHeartbeats 4000000 in
theorem ok_There {f : Addr} {fd : FuncData} (B : Blt8 mg) (C : Has P w K mg base 1 "can_go" ["pot", "stand", "rule"] spCan) (F : Fun K "rules_there" "rules_there" sThere f fd) : FnOk P w K mg base CX0 2 f fd ["pot", "stand"] spThere := by
 refine F.ok scThere (fun vs H Q E h => ?_) (fun cdv A outer s H vs Q E hr h => ?_)
 ·obtain ⟨p, s, m, tg, st, rfl, _⟩ := h
  rfl
 ·obtain ⟨p, sa, m, tg, st, rfl, hP, hs, hst, k⟩ := h
  refine' ⟨_, ?hb, ?rd⟩
  case hb =>
   refine' pss_one ?s1
   case' s1 => refine' ps_ret ?e1
   case e1 =>
    refine' pe_comp (ix := [0, 1]) bsThere.toCScope rfl rfl ?h3 ?h4 ?h5 ?h6
    case h3 =>
     refine' pi_r1 B.range ?h3a
     case' h3a => refine' pa_1 ?h3b
     case' h3b => refine' pe_cB call_len_seq B.len PySem.boot_len ?h3c
     case h3c => exact pa_1 (pe_ix ix_d (pvd nmThere 0) (pe_k B.ruK) (fun _ _ => rfl))
    case h4 => exact fun _ _ _ _ _ _ => pgb bsThere 0
    case h5 =>
     intro _ _ _ _ _ _
     refine' pts_one ?h5a
     case' h5a => refine' pt_val ?h5b
     case h5b => exact pe_f C hr (by decide) (pa_c (pvb bsThere 1) (pa_2 (pvb bsThere 2) (pvb bsThere 0))) (bsThere.g 0)
    case h6 => exact fun _ _ _ _ _ _ => pvb bsThere 0
  case rd =>
   obtain ⟨ps, pr, pin, pb, ans, rs, h1, h2, h3⟩ := hP.ex
   have hrl := h3.1
   have n8 := hP.n8
   walk_at "v"
   refine w_ixT h1 rfl ?_
   walk_at "v"
   refine ⟨pr, _, rfl, .inr (SqT.of h2), ?_⟩
   rw [List.length_map, hrl]
   refine ⟨_, rfl, by omega, by omega, fun D hD => ?_⟩
   rw [Int.toNat_natCast]
   refine cgo_range (ρ := [some (.ref p), some (.ref sa)]) (fun i ys H' => ys = (thN tg st i).map V.int ∧ Same H H') ⟨rfl, Same.new (Same.refl H) hD⟩ ?_ ?_
   ·rintro i ys H' hi ⟨rfl, K'⟩ hDy R S kR kS
    rw [Int.zero_add]
    have hl := thN_len (tg := tg) (st := st) (n := i)
    walk_at "v"
    refine ⟨p, sa, _, m, tg, st, rfl, hP.same K', K' _ _ hs, hst, fun H2 K2 => ?_⟩
    walk_at "v"
    cases hc : cg tg st (i : Int) with
    | true =>
     refine iteT ?_
     walk_at "v"
     refine kR _ _ (K2 _ _ hDy) (by rw [List.length_map]; exact small1000 (by omega)) ⟨?_, (K'.trans K2).put hD⟩
     rw [thN_succ, if_pos hc, List.map_append]
     rfl
    | false =>
     refine iteF ?_
     refine kS _ (K2 _ _ hDy) ⟨?_, K'.trans K2⟩
     rw [thN_succ, if_neg (by rw [hc]; exact Bool.false_ne_true)]
   ·rintro ys H' ⟨rfl, K'⟩ hDy
    exact k D H' K' hD hDy
end
end K93
namespace K93
open PySem L2 G2 EL
local macro_rules | `(tactic| walk_at "v") => `(tactic| repeat (with_reducible first
  | refine w_seq ?_ | refine w_asg ?_ | refine w_gname ?_ | refine w_op ?_ | refine w_var rfl ?_ | refine w_c ?_ | refine w_rI0 ?_ | refine w_ifs ?_ | refine w_ife ?_ | refine w_test ?_ | refine w_tb ?_ | refine w_bl ?_ | refine w_not ?_ | refine w_ret ?_ | refine w_retN ?_
  | refine w_nil ?_ | refine w_cons ?_ | refine w_lst ?_ | refine w_tup ?_ | refine w_cb ?_ | refine w_call ?_ | refine w_gsub ?_ | refine w_and ?_ | refine w_or ?_ | refine w_next ?_ | refine w_all ?_ | refine w_vals ?_ | refine w_compR ?_ | refine w_compT ?_ | refine w_forR ?_ | refine w_forT ?_ | refine w_forL ?_ | refine w_drop ?_ | refine w_bm ?_ | refine w_compZ ?_ | refine w_compL ?_ | refine w_chain ?_ | refine w_sl ?_ | refine w_nopart ?_ | refine w_part ?_ | refine w_unI ?_ | refine iteT ?_ | refine iteF ?_))
noncomputable abbrev sTa : Stmt := top 3
noncomputable abbrev nTa : List Str := ["ones", "others"]
theorem nmTa : Nm nTa (defScope sTa) := ⟨by decide +kernel, by decide +kernel⟩
theorem scTa : FnScope nTa ["ones", "others"] (defScope sTa) := ⟨rfl, rfl, rfl, by decide +kernel, rfl, by decide +kernel, by decide +kernel⟩
noncomputable def qTaa (s : Stmt) : Scope := match s with
 | .Return (some (.Call _ [(.ListComp _ _ sc _)] _ _)) _ => sc
 | _ => { kind := .function, names := [], isGenerator := false, isCoroutine := false }
noncomputable abbrev cTaa : Scope := qTaa ((defBody sTa).getD 0 (.Pass ⟨0, 0, 0, 0⟩))
theorem bsTaa : BScope (defScope sTa) cTaa ["one", "other"] [] [] := { okind := by decide +kernel, kind := by decide +kernel, nocell := by decide +kernel, names := by decide +kernel, fr := by decide +kernel, ff := by decide +kernel, nd := by decide +kernel, vis := by decide +kernel, loc := by decide +kernel, gl := by decide +kernel }
noncomputable def spTa : Sp := fun vs H Q _ => ∃ (p q : Addr) (xs ys : List Int), vs = [.ref p, .ref q] ∧ H p = some (.tup (xs.map V.int)) ∧ H q = some (.tup (ys.map V.int)) ∧ xs.length = ys.length ∧ xs.length ≤ 1000 ∧ (∀ x ∈ xs, Bb x) ∧ (∀ y ∈ ys, Bb y) ∧ ∀ H', Same H H' → Q (.int (dz xs ys)) H'
section
variable {P : Program} {w : World} {K : PySem.W.Frag} {mg : Str → Option Value} {base : Heap}
set_option maxHeartbeats 4000000 in
theorem ok_Ta {f : Addr} {fd : FuncData} (B : Bl mg) (F : Fun K "times_added" "times_added" sTa f fd) : FnOk P w K mg base CX0 1 f fd ["ones", "others"] spTa := by
 refine F.ok scTa (fun vs H Q E h => ?_) (fun cdv A outer s H vs Q E hr h => ?_)
 ·obtain ⟨p, q, xs, ys, rfl, _⟩ := h
  rfl
 ·obtain ⟨p, q, xs, ys, rfl, hp, hq, hl, hn, bx, by', k⟩ := h
  refine' ⟨_, ?hb, ?rd⟩
  case' hb => skip
  case' hb => refine' pss_one ?g1
  case' g1 => refine' ps_ret ?g2
  case' g2 => refine' pe_cB (call_sum rfl) B.sum PyProof.Rows.boot_sum ?g3
  case' g3 => refine' pa_1 ?g4
  case' g4 => refine' pe_comp (ix := []) bsTaa.toCScope rfl rfl ?g5 ?g6 ?g7 ?g8
  case g5 => exact pi_zp B.zip (pa_2 (pvd nmTa 0) (pvd nmTa 1))
  case g6 =>
   intro _ _ _ _ _ _
   refine' pgb_tup (n := 2) rfl ?g9
   case' g9 => refine' pgs_cons ?g13 ?g12
   case g13 => exact pgb bsTaa 0
   case' g12 => refine' pgs_cons ?g15 pgs_nil
   case g15 => exact pgb bsTaa 1
  case g7 => exact fun _ _ _ _ _ _ => pts_nil
  case g8 => exact fun _ _ _ _ _ _ => pe_op op_mulB (pvb bsTaa 0) (pvb bsTaa 1)
  case rd =>
   walk_at "v"
   refine ⟨p, q, rfl, ⟨_, SqT.of hp⟩, ⟨_, SqT.of hq⟩, fun D hD => ?_⟩
   refine G2.zip_map (fun x y => x * y) hp hq hl hn (fun i x y H' ex ey K' R kR => ?_) (fun H2 K2 e2 => ?_) hD
   ·walk_at "v"
    refine w_rI (mulBb (bx _ (List.mem_of_getElem? ex)) (by' _ (List.mem_of_getElem? ey))) ?_
    exact kR _ (Same.refl _)
   walk_at "v"
   refine ⟨D, _, rfl, e2, ?_⟩
   exact k _ K2
end
noncomputable abbrev sCt : Stmt := top 15
noncomputable abbrev nCt : List Str := ["kept", "stand"]
theorem nmCt : Nm nCt (defScope sCt) := ⟨by decide +kernel, by decide +kernel⟩
theorem scCt : FnScope nCt ["kept", "stand"] (defScope sCt) := ⟨rfl, rfl, rfl, by decide +kernel, rfl, by decide +kernel, by decide +kernel⟩
section
variable {P : Program} {w : World} {K : PySem.W.Frag} {mg : Str → Option Value} {base : Heap}
set_option maxHeartbeats 4000000 in
theorem ok_Ct {f : Addr} {fd : FuncData} (fT : Has P w K mg base 1 "times_added" ["ones", "others"] spTa) (F : Fun K "count_of" "count_of" sCt f fd) : FnOk P w K mg base CX0 2 f fd ["kept", "stand"] spTa := by
 refine F.ok scCt (fun vs H Q E h => ?_) (fun cdv A outer s H vs Q E hr h => ?_)
 ·obtain ⟨p, q, xs, ys, rfl, _⟩ := h
  rfl
 ·obtain ⟨p, q, xs, ys, rfl, h⟩ := h
  refine' ⟨_, ?hb, ?rd⟩
  case' hb => skip
  case' hb => refine' pss_one ?g1
  case g1 => exact ps_ret (pe_f fT hr (by decide) (pa_2 (pvd nmCt 0) (pvd nmCt 1)))
  case rd =>
   walk_at "v"
   exact ⟨p, q, xs, ys, rfl, h⟩
end
noncomputable abbrev sFc : Stmt := top 17
noncomputable abbrev nFc : List Str := ["pot", "kept", "number", "rule"]
theorem nmFc : Nm nFc (defScope sFc) := ⟨by decide +kernel, by decide +kernel⟩
theorem scFc : FnScope nFc ["pot", "kept"] (defScope sFc) := ⟨rfl, rfl, rfl, by decide +kernel, rfl, by decide +kernel, by decide +kernel⟩
noncomputable def chP (v : List Int) (tg : Rows) (i : Nat) : Bool := decide (dz v (tg.getD i ([], [])).1 ≠ dz v (tg.getD i ([], [])).2)
noncomputable def fch (v : List Int) (tg : Rows) : Option Nat := (List.range tg.length).find? (chP v tg)
theorem bb30 {x : Int} (h : 0 ≤ x ∧ x ≤ 30) : Bb x := bb_of (m := 5) (by show _ < 32; omega) (by decide)
noncomputable def spFc : Sp := fun vs H Q _ => ∃ (p q : Addr) (m : Nat) (tg : Rows) (v : List Int), vs = [.ref p, .ref q] ∧ PotK H p m tg ∧ H q = some (.tup (v.map V.int)) ∧ v.length = m ∧ (∀ x ∈ v, Bb x) ∧ ∀ H', Same H H' → Q (oV (fch v tg)) H'
section
variable {P : Program} {w : World} {K : PySem.W.Frag} {mg : Str → Option Value} {base : Heap}
set_option maxHeartbeats 4000000 in
theorem ok_Fc {f : Addr} {fd : FuncData} (B : Bl mg) (Z : KZ mg) (fC : Has P w K mg base 2 "count_of" ["kept", "stand"] spTa) (F : Fun K "first_change" "first_change" sFc f fd) : FnOk P w K mg base CX0 3 f fd ["pot", "kept"] spFc := by
 refine F.ok scFc (fun vs H Q E h => ?_) (fun cdv A outer s H vs Q E hr h => ?_)
 ·obtain ⟨p, q, m, tg, v, rfl, _⟩ := h
  rfl
 ·obtain ⟨p, q, m, tg, v, rfl, hP, hq, hv, hb, k⟩ := h
  refine' ⟨_, ?hb, ?rd⟩
  case' hb => skip
  case' hb => refine' pss_cons ?g1 ?g2
  case' g2 => refine' pss_one ?g3
  case' g1 => refine' ps_for PassesOwn.never rfl ?g4 (pg_tup rfl (pgs_cons (pgd nmFc 2) (pgs_cons (pgd nmFc 3) pgs_nil))) ?g5
  case g4 => exact pi_enu B.enu (pa_1 (pe_ix ix_d (pvd nmFc 0) (pe_k Z.rules) (fun _ _ => rfl)))
  case' g5 => refine' pss_one ?g6
  case' g6 => refine' ps_if ?g7 ?g8 pss_nil
  case g7 => exact pt_cmpR op_ne (pe_f fC hr (by decide) (pa_2 (pvd nmFc 1) (pe_ix ix_d (pvd nmFc 3) (pe_k Z.takes) (fun _ _ => rfl)))) (pe_f fC hr (by decide) (pa_2 (pvd nmFc 1) (pe_ix ix_d (pvd nmFc 3) (pe_k Z.gives) (fun _ _ => rfl)))) (nomark _)
  case' g8 => refine' pss_one ?g10
  case g10 => exact ps_ret (pvd nmFc 2)
  case g3 => exact ps_ret pe_non
  case rd =>
   obtain ⟨ps, pr, pin, pb, ans, rs, nm, h1, h2, h3, h4, hR⟩ := hP.ex
   have m8 := hP.m8
   have n8 := hP.n8
   have rl := hR.1
   walk_at "v"
   refine w_forE ?_
   walk_at "v"
   refine w_ixT h1 rfl ?_
   walk_at "v"
   refine ⟨pr, rfl, ⟨_, SqT.of h4⟩, ?_⟩
   refine for_enu (xs := rs.map V.ref) (fun i σ H' => ∃ (u w' : Option V), σ = [some (.ref p), some (.ref q), u, w'] ∧ (∀ j, j < i → chP v tg j = false) ∧ Same H H') ⟨none, none, rfl, fun j z => absurd z (Nat.not_lt_zero j), Same.refl H⟩ (fun i σ H' ⟨_, _, _, _, k'⟩ => SqT.of (k' _ _ h4)) ?_ ?_
   ·rintro i x σ H1 z hx ⟨u, w', rfl, hf, K1⟩ hz
    obtain ⟨rq, er, rfl⟩ := itR hx
    have hi : i < tg.length := by
     have := (List.getElem?_eq_some_iff.mp er).1
     omega
    obtain ⟨r, qa, qb, g1, g2, g3, g4, g5, g6, g7, g8⟩ := hR.get hi
    rw [er] at g1
    cases g1
    refine w_gtup upd_same rfl ?_
    refine ⟨_, _, rfl, ?_⟩
    walk_at "v"
    refine ⟨_, _, rfl, ?_⟩
    walk_at "v"
    refine ⟨rfl, ?_⟩
    have K2 : Same H (upd H1 z (.tup [.int (i : Int), .ref rq])) := K1.new hz
    generalize upd H1 z (.tup [.int (i : Int), .ref rq]) = H2 at K2 ⊢
    walk_at "v"
    refine w_ixT (K2 _ _ g2) rfl ?_
    walk_at "v"
    refine ⟨q, qa, v, _, rfl, K2 _ _ hq, K2 _ _ g3, by omega, by omega, hb, fun x hx => bb30 (g7 x hx), fun H3 K3 => ?_⟩
    have K03 := K2.trans K3
    walk_at "v"
    refine w_ixT (K03 _ _ g2) rfl ?_
    walk_at "v"
    refine ⟨q, qb, v, _, rfl, K03 _ _ hq, K03 _ _ g4, by omega, by omega, hb, fun x hx => bb30 (g8 x hx), fun H4 K4 => ?_⟩
    have K04 := K03.trans K4
    have et : chP v tg i = decide (dz v tg[i].1 ≠ dz v tg[i].2) := by
     unfold chP
     rw [show tg.getD i ([], []) = tg[i] by rw [List.getD_eq_getElem?_getD, List.getElem?_eq_getElem hi]; rfl]
    walk_at "v"
    refine ⟨rfl, ?_⟩
    walk_at "v"
    refine iteNB (fun h => ?_) (fun h => ?_)
    ·have hne : dz v tg[i].1 ≠ dz v tg[i].2 := fun z => h (congrArg V.int z)
     walk_at "v"
     have e : fch v tg = some i := List.find?_range_eq_some.mpr ⟨by rw [et]; exact decide_eq_true hne, List.mem_range.mpr hi, fun j hj => by rw [hf j hj]; rfl⟩
     rw [e] at k
     exact k _ K04
    ·have he : dz v tg[i].1 = dz v tg[i].2 := by injection h
     refine ⟨_, _, rfl, fun j hj => ?_, K04⟩
     rcases Nat.lt_or_ge j i with z | z
     ·exact hf j z
     ·rw [show j = i by omega, et]
      exact decide_eq_false (fun q => q he)
   ·rintro σ H1 ⟨u, w', rfl, hf, K1⟩
    walk_at "v"
    have e : fch v tg = none := List.find?_range_eq_none.mpr fun i hi => by rw [hf i (by rw [List.length_map]; omega)]; rfl
    rw [e] at k
    exact k _ K1
end
noncomputable abbrev sSt : Stmt := top 16
noncomputable abbrev nSt : List Str := ["pot", "kept"]
theorem nmSt : Nm nSt (defScope sSt) := ⟨by decide +kernel, by decide +kernel⟩
theorem scSt : FnScope nSt ["pot", "kept"] (defScope sSt) := ⟨rfl, rfl, rfl, by decide +kernel, rfl, by decide +kernel, by decide +kernel⟩
noncomputable def spSt : Sp := fun vs H Q _ => ∃ (p q : Addr) (m : Nat) (tg : Rows) (v : List Int), vs = [.ref p, .ref q] ∧ PotK H p m tg ∧ H q = some (.tup (v.map V.int)) ∧ v.length = m ∧ (∀ x ∈ v, Bb x) ∧ ∀ H', Same H H' → Q (.bl (fch v tg).isNone) H'
section
variable {P : Program} {w : World} {K : PySem.W.Frag} {mg : Str → Option Value} {base : Heap}
set_option maxHeartbeats 4000000 in
theorem ok_St {f : Addr} {fd : FuncData} (fC : Has P w K mg base 3 "first_change" ["pot", "kept"] spFc) (F : Fun K "stays" "stays" sSt f fd) : FnOk P w K mg base CX0 4 f fd ["pot", "kept"] spSt := by
 refine F.ok scSt (fun vs H Q E h => ?_) (fun cdv A outer s H vs Q E hr h => ?_)
 ·obtain ⟨p, q, m, tg, v, rfl, _⟩ := h
  rfl
 ·obtain ⟨p, q, m, tg, v, rfl, h1, h2, h3, h4, k⟩ := h
  refine' ⟨_, ?hb, ?rd⟩
  case' hb => skip
  case' hb => refine' pss_one ?g1
  case g1 => exact ps_ret (pe_cmp (pc_isN (pe_f fC hr (by decide) (pa_2 (pvd nmSt 0) (pvd nmSt 1)))))
  case rd =>
   walk_at "v"
   refine w_isN ?_
   walk_at "v"
   refine ⟨p, q, m, tg, v, rfl, h1, h2, h3, h4, fun H1 K1 => ?_⟩
   have := k H1 K1
   cases e : fch v tg with
   | none => rw [e] at this; exact this
   | some i => rw [e] at this; exact this
end
theorem cg_fil {D : Addr} {tc : TT} {te : TE} {Q : VK} {ρ : St} {H : Hp} {K : PySem.W.Frag} {a : Addr} {xs : List Int} (f : Int → Bool) (ha : H a = some (.lst (xs.map V.int))) (hn : xs.length ≤ 1000) (hD : H D = none)
  (h : ∀ x ∈ xs, ∀ H', Same H H' → ∀ QB : Bool → Hp → Prop, (∀ H'', Same H' H'' → QB (f x) H'') → tc (some (.int x) :: ρ) H' QB)
  (ht : ∀ (x : Int) (H' : Hp) (R : V → Hp → Prop), R (.int x) H' → te (some (.int x) :: ρ) H' R)
  (q : ∀ H', Same H H' → H' D = some (.lst ((xs.filter f).map V.int)) → Q (.ref D) H') : CGo (Itl K a) D (gName 0) tc te Q (none :: ρ) H := by
 refine cgo_list (xs := xs.map V.int) (fun i ys H' => ys = ((xs.take i).filter f).map V.int ∧ Same H H') ⟨by simp, Same.new (Same.refl H) hD⟩ (fun i ys H' _ ⟨_, k'⟩ => SqL.of (k' _ _ ha)) ?_ ?_
 ·rintro i x ys H' hx ⟨rfl, K'⟩ hDy R S kR kS
  obtain ⟨hi, rfl⟩ := itI hx
  have eg : xs[i]? = some (xs.getD i 0) := by rw [List.getD_eq_getElem?_getD, List.getElem?_eq_getElem hi]; rfl
  refine h _ (EL.getD_mem hi) H' K' _ fun H2 K2 => ?_
  cases hf : f (xs.getD i 0) with
  | true =>
   refine iteT (ht _ H2 _ ?_)
   refine kR _ _ (K2 _ _ hDy) ?_ ⟨?_, (K'.trans K2).put hD⟩
   ·rw [List.length_map]
    refine small1000 (Nat.le_trans (List.length_filter_le _ _) ?_)
    rw [List.length_take]
    omega
   ·rw [List.take_add_one, eg, List.filter_append, List.map_append]
    show _ = _ ++ List.map V.int (List.filter f [xs.getD i 0])
    rw [List.filter_cons_of_pos hf]
    rfl
  | false =>
   refine iteF (kS _ (K2 _ _ hDy) ⟨?_, K'.trans K2⟩)
   rw [List.take_add_one, eg, List.filter_append, List.map_append]
   show _ = _ ++ List.map V.int (List.filter f [xs.getD i 0])
   rw [List.filter_cons_of_neg (by rw [hf]; exact Bool.false_ne_true)]
   simp
 ·rintro ys H1 ⟨rfl, K1⟩ e1
  rw [List.length_map, List.take_length] at e1
  exact q H1 K1 e1
theorem But.tup {p a : Addr} {H H' : Hp} {xs : List V} (b : But p H H') (F : FeedAt H p) (h : H a = some (.tup xs)) : H' a = some (.tup xs) := b a _ h (fun e => by
 obtain ⟨x, y, z, hp⟩ := F
 rw [e, hp] at h
 cases h)
theorem FeedAt.nr {H : Hp} {p l : Addr} {bs : List Addr} (F : FeedAt H p) (h : H l = some (.lst (bs.map V.ref))) : l ≠ p := fun e => by
 obtain ⟨x, y, z, hp⟩ := F
 rw [e, hp] at h
 cases bs with
 | nil => simp at h
 | cons b bs => simp at h
theorem FeedAt.nn {H : Hp} {p l : Addr} (F : FeedAt H p) (h : H l = none) : l ≠ p := fun e => by
 obtain ⟨x, y, z, hp⟩ := F
 rw [e, hp] at h
 cases h
theorem TL.but {p : Addr} {H H' : Hp} {as : List Addr} {rows : List (List Int)} (b : But p H H') (F : FeedAt H p) (h : TL H as rows) : TL H' as rows := ⟨h.1, fun i a r e1 e2 => b.tup F (h.2 i a r e1 e2)⟩
theorem But.none {p a : Addr} {H H' : Hp} (b : But p H H') (hp : a ≠ p) (h : H' a = none) : H a = none := b.free (Ne.symm hp) h
noncomputable abbrev sSm : Stmt := top 35
noncomputable abbrev nSm : List Str := ["_law_feed_here", "_law_kepts", "_law_many", "_law_way", "_law_found", "_law_one", "_law_times", "_law_sort"]
theorem nmSm : Nm nSm (defScope sSm) := ⟨by decide +kernel, by decide +kernel⟩
theorem scSm : FnScope nSm ["_law_feed_here", "_law_kepts", "_law_many"] (defScope sSm) := ⟨rfl, rfl, rfl, by decide +kernel, rfl, by decide +kernel, by decide +kernel⟩
noncomputable def qSma (s : Stmt) : Scope := match s with
 | .If _ [(.Return (some (.ListComp _ _ sc _)) _)] _ _ => sc
 | _ => { kind := .function, names := [], isGenerator := false, isCoroutine := false }
noncomputable abbrev cSma : Scope := qSma ((defBody sSm).getD 2 (.Pass ⟨0, 0, 0, 0⟩))
theorem bsSma : BScope (defScope sSm) cSma ["_law_sort"] ["_law_feed_here"] ["_law_draw"] := { okind := by decide +kernel, kind := by decide +kernel, nocell := by decide +kernel, names := by decide +kernel, fr := by decide +kernel, ff := by decide +kernel, nd := by decide +kernel, vis := by decide +kernel, loc := by decide +kernel, gl := by decide +kernel }
noncomputable def qSmb (s : Stmt) : Scope := match s with
 | .For _ _ [_, (.Assign _ (.ListComp _ _ sc _) _)] _ _ => sc
 | _ => { kind := .function, names := [], isGenerator := false, isCoroutine := false }
noncomputable abbrev cSmb : Scope := qSmb ((defBody sSm).getD 4 (.Pass ⟨0, 0, 0, 0⟩))
theorem bsSmb : BScope (defScope sSm) cSmb ["_law_sort"] ["_law_found", "_law_one", "_law_times"] [] := { okind := by decide +kernel, kind := by decide +kernel, nocell := by decide +kernel, names := by decide +kernel, fr := by decide +kernel, ff := by decide +kernel, nd := by decide +kernel, vis := by decide +kernel, loc := by decide +kernel, gl := by decide +kernel }
noncomputable def qSmc (s : Stmt) : Scope := match s with
 | .If (.Compare (.ListComp _ _ sc _) _ _ _) _ _ _ => sc
 | _ => { kind := .function, names := [], isGenerator := false, isCoroutine := false }
noncomputable abbrev cSmc : Scope := qSmc ((defBody sSm).getD 5 (.Pass ⟨0, 0, 0, 0⟩))
theorem bsSmc : BScope (defScope sSm) cSmc ["_law_number"] [] [] := { okind := by decide +kernel, kind := by decide +kernel, nocell := by decide +kernel, names := by decide +kernel, fr := by decide +kernel, ff := by decide +kernel, nd := by decide +kernel, vis := by decide +kernel, loc := by decide +kernel, gl := by decide +kernel }
noncomputable def qSmd (s : Stmt) : Scope := match s with
 | .If _ [(.Assign _ (.ListComp _ _ sc _) _)] _ _ => sc
 | _ => { kind := .function, names := [], isGenerator := false, isCoroutine := false }
noncomputable abbrev cSmd : Scope := qSmd ((defBody sSm).getD 5 (.Pass ⟨0, 0, 0, 0⟩))
theorem bsSmd : BScope (defScope sSm) cSmd ["_law_number"] [] [] := { okind := by decide +kernel, kind := by decide +kernel, nocell := by decide +kernel, names := by decide +kernel, fr := by decide +kernel, ff := by decide +kernel, nd := by decide +kernel, vis := by decide +kernel, loc := by decide +kernel, gl := by decide +kernel }
noncomputable def spSm : Sp := fun vs H Q _ => ∃ (p l : Addr) (m N : Nat) (bs : List Addr) (ks : List (List Int)), vs = [.ref p, .ref l, .int (m : Int)] ∧ FeedAt H p ∧ H l = some (.lst (bs.map V.ref)) ∧ TL H bs ks ∧ (∀ v ∈ ks, v.length = m) ∧ ks.length ≤ 8 ∧ 0 < m ∧ m ≤ 8 ∧ 0 < N ∧ (∀ v ∈ ks, ∀ x ∈ v, x.natAbs < N) ∧ ∀ (q : Addr) (r : List Int) (H' : Hp), FeedAt H' p → But p H H' → H' q = some (.lst (r.map V.int)) → r.length = m → (∀ x ∈ r, x.natAbs ≤ 42 * N) → Q (.ref q) H'
theorem tm_bd {c x : Int} {N i : Nat} {y : Int} (hc : -4 ≤ c ∧ c ≤ 4) (hx : x.natAbs < N) (hy : y.natAbs ≤ 4 * i * N) : (y + c * x).natAbs ≤ 4 * (i + 1) * N := by
 have h1 : (c * x).natAbs ≤ 4 * N := by
  rw [Int.natAbs_mul]
  exact Nat.mul_le_mul (by omega) (by omega)
 have h2 : 4 * (i + 1) * N = 4 * i * N + 4 * N := by rw [Nat.mul_add, Nat.add_mul]
 omega
section
variable {P : Program} {w : World} {K : PySem.W.Frag} {mg : Str → Option Value} {base : Heap}
set_option maxHeartbeats 4000000 in
theorem ok_Sm {f : Addr} {fd : FuncData} (B : Bl mg) (D : Has P w K mg base 1 "_law_draw" ["_law_feed_here", "_law_many"] spDraw) (F : Fun K "_law_some" "_law_some" sSm f fd) : FnOk P w K mg base CX0 2 f fd ["_law_feed_here", "_law_kepts", "_law_many"] spSm := by
 refine F.ok scSm (fun vs H Q E h => ?_) (fun cdv A outer s H vs Q E hr h => ?_)
 ·obtain ⟨p, l, m, N, bs, ks, rfl, _⟩ := h
  rfl
 ·obtain ⟨p, l, m, N, bs, ks, rfl, hF, hl, hT, hkm, k8, m0, m8, N0, hN, k⟩ := h
  refine' ⟨_, ?hb, ?rd⟩
  case' hb => skip
  case' hb => refine' pss_cons ?g1 ?g2
  case' g2 => refine' pss_cons ?g3 ?g4
  case' g4 => refine' pss_cons ?g5 ?g6
  case' g6 => refine' pss_cons ?g7 ?g8
  case' g8 => refine' pss_cons ?g9 ?g10
  case' g10 => refine' pss_cons ?g11 ?g12
  case' g12 => refine' pss_cons ?g13 ?g14
  case' g14 => refine' pss_one ?g15
  case g1 => exact ps_setD nmSm 3 (pe_f D hr (by decide) (pa_2 (pvd nmSm 0) pe_int))
  case g3 => exact ps_setD nmSm 4 (pe_op op_rep (pe_lst (pa_1 pe_int)) (pvd nmSm 2))
  case' g5 => refine' ps_if ?g16 ?g17 pss_nil
  case g16 => exact pt_cmpR op_eq (pvd nmSm 3) pe_int (nomark _)
  case' g17 => refine' pss_one ?g19
  case' g19 => refine' ps_ret ?g20
  case' g20 => refine' pe_comp (ix := [0]) bsSma.toCScope rfl rfl ?g21 ?g22 ?g23 ?g24
  case g21 => exact pi_r1 B.range (pa_1 (pvd nmSm 2))
  case g22 => exact fun _ _ _ _ _ _ => pgb bsSma 0
  case g23 => exact fun _ _ _ _ _ _ => pts_nil
  case g24 => exact fun _ _ _ _ _ _ => pe_op op_sub (pe_f D hr (by decide) (pa_2 (pvb bsSma 1) pe_int) (bsSma.g 0)) pe_int
  case' g7 => refine' ps_if ?g25 ?g26 pss_nil
  case g25 => exact pt_cmpR op_eq (pvd nmSm 3) pe_int (nomark _)
  case' g26 => refine' pss_cons ?g28 ?g29
  case' g29 => refine' pss_one ?g30
  case g28 => exact ps_asg pe_int (pg_sub (pvd nmSm 4) (pe_f D hr (by decide) (pa_2 (pvd nmSm 0) (pvd nmSm 2))) set_d)
  case g30 => exact ps_ret (pvd nmSm 4)
  case' g9 => refine' ps_for PassesOwn.never rfl ?g31 (pgd nmSm 5) ?g32
  case g31 => exact pi_list (pvd nmSm 1)
  case' g32 => refine' pss_cons ?g33 ?g34
  case' g34 => refine' pss_one ?g35
  case g33 => exact ps_setD nmSm 6 (pe_op op_sub (pe_f D hr (by decide) (pa_2 (pvd nmSm 0) pe_int)) pe_int)
  case' g35 => refine' ps_setD nmSm 4 ?g36
  case' g36 => refine' pe_comp (ix := [4, 5, 6]) bsSmb.toCScope rfl rfl ?g37 ?g38 ?g39 ?g40
  case g37 => exact pi_r1 B.range (pa_1 (pvd nmSm 2))
  case g38 => exact fun _ _ _ _ _ _ => pgb bsSmb 0
  case g39 => exact fun _ _ _ _ _ _ => pts_nil
  case g40 => exact fun _ _ _ _ _ _ => pe_op op_add (pe_ix ix_d (pvb bsSmb 1) (pvb bsSmb 0) (fun _ _ => rfl)) (pe_op op_mul (pvb bsSmb 3) (pe_ix ix_d (pvb bsSmb 2) (pvb bsSmb 0) (fun _ _ => rfl)))
  case' g11 => refine' ps_if ?g41 ?g42 pss_nil
  case' g41 => refine' pt_cmpR (op_eqE hr) ?g44 (pe_lst pa_nil) (nomark _)
  case' g44 => refine' pe_comp (ix := []) bsSmc.toCScope rfl rfl ?g45 ?g46 ?g47 ?g48
  case g45 => exact pi_list (pvd nmSm 4)
  case g46 => exact fun _ _ _ _ _ _ => pgb bsSmc 0
  case g47 => exact fun _ _ _ _ _ _ => pts_one (pt_cmpR op_ne (pe_op op_mod (pvb bsSmc 0) pe_int) pe_int (nomark _))
  case g48 => exact fun _ _ _ _ _ _ => pvb bsSmc 0
  case' g42 => refine' pss_one ?g49
  case' g49 => refine' ps_setD nmSm 4 ?g50
  case' g50 => refine' pe_comp (ix := []) bsSmd.toCScope rfl rfl ?g51 ?g52 ?g53 ?g54
  case g51 => exact pi_list (pvd nmSm 4)
  case g52 => exact fun _ _ _ _ _ _ => pgb bsSmd 0
  case g53 => exact fun _ _ _ _ _ _ => pts_nil
  case g54 => exact fun _ _ _ _ _ _ => pe_op op_fdiv (pvb bsSmd 0) pe_int
  case' g13 => refine' ps_if ?g55 ?g56 pss_nil
  case g55 => exact pt_cmpR op_eq (pvd nmSm 3) pe_int (nomark _)
  case' g56 => refine' pss_cons ?g58 ?g59
  case' g59 => refine' pss_one ?g60
  case g58 => exact ps_setD nmSm 7 (pe_f D hr (by decide) (pa_2 (pvd nmSm 0) (pvd nmSm 2)))
  case g60 => exact ps_asg (pe_op op_add (pe_ix ix_d (pvd nmSm 4) (pvd nmSm 7) (fun _ _ => rfl)) pe_int) (pg_sub (pvd nmSm 4) (pvd nmSm 7) set_d)
  case g15 => exact ps_ret (pvd nmSm 4)
  case rd =>
   have bT := hT.1
   have hlp := hF.nr hl
   walk_at "v"
   refine ⟨p, 4, rfl, hF, by decide, by decide, fun way x y z' w0 w1 => ?_⟩
   have b0 : But p H (upd H p (.lst [.int x, .int y, .int z'])) := But.refl.at
   have F0 : FeedAt (upd H p (.lst [.int x, .int y, .int z'])) p := FeedAt.here
   generalize upd H p (.lst [.int x, .int y, .int z']) = H0 at b0 F0 ⊢
   walk_at "v"
   refine ⟨by show 1 ≤ sizeLine; decide, fun z hz => ?_⟩
   obtain ⟨H1, q, K1, e1⟩ := nob (.lst [.int 0]) hz; rw [q]; clear q
   walk_at "v"
   refine ⟨z, (m : Int), _, rfl, rfl, e1, by omega, by omega, by simp; exact Nat.le_of_lt (small1000 (by omega)), fun fl hfl => ?_⟩
   rw [flat0, Int.toNat_natCast]
   obtain ⟨H2, q, K2, e2⟩ := nob (.lst ((List.replicate m (0 : Int)).map V.int)) hfl; rw [q]; clear q
   have K02 := K1.trans K2
   have F2 := F0.same K02
   have b2 := b0.trans (But.same K02)
   have hfl0 : H0 fl = none := Same.none K1 hfl
   have hflp : fl ≠ p := F0.nn hfl0
   have hflH : H fl = none := b0.none hflp hfl0
   walk_at "v"
   refine ⟨rfl, ?_⟩
   walk_at "v"
   refine iteD (fun _ => ?_) (fun _ => ?_)
   ·walk_at "v"
    refine ⟨_, rfl, by omega, by omega, fun D3 hD3 => ?_⟩
    rw [Int.toNat_natCast]
    have hD3p := F2.nn hD3
    refine cgo_range (n := m) (fun i ys H' => ∃ r : List Int, ys = r.map V.int ∧ r.length = i ∧ (∀ x ∈ r, x.natAbs ≤ 42 * N) ∧ FeedAt H' p ∧ But p H2 H') ⟨[], rfl, rfl, (fun x hx => nomatch hx), F2.same (Same.new (Same.refl _) hD3), But.refl.new hD3⟩ ?_ ?_
    ·rintro i ys H3 hi ⟨r, rfl, hrl, hrb, F3, b3⟩ hDy R S kR _
     refine w_all (iteT ?_)
     walk_at "v"
     refine ⟨p, 19, rfl, F3, by decide, by decide, fun c x y z' c0 c1 => ?_⟩
     have b4 : But p H2 (upd H3 p (.lst [.int x, .int y, .int z'])) := b3.at
     have F4 : FeedAt (upd H3 p (.lst [.int x, .int y, .int z'])) p := FeedAt.here
     have e4 : upd H3 p (.lst [.int x, .int y, .int z']) D3 = some (.lst (r.map V.int)) := by rw [upd_ne hD3p]; exact hDy
     generalize upd H3 p (.lst [.int x, .int y, .int z']) = H4 at b4 F4 e4 ⊢
     walk_at "v"
     refine kR _ _ e4 (by rw [List.length_map]; exact small1000 (by omega)) ⟨r ++ [c - 9], by rw [List.map_append]; rfl, by rw [List.length_append, hrl]; rfl, fun x hx => ?_, ?_, b4.put hD3⟩
     ·rcases List.mem_append.mp hx with z | z
      ·exact hrb x z
      ·rw [List.mem_singleton.mp z]
       have : 42 * 1 ≤ 42 * N := Nat.mul_le_mul_left _ N0
       omega
     ·obtain ⟨x1, y1, z1, e⟩ := F4
      exact ⟨x1, y1, z1, by rw [upd_ne (Ne.symm hD3p)]; exact e⟩
    rintro ys H3 ⟨r, rfl, hrl, hrb, F3, b3⟩ e3
    exact k D3 r H3 F3 (b2.trans b3) e3 hrl hrb
   walk_at "v"
   refine ⟨rfl, ?_⟩
   walk_at "v"
   refine iteD (fun _ => ?_) (fun _ => ?_)
   ·walk_at "v"
    refine ⟨p, m, rfl, F2, by omega, by omega, fun so x y z' s0 s1 => ?_⟩
    obtain ⟨so', rfl⟩ : ∃ n : Nat, so = (n : Int) := ⟨so.toNat, by omega⟩
    have b3 : But p H2 (upd H2 p (.lst [.int x, .int y, .int z'])) := But.refl.at
    have F3 : FeedAt (upd H2 p (.lst [.int x, .int y, .int z'])) p := FeedAt.here
    generalize upd H2 p (.lst [.int x, .int y, .int z']) = H3 at b3 F3 ⊢
    have e3 := b3 _ _ e2 hflp
    refine w_set (j := so') e3 (ixK' (by rw [List.length_map, List.length_replicate]; omega)) ?_
    rw [← List.map_set]
    walk_at "v"
    refine k fl ((List.replicate m 0).set so' 1) _ ?_ ((b2.trans b3).put hflH) upd_same (by rw [List.length_set, List.length_replicate]) fun x hx => ?_
    ·obtain ⟨x1, y1, z1, e⟩ := F3
     exact ⟨x1, y1, z1, by rw [upd_ne (Ne.symm hflp)]; exact e⟩
    ·have : 42 * 1 ≤ 42 * N := Nat.mul_le_mul_left _ N0
     rcases List.mem_or_eq_of_mem_set hx with z | z
     ·rw [List.eq_of_mem_replicate z]; exact Nat.zero_le _
     ·rw [z]
      show 1 ≤ _
      omega
   walk_at "v"
   refine ⟨l, rfl, ⟨_, SqL.of (b2 _ _ hl hlp)⟩, ?_⟩
   refine for_list (xs := bs.map V.ref) (fun i σ H' => ∃ (u4 u5 : Option V) (f2 : Addr) (r : List Int), σ = [some (.ref p), some (.ref l), some (.int (m : Int)), some (.int way), some (.ref f2), u4, u5, none] ∧ FeedAt H' p ∧ But p H H' ∧ H f2 = none ∧ H' f2 = some (.lst (r.map V.int)) ∧ r.length = m ∧ ∀ x ∈ r, x.natAbs ≤ 4 * i * N) ⟨none, none, fl, List.replicate m 0, rfl, F2, b2, hflH, e2, List.length_replicate, fun x hx => by rw [List.eq_of_mem_replicate hx]; exact Nat.zero_le _⟩ (fun i σ H' _ ⟨_, _, _, _, _, _, b', _⟩ => SqL.of (b' _ _ hl hlp)) ?_ ?_
   ·rintro i x σ H3 hx ⟨u4, u5, f2, r, rfl, F3, b3, hf2, e3, hrl, hrb⟩
    obtain ⟨q, eq, rfl⟩ := itR hx
    have hi : i < ks.length := by
     have := (List.getElem?_eq_some_iff.mp eq).1
     omega
    have hq := hT.2 i q _ eq (List.getElem?_eq_getElem hi)
    have hvl := hkm _ (List.getElem_mem hi)
    have hvb := hN _ (List.getElem_mem hi)
    generalize ks[i] = v at hq hvl hvb
    have hf2p : f2 ≠ p := hF.nn hf2
    walk_at "v"
    refine ⟨p, 9, rfl, F3, by decide, by decide, fun c x y z' c0 c1 => ?_⟩
    have b4 : But p H (upd H3 p (.lst [.int x, .int y, .int z'])) := b3.at
    have F4 : FeedAt (upd H3 p (.lst [.int x, .int y, .int z'])) p := FeedAt.here
    have e4 : upd H3 p (.lst [.int x, .int y, .int z']) f2 = some (.lst (r.map V.int)) := by rw [upd_ne hf2p]; exact e3
    generalize upd H3 p (.lst [.int x, .int y, .int z']) = H4 at b4 F4 e4 ⊢
    have hq4 := b4.tup hF hq
    walk_at "v"
    refine ⟨_, rfl, by omega, by omega, fun D5 hD5 => ?_⟩
    rw [Int.toNat_natCast]
    refine cg_rng (lo := 0) (n := m) (fun j => V.int (r.getD j 0 + (c - 4) * v.getD j 0)) (by omega) hD5 (fun j hj H' K' R kR => ?_) (fun H5 K5 e5 => ?_)
    ·rw [Int.zero_add]
     walk_at "v"
     refine w_ixL (K' _ _ e4) (atL (by omega)) ?_
     walk_at "v"
     refine w_ixT (K' _ _ hq4) (atL (by omega)) ?_
     refine w_rI (.inl ⟨by omega, by omega⟩) ?_
     walk_at "v"
     exact kR _ (Same.refl _)
    walk_at "v"
    have e5' : H5 D5 = some (.lst (((List.range m).map fun j => r.getD j 0 + (c - 4) * v.getD j 0).map V.int)) := by rw [e5, List.map_map]; rfl
    refine ⟨_, _, D5, _, rfl, F4.same K5, b4.trans (But.same K5), b4.none (F4.nn hD5) hD5, e5', by rw [List.length_map, List.length_range], fun x hx => ?_⟩
    obtain ⟨j, hj, rfl⟩ := List.mem_map.mp hx
    have hj' := List.mem_range.mp hj
    exact tm_bd ⟨by omega, by omega⟩ (hvb _ (EL.getD_mem (by omega))) (hrb _ (EL.getD_mem (by omega)))
   rintro σ H3 ⟨u4, u5, f2, r, rfl, F3, b3, hf2, e3, hrl, hrb⟩
   rw [List.length_map] at hrb
   have hrb : ∀ x ∈ r, x.natAbs ≤ 32 * N := fun x hx => Nat.le_trans (hrb x hx) (Nat.mul_le_mul_right _ (by omega))
   have hf2p : f2 ≠ p := hF.nn hf2
   with_reducible refine seq_post (fun σ' H' => ∃ (u4 u5 : Option V) (f2 : Addr) (r : List Int), σ' = [some (.ref p), some (.ref l), some (.int (m : Int)), some (.int way), some (.ref f2), u4, u5, none] ∧ FeedAt H' p ∧ But p H H' ∧ H f2 = none ∧ H' f2 = some (.lst (r.map V.int)) ∧ r.length = m ∧ ∀ x ∈ r, x.natAbs ≤ 32 * N) ?_ fun rest => ?_
   ·rintro σ' H4 ⟨u4, u5, f2, r, rfl, F4, b4, hf2, e4, hrl, hrb⟩
    have hf2p : f2 ≠ p := hF.nn hf2
    have up : ∀ x ∈ r, x.natAbs ≤ 42 * N := fun x hx => Nat.le_trans (hrb x hx) (Nat.mul_le_mul_right _ (by decide))
    walk_at "v"
    refine ⟨rfl, ?_⟩
    walk_at "v"
    refine iteD (fun _ => ?_) (fun _ => ?_)
    ·walk_at "v"
     refine ⟨p, m, rfl, F4, by omega, by omega, fun so x y z' s0 s1 => ?_⟩
     obtain ⟨so', rfl⟩ : ∃ n : Nat, so = (n : Int) := ⟨so.toNat, by omega⟩
     have b5 : But p H4 (upd H4 p (.lst [.int x, .int y, .int z'])) := But.refl.at
     have F5 : FeedAt (upd H4 p (.lst [.int x, .int y, .int z'])) p := FeedAt.here
     generalize upd H4 p (.lst [.int x, .int y, .int z']) = H5 at b5 F5 ⊢
     have e5 := b5 _ _ e4 hf2p
     walk_at "v"
     refine w_ixL e5 (atL (i := so') (by omega)) ?_
     walk_at "v"
     refine w_set (j := so') e5 (ixK' (by rw [List.length_map]; omega)) ?_
     rw [← List.map_set]
     walk_at "v"
     refine k f2 (r.set so' (r.getD so' 0 + 1)) _ ?_ ((b4.trans b5).put hf2) upd_same (by rw [List.length_set]; exact hrl) fun x hx => ?_
     ·obtain ⟨x1, y1, z1, e⟩ := F5
      exact ⟨x1, y1, z1, by rw [upd_ne (Ne.symm hf2p)]; exact e⟩
     ·rcases List.mem_or_eq_of_mem_set hx with z | z
      ·exact up x z
      ·rw [z]
       have h1 := hrb _ (EL.getD_mem (j := so') (d := 0) (by omega))
       omega
    ·walk_at "v"
     exact k f2 r H4 F4 b4 e4 hrl up
   walk_at "v"
   refine ⟨f2, rfl, ⟨_, SqL.of e3⟩, fun D5 hD5 => ?_⟩
   refine cg_fil (fun x => !decide (V.int (x % 2) = V.int 0)) e3 (by omega) hD5 (fun x hx H' K' QB kQ => ?_) (fun x H' R h => w_var rfl h) (fun H5 K5 e5 => ?_)
   ·walk_at "v"
    refine ⟨_, _, rfl, rfl, (by decide : (0 : Int) < 2), ?_⟩
    walk_at "v"
    refine ⟨rfl, ?_⟩
    walk_at "v"
    exact kQ _ (Same.refl _)
   walk_at "v"
   refine ⟨Nat.zero_le _, fun z6 hz6 => ?_⟩
   obtain ⟨H6, q, K6, e6⟩ := nob (.lst []) hz6; rw [q]; clear q
   refine ⟨D5, z6, _, rfl, rfl, K6 _ _ e5, e6, ?_⟩
   have K46 := K5.trans K6
   have b6 := b3.trans (But.same K46)
   have F6 := F3.same K46
   have e6' := K46 _ _ e3
   walk_at "v"
   cases (List.map V.int (List.filter (fun x => !decide (V.int (x % 2) = V.int 0)) r)).isEmpty with
   | false =>
    refine iteF ?_
    exact rest _ _ ⟨_, _, f2, r, rfl, F6, b6, hf2, e6', hrl, hrb⟩
   | true =>
    refine iteT ?_
    walk_at "v"
    refine ⟨f2, rfl, ⟨_, SqL.of e6'⟩, fun D7 hD7 => ?_⟩
    refine cg_lst (ws := r) V.int (fun x => V.int (x / 2)) e6' (by omega) hD7 (fun x hx H' K' R kR => ?_) (fun H7 K7 e7 => ?_)
    ·walk_at "v"
     refine ⟨_, _, rfl, rfl, ⟨by decide, by decide⟩, ?_⟩
     exact kR _ (Same.refl _)
    refine w_gname ?_
    refine rest _ _ ⟨_, _, D7, r.map fun x => x / 2, rfl, F6.same K7, b6.trans (But.same K7), b6.none (F6.nn hD7) hD7, by rw [e7, List.map_map]; rfl, by rw [List.length_map]; exact hrl, fun x hx => ?_⟩
    obtain ⟨y, hy, rfl⟩ := List.mem_map.mp hx
    exact Nat.le_trans (Int.natAbs_ediv_le_natAbs y _) (hrb y hy)
end
theorem dz_range {xs ys : List Int} (h : xs.length = ys.length) : ((List.range xs.length).map fun j => xs.getD j 0 * ys.getD j 0).sum = dz xs ys := by
 unfold dz
 congr 1
 refine List.ext_getElem (by simp [h]) fun i h1 h2 => ?_
 have hi : i < xs.length := by simpa using h1
 have hi' : i < ys.length := by omega
 simp [List.getD_eq_getElem?_getD, hi, hi']
theorem dz_dotF {xs ys : List Int} (h : xs.length = ys.length) : dz xs ys = dotF xs.length (cf xs) (cf ys) := by
 rw [← dz_range h]
 have key : ∀ n, ((List.range n).map fun j => xs.getD j 0 * ys.getD j 0).sum = dotF n (cf xs) (cf ys) := fun n => by
  induction n with
  | zero => rfl
  | succ n ih =>
   rw [List.range_succ, List.map_append, List.sum_append, ih]
   show _ + (xs.getD n 0 * ys.getD n 0 + 0) = dotF n (cf xs) (cf ys) + cf xs n * cf ys n
   rw [Int.add_zero]
   rfl
 exact key _
theorem go_dz {v st : List Int} {x : List Int × List Int} (hv : v.length = st.length) (h1 : x.1.length = st.length) (h2 : x.2.length = st.length) : dz v (goL st x) = dz v st - dz v x.1 + dz v x.2 := by
 rw [dz_dotF (by rw [go_len]; exact hv), dz_dotF hv, dz_dotF (hv.trans h1.symm), dz_dotF (hv.trans h2.symm)]
 rw [dotF_congr (w := fun j => (cf st j + -1 * cf x.1 j) + cf x.2 j) v.length fun j hj => ?_, dotF_add, dotF_add, dotF_smul]
 ·omega
 ·unfold goL cf
  rw [List.getD_eq_getElem?_getD, List.getElem?_map, List.getElem?_range (by omega)]
  show st.getD j 0 - x.1.getD j 0 + x.2.getD j 0 = _
  omega
theorem go_bd {st : List Int} {x : List Int × List Int} {B : Nat} (hs : ∀ y ∈ st, y.natAbs ≤ B) (h1 : ∀ y ∈ x.1, 0 ≤ y ∧ y ≤ 30) (h2 : ∀ y ∈ x.2, 0 ≤ y ∧ y ≤ 30) : ∀ y ∈ goL st x, y.natAbs ≤ B + 60 := fun y hy => by
 obtain ⟨j, hj, rfl⟩ := List.mem_map.mp hy
 have hj' := List.mem_range.mp hj
 have a1 := hs _ (EL.getD_mem (d := 0) hj')
 have a2 : 0 ≤ x.1.getD j 0 ∧ x.1.getD j 0 ≤ 30 := by
  by_cases h : j < x.1.length
  ·exact h1 _ (EL.getD_mem h)
  ·rw [getD_out (by omega)]; decide
 have a3 : 0 ≤ x.2.getD j 0 ∧ x.2.getD j 0 ≤ 30 := by
  by_cases h : j < x.2.length
  ·exact h2 _ (EL.getD_mem h)
  ·rw [getD_out (by omega)]; decide
 omega
theorem PotK.r {H : Hp} {p : Addr} {m : Nat} {tg : Rows} (h : PotK H p m tg) : PotR H p m tg := let ⟨ps, pr, pin, pb, ans, rs, nm, h1, _, _, h4, h5⟩ := h.ex; ⟨⟨ps, pr, pin, pb, ans, rs, h1, h4, h5⟩, h.n8, h.m8, h.m0⟩
theorem PotK.but {H H' : Hp} {p q : Addr} {m : Nat} {tg : Rows} (h : PotK H q m tg) (F : FeedAt H p) (b : But p H H') : PotK H' q m tg := h.tk (TK.but F b)
theorem bbB {x : Int} {B : Nat} (h : x.natAbs ≤ B) (hB : B ≤ 100000) : Bb x := bb_of (m := 17) (Nat.lt_of_le_of_lt (Nat.le_trans h hB) (by decide)) (by decide)
theorem fch_none {v : List Int} {tg : Rows} (h : fch v tg = none) : ∀ x ∈ tg, dz v x.1 = dz v x.2 := fun x hx => by
 obtain ⟨i, hi, e⟩ := List.getElem_of_mem hx
 have := List.find?_range_eq_none.mp h i hi
 unfold chP at this
 rw [show tg.getD i ([], []) = x by rw [List.getD_eq_getElem?_getD, List.getElem?_eq_getElem hi, e]; rfl] at this
 simpa using this
theorem fch_of {v : List Int} {tg : Rows} (h : ∀ x ∈ tg, dz v x.1 = dz v x.2) : fch v tg = none := List.find?_range_eq_none.mpr fun i hi => by
 unfold chP
 rw [show tg.getD i ([], []) = tg[i] by rw [List.getD_eq_getElem?_getD, List.getElem?_eq_getElem hi]; rfl, h _ (List.getElem_mem hi)]
 simp
noncomputable def spOw : Sp := fun vs H Q _ => ∃ (p pl q : Addr) (m : Nat) (tg : Rows) (v : List Int), vs = [.ref p, .ref pl, .ref q] ∧ FeedAt H p ∧ PotK H pl m tg ∧ H q = some (.tup (v.map V.int)) ∧ v.length = m ∧ (∀ x ∈ v, Bb x) ∧ ∀ H', FeedAt H' p → But p H H' → Q (.bl (fch v tg).isNone) H'
noncomputable abbrev sOw : Stmt := top 36
noncomputable abbrev nOw : List Str := ["_law_feed_here", "_law_pot_here", "_law_one", "_law_takes", "_law_gives", "_law_stand", "_law_count", "_law_k", "_law_there"]
theorem nmOw : Nm nOw (defScope sOw) := ⟨by decide +kernel, by decide +kernel⟩
theorem scOw : FnScope nOw ["_law_feed_here", "_law_pot_here", "_law_one"] (defScope sOw) := ⟨rfl, rfl, rfl, by decide +kernel, rfl, by decide +kernel, by decide +kernel⟩
noncomputable def qOwa (s : Stmt) : Scope := match s with
 | .Assign _ (.Call _ [(.ListComp _ _ sc _)] _ _) _ => sc
 | _ => { kind := .function, names := [], isGenerator := false, isCoroutine := false }
noncomputable abbrev cOwa : Scope := qOwa ((defBody sOw).getD 1 (.Pass ⟨0, 0, 0, 0⟩))
theorem bsOwa : BScope (defScope sOw) cOwa ["_law_sort"] ["_law_feed_here"] ["_law_draw"] := { okind := by decide +kernel, kind := by decide +kernel, nocell := by decide +kernel, names := by decide +kernel, fr := by decide +kernel, ff := by decide +kernel, nd := by decide +kernel, vis := by decide +kernel, loc := by decide +kernel, gl := by decide +kernel }
section
variable {P : Program} {w : World} {K : PySem.W.Frag} {mg : Str → Option Value} {base : Heap}
set_option maxHeartbeats 4000000 in
theorem ok_Ow {f : Addr} {fd : FuncData} (B : Bl mg) (D : Has P w K mg base 1 "_law_draw" ["_law_feed_here", "_law_many"] spDraw) (fC : Has P w K mg base 2 "count_of" ["kept", "stand"] spTa) (fT : Has P w K mg base 2 "rules_there" ["pot", "stand"] spThere) (fG : Has P w K mg base 2 "gone" ["pot", "stand", "rule"] spGone) (F : Fun K "_law_on_the_way" "_law_on_the_way" sOw f fd) : FnOk P w K mg base CX0 5 f fd ["_law_feed_here", "_law_pot_here", "_law_one"] spOw := by
 refine F.ok scOw (fun vs H Q E h => ?_) (fun cdv A outer s H vs Q E hr h => ?_)
 ·obtain ⟨p, pl, q, m, tg, v, rfl, _⟩ := h
  rfl
 ·obtain ⟨p, pl, q, m, tg, v, rfl, hF, hP, hq, hv, hb, k⟩ := h
  refine' ⟨_, ?hb, ?rd⟩
  case' hb => skip
  case' hb => refine' pss_cons ?g1 ?g2
  case' g2 => refine' pss_cons ?g3 ?g4
  case' g4 => refine' pss_cons ?g5 ?g6
  case' g6 => refine' pss_cons ?g7 ?g8
  case' g8 => refine' pss_one ?g9
  case' g1 => refine' ps_for PassesOwn.never rfl ?g10 (pg_tup rfl (pgs_cons (pgd nmOw 3) (pgs_cons (pgd nmOw 4) pgs_nil))) ?g11
  case g10 => exact pi_tup (pe_ix ix_d (pvd nmOw 1) pe_int (fun _ _ => rfl))
  case' g11 => refine' pss_one ?g12
  case' g12 => refine' ps_if ?g13 ?g14 pss_nil
  case g13 => exact pt_cmpR op_ne (pe_f fC hr (by decide) (pa_2 (pvd nmOw 2) (pvd nmOw 3))) (pe_f fC hr (by decide) (pa_2 (pvd nmOw 2) (pvd nmOw 4))) (nomark _)
  case' g14 => refine' pss_one ?g16
  case g16 => exact ps_ret pe_bl
  case' g3 => refine' ps_setD nmOw 5 ?g17
  case' g17 => refine' pe_cT call_tupL B.tuple PyProof.Rows.boot_tuple ?g18
  case' g18 => refine' pa_1 ?g19
  case' g19 => refine' pe_comp (ix := [0]) bsOwa.toCScope rfl rfl ?g20 ?g21 ?g22 ?g23
  case g20 => exact pi_tup (pe_ix ix_d (pvd nmOw 1) pe_int (fun _ _ => rfl))
  case g21 => exact fun _ _ _ _ _ _ => pgb bsOwa 0
  case g22 => exact fun _ _ _ _ _ _ => pts_nil
  case g23 => exact fun _ _ _ _ _ _ => pe_f D hr (by decide) (pa_2 (pvb bsOwa 1) pe_int) (bsOwa.g 0)
  case g5 => exact ps_setD nmOw 6 (pe_f fC hr (by decide) (pa_2 (pvd nmOw 2) (pvd nmOw 5)))
  case' g7 => refine' ps_for PassesOwn.never rfl ?g24 (pgd nmOw 7) ?g25
  case g24 => exact pi_r1 B.range (pa_1 pe_int)
  case' g25 => refine' pss_cons ?g26 ?g27
  case' g27 => refine' pss_one ?g28
  case g26 => exact ps_setD nmOw 8 (pe_f fT hr (by decide) (pa_2 (pvd nmOw 1) (pvd nmOw 5)))
  case' g28 => refine' ps_if ?g29 ?g30 pss_nil
  case g29 => exact pt_cmpR (op_neE hr) (pvd nmOw 8) (pe_lst pa_nil) (nomark _)
  case' g30 => refine' pss_cons ?g32 ?g33
  case' g33 => refine' pss_one ?g34
  case g32 => exact ps_setD nmOw 5 (pe_f fG hr (by decide) (pa_c (pvd nmOw 1) (pa_2 (pvd nmOw 5) (pe_ix ix_d (pvd nmOw 8) (pe_f D hr (by decide) (pa_2 (pvd nmOw 0) (pe_cB call_len_seq B.len PySem.boot_len (pa_1 (pvd nmOw 8))))) (fun _ _ => rfl)))))
  case' g34 => refine' ps_if ?g35 ?g36 pss_nil
  case g35 => exact pt_cmpR op_ne (pe_f fC hr (by decide) (pa_2 (pvd nmOw 2) (pvd nmOw 5))) (pvd nmOw 6) (nomark _)
  case' g36 => refine' pss_one ?g38
  case g38 => exact ps_ret pe_bl
  case g9 => exact ps_ret pe_bl
  case rd =>
   obtain ⟨ps, pr, pin, pb, ans, rs, nm, h1, h2, h3, h4, hR⟩ := hP.ex
   have m8 := hP.m8
   have n8 := hP.n8
   have rl' := hR.1
   have tgx : ∀ x ∈ tg, x.1.length = m ∧ x.2.length = m ∧ (∀ y ∈ x.1, 0 ≤ y ∧ y ≤ 30) ∧ ∀ y ∈ x.2, 0 ≤ y ∧ y ≤ 30 := fun x hx => by
    obtain ⟨i, hi, e⟩ := List.getElem_of_mem hx
    obtain ⟨r, a, b, _, _, _, _, g1, g2, g3, g4⟩ := hR.get hi
    rw [e] at g1 g2 g3 g4
    exact ⟨g1, g2, g3, g4⟩
   walk_at "v"
   refine w_ixT h1 rfl ?_
   walk_at "v"
   refine ⟨pr, rfl, ⟨_, SqT.of h4⟩, ?_⟩
   refine for_tup (xs := rs.map V.ref) (fun i σ H' => ∃ (u3 u4 : Option V), σ = [some (.ref p), some (.ref pl), some (.ref q), u3, u4, none, none, none, none] ∧ Same H H' ∧ ∀ j, j < i → chP v tg j = false) ⟨none, none, rfl, Same.refl H, fun j z => absurd z (Nat.not_lt_zero j)⟩ (fun i σ H' _ ⟨_, _, _, k', _⟩ => SqT.of (k' _ _ h4)) ?_ ?_
   ·rintro i x σ H1 hx ⟨u3, u4, rfl, K1, hf⟩
    obtain ⟨rq, er, rfl⟩ := itR hx
    have hi : i < tg.length := by
     have := (List.getElem?_eq_some_iff.mp er).1
     omega
    obtain ⟨r, qa, qb, g1, g2, g3, g4, g5, g6, g7, g8⟩ := hR.get hi
    rw [er] at g1
    cases g1
    refine w_gtup (K1 _ _ g2) rfl ?_
    refine ⟨_, _, rfl, ?_⟩
    walk_at "v"
    refine ⟨_, _, rfl, ?_⟩
    walk_at "v"
    refine ⟨rfl, ?_⟩
    walk_at "v"
    refine ⟨q, qa, v, _, rfl, K1 _ _ hq, K1 _ _ g3, by omega, by omega, hb, fun x hx => bb30 (g7 x hx), fun H3 K3 => ?_⟩
    have K03 := K1.trans K3
    walk_at "v"
    refine ⟨q, qb, v, _, rfl, K03 _ _ hq, K03 _ _ g4, by omega, by omega, hb, fun x hx => bb30 (g8 x hx), fun H4 K4 => ?_⟩
    have K04 := K03.trans K4
    have et : chP v tg i = decide (dz v tg[i].1 ≠ dz v tg[i].2) := by
     unfold chP
     rw [show tg.getD i ([], []) = tg[i] by rw [List.getD_eq_getElem?_getD, List.getElem?_eq_getElem hi]; rfl]
    walk_at "v"
    refine ⟨rfl, ?_⟩
    walk_at "v"
    refine iteNB (fun h => ?_) (fun h => ?_)
    ·have hne : dz v tg[i].1 ≠ dz v tg[i].2 := fun z => h (congrArg V.int z)
     walk_at "v"
     have e : fch v tg = some i := List.find?_range_eq_some.mpr ⟨by rw [et]; exact decide_eq_true hne, List.mem_range.mpr hi, fun j hj => by rw [hf j hj]; rfl⟩
     rw [e] at k
     exact k _ (hF.same K04) (But.same K04)
    ·have he : dz v tg[i].1 = dz v tg[i].2 := by injection h
     refine ⟨_, _, rfl, K04, fun j hj => ?_⟩
     rcases Nat.lt_or_ge j i with z | z
     ·exact hf j z
     ·rw [show j = i by omega, et]
      exact decide_eq_false (fun q => q he)
   rintro σ H1 ⟨u3, u4, rfl, K1, hf⟩
   have efc : fch v tg = none := List.find?_range_eq_none.mpr fun i hi => by rw [hf i (by rw [List.length_map]; omega)]; rfl
   rw [efc] at k
   have hst := fch_none efc
   have F1 := hF.same K1
   have h21 := (TK.same K1).tf h2
   walk_at "v"
   refine w_ixT (K1 _ _ h1) rfl ?_
   walk_at "v"
   refine ⟨ps, rfl, ⟨_, h21.sq⟩, fun D hD => ?_⟩
   have hDp := F1.nn hD
   refine cgo_tup (xs := nm.map V.str) (fun i ys H' => ∃ r : List Int, ys = r.map V.int ∧ r.length = i ∧ (∀ x ∈ r, x.natAbs ≤ 20) ∧ FeedAt H' p ∧ But p H1 H') ⟨[], rfl, rfl, (fun x hx => nomatch hx), F1.same (Same.new (Same.refl _) hD), But.refl.new hD⟩ (fun i ys H' _ ⟨_, _, _, _, F', b'⟩ => ((TK.but F1 b').tf h21).sq) ?_ ?_
   ·rintro i x ys H2 hx ⟨r, rfl, hrl, hrb, F2, b2⟩ hDy R S kR _
    have hi : i < nm.length := by
     have := (List.getElem?_eq_some_iff.mp hx).1
     simpa using this
    refine w_all (iteT ?_)
    walk_at "v"
    refine ⟨p, 21, rfl, F2, by decide, by decide, fun c x y z' c0 c1 => ?_⟩
    have b4 : But p H1 (upd H2 p (.lst [.int x, .int y, .int z'])) := b2.at
    have F4 : FeedAt (upd H2 p (.lst [.int x, .int y, .int z'])) p := FeedAt.here
    have e4 : upd H2 p (.lst [.int x, .int y, .int z']) D = some (.lst (r.map V.int)) := by rw [upd_ne hDp]; exact hDy
    generalize upd H2 p (.lst [.int x, .int y, .int z']) = H4 at b4 F4 e4 ⊢
    refine kR _ _ e4 (by rw [List.length_map]; exact small1000 (by omega)) ⟨r ++ [c], by rw [List.map_append]; rfl, by rw [List.length_append, hrl]; rfl, fun x hx => ?_, ?_, b4.put hD⟩
    ·rcases List.mem_append.mp hx with z | z
     ·exact hrb x z
     ·rw [List.mem_singleton.mp z]; omega
    ·obtain ⟨x1, y1, z1, e⟩ := F4
     exact ⟨x1, y1, z1, by rw [upd_ne (Ne.symm hDp)]; exact e⟩
   rintro ys H2 ⟨st, rfl, hsl, hsb, F2, b12⟩ e2
   rw [List.length_map, h3] at hsl
   have b2 := (But.same K1).trans b12
   walk_at "v"
   refine ⟨D, _, rfl, e2, fun sa H3 K3 e3 => ?_⟩
   have F3 := F2.same K3
   have b3 := b2.trans (But.same K3)
   walk_at "v"
   refine ⟨q, sa, v, st, rfl, b3.tup hF hq, e3, by omega, by omega, hb, fun x hx => bbB (hsb x hx) (by decide), fun H4 K4 => ?_⟩
   walk_at "v"
   refine ⟨20, rfl, by decide, by decide, ?_⟩
   refine for_range (n := 20) (fun i σ H' => ∃ (u7 u8 : Option V) (sa : Addr) (s2 : List Int), σ = [some (.ref p), some (.ref pl), some (.ref q), u3, u4, some (.ref sa), some (.int (dz v st)), u7, u8] ∧ FeedAt H' p ∧ But p H H' ∧ H' sa = some (.tup (s2.map V.int)) ∧ s2.length = m ∧ dz v s2 = dz v st ∧ ∀ x ∈ s2, x.natAbs ≤ 20 + 60 * i) ⟨_, _, sa, st, rfl, F3.same K4, b3.trans (But.same K4), K4 _ _ e3, hsl, rfl, hsb⟩ ?_ ?_
   ·rintro i σ H5 hi ⟨u7, u8, sa, s2, rfl, F5, b5, e5, hl5, hd5, hb5⟩
    have P5 := hP.but hF b5
    walk_at "v"
    refine ⟨pl, sa, m, tg, s2, rfl, P5.r, e5, hl5, fun tl H6 K6 htl e6 => ?_⟩
    have F6 := F5.same K6
    have b6 := b5.trans (But.same K6)
    walk_at "v"
    refine ⟨Nat.zero_le _, fun z7 hz7 => ?_⟩
    obtain ⟨H7, q, K7, e7⟩ := nob (.lst []) hz7; rw [q]; clear q
    refine ⟨tl, z7, _, rfl, rfl, K7 _ _ e6, e7, ?_⟩
    have F7 := F6.same K7
    have b7 := b6.trans (But.same K7)
    have e7' := K7 _ _ e6
    have K57 := K6.trans K7
    walk_at "v"
    cases hth : thL tg s2 with
    | nil =>
     refine iteF ?_
     exact ⟨_, _, sa, s2, rfl, F7, b7, K57 _ _ e5, hl5, hd5, fun x hx => Nat.le_trans (hb5 x hx) (by omega)⟩
    | cons t0 ts =>
     have hn : 0 < (thL tg s2).length := by rw [hth]; simp
     have hn8 : (thL tg s2).length ≤ 8 := Nat.le_trans thN_len n8
     rw [← hth]
     rw [show (!((thL tg s2).map V.int).isEmpty) = true by rw [hth]; rfl]
     walk_at "v"
     refine ⟨tl, _, rfl, .inl (SqL.of e7'), ?_⟩
     rw [List.length_map]
     walk_at "v"
     refine ⟨p, _, rfl, F7, by omega, by omega, fun c x y z' c0 c1 => ?_⟩
     obtain ⟨ci, rfl⟩ : ∃ n : Nat, c = (n : Int) := ⟨c.toNat, by omega⟩
     have b8 : But p H7 (upd H7 p (.lst [.int x, .int y, .int z'])) := But.refl.at
     have F8 : FeedAt (upd H7 p (.lst [.int x, .int y, .int z'])) p := FeedAt.here
     generalize upd H7 p (.lst [.int x, .int y, .int z']) = H8 at b8 F8 ⊢
     have htp : tl ≠ p := F5.nn htl
     have b08 := b7.trans b8
     have hci : ci < (thL tg s2).length := by omega
     have hmem : (thL tg s2).getD ci 0 ∈ thL tg s2 := EL.getD_mem hci
     have hcg := th_mem hmem
     have hrg := cg_range hcg
     walk_at "v"
     refine w_ixL (b8 _ _ e7' htp) (atL hci) ?_
     walk_at "v"
     refine ⟨pl, sa, _, m, tg, s2, rfl, (hP.but hF b08).r, b8.tup F7 (K57 _ _ e5), hl5, hcg, fun sb H9 K9 e9 => ?_⟩
     have F9 := F8.same K9
     have b9 := b08.trans (But.same K9)
     obtain ⟨x1, x2, x3, x4⟩ := tgx (rl tg ((thL tg s2).getD ci 0)) (by unfold rl; exact EL.getD_mem (by omega))
     have hxe := hst (rl tg ((thL tg s2).getD ci 0)) (by unfold rl; exact EL.getD_mem (by omega))
     generalize rl tg ((thL tg s2).getD ci 0) = rr at e9 x1 x2 x3 x4 hxe
     have hgd : dz v (goL s2 rr) = dz v st := by
      rw [go_dz (by omega) (by omega) (by omega), hxe, hd5]
      omega
     have hgb := go_bd hb5 x3 x4
     have hgl : (goL s2 rr).length = m := by rw [go_len]; exact hl5
     walk_at "v"
     refine ⟨q, sb, v, _, rfl, b9.tup hF hq, e9, by omega, by omega, hb, fun x hx => bbB (hgb x hx) (by omega), fun HA KA => ?_⟩
     rw [hgd]
     walk_at "v"
     refine ⟨rfl, ?_⟩
     walk_at "v"
     refine iteNS rfl ?_
     exact ⟨_, _, sb, _, rfl, F9.same KA, b9.trans (But.same KA), KA _ _ e9, hgl, hgd, fun x hx => Nat.le_trans (hgb x hx) (by omega)⟩
   ·rintro σ H5 ⟨u7, u8, sa, s2, rfl, F5, b5, e5, hl5, hd5, hb5⟩
    walk_at "v"
    exact k _ F5 b5
end
theorem cgo_zw {D : Addr} {te : TE} {tc : TT} {Q : VK} {ρ : St} {H : Hp} {K : PySem.W.Frag} {a b : Addr} {xs zs : List V} (hn : zs.length = xs.length) (Pv : Nat → List V → Hp → Prop) (h0 : Pv 0 [] (upd H D (.lst []))) (hl : ∀ i ys H', i ≤ xs.length → Pv i ys H' → SqL K H' a xs ∧ SqT K H' b zs)
  (hs : ∀ i x z ys H' p, i < xs.length → xs[i]? = some x → zs[i]? = some z → Pv i ys H' → H' D = some (.lst ys) → H' p = none → ∀ (R : V → Hp → Prop) (S : Hp → Prop), (∀ y H4, H4 D = some (.lst ys) → ys.length < sizeLine → Pv (i + 1) (ys ++ [y]) (upd H4 D (.lst (ys ++ [y]))) → R y H4) → (∀ H3, H3 D = some (.lst ys) → Pv (i + 1) ys H3 → S H3) →
   tc (some x :: some z :: ρ) (upd H' p (.tup [x, z])) fun b H3 => if b = true then te (some x :: some z :: ρ) H3 R else S H3)
  (hd : ∀ ys H', Pv xs.length ys H' → H' D = some (.lst ys) → Q (.ref D) H') : CGo (Itw K a b) D (gTup K 2 (gCons (gName 0) (gCons (gName 1) gNil))) tc te Q (none :: none :: ρ) H := by
 refine ⟨fun i m τ ys H' => m = xs.length - i ∧ i ≤ xs.length ∧ (∃ tv tw, τ = tv :: tw :: ρ) ∧ Pv i ys H' ∧ H' D = some (.lst ys), ⟨xs.length, by omega, Nat.zero_le _, ⟨_, _, rfl⟩, h0, upd_same⟩, ?_⟩
 rintro i m τ ys H' ⟨rfl, hi, ⟨tv, tw, rfl⟩, hp, hD⟩
 refine ⟨hD, ?_⟩
 obtain ⟨sq, sq'⟩ := hl i ys H' hi hp
 by_cases hlt : i < xs.length
 ·have hlt' : i < zs.length := by omega
  refine .inr ⟨⟨xs, zs, xs[i], zs[i], sq, sq', by simp [hlt], by simp [hlt']⟩, ?_⟩
  rintro v H'' ⟨p, x, z, rfl, hpn, rfl, hx, hz⟩
  have hx' := hx xs sq
  have hz' := hz zs sq'
  refine ⟨p, [x, z], rfl, SqT.of upd_same, rfl, x, [z], rfl, z, [], rfl, rfl, ?_⟩
  exact hs i x z ys _ p hlt hx' hz' hp hD hpn _ _ (fun y H4 a b c => ⟨a, b, xs.length - (i + 1), by omega, rfl, hlt, ⟨_, _, rfl⟩, c, upd_same⟩) fun H3 a c => ⟨xs.length - (i + 1), by omega, rfl, hlt, ⟨_, _, rfl⟩, c, a⟩
 ·have e : i = xs.length := by omega
  subst e
  exact .inl ⟨⟨xs, zs, sq, sq', .inl (Nat.le_refl _)⟩, hd ys _ hp hD⟩
theorem w_compW {K : PySem.W.Frag} {ta : TA} {n : Nat} {ix : List Nat} {g : TG} {tc : TT} {te : TE} {σ : St} {H : Hp} {Q : VK} (h : ta σ H fun vs H1 => ∃ a b, vs = [.ref a, .ref b] ∧ (∃ xs, SqL K H1 a xs) ∧ (∃ ys, SqT K H1 b ys) ∧ ∀ D, H1 D = none → CGo (Itw K a b) D g tc te Q (List.replicate n none ++ sub ix σ) H1) : tComp (iZw K ta) n ix g tc te σ H Q := h
theorem dotF_bd {u v : Nat → Int} {A B : Nat} : ∀ n, (∀ j, j < n → (u j).natAbs ≤ A ∧ (v j).natAbs ≤ B) → (dotF n u v).natAbs ≤ n * (A * B)
 | 0, _ => by simp [dotF]
 | n + 1, h => by
  unfold dotF
  have h1 := dotF_bd n fun j hj => h j (by omega)
  have h2 : (u n * v n).natAbs ≤ A * B := by
   rw [Int.natAbs_mul]
   exact Nat.mul_le_mul (h n (by omega)).1 (h n (by omega)).2
  rw [Nat.succ_mul]
  omega
theorem dz_bb {xs ys : List Int} (h : xs.length = ys.length) (h8 : xs.length ≤ 8) (hx : ∀ x ∈ xs, x.natAbs < 2 ^ 6142) (hy : ∀ y ∈ ys, y.natAbs ≤ 64) : Bb (dz xs ys) := by
 rw [dz_dotF h]
 have h1 := dotF_bd (u := cf xs) (v := cf ys) (A := 2 ^ 6142) (B := 64) xs.length fun j hj => ⟨Nat.le_of_lt (hx _ (EL.getD_mem hj)), hy _ (EL.getD_mem (by omega))⟩
 have h2 : xs.length * (2 ^ 6142 * 64) ≤ 8 * (2 ^ 6142 * 64) := Nat.mul_le_mul_right _ h8
 have e : (2 : Nat) ^ 6152 = 2 ^ 6142 * 1024 := Nat.pow_add 2 6142 10
 refine bb_of (m := 6152) ?_ (by decide)
 rw [e]
 have p := Nat.two_pow_pos 6142
 generalize (2 : Nat) ^ 6142 = M at *
 omega
theorem mrows_len {n : Nat} {ks : List (List Int)} {a : List Int} : ∀ r ∈ mrows n ks a, r.length = ks.length + 1 := fun r hr' => by
 obtain ⟨s', _, rfl⟩ := List.mem_map.mp hr'
 exact mrow_len ks a s'
theorem mrows_bit {n b : Nat} {ks : List (List Int)} {a : List Int} (hkb : ∀ v ∈ ks, ∀ x ∈ v, x.natAbs < 2 ^ b) (hab : ∀ x ∈ a, x.natAbs < 2 ^ b) : ∀ r ∈ mrows n ks a, ∀ x ∈ r, x.natAbs < 2 ^ b := fun r hr' x hx => by
 obtain ⟨s', _, rfl⟩ := List.mem_map.mp hr'
 unfold mrow at hx
 rcases List.mem_append.mp hx with z | z
 ·obtain ⟨v, hv, rfl⟩ := List.mem_map.mp z
  exact cf_bit (hkb v hv) s'
 ·rw [List.mem_singleton.mp z]
  exact cf_bit hab s'
theorem kepts_in {m : Nat} {tg : Rows} (m8 : m ≤ 8) (c1 : ∀ r ∈ chs tg, r.length = m) (c2 : ∀ r ∈ chs tg, ∀ x ∈ r, x.natAbs < 2 ^ 5) :
  (kepts m tg).length ≤ 8 ∧ (∀ v ∈ kepts m tg, v.length = m ∧ (∀ x ∈ v, x.natAbs < 2 ^ 6136) ∧ ∀ r ∈ chs tg, dotF m (cf v) (cf r) = 0) := by
 have I := Rd.all c1 c2 m
 have kl := frees_len I.nd I.lt
 have hk : (kepts m tg).length = (frees m (red (chs tg) m).2).length := List.length_map _
 refine ⟨by omega, fun v hv => ?_⟩
 obtain ⟨f, hf, rfl⟩ := List.mem_map.mp hv
 have hf' := List.mem_filter.mp hf
 have hfm := List.mem_range.mp hf'.1
 obtain ⟨W, Wb⟩ := I.vec (by decide) hfm (of_decide_eq_true hf'.2)
 have hk7 : (red (chs tg) m).2.length ≤ 7 := by
  have := List.length_pos_of_mem hf
  omega
 have hB : bdE 5 (red (chs tg) m).2.length ≤ 767 := Nat.le_trans (bdE_mono (j := 7) hk7) (by decide)
 exact ⟨W.len, fun x hx => Nat.lt_of_lt_of_le (Wb x hx) (Nat.pow_le_pow_right (by decide) (Nat.mul_le_mul (show _ ≤ 8 by omega) hB)), W.ker⟩
theorem chg_dot {v : List Int} {x : List Int × List Int} {m : Nat} (hv : v.length = m) (h1 : x.1.length = m) (h2 : x.2.length = m) : dotF m (cf v) (cf (chg x)) = dz v x.2 - dz v x.1 := by
 rw [dz_dotF (hv.trans h2.symm), dz_dotF (hv.trans h1.symm), hv, dotF_congr (w := fun j => cf x.2 j + -1 * cf x.1 j) m fun j hj => ?_, dotF_add, dotF_smul]
 ·omega
 ·unfold chg cf
  rw [List.getD_eq_getElem?_getD, List.getElem?_map, List.getElem?_range (by omega)]
  show x.2.getD j 0 - x.1.getD j 0 = _
  omega
theorem mo93 {m : Nat} {tg : Rows} {a : List Int} (m8 : m ≤ 8) (tx : ∀ x ∈ tg, x.1.length = m ∧ x.2.length = m) (c1 : ∀ r ∈ chs tg, r.length = m) (c2 : ∀ r ∈ chs tg, ∀ x ∈ r, x.natAbs < 2 ^ 5) (ha : a.length = m) (hab : ∀ x ∈ a, x.natAbs < 2 ^ 6142) :
  ((kepts m tg).length ∈ (red (mrows m (kepts m tg) a) ((kepts m tg).length + 1)).2 → (fch a tg).isNone = false) ∧
  ((kepts m tg).length ∉ (red (mrows m (kepts m tg) a) ((kepts m tg).length + 1)).2 → (fch a tg).isNone = true ∧ (((mv m (kepts m tg) a).take (kepts m tg).length).map fun x => -x).length = (kepts m tg).length ∧ Bb (cf (mv m (kepts m tg) a) (kepts m tg).length) ∧ (∀ x ∈ ((mv m (kepts m tg) a).take (kepts m tg).length).map fun x => -x, Bb x) ∧
   ∀ st, st.length = m → (List.zipWith (fun x y => x * y) ((kepts m tg).map fun v => dz v st) (((mv m (kepts m tg) a).take (kepts m tg).length).map fun x => -x)).sum = cf (mv m (kepts m tg) a) (kepts m tg).length * dz a st) := by
 obtain ⟨k8, hk⟩ := kepts_in m8 c1 c2
 have hkb : ∀ v ∈ kepts m tg, ∀ x ∈ v, x.natAbs < 2 ^ 6142 := fun v hv x hx => Nat.lt_of_lt_of_le ((hk v hv).2.1 x hx) (Nat.pow_le_pow_right (by decide) (by decide))
 have mem : ∀ f, f < m → f ∉ (red (chs tg) m).2 → vecF m (red (chs tg) m).1 (red (chs tg) m).2 f ∈ kepts m tg := fun f h1 h2 => List.mem_map.mpr ⟨f, List.mem_filter.mpr ⟨List.mem_range.mpr h1, decide_eq_true h2⟩, rfl⟩
 have I0 := Rd.all c1 c2 m
 have I := Rd.all (mrows_len (n := m) (ks := kepts m tg) (a := a)) (mrows_bit hkb hab) ((kepts m tg).length + 1)
 refine ⟨fun hm => ?_, fun hm => ?_⟩
 ·obtain ⟨w, w1, w2⟩ := made_none I hm
  cases e : fch a tg with
  | some i => rfl
  | none =>
   refine absurd (I0.ker_w (by decide) (v := cf a) (fun r hr => ?_) fun f h1 h2 => w1 _ (mem f h1 h2)) w2
   obtain ⟨x, hx, rfl⟩ := List.mem_map.mp hr
   obtain ⟨t1, t2⟩ := tx x hx
   rw [chg_dot ha t1 t2, fch_none e x hx]
   omega
 ·obtain ⟨a1, a2, a3⟩ := made_some (b := 6142) (by decide) I hm
  obtain ⟨_, Wb⟩ := I.vec (b := 6142) (by decide) (Nat.lt_succ_self _) hm
  have hle := I.le
  have hcn := I.cnt
  have ml : (mrows m (kepts m tg) a).length = m := by unfold mrows; rw [List.length_map, List.length_range]
  have hl8 : (red (mrows m (kepts m tg) a) ((kepts m tg).length + 1)).2.length ≤ 8 := by omega
  have hB : bdE 6142 (red (mrows m (kepts m tg) a) ((kepts m tg).length + 1)).2.length ≤ 1572607 := Nat.le_trans (bdE_mono (j := 8) hl8) (by decide)
  have hBB : ((red (mrows m (kepts m tg) a) ((kepts m tg).length + 1)).2.length + 1) * bdE 6142 (red (mrows m (kepts m tg) a) ((kepts m tg).length + 1)).2.length ≤ 9 * 1572607 := Nat.mul_le_mul (by omega) hB
  have hbv : ∀ x ∈ mv m (kepts m tg) a, Bb x := fun x hx => bb_of (Wb x hx) (Nat.le_trans hBB (by decide))
  have lv : (mv m (kepts m tg) a).length = (kepts m tg).length + 1 := a1
  have a2 : 0 < cf (mv m (kepts m tg) a) (kepts m tg).length := a2
  have a3 : ∀ s, s < m → dotF (kepts m tg).length (fun j => -cf (mv m (kepts m tg) a) j) (fun j => cf ((kepts m tg).getD j []) s) = cf (mv m (kepts m tg) a) (kepts m tg).length * cf a s := a3
  -- counts, of whatever
  have cnt : ∀ u : Nat → Int, cf (mv m (kepts m tg) a) (kepts m tg).length * dotF m u (cf a) = dotF (kepts m tg).length (fun j => -cf (mv m (kepts m tg) a) j) (fun j => dotF m u (cf ((kepts m tg).getD j []))) := fun u => by
   rw [← dotF_smul, ← dotF_swap]
   exact (dotF_congr m fun s hs => a3 s hs).symm
  refine ⟨?_, by rw [List.length_map, List.length_take]; omega, hbv _ (EL.getD_mem (by omega)), fun x hx => ?_, fun st hs => ?_⟩
  ·rw [fch_of (v := a) (tg := tg) fun x hx => ?_]
   ·rfl
   ·obtain ⟨t1, t2⟩ := tx x hx
    have h1 := cnt (cf (chg x))
    rw [dotF_none (kepts m tg).length (fun j hj => by
     rw [dotF_comm, (hk _ (EL.getD_mem hj)).2.2 (chg x) (List.mem_map.mpr ⟨x, hx, rfl⟩), Int.mul_zero]), dotF_comm, chg_dot ha t1 t2] at h1
    have := (Int.mul_eq_zero.mp h1).resolve_left (by omega)
    omega
  ·obtain ⟨y, hy, rfl⟩ := List.mem_map.mp hx
   have := hbv y (List.mem_of_mem_take hy)
   unfold Bb at this ⊢
   exact intBits_neg_le this
  ·have e : (List.zipWith (fun x y => x * y) ((kepts m tg).map fun v => dz v st) (((mv m (kepts m tg) a).take (kepts m tg).length).map fun x => -x)).sum = dz ((kepts m tg).map fun v => dz v st) (((mv m (kepts m tg) a).take (kepts m tg).length).map fun x => -x) := rfl
   rw [e, dz_dotF (by rw [List.length_map, List.length_map, List.length_take]; omega), List.length_map, dz_dotF (ha.trans hs.symm), ha, dotF_comm (cf a) (cf st) m, cnt (cf st)]
   have e1 : ∀ j, j < (kepts m tg).length → cf (((mv m (kepts m tg) a).take (kepts m tg).length).map fun x => -x) j = -cf (mv m (kepts m tg) a) j := fun j hj => by
    unfold cf
    rw [getD_map' (e := 0) _ (by rw [List.length_take]; omega), List.getD_eq_getElem?_getD, List.getElem?_take, if_pos hj, List.getD_eq_getElem?_getD]
   have e2 : ∀ j, j < (kepts m tg).length → cf ((kepts m tg).map fun v => dz v st) j = dotF m (cf st) (cf ((kepts m tg).getD j [])) := fun j hj => by
    unfold cf
    rw [getD_map' (e := []) _ hj]
    have hl := (hk _ (EL.getD_mem (d := []) hj)).1
    rw [dz_dotF (hl.trans hs.symm), hl, dotF_comm]
    rfl
   rw [dotF_congr (kepts m tg).length e1, dotF_comm, dotF_congr (kepts m tg).length e2]
noncomputable def spLaw (K : PySem.W.Frag) : Sp := fun vs H Q _ => ∃ (a : Addr) (ns : List Int), vs = [.ref a] ∧ G2.SqF K H a (ns.map V.int) ∧ ns.length ≤ 63 ∧ ∀ H', Q (.bl true) H'
theorem TK.g {H H' : Hp} (t : TK H H') : G2.TK H H' := ⟨t.t, t.f⟩
theorem b42 {x : Int} (h : x.natAbs ≤ 42 * 2 ^ 6136) : x.natAbs < 2 ^ 6142 := by
 have e : (2 : Nat) ^ 6142 = 2 ^ 6136 * 64 := Nat.pow_add 2 6136 6
 have p := Nat.two_pow_pos 6136
 rw [e]
 generalize (2 : Nat) ^ 6136 = M at *
 omega
theorem shw_bl (b : Bool) : G2.Shw (.bool b) 5 0 := by cases b <;> exact ⟨rfl, rfl, Nat.zero_le _, by decide⟩
theorem w_notN {ta : TE} {σ : St} {H : Hp} {Q : VK} (h : ta σ H fun x H1 => Q (.bl (!decide (x = .non))) H1) : tNotN ta σ H Q := h
noncomputable abbrev sLaw : Stmt := top 37
noncomputable abbrev nLaw : List Str := ["_law_script", "_law_k", "_law_feed_here", "_law_pot_here", "_law_many", "_law_kepts", "_law_j", "_law_one", "_law_due", "_law_told", "_law_stand", "_law_parts", "_law_whole"]
theorem nmLaw : Nm nLaw (defScope sLaw) := ⟨by decide +kernel, by decide +kernel⟩
theorem scLaw : FnScope nLaw ["_law_script"] (defScope sLaw) := ⟨rfl, rfl, rfl, by decide +kernel, rfl, by decide +kernel, by decide +kernel⟩
noncomputable def qLawa (s : Stmt) : Scope := match s with
 | .For _ _ [_, _, _, _, (.For _ _ [_, _, _, _, (.If _ [(.Assign _ (.Call _ [(.ListComp _ _ sc _)] _ _) _), _, _, _] _ _)] _ _)] _ _ => sc
 | _ => { kind := .function, names := [], isGenerator := false, isCoroutine := false }
noncomputable abbrev cLawa : Scope := qLawa ((defBody sLaw).getD 0 (.Pass ⟨0, 0, 0, 0⟩))
theorem bsLawa : BScope (defScope sLaw) cLawa ["_law_sort"] ["_law_feed_here"] ["_law_draw"] := { okind := by decide +kernel, kind := by decide +kernel, nocell := by decide +kernel, names := by decide +kernel, fr := by decide +kernel, ff := by decide +kernel, nd := by decide +kernel, vis := by decide +kernel, loc := by decide +kernel, gl := by decide +kernel }
noncomputable def qLawb (s : Stmt) : Scope := match s with
 | .For _ _ [_, _, _, _, (.For _ _ [_, _, _, _, (.If _ [_, (.Assign _ (.ListComp _ _ sc _) _), _, _] _ _)] _ _)] _ _ => sc
 | _ => { kind := .function, names := [], isGenerator := false, isCoroutine := false }
noncomputable abbrev cLawb : Scope := qLawb ((defBody sLaw).getD 0 (.Pass ⟨0, 0, 0, 0⟩))
theorem bsLawb : BScope (defScope sLaw) cLawb ["_law_kept"] ["_law_stand"] ["count_of"] := { okind := by decide +kernel, kind := by decide +kernel, nocell := by decide +kernel, names := by decide +kernel, fr := by decide +kernel, ff := by decide +kernel, nd := by decide +kernel, vis := by decide +kernel, loc := by decide +kernel, gl := by decide +kernel }
noncomputable def qLawc (s : Stmt) : Scope := match s with
 | .For _ _ [_, _, _, _, (.For _ _ [_, _, _, _, (.If _ [_, _, (.Assign _ (.Call _ [(.ListComp _ _ sc _)] _ _) _), _] _ _)] _ _)] _ _ => sc
 | _ => { kind := .function, names := [], isGenerator := false, isCoroutine := false }
noncomputable abbrev cLawc : Scope := qLawc ((defBody sLaw).getD 0 (.Pass ⟨0, 0, 0, 0⟩))
theorem bsLawc : BScope (defScope sLaw) cLawc ["_law_part", "_law_times"] [] [] := { okind := by decide +kernel, kind := by decide +kernel, nocell := by decide +kernel, names := by decide +kernel, fr := by decide +kernel, ff := by decide +kernel, nd := by decide +kernel, vis := by decide +kernel, loc := by decide +kernel, gl := by decide +kernel }
theorem loLaw_11 : (defScope sLaw).names.lookup ("_law_parts" : Str) = some .local := by decide +kernel
section
variable {P : Program} {w : World} {K : PySem.W.Frag} {mg : Str → Option Value} {base : Heap}
set_option maxHeartbeats 4000000 in
theorem ok_Law {f : Addr} {fd : FuncData} (B : Bl mg) (fF : Has P w K mg base 1 "_law_feed" ["_law_script", "_law_k"] (spFeed K)) (D : Has P w K mg base 1 "_law_draw" ["_law_feed_here", "_law_many"] spDraw) (fP : Has P w K mg base 4 "_law_kept_pot" ["_law_feed_here"] spKept) (fA : Has P w K mg base 44 "all_kept" ["pot"] spAk) (fM : Has P w K mg base 44 "made_of" ["kepts", "kept"] spMo) (fS : Has P w K mg base 2 "_law_some" ["_law_feed_here", "_law_kepts", "_law_many"] spSm) (fO : Has P w K mg base 5 "_law_on_the_way" ["_law_feed_here", "_law_pot_here", "_law_one"] spOw) (fY : Has P w K mg base 4 "stays" ["pot", "kept"] spSt) (fC : Has P w K mg base 2 "count_of" ["kept", "stand"] spTa) (F : Fun K "law" "law" sLaw f fd) : FnOk P w K mg base CX0 46 f fd ["_law_script"] (spLaw K) := by
 refine F.ok scLaw (fun vs H Q E h => ?_) (fun cdv A outer s H vs Q E hr h => ?_)
 ·obtain ⟨a, ns, rfl, _⟩ := h
  rfl
 ·obtain ⟨a, ns, rfl, hS, hl, k⟩ := h
  refine' ⟨_, ?hb, ?rd⟩
  case' hb => skip
  case' hb => refine' pss_cons ?g1 ?g2
  case' g2 => refine' pss_one ?g3
  case' g1 => refine' ps_for PassesOwn.never rfl ?g4 (pgd nmLaw 1) ?g5
  case g4 => exact pi_r1 B.range (pa_1 pe_int)
  case' g5 => refine' pss_cons ?g6 ?g7
  case' g7 => refine' pss_cons ?g8 ?g9
  case' g9 => refine' pss_cons ?g10 ?g11
  case' g11 => refine' pss_cons ?g12 ?g13
  case' g13 => refine' pss_one ?g14
  case g6 => exact ps_setD nmLaw 2 (pe_f fF hr (by decide) (pa_2 (pvd nmLaw 0) (pvd nmLaw 1)))
  case g8 => exact ps_setD nmLaw 3 (pe_f fP hr (by decide) (pa_1 (pvd nmLaw 2)))
  case g10 => exact ps_setD nmLaw 4 (pe_cB call_len_seq B.len PySem.boot_len (pa_1 (pe_ix ix_d (pvd nmLaw 3) pe_int (fun _ _ => rfl))))
  case g12 => exact ps_setD nmLaw 5 (pe_f fA hr (by decide) (pa_1 (pvd nmLaw 3)))
  case' g14 => refine' ps_for PassesOwn.never rfl ?g15 (pgd nmLaw 6) ?g16
  case g15 => exact pi_r1 B.range (pa_1 pe_int)
  case' g16 => refine' pss_cons ?g17 ?g18
  case' g18 => refine' pss_cons ?g19 ?g20
  case' g20 => refine' pss_cons ?g21 ?g22
  case' g22 => refine' pss_cons ?g23 ?g24
  case' g24 => refine' pss_one ?g25
  case g17 => exact ps_setD nmLaw 7 (pe_cT call_tupL B.tuple PyProof.Rows.boot_tuple (pa_1 (pe_f fS hr (by decide) (pa_c (pvd nmLaw 2) (pa_2 (pvd nmLaw 5) (pvd nmLaw 4))))))
  case g19 => exact ps_setD nmLaw 8 (pe_f fO hr (by decide) (pa_c (pvd nmLaw 2) (pa_2 (pvd nmLaw 3) (pvd nmLaw 7))))
  case g21 => exact ps_setD nmLaw 9 (pe_f fM hr (by decide) (pa_2 (pe_cT call_list_of B.list PyProof.Rows.boot_list (pa_1 (pvd nmLaw 5))) (pvd nmLaw 7)))
  case' g23 => refine' ps_if ?g26 ?g27 pss_nil
  case g26 => exact PW.pt (pw_or (pt_cmpR op_ne (pe_cB (call_repr hr) B.repr PyProof.Rows.boot_repr (pa_1 (pe_f fY hr (by decide) (pa_2 (pvd nmLaw 3) (pvd nmLaw 7))))) (pe_cB (call_repr hr) B.repr PyProof.Rows.boot_repr (pa_1 (pvd nmLaw 8))) (nomark _)) (pw_or1 (pt_cmpR op_ne (pe_cmp (pc_notN (pvd nmLaw 9))) (pvd nmLaw 8) (nomark _))))
  case' g27 => refine' pss_one ?g29
  case g29 => exact ps_ret pe_bl
  case' g25 => refine' ps_if ?g30 ?g31 pss_nil
  case g30 => exact pt_val (pvd nmLaw 8)
  case' g31 => refine' pss_cons ?g33 ?g34
  case' g34 => refine' pss_cons ?g35 ?g36
  case' g36 => refine' pss_cons ?g37 ?g38
  case' g38 => refine' pss_one ?g39
  case' g33 => refine' ps_setD nmLaw 10 ?g40
  case' g40 => refine' pe_cT call_tupL B.tuple PyProof.Rows.boot_tuple ?g41
  case' g41 => refine' pa_1 ?g42
  case' g42 => refine' pe_comp (ix := [2]) bsLawa.toCScope rfl rfl ?g43 ?g44 ?g45 ?g46
  case g43 => exact pi_tup (pe_ix ix_d (pvd nmLaw 3) pe_int (fun _ _ => rfl))
  case g44 => exact fun _ _ _ _ _ _ => pgb bsLawa 0
  case g45 => exact fun _ _ _ _ _ _ => pts_nil
  case g46 => exact fun _ _ _ _ _ _ => pe_f D hr (by decide) (pa_2 (pvb bsLawa 1) pe_int) (bsLawa.g 0)
  case' g35 => refine' ps_setC (i := 11) (ix := [10]) nmLaw.nd rfl loLaw_11 bsLawb.toCScope rfl rfl ?g47 ?g48 ?g49 ?g50
  case g47 => exact pi_list (pvd nmLaw 5)
  case g48 => exact fun _ _ _ _ _ _ => pgb bsLawb 0
  case g49 => exact fun _ _ _ _ _ _ => pts_nil
  case g50 => exact fun _ _ _ _ _ _ => pe_f fC hr (by decide) (pa_2 (pvb bsLawb 0) (pvb bsLawb 1)) (bsLawb.g 0)
  case' g37 => refine' ps_setD nmLaw 12 ?g51
  case' g51 => refine' pe_cB (call_sum rfl) B.sum PyProof.Rows.boot_sum ?g52
  case' g52 => refine' pa_1 ?g53
  case' g53 => refine' pe_comp (ix := []) bsLawc.toCScope rfl rfl ?g54 ?g55 ?g56 ?g57
  case g54 => exact pi_zw B.zip (pa_2 (pvd nmLaw 11) (pe_ix ix_d (pvd nmLaw 9) pe_int (fun _ _ => rfl)))
  case g55 =>
   intro _ _ _ _ _ _
   refine' pgb_tup (n := 2) rfl ?g58
   case' g58 => refine' pgs_cons ?g62 ?g61
   case g62 => exact pgb bsLawc 0
   case' g61 => refine' pgs_cons ?g64 pgs_nil
   case g64 => exact pgb bsLawc 1
  case g56 => exact fun _ _ _ _ _ _ => pts_nil
  case g57 => exact fun _ _ _ _ _ _ => pe_op op_mulB (pvb bsLawc 0) (pvb bsLawc 1)
  case' g39 => refine' ps_if ?g65 ?g66 pss_nil
  case g65 => exact pt_cmpR op_ne (pvd nmLaw 12) (pe_op op_mulB (pe_ix ix_d (pvd nmLaw 9) pe_int (fun _ _ => rfl)) (pe_f fC hr (by decide) (pa_2 (pvd nmLaw 7) (pvd nmLaw 10)))) (nomark _)
  case' g66 => refine' pss_one ?g68
  case g68 => exact ps_ret pe_bl
  case g3 => exact ps_ret pe_bl
  case rd =>
   walk_at "v"
   refine ⟨10, rfl, by decide, by decide, ?_⟩
   refine for_range (n := 10) (fun i σ H' => ∃ (u1 u2 u3 u4 u5 u6 u7 u8 u9 u10 u11 u12 : Option V), σ = [some (.ref a), u1, u2, u3, u4, u5, u6, u7, u8, u9, u10, u11, u12] ∧ G2.SqF K H' a (ns.map V.int)) ⟨none, none, none, none, none, none, none, none, none, none, none, none, rfl, hS⟩ ?_ ?_
   ·rintro i σ H1 hi ⟨u1, u2, u3, u4, u5, u6, u7, u8, u9, u10, u11, u12, rfl, S1⟩
    rw [Int.zero_add]
    walk_at "v"
    refine ⟨a, ns, i, rfl, S1.sq, hl, fun p x y z hp => ?_⟩
    have T2 : TK H1 (upd H1 p (.lst [.int x, .int y, .int z])) := TK.new hp
    have F2 : FeedAt (upd H1 p (.lst [.int x, .int y, .int z])) p := FeedAt.here
    generalize upd H1 p (.lst [.int x, .int y, .int z]) = H2 at T2 F2 ⊢
    walk_at "v"
    refine ⟨p, rfl, F2, fun pl H3 m tg P3 F3 b23 => ?_⟩
    have T3 := T2.trans (TK.but F2 b23)
    obtain ⟨ps, pr, pin, pb, ans, rs, nmz, e1, e2, e3, e4, hR⟩ := P3.ex
    have m8 := P3.m8
    have m0 := P3.m0
    obtain ⟨c1, c2⟩ := chs_ok hR
    have tx : ∀ x ∈ tg, x.1.length = m ∧ x.2.length = m := fun x hx => by
     obtain ⟨j, hj, e⟩ := List.getElem_of_mem hx
     obtain ⟨_, _, _, _, _, _, _, g1, g2, _, _⟩ := hR.get hj
     rw [e] at g1 g2
     exact ⟨g1, g2⟩
    obtain ⟨k8, hkv⟩ := kepts_in m8 c1 c2
    have hkv1 : ∀ v ∈ kepts m tg, v.length = m := fun v hv => (hkv v hv).1
    have hkv2 : ∀ v ∈ kepts m tg, ∀ x ∈ v, x.natAbs < 2 ^ 6136 := fun v hv => (hkv v hv).2.1
    have hkv3 : ∀ v ∈ kepts m tg, ∀ x ∈ v, x.natAbs < 2 ^ 6142 := fun v hv x hx => Nat.lt_of_lt_of_le (hkv2 v hv x hx) (Nat.pow_le_pow_right (by decide) (by decide))
    walk_at "v"
    refine w_ixT e1 rfl ?_
    refine ⟨ps, _, rfl, .inr e2.sq, ?_⟩
    rw [List.length_map, e3]
    walk_at "v"
    refine ⟨pl, m, tg, rfl, P3, fun l bs H4 K4 hlN e4 t4 => ?_⟩
    have F4 := F3.same K4
    have hlp : l ≠ p := F3.nn hlN
    have P4 := P3.same K4
    have bT := t4.1
    walk_at "v"
    refine ⟨5, rfl, by decide, by decide, ?_⟩
    refine for_range (n := 5) (fun j σ H' => ∃ (u6 u7 u8 u9 u10 u11 u12 : Option V), σ = [some (.ref a), some (.int (i : Int)), some (.ref p), some (.ref pl), some (.int (m : Int)), some (.ref l), u6, u7, u8, u9, u10, u11, u12] ∧ FeedAt H' p ∧ But p H4 H') ⟨_, _, _, _, _, _, _, rfl, F4, But.refl⟩ ?_ ?_
    ·rintro j σ H5 hj ⟨u6, u7, u8, u9, u10, u11, u12, rfl, F5, b5⟩
     walk_at "v"
     refine ⟨p, l, m, 2 ^ 6136, bs, kepts m tg, rfl, F5, b5 _ _ e4 hlp, t4.but b5 F4, hkv1, k8, m0, m8, Nat.two_pow_pos _, hkv2, fun q r H6 F6 b6 eq hrl hrb => ?_⟩
     have hab : ∀ x ∈ r, x.natAbs < 2 ^ 6142 := fun x hx => b42 (hrb x hx)
     have hbr : ∀ x ∈ r, Bb x := fun x hx => bb_of (hab x hx) (by decide)
     obtain ⟨M1, M2⟩ := mo93 m8 tx c1 c2 hrl hab
     walk_at "v"
     refine ⟨q, _, rfl, eq, fun oq H7 K7 e7 => ?_⟩
     have F7 := F6.same K7
     have b47 := (b5.trans b6).trans (But.same K7)
     walk_at "v"
     refine ⟨p, pl, oq, m, tg, r, rfl, F7, P4.but F4 b47, e7, hrl, hbr, fun H8 F8 b8 => ?_⟩
     have b48 := b47.trans b8
     have e8o := b8.tup F7 e7
     have l8 := b48 _ _ e4 hlp
     have t8 := t4.but b48 F4
     walk_at "v"
     refine ⟨l, _, rfl, .inl (SqL.of l8), fun l2 hl2 => ?_⟩
     have K8' : Same H8 (upd H8 l2 (.lst (bs.map V.ref))) := Same.new (Same.refl _) hl2
     have e8' : upd H8 l2 (.lst (bs.map V.ref)) l2 = some (.lst (bs.map V.ref)) := upd_same
     generalize upd H8 l2 (.lst (bs.map V.ref)) = HA at K8' e8' ⊢
     walk_at "v"
     refine ⟨l2, oq, m, 6142, bs, kepts m tg, r, rfl, e8', t8.same K8', K8' _ _ e8o, hrl, hkv1, k8, m8, by decide, by decide, hkv3, hab, fun hm HB KB => ?_, fun hm t u HB KB et eu => ?_⟩
     ·have hdf := M1 hm
      have K8B := K8'.trans KB
      have FB := F8.same K8B
      have bB := b48.trans (But.same K8B)
      have P8 := P4.but F4 bB
      have e8o := K8B _ _ e8o
      rw [hdf]
      walk_at "v"
      refine ⟨pl, oq, m, tg, r, rfl, P8, e8o, hrl, hbr, fun H9 K9 => ?_⟩
      rw [hdf]
      walk_at "v"
      refine G2.w_shw (.bl _) (shw_bl _) (by decide) (by decide) ?_
      walk_at "v"
      refine G2.w_shw (.bl _) (shw_bl _) (by decide) (by decide) ?_
      walk_at "v"
      refine ⟨rfl, ?_⟩
      walk_at "v"
      refine iteNS rfl ?_
      walk_at "v"
      refine w_notN ?_
      walk_at "v"
      refine ⟨rfl, ?_⟩
      walk_at "v"
      refine iteNS rfl ?_
      walk_at "v"
      exact ⟨_, _, _, _, _, _, _, rfl, FB.same K9, bB.trans (But.same K9)⟩
     ·obtain ⟨hdt, n2, n3, n4, n5⟩ := M2 hm
      have K8B := K8'.trans KB
      have FB := F8.same K8B
      have bB := b48.trans (But.same K8B)
      have P8 := P4.but F4 bB
      have e8o := K8B _ _ e8o
      rw [hdt]
      walk_at "v"
      refine ⟨pl, oq, m, tg, r, rfl, P8, e8o, hrl, hbr, fun H9 K9 => ?_⟩
      rw [hdt]
      walk_at "v"
      refine G2.w_shw (.bl _) (shw_bl _) (by decide) (by decide) ?_
      walk_at "v"
      refine G2.w_shw (.bl _) (shw_bl _) (by decide) (by decide) ?_
      walk_at "v"
      refine ⟨rfl, ?_⟩
      walk_at "v"
      refine iteNS rfl ?_
      walk_at "v"
      refine w_notN ?_
      walk_at "v"
      refine ⟨rfl, ?_⟩
      walk_at "v"
      refine iteNS rfl ?_
      walk_at "v"
      have F9 := FB.same K9
      have b9 := bB.trans (But.same K9)
      have P9 := P4.but F4 b9
      have e9o := K9 _ _ e8o
      have t9 := t4.but b9 F4
      have l9 := b9 _ _ e4 hlp
      have et9 := K9 _ _ et
      have eu9 := K9 _ _ eu
      obtain ⟨ps', pr', pin', pb', ans', rs', nm', f1, f2, f3, _, _⟩ := P9.ex
      walk_at "v"
      refine w_ixT f1 rfl ?_
      walk_at "v"
      refine ⟨ps', rfl, ⟨_, f2.sq⟩, fun DC hDC => ?_⟩
      have hDCp := F9.nn hDC
      refine cgo_tup (xs := nm'.map V.str) (fun i ys H' => ∃ r : List Int, ys = r.map V.int ∧ r.length = i ∧ (∀ x ∈ r, x.natAbs ≤ 64) ∧ FeedAt H' p ∧ But p H9 H') ⟨[], rfl, rfl, (fun x hx => nomatch hx), F9.same (Same.new (Same.refl _) hDC), But.refl.new hDC⟩ (fun i ys H' _ ⟨_, _, _, _, F', b'⟩ => ((TK.but F9 b').tf f2).sq) ?_ ?_
      ·rintro i x ys HD hx ⟨rr, rfl, hrrl, hrrb, FD, bD⟩ hDy R S kR _
       have hi : i < nm'.length := by
        have := (List.getElem?_eq_some_iff.mp hx).1
        simpa using this
       refine w_all (iteT ?_)
       walk_at "v"
       refine ⟨p, 50, rfl, FD, by decide, by decide, fun c x y z' c0 c1 => ?_⟩
       have bE : But p H9 (upd HD p (.lst [.int x, .int y, .int z'])) := bD.at
       have FE : FeedAt (upd HD p (.lst [.int x, .int y, .int z'])) p := FeedAt.here
       have eE : upd HD p (.lst [.int x, .int y, .int z']) DC = some (.lst (rr.map V.int)) := by rw [upd_ne hDCp]; exact hDy
       generalize upd HD p (.lst [.int x, .int y, .int z']) = HE at bE FE eE ⊢
       refine kR _ _ eE (by rw [List.length_map]; exact small1000 (by omega)) ⟨rr ++ [c], by rw [List.map_append]; rfl, by rw [List.length_append, hrrl]; rfl, fun x hx => ?_, ?_, bE.put hDC⟩
       ·rcases List.mem_append.mp hx with z | z
        ·exact hrrb x z
        ·rw [List.mem_singleton.mp z]; omega
       ·obtain ⟨x1, y1, z1, e⟩ := FE
        exact ⟨x1, y1, z1, by rw [upd_ne (Ne.symm hDCp)]; exact e⟩
      rintro ys HD ⟨st, rfl, hstl, hstb, FD, b9D⟩ eD
      rw [List.length_map, f3] at hstl
      walk_at "v"
      refine ⟨DC, _, rfl, eD, fun sa HE KE eE => ?_⟩
      have FE := FD.same KE
      have b9E := b9D.trans (But.same KE)
      have bE := b9.trans b9E
      have lE := bE _ _ e4 hlp
      have tE := t4.but bE F4
      have hbs : ∀ x ∈ st, Bb x := fun x hx => bbB (hstb x hx) (by decide)
      walk_at "v"
      refine ⟨l, rfl, ⟨_, SqL.of lE⟩, fun DF hDF => ?_⟩
      refine cgo_list (xs := bs.map V.ref) (fun j ys H' => ys = (((kepts m tg).take j).map fun v => dz v st).map V.int ∧ Same HE H') ⟨rfl, Same.new (Same.refl HE) hDF⟩ (fun j ys H' _ ⟨_, k'⟩ => SqL.of (k' _ _ lE)) ?_ ?_
      ·rintro j x ys HF hx ⟨rfl, KF⟩ hDy R S kR _
       obtain ⟨kq, ekq, rfl⟩ := itR hx
       have hj : j < (kepts m tg).length := by
        have := (List.getElem?_eq_some_iff.mp ekq).1
        omega
       have ekj := List.getElem?_eq_getElem hj
       have hkq := tE.2 j kq _ ekq ekj
       refine w_all (iteT ?_)
       walk_at "v"
       refine ⟨kq, sa, _, st, rfl, KF _ _ hkq, KF _ _ eE, by rw [hkv1 _ (List.getElem_mem hj), hstl], by rw [hkv1 _ (List.getElem_mem hj)]; omega, fun x hx => bb_of (hkv3 _ (List.getElem_mem hj) x hx) (by decide), hbs, fun HG KG => ?_⟩
       refine kR _ _ (KG _ _ hDy) (by rw [List.length_map, List.length_map, List.length_take]; exact small1000 (by omega)) ⟨?_, (KF.trans KG).put hDF⟩
       rw [List.take_add_one, ekj, List.map_append, List.map_append]
       rfl
      rintro ys HF ⟨rfl, KF⟩ eF
      rw [List.length_map, List.take_of_length_le (by omega)] at eF
      have euF := KF _ _ (b9E.tup F9 eu9)
      have etF := KF _ _ (b9E.tup F9 et9)
      refine w_gname ?_
      walk_at "v"
      refine w_compW ?_
      walk_at "v"
      refine w_ixT etF rfl ?_
      refine ⟨DF, u, rfl, ⟨_, SqL.of eF⟩, ⟨_, SqT.of euF⟩, fun DG hDG => ?_⟩
      generalize hpt : ((mv m (kepts m tg) r).take (kepts m tg).length).map (fun x => -x) = pt at n2 n4 n5 euF
      have lz : (List.zipWith (fun x y => x * y) ((kepts m tg).map fun v => dz v st) pt).length = (kepts m tg).length := by rw [List.length_zipWith, List.length_map]; omega
      refine cgo_zw (xs := ((kepts m tg).map fun v => dz v st).map V.int) (zs := pt.map V.int) (by rw [List.length_map, List.length_map, List.length_map]; exact n2) (fun j zs H' => zs = ((List.zipWith (fun x y => x * y) ((kepts m tg).map fun v => dz v st) pt).take j).map V.int ∧ Same HF H') ⟨rfl, Same.new (Same.refl HF) hDG⟩ (fun j zs H' _ ⟨_, k'⟩ => ⟨SqL.of (k' _ _ eF), SqT.of (k' _ _ euF)⟩) ?_ ?_
      ·rintro j x y zs HG p' hj hx hy ⟨rfl, KG⟩ hDz hp' R S kR _
       obtain ⟨h1, rfl⟩ := itI hx
       obtain ⟨h2, rfl⟩ := itI hy
       have h1' : j < (kepts m tg).length := by rw [List.length_map] at h1; exact h1
       refine w_all (iteT ?_)
       walk_at "v"
       have ex : ((kepts m tg).map fun v => dz v st).getD j 0 = dz ((kepts m tg).getD j []) st := getD_map' (e := []) _ h1'
       have hm1 : Bb (((kepts m tg).map fun v => dz v st).getD j 0) := by
        rw [ex]
        have hmem : (kepts m tg).getD j [] ∈ kepts m tg := EL.getD_mem h1'
        exact dz_bb (by rw [hkv1 _ hmem, hstl]) (by rw [hkv1 _ hmem]; exact m8) (hkv3 _ hmem) hstb
       refine w_rI (mulBb hm1 (n4 _ (EL.getD_mem h2))) ?_
       have KK : Same HG (upd HG p' (.tup [.int (((kepts m tg).map fun v => dz v st).getD j 0), .int (pt.getD j 0)])) := Same.new (Same.refl _) hp'
       refine kR _ _ (KK _ _ hDz) (by rw [List.length_map, List.length_take]; exact small1000 (by omega)) ⟨?_, (KG.trans KK).put hDG⟩
       rw [List.take_add_one, List.getElem?_zipWith, List.map_append, List.getElem?_eq_getElem h1, List.getElem?_eq_getElem h2, List.getD_eq_getElem?_getD, List.getD_eq_getElem?_getD, List.getElem?_eq_getElem h1, List.getElem?_eq_getElem h2]
       rfl
      rintro zs HG ⟨rfl, KG⟩ eG
      rw [List.length_map, List.length_map, List.take_of_length_le (by omega)] at eG
      walk_at "v"
      refine ⟨DG, _, rfl, eG, ?_⟩
      rw [n5 st hstl]
      walk_at "v"
      refine w_ixT (KG _ _ etF) rfl ?_
      walk_at "v"
      refine ⟨oq, sa, r, st, rfl, (KF.trans KG) _ _ (b9E.tup F9 e9o), (KF.trans KG) _ _ eE, by omega, by omega, hbr, hbs, fun HH KH => ?_⟩
      refine w_rI (mulBb n3 (dz_bb (by omega) (by omega) hab hstb)) ?_
      walk_at "v"
      refine ⟨rfl, ?_⟩
      walk_at "v"
      refine iteNS rfl ?_
      have KX := (KF.trans KG).trans KH
      exact ⟨_, _, _, _, _, _, _, rfl, FE.same KX, bE.trans (But.same KX)⟩
    ·rintro σ H5 ⟨u6, u7, u8, u9, u10, u11, u12, rfl, F5, b5⟩
     exact ⟨_, _, _, _, _, _, _, _, _, _, _, _, rfl, (S1.tk T3.g).tk (TK.but F3 ((But.same K4).trans b5)).g⟩
   ·rintro σ H1 ⟨u1, u2, u3, u4, u5, u6, u7, u8, u9, u10, u11, u12, rfl, S1⟩
    walk_at "v"
    exact k _
end
theorem all_mk {l : PySem.W.OpenLaw} {w : World} {K : PySem.W.Frag} {h : Heap} {mg : Str → Option Value} {fa f1 f2 f3 f4 f5 f6 f7 f8 f9 f10 f11 f12 f13 f14 f15 f16 f17 f18 f19 f20 f21 f22 f23 f24 f25 f26 : Addr} (hT : l.prog.given.tree = none) (X : K.In h) (G : h.Ns mainGlobals mg) (hfa : mg "law" = some (.ref fa))
  {od1 an1 od2 an2 od3 an3 od4 an4 od5 an5 od6 an6 od7 an7 od8 an8 od9 an9 od10 an10 od11 an11 od12 an12 od13 an13 od14 an14 od15 an15 od16 an16 od17 an17 od18 an18 od19 an19 od20 an20 od21 an21 od22 an22 od23 an23 od24 an24 od25 an25 od26 an26 : Option Addr} {sl1 sl2 sl3 sl4 sl5 sl6 sl7 sl8 sl9 sl10 sl11 sl12 sl13 sl14 sl15 sl16 sl17 sl18 sl19 sl20 sl21 sl22 sl23 sl24 sl25 sl26 : Array (Option Value)} {oc1 kV1 dc1 pm1 cd1 ct1 oc2 kV2 dc2 pm2 cd2 ct2 oc3 kV3 dc3 pm3 cd3 ct3 oc4 kV4 dc4 pm4 cd4 ct4 oc5 kV5 dc5 pm5 cd5 ct5 oc6 kV6 dc6 pm6 cd6 ct6 oc7 kV7 dc7 pm7 cd7 ct7 oc8 kV8 dc8 pm8 cd8 ct8 oc9 kV9 dc9 pm9 cd9 ct9 oc10 kV10 dc10 pm10 cd10 ct10 oc11 kV11 dc11 pm11 cd11 ct11 oc12 kV12 dc12 pm12 cd12 ct12 oc13 kV13 dc13 pm13 cd13 ct13 oc14 kV14 dc14 pm14 cd14 ct14 oc15 kV15 dc15 pm15 cd15 ct15 oc16 kV16 dc16 pm16 cd16 ct16 oc17 kV17 dc17 pm17 cd17 ct17 oc18 kV18 dc18 pm18 cd18 ct18 oc19 kV19 dc19 pm19 cd19 ct19 oc20 kV20 dc20 pm20 cd20 ct20 oc21 kV21 dc21 pm21 cd21 ct21 oc22 kV22 dc22 pm22 cd22 ct22 oc23 kV23 dc23 pm23 cd23 ct23 oc24 kV24 dc24 pm24 cd24 ct24 oc25 kV25 dc25 pm25 cd25 ct25 oc26 kV26 dc26 pm26 cd26 ct26 : Value} {t1 t2 t3 t4 : Tok}
  (a1 : PySem.W.nsIn K mainGlobals "common_divisor" = some (some (.ref f1))) (l1 : K.lookup f1 = some ⟨oc1, od1, .func (PySem.W.fnOf "common_divisor" "common_divisor" (defArgs sCd) (defBody sCd) (defScope sCd) .none kV1 dc1 pm1 an1 cd1 ct1), sl1⟩) (c1 : PySem.W.codeIn K cd1 "common_divisor" = true) (k1 : PySem.W.keepIn K (.ref f1) = true)
  (a2 : PySem.W.nsIn K mainGlobals "without_divisor" = some (some (.ref f2))) (l2 : K.lookup f2 = some ⟨oc2, od2, .func (PySem.W.fnOf "without_divisor" "without_divisor" (defArgs sWd) (defBody sWd) (defScope sWd) .none kV2 dc2 pm2 an2 cd2 ct2), sl2⟩) (c2 : PySem.W.codeIn K cd2 "without_divisor" = true) (k2 : PySem.W.keepIn K (.ref f2) = true)
  (a3 : PySem.W.nsIn K mainGlobals "reduced" = some (some (.ref f3))) (l3 : K.lookup f3 = some ⟨oc3, od3, .func (PySem.W.fnOf "reduced" "reduced" (defArgs sRd) (defBody sRd) (defScope sRd) .none kV3 dc3 pm3 an3 cd3 ct3), sl3⟩) (c3 : PySem.W.codeIn K cd3 "reduced" = true) (k3 : PySem.W.keepIn K (.ref f3) = true)
  (a4 : PySem.W.nsIn K mainGlobals "first_with" = some (some (.ref f4))) (l4 : K.lookup f4 = some ⟨oc4, od4, .func (PySem.W.fnOf "first_with" "first_with" (defArgs sFw) (defBody sFw) (defScope sFw) .none kV4 dc4 pm4 an4 cd4 ct4), sl4⟩) (c4 : PySem.W.codeIn K cd4 "first_with" = true) (k4 : PySem.W.keepIn K (.ref f4) = true)
  (a5 : PySem.W.nsIn K mainGlobals "without_column" = some (some (.ref f5))) (l5 : K.lookup f5 = some ⟨oc5, od5, .func (PySem.W.fnOf "without_column" "without_column" (defArgs sWc) (defBody sWc) (defScope sWc) .none kV5 dc5 pm5 an5 cd5 ct5), sl5⟩) (c5 : PySem.W.codeIn K cd5 "without_column" = true) (k5 : PySem.W.keepIn K (.ref f5) = true)
  (a6 : PySem.W.nsIn K mainGlobals "nought_maker" = some (some (.ref f6))) (l6 : K.lookup f6 = some ⟨oc6, od6, .func (PySem.W.fnOf "nought_maker" "nought_maker" (defArgs sNm) (defBody sNm) (defScope sNm) .none kV6 dc6 pm6 an6 cd6 ct6), sl6⟩) (c6 : PySem.W.codeIn K cd6 "nought_maker" = true) (k6 : PySem.W.keepIn K (.ref f6) = true)
  (a7 : PySem.W.nsIn K mainGlobals "common_multiple" = some (some (.ref f7))) (l7 : K.lookup f7 = some ⟨oc7, od7, .func (PySem.W.fnOf "common_multiple" "common_multiple" (defArgs sCm) (defBody sCm) (defScope sCm) .none kV7 dc7 pm7 an7 cd7 ct7), sl7⟩) (c7 : PySem.W.codeIn K cd7 "common_multiple" = true) (k7 : PySem.W.keepIn K (.ref f7) = true)
  (a8 : PySem.W.nsIn K mainGlobals "all_kept" = some (some (.ref f8))) (l8 : K.lookup f8 = some ⟨oc8, od8, .func (PySem.W.fnOf "all_kept" "all_kept" (defArgs sAk) (defBody sAk) (defScope sAk) .none kV8 dc8 pm8 an8 cd8 ct8), sl8⟩) (c8 : PySem.W.codeIn K cd8 "all_kept" = true) (k8 : PySem.W.keepIn K (.ref f8) = true)
  (a9 : PySem.W.nsIn K mainGlobals "change_of" = some (some (.ref f9))) (l9 : K.lookup f9 = some ⟨oc9, od9, .func (PySem.W.fnOf "change_of" "change_of" (defArgs sCo) (defBody sCo) (defScope sCo) .none kV9 dc9 pm9 an9 cd9 ct9), sl9⟩) (c9 : PySem.W.codeIn K cd9 "change_of" = true) (k9 : PySem.W.keepIn K (.ref f9) = true)
  (a10 : PySem.W.nsIn K mainGlobals "made_of" = some (some (.ref f10))) (l10 : K.lookup f10 = some ⟨oc10, od10, .func (PySem.W.fnOf "made_of" "made_of" (defArgs sMo) (defBody sMo) (defScope sMo) .none kV10 dc10 pm10 an10 cd10 ct10), sl10⟩) (c10 : PySem.W.codeIn K cd10 "made_of" = true) (k10 : PySem.W.keepIn K (.ref f10) = true)
  (a11 : PySem.W.nsIn K mainGlobals "_law_feed" = some (some (.ref f11))) (l11 : K.lookup f11 = some ⟨oc11, od11, .func (PySem.W.fnOf "_law_feed" "_law_feed" (defArgs sFeed) (defBody sFeed) (defScope sFeed) .none kV11 dc11 pm11 an11 cd11 ct11), sl11⟩) (c11 : PySem.W.codeIn K cd11 "_law_feed" = true) (k11 : PySem.W.keepIn K (.ref f11) = true)
  (a12 : PySem.W.nsIn K mainGlobals "_law_draw" = some (some (.ref f12))) (l12 : K.lookup f12 = some ⟨oc12, od12, .func (PySem.W.fnOf "_law_draw" "_law_draw" (defArgs sDraw) (defBody sDraw) (defScope sDraw) .none kV12 dc12 pm12 an12 cd12 ct12), sl12⟩) (c12 : PySem.W.codeIn K cd12 "_law_draw" = true) (k12 : PySem.W.keepIn K (.ref f12) = true)
  (a13 : PySem.W.nsIn K mainGlobals "_law_names" = some (some (.ref f13))) (l13 : K.lookup f13 = some ⟨oc13, od13, .func (PySem.W.fnOf "_law_names" "_law_names" (defArgs sNames) (defBody sNames) (defScope sNames) .none kV13 dc13 pm13 an13 cd13 ct13), sl13⟩) (c13 : PySem.W.codeIn K cd13 "_law_names" = true) (k13 : PySem.W.keepIn K (.ref f13) = true)
  (a14 : PySem.W.nsIn K mainGlobals "_law_rule" = some (some (.ref f14))) (l14 : K.lookup f14 = some ⟨oc14, od14, .func (PySem.W.fnOf "_law_rule" "_law_rule" (defArgs sRule) (defBody sRule) (defScope sRule) .none kV14 dc14 pm14 an14 cd14 ct14), sl14⟩) (c14 : PySem.W.codeIn K cd14 "_law_rule" = true) (k14 : PySem.W.keepIn K (.ref f14) = true)
  (a15 : PySem.W.nsIn K mainGlobals "_law_pot" = some (some (.ref f15))) (l15 : K.lookup f15 = some ⟨oc15, od15, .func (PySem.W.fnOf "_law_pot" "_law_pot" (defArgs sPot) (defBody sPot) (defScope sPot) .none kV15 dc15 pm15 an15 cd15 ct15), sl15⟩) (c15 : PySem.W.codeIn K cd15 "_law_pot" = true) (k15 : PySem.W.keepIn K (.ref f15) = true)
  (a16 : PySem.W.nsIn K mainGlobals "_law_kept_pot" = some (some (.ref f16))) (l16 : K.lookup f16 = some ⟨oc16, od16, .func (PySem.W.fnOf "_law_kept_pot" "_law_kept_pot" (defArgs sKept) (defBody sKept) (defScope sKept) .none kV16 dc16 pm16 an16 cd16 ct16), sl16⟩) (c16 : PySem.W.codeIn K cd16 "_law_kept_pot" = true) (k16 : PySem.W.keepIn K (.ref f16) = true)
  (a17 : PySem.W.nsIn K mainGlobals "times_added" = some (some (.ref f17))) (l17 : K.lookup f17 = some ⟨oc17, od17, .func (PySem.W.fnOf "times_added" "times_added" (defArgs sTa) (defBody sTa) (defScope sTa) .none kV17 dc17 pm17 an17 cd17 ct17), sl17⟩) (c17 : PySem.W.codeIn K cd17 "times_added" = true) (k17 : PySem.W.keepIn K (.ref f17) = true)
  (a18 : PySem.W.nsIn K mainGlobals "count_of" = some (some (.ref f18))) (l18 : K.lookup f18 = some ⟨oc18, od18, .func (PySem.W.fnOf "count_of" "count_of" (defArgs sCt) (defBody sCt) (defScope sCt) .none kV18 dc18 pm18 an18 cd18 ct18), sl18⟩) (c18 : PySem.W.codeIn K cd18 "count_of" = true) (k18 : PySem.W.keepIn K (.ref f18) = true)
  (a19 : PySem.W.nsIn K mainGlobals "first_change" = some (some (.ref f19))) (l19 : K.lookup f19 = some ⟨oc19, od19, .func (PySem.W.fnOf "first_change" "first_change" (defArgs sFc) (defBody sFc) (defScope sFc) .none kV19 dc19 pm19 an19 cd19 ct19), sl19⟩) (c19 : PySem.W.codeIn K cd19 "first_change" = true) (k19 : PySem.W.keepIn K (.ref f19) = true)
  (a20 : PySem.W.nsIn K mainGlobals "stays" = some (some (.ref f20))) (l20 : K.lookup f20 = some ⟨oc20, od20, .func (PySem.W.fnOf "stays" "stays" (defArgs sSt) (defBody sSt) (defScope sSt) .none kV20 dc20 pm20 an20 cd20 ct20), sl20⟩) (c20 : PySem.W.codeIn K cd20 "stays" = true) (k20 : PySem.W.keepIn K (.ref f20) = true)
  (a21 : PySem.W.nsIn K mainGlobals "can_go" = some (some (.ref f21))) (l21 : K.lookup f21 = some ⟨oc21, od21, .func (PySem.W.fnOf "can_go" "can_go" (defArgs sCan) (defBody sCan) (defScope sCan) .none kV21 dc21 pm21 an21 cd21 ct21), sl21⟩) (c21 : PySem.W.codeIn K cd21 "can_go" = true) (k21 : PySem.W.keepIn K (.ref f21) = true)
  (a22 : PySem.W.nsIn K mainGlobals "gone" = some (some (.ref f22))) (l22 : K.lookup f22 = some ⟨oc22, od22, .func (PySem.W.fnOf "gone" "gone" (defArgs sGone) (defBody sGone) (defScope sGone) .none kV22 dc22 pm22 an22 cd22 ct22), sl22⟩) (c22 : PySem.W.codeIn K cd22 "gone" = true) (k22 : PySem.W.keepIn K (.ref f22) = true)
  (a23 : PySem.W.nsIn K mainGlobals "rules_there" = some (some (.ref f23))) (l23 : K.lookup f23 = some ⟨oc23, od23, .func (PySem.W.fnOf "rules_there" "rules_there" (defArgs sThere) (defBody sThere) (defScope sThere) .none kV23 dc23 pm23 an23 cd23 ct23), sl23⟩) (c23 : PySem.W.codeIn K cd23 "rules_there" = true) (k23 : PySem.W.keepIn K (.ref f23) = true)
  (a24 : PySem.W.nsIn K mainGlobals "_law_some" = some (some (.ref f24))) (l24 : K.lookup f24 = some ⟨oc24, od24, .func (PySem.W.fnOf "_law_some" "_law_some" (defArgs sSm) (defBody sSm) (defScope sSm) .none kV24 dc24 pm24 an24 cd24 ct24), sl24⟩) (c24 : PySem.W.codeIn K cd24 "_law_some" = true) (k24 : PySem.W.keepIn K (.ref f24) = true)
  (a25 : PySem.W.nsIn K mainGlobals "_law_on_the_way" = some (some (.ref f25))) (l25 : K.lookup f25 = some ⟨oc25, od25, .func (PySem.W.fnOf "_law_on_the_way" "_law_on_the_way" (defArgs sOw) (defBody sOw) (defScope sOw) .none kV25 dc25 pm25 an25 cd25 ct25), sl25⟩) (c25 : PySem.W.codeIn K cd25 "_law_on_the_way" = true) (k25 : PySem.W.keepIn K (.ref f25) = true)
  (a26 : PySem.W.nsIn K mainGlobals "law" = some (some (.ref f26))) (l26 : K.lookup f26 = some ⟨oc26, od26, .func (PySem.W.fnOf "law" "law" (defArgs sLaw) (defBody sLaw) (defScope sLaw) .none kV26 dc26 pm26 an26 cd26 ct26), sl26⟩) (c26 : PySem.W.codeIn K cd26 "law" = true) (k26 : PySem.W.keepIn K (.ref f26) = true)
  (z1 : PySem.W.nsIn K mainGlobals "len" = some none) (z2 : PySem.W.nsIn K mainGlobals "range" = some none) (z3 : PySem.W.nsIn K mainGlobals "tuple" = some none) (z4 : PySem.W.nsIn K mainGlobals "int" = some none) (z5 : PySem.W.nsIn K mainGlobals "bool" = some none) (z6 : PySem.W.nsIn K mainGlobals "list" = some none) (z7 : PySem.W.nsIn K mainGlobals "str" = some none) (z8 : PySem.W.nsIn K mainGlobals "all" = some none) (z9 : PySem.W.nsIn K mainGlobals "any" = some none) (z10 : PySem.W.nsIn K mainGlobals "isinstance" = some none) (z11 : PySem.W.nsIn K mainGlobals "repr" = some none) (z12 : PySem.W.nsIn K mainGlobals "zip" = some none) (z13 : PySem.W.nsIn K mainGlobals "min" = some none) (z14 : PySem.W.nsIn K mainGlobals "max" = some none) (z15 : PySem.W.nsIn K mainGlobals "sum" = some none) (z16 : PySem.W.nsIn K mainGlobals "enumerate" = some none) (z17 : PySem.W.nsIn K mainGlobals "sorted" = some none) (z18 : PySem.W.nsIn K mainGlobals "set" = some none) (z19 : PySem.W.nsIn K mainGlobals "dict" = some none) (z20 : PySem.W.nsIn K mainGlobals "abs" = some none)
  (g1 : PySem.W.nsIn K mainGlobals "SORTS" = some (some (.int (0) t1))) (g2 : PySem.W.nsIn K mainGlobals "RULES" = some (some (.int (1) t2))) (g3 : PySem.W.nsIn K mainGlobals "TAKES" = some (some (.int (0) t3))) (g4 : PySem.W.nsIn K mainGlobals "GIVES" = some (some (.int (1) t4))) :
  ∃ fd : FuncData, (∀ (s : Shared) (v : Value), BindsTo s fd ⟨[v], []⟩ [("_law_script", v)]) ∧ ∀ base : Heap, K.In base → base.Ns mainGlobals mg → base.NoSeer → FnOk l.prog w K mg base CX0 46 fa fd ["_law_script"] (spLaw K) := by
 have e := hfa.symm.trans (PySem.W.mg_of X G a26)
 cases e
 have F1 := fun_mk (st := sCd) l1 c1 k1
 have b1 := F1.binds (ps := ["numbers"]) fun _ _ _ _ _ _ us hl => match us, hl with | [_], _ => rfl
 have m1 := PySem.W.mg_of X G a1
 have F2 := fun_mk (st := sWd) l2 c2 k2
 have b2 := F2.binds (ps := ["numbers"]) fun _ _ _ _ _ _ us hl => match us, hl with | [_], _ => rfl
 have m2 := PySem.W.mg_of X G a2
 have F3 := fun_mk (st := sRd) l3 c3 k3
 have b3 := F3.binds (ps := ["many", "rows"]) fun _ _ _ _ _ _ us hl => match us, hl with | [_, _], _ => rfl
 have m3 := PySem.W.mg_of X G a3
 have F4 := fun_mk (st := sFw) l4 c4 k4
 have b4 := F4.binds (ps := ["rows", "start", "column"]) fun _ _ _ _ _ _ us hl => match us, hl with | [_, _, _], _ => rfl
 have m4 := PySem.W.mg_of X G a4
 have F5 := fun_mk (st := sWc) l5 c5 k5
 have b5 := F5.binds (ps := ["row", "lead", "column"]) fun _ _ _ _ _ _ us hl => match us, hl with | [_, _, _], _ => rfl
 have m5 := PySem.W.mg_of X G a5
 have F6 := fun_mk (st := sNm) l6 c6 k6
 have b6 := F6.binds (ps := ["many", "rows", "leads", "free"]) fun _ _ _ _ _ _ us hl => match us, hl with | [_, _, _, _], _ => rfl
 have m6 := PySem.W.mg_of X G a6
 have F7 := fun_mk (st := sCm) l7 c7 k7
 have b7 := F7.binds (ps := ["one", "other"]) fun _ _ _ _ _ _ us hl => match us, hl with | [_, _], _ => rfl
 have m7 := PySem.W.mg_of X G a7
 have F8 := fun_mk (st := sAk) l8 c8 k8
 have b8 := F8.binds (ps := ["pot"]) fun _ _ _ _ _ _ us hl => match us, hl with | [_], _ => rfl
 have m8 := PySem.W.mg_of X G a8
 have F9 := fun_mk (st := sCo) l9 c9 k9
 have b9 := F9.binds (ps := ["rule"]) fun _ _ _ _ _ _ us hl => match us, hl with | [_], _ => rfl
 have m9 := PySem.W.mg_of X G a9
 have F10 := fun_mk (st := sMo) l10 c10 k10
 have b10 := F10.binds (ps := ["kepts", "kept"]) fun _ _ _ _ _ _ us hl => match us, hl with | [_, _], _ => rfl
 have m10 := PySem.W.mg_of X G a10
 have F11 := fun_mk (st := sFeed) l11 c11 k11
 have b11 := F11.binds (ps := ["_law_script", "_law_k"]) fun _ _ _ _ _ _ us hl => match us, hl with | [_, _], _ => rfl
 have m11 := PySem.W.mg_of X G a11
 have F12 := fun_mk (st := sDraw) l12 c12 k12
 have b12 := F12.binds (ps := ["_law_feed_here", "_law_many"]) fun _ _ _ _ _ _ us hl => match us, hl with | [_, _], _ => rfl
 have m12 := PySem.W.mg_of X G a12
 have F13 := fun_mk (st := sNames) l13 c13 k13
 have b13 := F13.binds (ps := ["_law_feed_here", "_law_many"]) fun _ _ _ _ _ _ us hl => match us, hl with | [_, _], _ => rfl
 have m13 := PySem.W.mg_of X G a13
 have F14 := fun_mk (st := sRule) l14 c14 k14
 have b14 := F14.binds (ps := ["_law_feed_here", "_law_many"]) fun _ _ _ _ _ _ us hl => match us, hl with | [_, _], _ => rfl
 have m14 := PySem.W.mg_of X G a14
 have F15 := fun_mk (st := sPot) l15 c15 k15
 have b15 := F15.binds (ps := ["_law_feed_here"]) fun _ _ _ _ _ _ us hl => match us, hl with | [_], _ => rfl
 have m15 := PySem.W.mg_of X G a15
 have F16 := fun_mk (st := sKept) l16 c16 k16
 have b16 := F16.binds (ps := ["_law_feed_here"]) fun _ _ _ _ _ _ us hl => match us, hl with | [_], _ => rfl
 have m16 := PySem.W.mg_of X G a16
 have F17 := fun_mk (st := sTa) l17 c17 k17
 have b17 := F17.binds (ps := ["ones", "others"]) fun _ _ _ _ _ _ us hl => match us, hl with | [_, _], _ => rfl
 have m17 := PySem.W.mg_of X G a17
 have F18 := fun_mk (st := sCt) l18 c18 k18
 have b18 := F18.binds (ps := ["kept", "stand"]) fun _ _ _ _ _ _ us hl => match us, hl with | [_, _], _ => rfl
 have m18 := PySem.W.mg_of X G a18
 have F19 := fun_mk (st := sFc) l19 c19 k19
 have b19 := F19.binds (ps := ["pot", "kept"]) fun _ _ _ _ _ _ us hl => match us, hl with | [_, _], _ => rfl
 have m19 := PySem.W.mg_of X G a19
 have F20 := fun_mk (st := sSt) l20 c20 k20
 have b20 := F20.binds (ps := ["pot", "kept"]) fun _ _ _ _ _ _ us hl => match us, hl with | [_, _], _ => rfl
 have m20 := PySem.W.mg_of X G a20
 have F21 := fun_mk (st := sCan) l21 c21 k21
 have b21 := F21.binds (ps := ["pot", "stand", "rule"]) fun _ _ _ _ _ _ us hl => match us, hl with | [_, _, _], _ => rfl
 have m21 := PySem.W.mg_of X G a21
 have F22 := fun_mk (st := sGone) l22 c22 k22
 have b22 := F22.binds (ps := ["pot", "stand", "rule"]) fun _ _ _ _ _ _ us hl => match us, hl with | [_, _, _], _ => rfl
 have m22 := PySem.W.mg_of X G a22
 have F23 := fun_mk (st := sThere) l23 c23 k23
 have b23 := F23.binds (ps := ["pot", "stand"]) fun _ _ _ _ _ _ us hl => match us, hl with | [_, _], _ => rfl
 have m23 := PySem.W.mg_of X G a23
 have F24 := fun_mk (st := sSm) l24 c24 k24
 have b24 := F24.binds (ps := ["_law_feed_here", "_law_kepts", "_law_many"]) fun _ _ _ _ _ _ us hl => match us, hl with | [_, _, _], _ => rfl
 have m24 := PySem.W.mg_of X G a24
 have F25 := fun_mk (st := sOw) l25 c25 k25
 have b25 := F25.binds (ps := ["_law_feed_here", "_law_pot_here", "_law_one"]) fun _ _ _ _ _ _ us hl => match us, hl with | [_, _, _], _ => rfl
 have m25 := PySem.W.mg_of X G a25
 have F26 := fun_mk (st := sLaw) l26 c26 k26
 have y1 := PySem.W.mg_none_of X G z1
 have y2 := PySem.W.mg_none_of X G z2
 have y3 := PySem.W.mg_none_of X G z3
 have y4 := PySem.W.mg_none_of X G z4
 have y5 := PySem.W.mg_none_of X G z5
 have y6 := PySem.W.mg_none_of X G z6
 have y7 := PySem.W.mg_none_of X G z7
 have y8 := PySem.W.mg_none_of X G z8
 have y9 := PySem.W.mg_none_of X G z9
 have y10 := PySem.W.mg_none_of X G z10
 have y11 := PySem.W.mg_none_of X G z11
 have y12 := PySem.W.mg_none_of X G z12
 have y13 := PySem.W.mg_none_of X G z13
 have y14 := PySem.W.mg_none_of X G z14
 have y15 := PySem.W.mg_none_of X G z15
 have y16 := PySem.W.mg_none_of X G z16
 have y17 := PySem.W.mg_none_of X G z17
 have y18 := PySem.W.mg_none_of X G z18
 have y19 := PySem.W.mg_none_of X G z19
 have y20 := PySem.W.mg_none_of X G z20
 have B1 : Blt mg := ⟨y1, y2, y3, y4⟩
 have B2 : Blt2 mg := ⟨B1, y6, y13⟩
 have BK : BltK mg := ⟨B2, y12, y15, y11, y16⟩
 have B : L2.Bl mg := ⟨y1, y2, y3, y4, y5, y6, y7, y8, y9, y10, y11, y12, y13, y14, y15, y16, y17, y18, y19, y20⟩
 have Z : KZ mg := ⟨⟨_, PySem.W.mg_of X G g1⟩, ⟨_, PySem.W.mg_of X G g2⟩, ⟨_, PySem.W.mg_of X G g3⟩, ⟨_, PySem.W.mg_of X G g4⟩⟩
 have B8 : Blt8 mg := ⟨B2, y12, y8, y11, ⟨_, PySem.W.mg_of X G g2⟩, ⟨_, PySem.W.mg_of X G g3⟩, ⟨_, PySem.W.mg_of X G g4⟩⟩
 refine ⟨PySem.W.fnOf "law" "law" (defArgs sLaw) (defBody sLaw) (defScope sLaw) .none kV26 dc26 pm26 an26 cd26 ct26, fun s v => .of_eq rfl, fun base _ _ hN => ?_⟩
 have H1 : Has l.prog w K mg base 1 "common_divisor" ["numbers"] spCd := ⟨_, _, ok_Cd B F1, m1, k1, b1⟩
 have H2 : Has l.prog w K mg base 41 "without_divisor" ["numbers"] spWd := ⟨_, _, ok_Wd B hN hT H1 F2, m2, k2, b2⟩
 have H4 : Has l.prog w K mg base 1 "first_with" ["rows", "start", "column"] spFw := ⟨_, _, ok_Fw B F4, m4, k4, b4⟩
 have H5 : Has l.prog w K mg base 42 "without_column" ["row", "lead", "column"] spWc := ⟨_, _, ok_Wc B H2 F5, m5, k5, b5⟩
 have H3 : Has l.prog w K mg base 43 "reduced" ["many", "rows"] spRd := ⟨_, _, ok_Rd B H4 H5 F3, m3, k3, b3⟩
 have H7 : Has l.prog w K mg base 41 "common_multiple" ["one", "other"] spCm := ⟨_, _, ok_Cm B hN hT H1 F7, m7, k7, b7⟩
 have H6 : Has l.prog w K mg base 42 "nought_maker" ["many", "rows", "leads", "free"] spNm := ⟨_, _, ok_Nm B hN hT H7 H2 F6, m6, k6, b6⟩
 have H9 : Has l.prog w K mg base 1 "change_of" ["rule"] spCo := ⟨_, _, ok_Co B Z F9, m9, k9, b9⟩
 have H8 : Has l.prog w K mg base 44 "all_kept" ["pot"] spAk := ⟨_, _, ok_Ak B Z H3 H9 H6 F8, m8, k8, b8⟩
 have H10 : Has l.prog w K mg base 44 "made_of" ["kepts", "kept"] spMo := ⟨_, _, ok_Mo B H3 H6 F10, m10, k10, b10⟩
 have H11 : Has l.prog w K mg base 1 "_law_feed" ["_law_script", "_law_k"] (spFeed K) := ⟨_, _, ok_feed y1 F11, m11, k11, b11⟩
 have H12 : Has l.prog w K mg base 1 "_law_draw" ["_law_feed_here", "_law_many"] spDraw := ⟨_, _, ok_draw F12, m12, k12, b12⟩
 have H13 : Has l.prog w K mg base 2 "_law_names" ["_law_feed_here", "_law_many"] spNames := ⟨_, _, ok_names y2 H12 F13, m13, k13, b13⟩
 have H14 : Has l.prog w K mg base 2 "_law_rule" ["_law_feed_here", "_law_many"] spRule := ⟨_, _, ok_rule B1 H12 F14, m14, k14, b14⟩
 have H15 : Has l.prog w K mg base 3 "_law_pot" ["_law_feed_here"] spPot := ⟨_, _, ok_pot B2 H12 H13 H14 F15, m15, k15, b15⟩
 have H16 : Has l.prog w K mg base 4 "_law_kept_pot" ["_law_feed_here"] spKept := ⟨_, _, ok_Kept BK H12 H15 F16, m16, k16, b16⟩
 have H17 : Has l.prog w K mg base 1 "times_added" ["ones", "others"] spTa := ⟨_, _, ok_Ta B F17, m17, k17, b17⟩
 have H18 : Has l.prog w K mg base 2 "count_of" ["kept", "stand"] spTa := ⟨_, _, ok_Ct H17 F18, m18, k18, b18⟩
 have H19 : Has l.prog w K mg base 3 "first_change" ["pot", "kept"] spFc := ⟨_, _, ok_Fc B Z H18 F19, m19, k19, b19⟩
 have H20 : Has l.prog w K mg base 4 "stays" ["pot", "kept"] spSt := ⟨_, _, ok_St H19 F20, m20, k20, b20⟩
 have H21 : Has l.prog w K mg base 1 "can_go" ["pot", "stand", "rule"] spCan := ⟨_, _, ok_Can B8 F21, m21, k21, b21⟩
 have H22 : Has l.prog w K mg base 2 "gone" ["pot", "stand", "rule"] spGone := ⟨_, _, ok_Gone B8 H21 F22, m22, k22, b22⟩
 have H23 : Has l.prog w K mg base 2 "rules_there" ["pot", "stand"] spThere := ⟨_, _, ok_There B8 H21 F23, m23, k23, b23⟩
 have H24 : Has l.prog w K mg base 2 "_law_some" ["_law_feed_here", "_law_kepts", "_law_many"] spSm := ⟨_, _, ok_Sm B H12 F24, m24, k24, b24⟩
 have H25 : Has l.prog w K mg base 5 "_law_on_the_way" ["_law_feed_here", "_law_pot_here", "_law_one"] spOw := ⟨_, _, ok_Ow B H12 H18 H23 H22 F25, m25, k25, b25⟩
 exact ok_Law B H11 H12 H16 H8 H10 H24 H25 H20 H18 F26
theorem walk {l : PySem.W.OpenLaw} {q : Program} {loose : List Str} {XP : (Str → Option Value) → Heap → Prop} {YP : World → Heap → Prop} {d : DefRec} {K : Params → PySem.W.Frag} (hi : PyProof.Rows.importsNone q = true) (hn : l.most = some 63) (hdf : d.params.defaults = [])
  (hY : ∀ (w : World) (h : Heap), YP w h → (K w.params).In h)
  (F : ∀ (w : World) (mg : Str → Option Value) (fa : Addr) (h : Heap), (K w.params).In h → h.Ns mainGlobals mg → mg d.name = some (.ref fa) →
   ∃ fd : FuncData, (∀ (s : Shared) (u : Value), BindsTo s fd ⟨[u], []⟩ [("_law_script", u)]) ∧ ∀ base : Heap, (K w.params).In base → base.Ns mainGlobals mg → base.NoSeer → FnOk l.prog w (K w.params) mg base CX0 46 fa fd ["_law_script"] (spLaw (K w.params))) :
  PySem.W.WalkO q loose XP YP l.row.toRowW d [] (fun f vs => PySem.call f vs) :=
 L2.walk_ofS (n := 63) (k := 46) (x := "_law_script") (CX := fun _ => CX0) (sp := fun w => spLaw (K w.params)) hn (by decide) hdf ⟨rfl, by decide, by decide, rfl⟩ hi hY F (fun _ H a ns hl hO hS => ⟨a, ns, rfl, SqF.of hO hS, hl, fun _ => rfl⟩) fun _ _ _ _ _ z => z
end K93
open PySem PySem.W PyProof.Rows
set_option maxRecDepth 100000 in
set_option maxHeartbeats 0 in
theorem PySem.Challenge.cw_dropsums_k93_whole_what_stays_for_all_holds : PySem.Challenge.rw_dropsums_k93_whole_what_stays_for_all.Holds := by
 w_on; o_law; k_head; (case hw => w_witness2)
 k_fill
 refine K93.walk (l := PySem.Challenge.rw_dropsums_k93_whole_what_stays_for_all) (by rfl) rfl rfl (fun w h Y => PySem.W.kIn_of Y) ?F
 case F =>
  intro w mg fa h KX G hmg
  refine' K93.all_mk rfl KX G hmg ?a1 ?l1 ?c1 ?k1 ?a2 ?l2 ?c2 ?k2 ?a3 ?l3 ?c3 ?k3 ?a4 ?l4 ?c4 ?k4 ?a5 ?l5 ?c5 ?k5 ?a6 ?l6 ?c6 ?k6 ?a7 ?l7 ?c7 ?k7 ?a8 ?l8 ?c8 ?k8 ?a9 ?l9 ?c9 ?k9 ?a10 ?l10 ?c10 ?k10 ?a11 ?l11 ?c11 ?k11 ?a12 ?l12 ?c12 ?k12 ?a13 ?l13 ?c13 ?k13 ?a14 ?l14 ?c14 ?k14 ?a15 ?l15 ?c15 ?k15 ?a16 ?l16 ?c16 ?k16 ?a17 ?l17 ?c17 ?k17 ?a18 ?l18 ?c18 ?k18 ?a19 ?l19 ?c19 ?k19 ?a20 ?l20 ?c20 ?k20 ?a21 ?l21 ?c21 ?k21 ?a22 ?l22 ?c22 ?k22 ?a23 ?l23 ?c23 ?k23 ?a24 ?l24 ?c24 ?k24 ?a25 ?l25 ?c25 ?k25 ?a26 ?l26 ?c26 ?k26 ?z1 ?z2 ?z3 ?z4 ?z5 ?z6 ?z7 ?z8 ?z9 ?z10 ?z11 ?z12 ?z13 ?z14 ?z15 ?z16 ?z17 ?z18 ?z19 ?z20 ?g1 ?g2 ?g3 ?g4
  (case a1 => k_is)
  (case l1 => k_is)
  (case c1 => k_is)
  (case k1 => k_is)
  (case a2 => k_is)
  (case l2 => k_is)
  (case c2 => k_is)
  (case k2 => k_is)
  (case a3 => k_is)
  (case l3 => k_is)
  (case c3 => k_is)
  (case k3 => k_is)
  (case a4 => k_is)
  (case l4 => k_is)
  (case c4 => k_is)
  (case k4 => k_is)
  (case a5 => k_is)
  (case l5 => k_is)
  (case c5 => k_is)
  (case k5 => k_is)
  (case a6 => k_is)
  (case l6 => k_is)
  (case c6 => k_is)
  (case k6 => k_is)
  (case a7 => k_is)
  (case l7 => k_is)
  (case c7 => k_is)
  (case k7 => k_is)
  (case a8 => k_is)
  (case l8 => k_is)
  (case c8 => k_is)
  (case k8 => k_is)
  (case a9 => k_is)
  (case l9 => k_is)
  (case c9 => k_is)
  (case k9 => k_is)
  (case a10 => k_is)
  (case l10 => k_is)
  (case c10 => k_is)
  (case k10 => k_is)
  (case a11 => k_is)
  (case l11 => k_is)
  (case c11 => k_is)
  (case k11 => k_is)
  (case a12 => k_is)
  (case l12 => k_is)
  (case c12 => k_is)
  (case k12 => k_is)
  (case a13 => k_is)
  (case l13 => k_is)
  (case c13 => k_is)
  (case k13 => k_is)
  (case a14 => k_is)
  (case l14 => k_is)
  (case c14 => k_is)
  (case k14 => k_is)
  (case a15 => k_is)
  (case l15 => k_is)
  (case c15 => k_is)
  (case k15 => k_is)
  (case a16 => k_is)
  (case l16 => k_is)
  (case c16 => k_is)
  (case k16 => k_is)
  (case a17 => k_is)
  (case l17 => k_is)
  (case c17 => k_is)
  (case k17 => k_is)
  (case a18 => k_is)
  (case l18 => k_is)
  (case c18 => k_is)
  (case k18 => k_is)
  (case a19 => k_is)
  (case l19 => k_is)
  (case c19 => k_is)
  (case k19 => k_is)
  (case a20 => k_is)
  (case l20 => k_is)
  (case c20 => k_is)
  (case k20 => k_is)
  (case a21 => k_is)
  (case l21 => k_is)
  (case c21 => k_is)
  (case k21 => k_is)
  (case a22 => k_is)
  (case l22 => k_is)
  (case c22 => k_is)
  (case k22 => k_is)
  (case a23 => k_is)
  (case l23 => k_is)
  (case c23 => k_is)
  (case k23 => k_is)
  (case a24 => k_is)
  (case l24 => k_is)
  (case c24 => k_is)
  (case k24 => k_is)
  (case a25 => k_is)
  (case l25 => k_is)
  (case c25 => k_is)
  (case k25 => k_is)
  (case a26 => k_is)
  (case l26 => k_is)
  (case c26 => k_is)
  (case k26 => k_is)
  (case z1 => k_is)
  (case z2 => k_is)
  (case z3 => k_is)
  (case z4 => k_is)
  (case z5 => k_is)
  (case z6 => k_is)
  (case z7 => k_is)
  (case z8 => k_is)
  (case z9 => k_is)
  (case z10 => k_is)
  (case z11 => k_is)
  (case z12 => k_is)
  (case z13 => k_is)
  (case z14 => k_is)
  (case z15 => k_is)
  (case z16 => k_is)
  (case z17 => k_is)
  (case z18 => k_is)
  (case z19 => k_is)
  (case z20 => k_is)
  (case g1 => k_is)
  (case g2 => k_is)
  (case g3 => k_is)
  (case g4 => k_is)
