import PyProof.Rows.All
import Wide.All
import OpenK.AllK
import Wide.FinOn
import Lean
import PyProof.EqAt
import PyProof.EqKinds
import PyProof.TupleCall
import PyProof.Rows.SumAny
import PyProof.Draws
import PyProof.ZipIter
import PyProof.EnumMake
import PyProof.Rows.ZipGen
import PyProof.FitsInt
import PyProof.ReprLen
import KE.IntBitsLaws
import PyProof.NeData
import PyProof.ConsumeWalk
import PyProof.WalkInts
import PyProof.Rows.SeqMore
import PyProof.ListMulRoad
import PyProof.DictUpdate
import KE.KRevSl
import PyProof.MeetsStr
import PyProof.StrBlockG
import PyProof.CallStr
import KE.KIntText
import PyProof.StrLawsTight
import PyProof.StrLawsChain
import PyProof.StrLawsJoin
import PyProof.StrWalks
import KE.KSortTup
import PyProof.TupleOfStr
import PyProof.ListRange
import PyProof.SliceStr
import PyProof.StrBlockI
import PyProof.SeqRoads
import PyProof.NsDelKeeps
import PyProof.RulesAs
import KE.KIsAll
import PyProof.Rows.SetFrom
import PyProof.WalksMore
import PyProof.FactsAll.subtypes_4
import PyProof.MeetsStr2
import PyProof.Rows.Range3
import PyProof.StrLawsRepr
import PyProof.StrOps2
import PyProof.ListStr
import PyProof.StrLawsIn
import PyProof.StrLawsIdx
import PySem.Challenge.RW_dropsums_k05_pot_lines_at_their_bounds
-- CHANGE: your row's module here, as the last of these rows
set_option Elab.async false
set_option linter.all false
set_option maxRecDepth 100000
/-! THE HAND LAYER, for ints, bools, texts, own classes, LISTS and tuples (index, slices, in, append, pop ..), calls, loops. Paste it whole ahead of your own text; what your proof does not reach may be deleted. -/
namespace L2
open PySem PySem.Spec PyProof.Rows

/-- a key: an int or a str -/
noncomputable abbrev Key := Sum Int Str
noncomputable def keyIs : Key → Value → Bool
  | .inl k, v => Value.isInt k v
  | .inr x, v => Value.isStrOf x v
noncomputable def keyH (w : World) : Key → Int
  | .inl k => hashInt k
  | .inr x => hashStr w x
theorem keyIs_shape : ∀ {k : Key} {v : Value}, keyIs k v = true → (∃ i t, k = Sum.inl i ∧ v = Value.int i t) ∨ (∃ x t, k = Sum.inr x ∧ v = Value.str x t)
  | .inl i, v, h => by
    obtain ⟨t, e⟩ := Value.isInt_shape (k := i) (v := v) h
    exact .inl ⟨i, t, rfl, e⟩
  | .inr x, v, h => by
    obtain ⟨t, e⟩ := Value.isStrOf_shape (x := x) (v := v) h
    exact .inr ⟨x, t, rfl, e⟩
theorem key_ll (a b : Int) : decide ((Sum.inl a : Key) = Sum.inl b) = (a == b) := by
  by_cases e : a = b
  · subst e; simp
  · have h : ¬ (Sum.inl a : Key) = Sum.inl b := fun q => e (Sum.inl.inj q)
    rw [decide_eq_false h]
    exact (beq_eq_false_iff_ne.mpr e).symm
theorem key_rr (a b : Str) : decide ((Sum.inr a : Key) = Sum.inr b) = decide (a = b) := by
  by_cases e : a = b
  · subst e; simp
  · have h : ¬ (Sum.inr a : Key) = Sum.inr b := fun q => e (Sum.inr.inj q)
    rw [decide_eq_false h, decide_eq_false e]
theorem key_lr (a : Int) (b : Str) : decide ((Sum.inl a : Key) = Sum.inr b) = false := decide_eq_false (fun q => nomatch q)
theorem key_rl (a : Str) (b : Int) : decide ((Sum.inr a : Key) = Sum.inl b) = false := decide_eq_false (fun q => nomatch q)

noncomputable def mixKind (prog : Program) (w : World) : PySem.KeyKind prog w Key where
  is := keyIs
  hash := keyH w
  inj := fun v a b ha hb => by
    rcases keyIs_shape ha with ⟨i, t, rfl, rfl⟩ | ⟨x, t, rfl, rfl⟩
    · rcases keyIs_shape hb with ⟨j, u, rfl, e⟩ | ⟨y, u, rfl, e⟩
      · injection e with e1 _; rw [e1]
      · exact nomatch e
    · rcases keyIs_shape hb with ⟨j, u, rfl, e⟩ | ⟨y, u, rfl, e⟩
      · exact nomatch e
      · injection e with e1 _; rw [e1]
  byValue := fun k v h => by
    rcases keyIs_shape h with ⟨i, t, rfl, rfl⟩ | ⟨x, t, rfl, rfl⟩ <;> rfl
  pyHash := fun hv h => by
    rcases keyIs_shape hv with ⟨i, t, rfl, rfl⟩ | ⟨x, t, rfl, rfl⟩
    · exact wpAny_pyHash_int h
    · exact wpAny_pyHash_str h
  eqBool := fun hu hv h => by
    rcases keyIs_shape hu with ⟨i, t, rfl, rfl⟩ | ⟨x, t, rfl, rfl⟩
    · rcases keyIs_shape hv with ⟨j, u, rfl, rfl⟩ | ⟨y, u, rfl, rfl⟩
      · rw [key_ll] at h; exact wpAny_eqBool_int h
      · rw [key_lr] at h; exact SeqAt.EqAt.int_str i t y u _ _ _ _ h
    · rcases keyIs_shape hv with ⟨j, u, rfl, rfl⟩ | ⟨y, u, rfl, rfl⟩
      · rw [key_rl] at h; exact SeqAt.EqAt.str_int x t j u _ _ _ _ h
      · rw [key_rr] at h; exact wpAny_eqBool_str h
  «strs» := fun k x t v h => by
    rcases keyIs_shape h with ⟨i, u, rfl, e⟩ | ⟨y, u, rfl, e⟩
    · exact nomatch e
    · injection e with e1 _
      subst e1
      cases v <;> rfl

end L2

namespace L2
open PySem PySem.Spec PyProof.Rows

/-- a value, without the heap -/
inductive V where
  | non | bl (b : Bool) | int (i : Int) | str (x : Str) | byt (b : Array UInt8) | flt (b : UInt64) | ref (a : Addr) | ty (n : String)
  deriving DecidableEq

noncomputable def RelV : V → Value → Prop
  | .non, u => u = Value.none
  | .bl b, u => u = Value.bool b
  | .int i, u => ∃ t, u = Value.int i t
  | .str x, u => ∃ t, u = Value.str x t
  | .byt b, u => ∃ t, u = Value.bytes b t
  | .flt b, u => ∃ t, u = Value.float b t
  | .ref a, u => u = Value.ref a
  | .ty n, u => u = Value.type n

noncomputable abbrev Vals : List V → List Value → Prop := Paired RelV
theorem Vals.length {xs : List V} {us : List Value} (r : Vals xs us) : xs.length = us.length := Paired.length r
theorem Vals.get : ∀ {xs : List V} {us : List Value} {i : Nat} {x : V}, Vals xs us → xs[i]? = some x → ∃ u, us[i]? = some u ∧ RelV x u
  | _, _, _, _, .nil, e => by simp at e
  | _, _, 0, _, .cons r _, e => by simp at e; subst e; exact ⟨_, rfl, r⟩
  | _, _, i + 1, x, .cons _ t, e => by
    obtain ⟨u, h1, h2⟩ := Vals.get (i := i) (x := x) t (by simpa using e)
    exact ⟨u, by simpa using h1, h2⟩
theorem Vals.set {x : V} {u : Value} (r : RelV x u) : ∀ {xs : List V} {us : List Value} (i : Nat), Vals xs us → Vals (xs.set i x) (us.set i u)
  | _, _, _, .nil => .nil
  | _, _, 0, .cons _ t => .cons r t
  | _, _, i + 1, .cons q t => .cons q (Vals.set r i t)
theorem Vals.append : ∀ {xs ys : List V} {us ws : List Value}, Vals xs us → Vals ys ws → Vals (xs ++ ys) (us ++ ws)
  | _, _, _, _, .nil, s => s
  | _, _, _, _, .cons r t, s => .cons r (Vals.append t s)
theorem Vals.take : ∀ {xs : List V} {us : List Value} (n : Nat), Vals xs us → Vals (xs.take n) (us.take n)
  | _, _, 0, _ => .nil
  | _, _, _ + 1, .nil => .nil
  | _, _, n + 1, .cons r t => .cons r (Vals.take n t)
theorem Vals.drop : ∀ {xs : List V} {us : List Value} (n : Nat), Vals xs us → Vals (xs.drop n) (us.drop n)
  | _, _, 0, r => r
  | _, _, _ + 1, .nil => .nil
  | _, _, n + 1, .cons _ t => Vals.drop n t

noncomputable def RelO : Option V → Option Value → Prop
  | some v, some u => RelV v u
  | none, none => True
  | _, _ => False
noncomputable def KV {κ : Type} : List (κ × V) → List (κ × Value) → Prop := Paired fun (p : κ × V) (q : κ × Value) => p.1 = q.1 ∧ RelV p.2 q.2

/-- a key of a dict (00_mix): an int or a text -/
noncomputable def kV : Key → V
  | .inl i => .int i
  | .inr x => .str x

/-- what stands at a tracked address -/
inductive HO where
  /-- a list -/
  | lst (xs : List V)
  /-- a tuple (never changes) -/
  | tup (xs : List V)
  /-- a dict whose keys are ints and texts; one whose keys are tuples of ints and texts (the empty one is both) -/
  | dK (kvs : List (Key × V)) | dT (kvs : List (List Key × V))
  /-- a set of ints: its members, its size -/
  | set (S : Int → Bool) (n : Nat)
  /-- an instance of the class at C, its dict at dx, its attributes -/
  | ins (C dx : Addr) (fs : List (Str × V))
  /-- the dict of the instance at x -/
  | own (x : Addr)
  /-- the dict of an exception -/
  | xd (fs : List (Str × V))
  /-- a bound method, f of x -/
  | met (f x : Addr)
  /-- a range object lo, lo + 1, .. below hi -/
  | rng (lo hi : Int)
  /-- a thing that is known to the object (the script; a dict while a loop walks it): read, never written while it is so -/
  | frz (o : Obj) (u : HO)
  /-- a code object's table -/
  | tbl (ps : Array Value)
  /-- any other thing, by what is true of its one object (a def of one's own: SetO a S n := HO.ext fun h => ..) -/
  | ext (φ : Heap → Prop)

noncomputable abbrev Hp := Addr → Option HO
noncomputable def upd (H : Hp) (a : Addr) (o : HO) : Hp := fun b => if b = a then some o else H b
theorem upd_same {H : Hp} {a : Addr} {o : HO} : upd H a o a = some o := by unfold upd; rw [if_pos rfl]
theorem upd_ne {H : Hp} {a b : Addr} {o : HO} (h : b ≠ a) : upd H a o b = H b := by unfold upd; rw [if_neg h]
theorem upd_upd {H : Hp} {a : Addr} {o u : HO} : upd (upd H a o) a u = upd H a u := by
  funext b; unfold upd; split <;> rfl
/-- two objects of different content stand apart -/
theorem ne_of {H : Hp} {a b : Addr} {o u : HO} (h : H a = some o) (h' : H b = some u) (d : o ≠ u) : a ≠ b := by
  intro e; subst e; rw [h] at h'; exact d (Option.some.inj h')
theorem ne_of_none {H : Hp} {a b : Addr} {o : HO} (h : H a = some o) (h' : H b = none) : a ≠ b := by
  intro e; subst e; rw [h] at h'; cases h'

section
variable (P : Program) (w : World)
noncomputable def ObjOk (H : Hp) (h : Heap) (a : Addr) : HO → Prop
  | .lst xs => xs.length ≤ sizeLine ∧ ∃ (its : List Value) (n : Nat), Vals xs its ∧ h.get? a = some { cls := .type "list", data := .seq its.toArray n }
  | .tup xs => xs.length ≤ sizeLine ∧ ∃ its : List Value, Vals xs its ∧ IsTup h a its.toArray
  | .dK kvs => kvs.length ≤ sizeLine ∧ (a == sysModules) = false ∧ ∃ vs, KV kvs vs ∧ h.DictOf (mixKind P w) a vs
  | .dT kvs => kvs.length ≤ sizeLine ∧ (a == sysModules) = false ∧ ∃ xs : List (List Key × Addr × Value),
      Paired (fun (p : List Key × V) (q : List Key × Addr × Value) => p.1 = q.1 ∧ H q.2.1 = some (.tup (p.1.map kV)) ∧ RelV p.2 q.2.2) kvs xs ∧
      ∃ o es ep, h.get? a = some o ∧ o.ExactDict ∧ o.data = .dict es ep ∧ es.toList = xs.map (entryOfKey (tupleKind (mixKind P w))) ∧ (xs.map (·.1)).Nodup
  | .set S n => h.SetOf (intKind P w) a S n
  | .ins C dx fs => H dx = some (.own a) ∧ fs.length ≤ 1000 ∧ dx ≠ a ∧ h.get? a = some (PySem.W.instObj C dx) ∧
      ∃ mA, h.Ns1 dx mA ∧ (∀ f, RelO (fs.lookup f) (mA f)) ∧ PySem.Within mA (fs.map (·.1))
  | .own _ => ∃ o, h.get? a = some o
  | .xd fs => ∃ mA, h.Ns1 a mA ∧ ∀ f, RelO (fs.lookup f) (mA f)
  | .rng lo hi => ∃ t u v, h.get? a = some { cls := .type "range", data := .fields #[.int lo t, .int hi u, .int 1 v] }
  | .frz o u => h.get? a = some o ∧ ObjOk H h a u
  | .tbl ps => h.get? a = some { cls := .none, data := .fields ps }
  | .met f x => h.get? a = some (PySem.W.methodObj (.ref f) (.ref x))
  | .ext φ => φ h ∧ (∃ o, h.get? a = some o) ∧ ∀ h1 h2 : Heap, φ h1 → (∀ o, h1.get? a = some o → h2.get? a = some o) → φ h2
/-- the abstract heap is held -/
noncomputable def HOk (H : Hp) (h : Heap) : Prop := ∀ a o, H a = some o → ObjOk P w H h a o
end

section
variable {P : Program} {w : World} {H H' : Hp} {h h' : Heap} {a : Addr} {o : HO}
theorem ObjOk.lt (x : ObjOk P w H h a o) : a < h.objs.size := by
  cases o with
  | lst xs => obtain ⟨_, _, _, _, e⟩ := x; exact Heap.lt_size e
  | tup xs => obtain ⟨_, _, _, p⟩ := x; exact p.lt
  | dK kvs => obtain ⟨_, _, _, _, o, _, _, e, _⟩ := x; exact Heap.lt_size e
  | dT kvs => obtain ⟨_, _, _, _, o, _, _, e, _⟩ := x; exact Heap.lt_size e
  | set S n => obtain ⟨o, _, _, _, e, _⟩ := x; exact Heap.lt_size e
  | ins C dx fs => obtain ⟨_, _, _, e, _⟩ := x; exact Heap.lt_size e
  | own y => obtain ⟨_, e⟩ := x; exact Heap.lt_size e
  | xd fs => obtain ⟨_, ⟨_, _, _, e, _⟩, _⟩ := x; exact Heap.lt_size e
  | rng lo hi => obtain ⟨_, _, _, e⟩ := x; exact Heap.lt_size e
  | frz ob u => obtain ⟨e, _⟩ := x; exact Heap.lt_size e
  | tbl ps => exact Heap.lt_size (show h.get? a = some _ from x)
  | met f y => exact Heap.lt_size (show h.get? a = some _ from x)
  | ext φ => obtain ⟨_, ⟨_, e⟩, _⟩ := x; exact Heap.lt_size e
theorem Paired.mapP {α β : Type} {F G : α → β → Prop} : ∀ {l₁ : List α} {l₂ : List β}, Paired F l₁ l₂ → (∀ a b, F a b → G a b) → Paired G l₁ l₂
  | _, _, .nil, _ => .nil
  | _, _, .cons r t, f => .cons (f _ _ r) (Paired.mapP t f)
/-- what an object's description leans on: its own object, its own dict, the tuples -/
theorem ObjOk.stay (x : ObjOk P w H h a o) (k : ∀ b u, (b = a ∨ H b = some (.own a)) → h.get? b = some u → h'.get? b = some u)
    (ho : ∀ b, H b = some (.own a) → H' b = some (.own a)) (ht : ∀ b xs, H b = some (.tup xs) → H' b = some (.tup xs)) : ObjOk P w H' h' a o := by
  induction o with
  | lst xs => obtain ⟨z, its, n, r, e⟩ := x; exact ⟨z, its, n, r, k _ _ (.inl rfl) e⟩
  | tup xs => obtain ⟨z, its, r, ob, e, c⟩ := x; exact ⟨z, its, r, ob, k _ _ (.inl rfl) e, c⟩
  | dK kvs => obtain ⟨z, y, vs, r, ob, es, ep, e, c⟩ := x; exact ⟨z, y, vs, r, ob, es, ep, k _ _ (.inl rfl) e, c⟩
  | dT kvs =>
    obtain ⟨z, y, xs, r, ob, es, ep, e, c⟩ := x
    exact ⟨z, y, xs, Paired.mapP r fun p q z => ⟨z.1, ht _ _ z.2.1, z.2.2⟩, ob, es, ep, k _ _ (.inl rfl) e, c⟩
  | set S n => obtain ⟨ob, es, ep, t, e, c⟩ := x; exact ⟨ob, es, ep, t, k _ _ (.inl rfl) e, c⟩
  | ins C dx fs =>
    obtain ⟨d, z, ne, e, mA, ⟨od, es, ep, e2, c⟩, r⟩ := x
    exact ⟨ho _ d, z, ne, k _ _ (.inl rfl) e, mA, ⟨od, es, ep, k _ _ (.inr d) e2, c⟩, r⟩
  | own y => obtain ⟨ob, e⟩ := x; exact ⟨ob, k _ _ (.inl rfl) e⟩
  | xd fs => obtain ⟨mA, ⟨od, es, ep, e, c⟩, r⟩ := x; exact ⟨mA, ⟨od, es, ep, k _ _ (.inl rfl) e, c⟩, r⟩
  | rng lo hi => obtain ⟨t, u, v, e⟩ := x; exact ⟨t, u, v, k _ _ (.inl rfl) e⟩
  | frz ob u ih => obtain ⟨e, q⟩ := x; exact ⟨k _ _ (.inl rfl) e, ih q⟩
  | tbl ps =>
    have e : h.get? a = some { cls := .none, data := .fields ps } := x
    show h'.get? a = some { cls := .none, data := .fields ps }
    exact k a _ (.inl rfl) e
  | met f y =>
    have e : h.get? a = some (PySem.W.methodObj (.ref f) (.ref y)) := x
    show h'.get? a = some (PySem.W.methodObj (.ref f) (.ref y))
    exact k a _ (.inl rfl) e
  | ext φ => obtain ⟨p, ⟨o, e⟩, st⟩ := x; exact ⟨st _ _ p fun o q => k _ _ (.inl rfl) q, ⟨o, k _ _ (.inl rfl) e⟩, st⟩
theorem HOk.lt (x : HOk P w H h) (e : H a = some o) : a < h.objs.size := (x a o e).lt
theorem HOk.fresh (x : HOk P w H h) (e : h.objs.size ≤ a) : H a = none := by
  cases q : H a with
  | none => rfl
  | some u => exact absurd (Nat.lt_of_lt_of_le (x.lt q) e) (Nat.lt_irrefl _)
/-- every object of the heap is kept -/
theorem HOk.kept (x : HOk P w H h) (k : ∀ b u, h.get? b = some u → h'.get? b = some u) : HOk P w H h' := fun a o e =>
  (x a o e).stay (fun b u _ q => k b u q) (fun _ q => q) fun _ _ q => q
/-- a new object is laid and tracked -/
theorem HOk.laid (x : HOk P w H h) (k : ∀ b u, h.get? b = some u → h'.get? b = some u) (hp : h.objs.size ≤ a) (new : ObjOk P w (upd H a o) h' a o) : HOk P w (upd H a o) h' := fun b u e => by
  have hn := x.fresh hp
  by_cases hb : b = a
  · subst hb; rw [upd_same] at e; cases e; exact new
  · rw [upd_ne hb] at e
    exact (x b u e).stay (fun c v _ q => k c v q) (fun c q => by rw [upd_ne (ne_of_none q hn)]; exact q) fun c xs q => by rw [upd_ne (ne_of_none q hn)]; exact q
end

/-- what may be read as u: it is u, or a known u -/
noncomputable def Rd (H : Hp) (a : Addr) (u : HO) : Prop := H a = some u ∨ ∃ o, H a = some (.frz o u)
theorem Rd.of {H : Hp} {a : Addr} {u : HO} (h : H a = some u) : Rd H a u := .inl h
theorem Rd.ok {P : Program} {w : World} {H : Hp} {h : Heap} {a : Addr} {u : HO} (r : Rd H a u) (x : HOk P w H h) : ObjOk P w H h a u := by
  rcases r with r | ⟨o, r⟩
  · exact x a u r
  · obtain ⟨_, q⟩ := x a _ r
    exact q
/-- what may be written -/
noncomputable def Mut : Option HO → Prop
  | some (.lst _) => True
  | some (.dK _) => True
  | some (.dT _) => True
  | some (.set _ _) => True
  | some (.ins _ _ _) => True
  | some (.ext _) => True
  | _ => False
section
variable {P : Program} {w : World} {H : Hp} {h h' : Heap} {x e : Addr} {o' : HO}
/-- the object at e is changed: x itself, or the dict of the instance x -/
theorem HOk.write (ok : HOk P w H h) (mu : Mut (H x)) (he : e = x ∨ H e = some (.own x)) (k : ∀ b u, b ≠ e → h.get? b = some u → h'.get? b = some u) (heo : ∃ u, h'.get? e = some u)
    (new : ObjOk P w (upd H x o') h' x o') : HOk P w (upd H x o') h' := fun b u q => by
  have nown : ∀ c y, H c = some (.own y) → c ≠ x := fun c y r z => by subst z; rw [r] at mu; exact mu
  have ntup : ∀ c xs, H c = some (.tup xs) → c ≠ x := fun c xs r z => by subst z; rw [r] at mu; exact mu
  by_cases hb : b = x
  · subst hb; rw [upd_same] at q; cases q; exact new
  · rw [upd_ne hb] at q
    by_cases hbe : b = e
    · have q' : H b = some (.own x) := by
        rcases he with z | z
        · exact absurd (hbe.trans z) hb
        · rw [hbe]; exact z
      rw [q] at q'; cases q'
      obtain ⟨v, hv⟩ := heo
      exact ⟨v, by rw [hbe]; exact hv⟩
    · refine (ok b u q).stay (fun c v hc r => k c v ?_ r) (fun c r => by rw [upd_ne (nown c b r)]; exact r) fun c xs r => by rw [upd_ne (ntup c xs r)]; exact r
      rcases hc with rfl | hc
      · exact hbe
      · rintro rfl
        rcases he with z | z
        · exact nown c b hc z
        · rw [hc] at z; cases z; exact hb rfl
end

/-! ### kept unless tracked; of the frames at fs (the callers') the slots may change (an exception that passes writes there); of the records at ex (iterators) nothing is said -/
structure Un (fs ex : List Addr) (H H' : Hp) (h h' : Heap) : Prop where
  keep : ∀ b o, h.get? b = some o → H b = none → b ∉ fs → b ∉ ex → h'.get? b = some o
  slot : ∀ b o, h.get? b = some o → H b = none → b ∈ fs → b ∉ ex → ∃ sl, h'.get? b = some { o with slots := sl }
  free : ∀ b o, h.get? b = some o → H b = none → b ∉ ex → H' b = none
  there : ∀ b o, h.get? b = some o → b ∉ ex → ∃ o', h'.get? b = some o'
  tups : ∀ b xs, H b = some (.tup xs) → H' b = some (.tup xs)
  frzs : ∀ b o u, H b = some (.frz o u) → H' b = some (.frz o u)
  tbls : ∀ b ps, H b = some (.tbl ps) → ∃ more, H' b = some (.tbl (ps ++ more))
section
variable {fs fs' ex ex' : List Addr} {H H1 H2 : Hp} {h h1 h2 h' : Heap} {a x e : Addr} {o : HO}
theorem Un.any (u : Un fs ex H H1 h h1) {b : Addr} {ob : Obj} (q : h.get? b = some ob) (n : H b = none) (hx : b ∉ ex) : ∃ sl, h1.get? b = some { ob with slots := sl } := by
  by_cases hb : b ∈ fs
  · exact u.slot b ob q n hb hx
  · exact ⟨ob.slots, u.keep b ob q n hb hx⟩
theorem Un.trans (a : Un fs ex H H1 h h1) (b : Un fs ex H1 H2 h1 h2) : Un fs ex H H2 h h2 where
  keep := fun c ob q n hc hx => b.keep c ob (a.keep c ob q n hc hx) (a.free c ob q n hx) hc hx
  slot := fun c ob q n hc hx => by
    obtain ⟨sl, e1⟩ := a.slot c ob q n hc hx
    obtain ⟨sl', e2⟩ := b.slot c _ e1 (a.free c ob q n hx) hc hx
    exact ⟨sl', e2⟩
  free := fun c ob q n hx => by
    obtain ⟨o', e1⟩ := a.there c ob q hx
    exact b.free c o' e1 (a.free c ob q n hx) hx
  there := fun c ob q hx => by
    obtain ⟨o', e1⟩ := a.there c ob q hx
    exact b.there c o' e1 hx
  tups := fun c xs q => b.tups c xs (a.tups c xs q)
  frzs := fun c ob xs q => b.frzs c ob xs (a.frzs c ob xs q)
  tbls := fun c ps q => by
    obtain ⟨m1, e1⟩ := a.tbls c ps q
    obtain ⟨m2, e2⟩ := b.tbls c _ e1
    exact ⟨m1 ++ m2, by rw [e2, Array.append_assoc]⟩
theorem Un.kept (k : ∀ b u, h.get? b = some u → h'.get? b = some u) : Un fs ex H H h h' :=
  ⟨fun b ob q _ _ _ => k b ob q, fun b ob q _ _ _ => ⟨ob.slots, k b ob q⟩, fun _ _ _ n _ => n, fun b ob q _ => ⟨ob, k b ob q⟩, fun _ _ q => q, fun _ _ _ q => q, fun _ ps q => ⟨#[], by rw [q]; simp⟩⟩
theorem Un.refl : Un fs ex H H h h := Un.kept fun _ _ q => q
theorem Un.laid (k : ∀ b u, h.get? b = some u → h'.get? b = some u) (hp : h.objs.size ≤ a) (hn : H a = none) : Un fs ex H (upd H a o) h h' where
  keep := fun b u q _ _ _ => k b u q
  slot := fun b u q _ _ _ => ⟨u.slots, k b u q⟩
  free := fun b u q n _ => by rw [upd_ne (Nat.ne_of_lt (Nat.lt_of_lt_of_le (Heap.lt_size q) hp))]; exact n
  there := fun b u q _ => ⟨u, k b u q⟩
  tups := fun b xs q => by rw [upd_ne (ne_of_none q hn)]; exact q
  frzs := fun b u xs q => by rw [upd_ne (ne_of_none q hn)]; exact q
  tbls := fun b ps q => ⟨#[], by rw [upd_ne (ne_of_none q hn), q]; simp⟩
theorem Un.write (mu : Mut (H x)) (he : e = x ∨ H e = some (.own x)) (k : ∀ b u, b ≠ e → h.get? b = some u → h'.get? b = some u) (heo : ∃ u, h'.get? e = some u) : Un fs ex H (upd H x o) h h' := by
  have hx : ∀ b, H b = none → b ≠ x := fun b n z => by subst z; rw [n] at mu; exact mu
  have hb : ∀ b, H b = none → b ≠ e := fun b n z => by
    subst z
    rcases he with r | r
    · exact hx b n r
    · rw [n] at r; cases r
  have hm : ∀ b u, H b = some u → ¬ Mut (some u) → b ≠ x := fun b u q nm z => by subst z; rw [q] at mu; exact nm mu
  refine ⟨fun b u q n _ _ => k b u (hb b n) q, fun b u q n _ _ => ⟨u.slots, k b u (hb b n) q⟩, fun b u q n _ => by rw [upd_ne (hx b n)]; exact n, fun b u q _ => ?_,
    fun b xs q => by rw [upd_ne (hm b _ q fun z => z)]; exact q, fun b u xs q => by rw [upd_ne (hm b _ q fun z => z)]; exact q, fun b ps q => ⟨#[], by rw [upd_ne (hm b _ q fun z => z), q]; simp⟩⟩
  by_cases hbe : b = e
  · subst hbe; exact heo
  · exact ⟨u, k b u hbe q⟩
theorem Un.mono (u : Un fs ex H H1 h h1) (hs : ∀ b ∈ fs, b ∈ fs') (hx : ∀ b ∈ ex, b ∈ ex') : Un fs' ex' H H1 h h1 :=
  ⟨fun b ob q n hb he => u.keep b ob q n (fun z => hb (hs b z)) fun z => he (hx b z), fun _ _ q n _ he => u.any q n fun z => he (hx _ z), fun b ob q n he => u.free b ob q n fun z => he (hx b z), fun b ob q he => u.there b ob q fun z => he (hx b z), u.tups, u.frzs, u.tbls⟩
end

/-! ### the heap without what is tracked -/
noncomputable def trk (h : Heap) (H : Hp) : List Addr := (List.range h.objs.size).filter fun a => (H a).isSome
noncomputable def hidT (h : Heap) (H : Hp) : Heap := PySem.W.hideAll h (trk h H)
theorem hidT_size (h : Heap) (H : Hp) : (hidT h H).objs.size = h.objs.size := PySem.W.hideAll_size _ _
theorem hidT_get {h : Heap} {H : Hp} {b : Addr} {o : Obj} (e : h.get? b = some o) (n : H b = none) : (hidT h H).get? b = some o :=
  PySem.W.hideAll_get _ e fun hm => by
    have q : (H b).isSome = true := (List.mem_filter.mp hm).2
    rw [n] at q; simp at q
theorem of_hidT {h : Heap} {H : Hp} {b : Addr} {o : Obj} (e : (hidT h H).get? b = some o) : h.get? b = some o ∧ H b = none := by
  have e' : h.get? b = some o := PySem.W.of_hideAll (trk h H) e
  refine ⟨e', ?_⟩
  cases q : H b with
  | none => rfl
  | some x =>
    have hm : b ∈ trk h H := List.mem_filter.mpr ⟨List.mem_range.mpr (Heap.lt_size e'), by simp [q]⟩
    have z : (hidT h H).get? b = none := PySem.W.hideAll_none (trk h H) hm
    rw [z] at e; cases e

/-! ### OpenK's ledger, filled with every new object but one -/
noncomputable def allNews (g h : Heap) (L : Addr) : List (Addr × Obj) := (List.range h.objs.size).filterMap fun a => if a = L ∨ (g.get? a).isSome = true then none else (h.get? a).map fun o => (a, o)
noncomputable def rest (g h : Heap) (L d : Addr) : List (Addr × Obj) := (allNews g h L).filter fun p => decide (p.1 ≠ d)
end L2

namespace L2
open PySem PySem.Spec PyProof.Rows

/-- the module's facts, over the base: the heap at the law's entry without what is tracked there -/
structure Mod (K : PySem.W.Frag) (mg : Str → Option Value) (base : Heap) : Prop where
  kin : K.In base
  glob : base.Ns mainGlobals mg
  blt : ∃ mb, base.Ns builtinsNs mb ∧ ∀ x : Str, x ≠ "__name__" → mb x = bootBuiltins x
  nolimit : base.NoLimit

/-- the context: a def's body (or a comprehension's block) running. base: fixed through the whole law; s₀, H₀: the entry; outer: the frames whose slots others may change (a def's callers); stack: all frames that run;
   ex: iterators that were made ahead of the entry and are walked here (a comprehension's); fn: the names whose cells were made at the entry (a def: all; a comprehension's block: its own); calm: not within an except suite; pn: pins that every state bears; xe: what is wanted of an exception that leaves the code -/
structure Cx where
  prog : Program
  w : World
  K : PySem.W.Frag
  mg : Str → Option Value
  base : Heap
  A : Around
  N : List Str
  s₀ : Shared
  H₀ : Hp
  env : Env
  outer : List Env
  stack : List Env
  ex : List Addr
  fn : Str → Bool
  calm : Bool
  pn : List (Addr × Obj)
  xe : Value → Shared → Prop
/-- the callers' frames -/
noncomputable def frs (l : List Env) : List Addr := l.filterMap (·.frame)
noncomputable abbrev Cx.fs (X : Cx) : List Addr := frs X.outer

noncomputable def Vis (sc : Scope) (x : Str) : Prop := sc.names.lookup x = some .local ∨ sc.names.lookup x = some .cell ∨ sc.names.lookup x = some .free
noncomputable def Loc (sc : Scope) (x : Str) : Prop := sc.names.lookup x = some .local ∨ sc.names.lookup x = some .cell
noncomputable def Look (env : Env) (h : Heap) (m : Str → Option Value) (x : Str) (u : Value) : Prop :=
  (env.kindOf x = some .local ∧ m x = some u) ∨ ((env.kindOf x = some .cell ∨ env.kindOf x = some .free) ∧ ∃ c, env.cells.lookup x = some c ∧ h.IsCell c (some u))

structure Cx.Ok (X : Cx) : Prop where
  mod : Mod X.K X.mg X.base
  kind : X.env.scope.kind = .function
  glob : X.env.globals = mainGlobals
  blt : X.env.builtins = builtinsNs
  above : X.s₀.heap.objs.size ≤ X.env.locals
  inj : ∀ x y c, X.env.cells.lookup x = some c → X.env.cells.lookup y = some c → x = y
  has : ∀ x, (X.env.kindOf x = some .cell ∨ X.env.kindOf x = some .free) → ∃ c, X.env.cells.lookup x = some c
  cab : ∀ x c, X.fn x = true → X.env.cells.lookup x = some c → X.s₀.heap.objs.size ≤ c
  hd : X.calm = true → X.A.handled = none
  frames : X.A.frames = some X.stack
  stk : X.stack = X.outer ∨ (X.stack = X.env :: X.outer ∧ X.env.frame = some X.env.locals)
  exf : ∀ b ∈ X.ex, b ≠ X.env.locals ∧ ∀ x c, X.env.cells.lookup x = some c → c ≠ b
  bs : ∀ b o, X.base.get? b = some o → X.s₀.heap.get? b = some o ∧ X.H₀ b = none
  bsz : X.base.objs.size ≤ X.s₀.heap.objs.size
  noex : ∀ b o, X.base.get? b = some o → b ∉ X.ex
  exfs : ∀ b ∈ X.ex, b ∉ X.fs
  funs : X.s₀.heap.FunFrames X.base X.outer
  frf : ∀ b ∈ X.fs, X.H₀ b = none

structure Inv (X : Cx) (pins : List (Addr × Obj)) (σ : List (Option V)) (H : Hp) (s : Shared) : Prop where
  ok : X.Ok
  os : s.os = X.s₀.os
  bare : AllBare s.gens
  base : Un X.fs X.ex X.H₀ H X.s₀.heap s.heap
  loc : ∃ m, s.heap.Ns X.env.locals m ∧ ∀ (i : Nat) (x : Str) (v : V), X.N[i]? = some x → σ[i]? = some (some v) → Vis X.env.scope x → ∃ u, RelV v u ∧ Look X.env s.heap m x u
  cell : ∀ x c, X.env.cells.lookup x = some c → ∃ v, s.heap.IsCell c v
  free : H X.env.locals = none
  freeC : ∀ x c, X.env.cells.lookup x = some c → H c = none
  pin : ∀ p ∈ X.pn ++ pins, s.heap.get? p.1 = some p.2 ∧ H p.1 = none ∧ p.1 ≠ X.env.locals ∧ p.1 ∉ X.fs ∧ ∀ v, p.2.data ≠ .cell v
  hok : HOk X.prog X.w H s.heap
  len : σ.length = X.N.length

section
variable {X : Cx} {pins : List (Addr × Obj)} {σ : List (Option V)} {H H' : Hp} {s : Shared} {h' : Heap}

theorem Cx.Ok.nofr (ok : X.Ok) {b : Addr} {o : Obj} (e : X.base.get? b = some o) : b ∉ X.fs := fun hb => by
  have := (ok.funs.mem hb).1
  rw [e] at this; cases this
theorem Inv.bs (I : Inv X pins σ H s) : ∀ b o, X.base.get? b = some o → s.heap.get? b = some o ∧ H b = none := fun b o e =>
  ⟨I.base.keep b o (I.ok.bs b o e).1 (I.ok.bs b o e).2 (I.ok.nofr e) (I.ok.noex b o e), I.base.free b o (I.ok.bs b o e).1 (I.ok.bs b o e).2 (I.ok.noex b o e)⟩
theorem Inv.bk (I : Inv X pins σ H s) : ∀ b o, X.base.get? b = some o → s.heap.get? b = some o := fun b o e => (I.bs b o e).1
theorem Inv.mod (I : Inv X pins σ H s) : Mod X.K X.mg X.base := I.ok.mod
theorem Inv.kIn (I : Inv X pins σ H s) : X.K.In s.heap := I.ok.mod.kin.keeps I.bk
theorem Inv.nolimit (I : Inv X pins σ H s) : s.heap.NoLimit := I.ok.mod.nolimit.keeps I.bk
/-- the frame over the base: for OpenK's rules (K.In X.base is I.mod.kin) -/
theorem Inv.fr (I : Inv X pins σ H s) : ∃ m, Fr X.base X.env.locals s.heap m :=
  let ⟨m, hn, _⟩ := I.loc
  ⟨m, hn, I.bk, Nat.le_trans I.ok.bsz I.ok.above⟩
theorem Inv.lt (I : Inv X pins σ H s) : X.env.locals < s.heap.objs.size := let ⟨_, hn, _⟩ := I.loc; hn.lt
theorem Inv.sz (I : Inv X pins σ H s) : X.s₀.heap.objs.size ≤ s.heap.objs.size := Nat.le_trans I.ok.above (Nat.le_of_lt I.lt)
theorem Inv.nofs (I : Inv X pins σ H s) {a : Addr} (h : s.heap.objs.size ≤ a) : a ∉ X.fs := fun hb => by
  obtain ⟨_, o, ho, _⟩ := I.ok.funs.mem hb
  exact absurd (Nat.lt_of_lt_of_le (Heap.lt_size ho) (Nat.le_trans I.sz h)) (Nat.lt_irrefl _)
theorem Inv.cne (I : Inv X pins σ H s) : ∀ x c, X.env.cells.lookup x = some c → c ≠ X.env.locals := fun x c e z => by
  obtain ⟨v, o, ho, hd⟩ := I.cell x c e
  obtain ⟨m, ⟨o', es, ep, ho', hd', _⟩, _⟩ := I.loc
  rw [z, ho'] at ho; cases ho; rw [hd'] at hd; cases hd
theorem Inv.funs (I : Inv X pins σ H s) : s.heap.FunFrames X.base X.outer := by
  have all : ∀ (l : List Env), (∀ b ∈ frs l, b ∈ X.fs) → X.s₀.heap.FunFrames X.base l → s.heap.FunFrames X.base l := by
    intro l
    induction l with
    | nil => intro _ _; trivial
    | cons env r ih =>
      intro hs hl
      obtain ⟨hk, ⟨L, o, hf, hn, ho, hd⟩, hr⟩ := hl
      have hL : L ∈ X.fs := hs L (by unfold frs; rw [List.filterMap_cons, hf]; exact List.mem_cons_self)
      obtain ⟨sl, e⟩ := I.base.slot L o ho (I.ok.frf L hL) hL fun z => I.ok.exfs L z hL
      exact ⟨hk, ⟨L, _, hf, hn, e, hd⟩, ih (fun b hb => hs b (by unfold frs; rw [List.filterMap_cons, hf]; exact List.mem_cons_of_mem _ hb)) hr⟩
  exact all X.outer (fun _ hb => hb) I.ok.funs

/-- the frames that run, for a call -/
theorem Inv.stack (I : Inv X pins σ H s) : s.heap.FunFrames X.base X.stack := by
  rcases I.ok.stk with e | ⟨e, hf⟩
  · rw [e]; exact I.funs
  · rw [e]
    obtain ⟨m, hn, _⟩ := I.loc
    refine .cons (by rw [I.ok.kind]; decide) hf hn ?_ I.funs
    exact Heap.get?_none_of_le (Nat.le_trans I.ok.bsz I.ok.above)
theorem Inv.stkSub (I : Inv X pins σ H s) : ∀ b ∈ frs X.stack, b ∈ X.env.locals :: X.fs := fun b hb => by
  rcases I.ok.stk with e | ⟨e, hf⟩
  · rw [e] at hb; exact List.mem_cons_of_mem _ hb
  · rw [e] at hb
    unfold frs at hb
    rw [List.filterMap_cons, hf] at hb
    exact hb
theorem Inv.stkFree (I : Inv X pins σ H s) : ∀ b ∈ frs X.stack, H b = none := fun b hb => by
  rcases List.mem_cons.mp (I.stkSub b hb) with e | hb
  · rw [e]; exact I.free
  · obtain ⟨_, o, ho, _⟩ := I.ok.funs.mem hb
    exact I.base.free b o ho (I.ok.frf b hb) fun z => I.ok.exfs b z hb

/-- THE STEP: the untracked objects but the frame and the records at ch are kept (the callers' frames up to slots), the frame's map is kept, the new abstract heap is held -/
theorem Inv.step {g' : Array GenState} {t' : Nat} {d' : Drawn} {ch : List Addr} (I : Inv X pins σ H s)
    (hch : ∀ b ∈ ch, (b ∈ X.ex ∨ X.s₀.heap.objs.size ≤ b) ∧ b ≠ X.env.locals ∧ (∀ x c, X.env.cells.lookup x = some c → c ≠ b) ∧ ∀ p ∈ X.pn ++ pins, p.1 ≠ b)
    (keep : ∀ b o, b ≠ X.env.locals → b ∉ X.fs → b ∉ ch → s.heap.get? b = some o → H b = none → h'.get? b = some o)
    (slot : ∀ b o, b ≠ X.env.locals → b ∈ X.fs → b ∉ ch → s.heap.get? b = some o → H b = none → ∃ sl, h'.get? b = some { o with slots := sl }) (free : ∀ b o, b ∉ ch → s.heap.get? b = some o → H b = none → H' b = none)
    (there : ∀ b o, b ∉ ch → s.heap.get? b = some o → ∃ o', h'.get? b = some o')
    (tups : ∀ b xs, H b = some (.tup xs) → H' b = some (.tup xs)) (frzs : ∀ b o u, H b = some (.frz o u) → H' b = some (.frz o u)) (tbls : ∀ b ps, H b = some (.tbl ps) → ∃ more, H' b = some (.tbl (ps ++ more)))
    (ns : ∀ m, s.heap.Ns X.env.locals m → h'.Ns X.env.locals m) (hok : HOk X.prog X.w H' h') (hg : AllBare g') :
    Inv X pins σ H' { s with heap := h', gens := g', drawn := d', toks := t' } := by
  have neL : ∀ b o, X.s₀.heap.get? b = some o → b ≠ X.env.locals := fun b o e => Nat.ne_of_lt (Nat.lt_of_lt_of_le (Heap.lt_size e) I.ok.above)
  have neC : ∀ b o, X.s₀.heap.get? b = some o → b ∉ X.ex → b ∉ ch := fun b o e hx hb => by
    rcases (hch b hb).1 with z | z
    · exact hx z
    · exact absurd (Nat.lt_of_lt_of_le (Heap.lt_size e) z) (Nat.lt_irrefl _)
  have cellK : ∀ x c, X.env.cells.lookup x = some c → ∀ v, s.heap.IsCell c v → h'.IsCell c v := fun x c e v ⟨o, ho, hd⟩ => by
    have nch : c ∉ ch := fun z => (hch c z).2.2.1 x c e rfl
    by_cases hc : c ∈ X.fs
    · obtain ⟨sl, q⟩ := slot c o (I.cne x c e) hc nch ho (I.freeC x c e)
      exact ⟨_, q, hd⟩
    · exact ⟨o, keep c o (I.cne x c e) hc nch ho (I.freeC x c e), hd⟩
  refine ⟨I.ok, I.os, hg, ⟨fun b o e n hb hx => ?_, fun b o e n hb hx => ?_, fun b o e n hx => ?_, fun b o e hx => ?_, fun b xs e => tups b xs (I.base.tups b xs e), fun b o xs e => frzs b o xs (I.base.frzs b o xs e), fun b ps e => ?_⟩, ?_, fun x c e => ?_, ?_, fun x c e => ?_, fun p hp => ?_, hok, I.len⟩
  · exact keep b o (neL b o e) hb (neC b o e hx) (I.base.keep b o e n hb hx) (I.base.free b o e n hx)
  · obtain ⟨sl, e1⟩ := I.base.slot b o e n hb hx
    obtain ⟨sl', e2⟩ := slot b _ (neL b o e) hb (neC b o e hx) e1 (I.base.free b o e n hx)
    exact ⟨sl', e2⟩
  · obtain ⟨o', e1⟩ := I.base.there b o e hx
    exact free b o' (neC b o e hx) e1 (I.base.free b o e n hx)
  · obtain ⟨o', e1⟩ := I.base.there b o e hx
    exact there b o' (neC b o e hx) e1
  · obtain ⟨m1, e1⟩ := I.base.tbls b ps e
    obtain ⟨m2, e2⟩ := tbls b _ e1
    exact ⟨m1 ++ m2, by rw [e2, Array.append_assoc]⟩
  · obtain ⟨m, hn, hl⟩ := I.loc
    refine ⟨m, ns m hn, fun i x v e1 e2 e3 => ?_⟩
    obtain ⟨u, r, l⟩ := hl i x v e1 e2 e3
    refine ⟨u, r, ?_⟩
    rcases l with l | ⟨k, c, e, z⟩
    · exact .inl l
    · exact .inr ⟨k, c, e, cellK x c e _ z⟩
  · obtain ⟨v, z⟩ := I.cell x c e
    exact ⟨v, cellK x c e v z⟩
  · obtain ⟨m, ⟨o, _, _, ho, _⟩, _⟩ := I.loc
    exact free _ o (fun z => (hch _ z).2.1 rfl) ho I.free
  · obtain ⟨v, o, ho, hd⟩ := I.cell x c e
    exact free c o (fun z => (hch c z).2.2.1 x c e rfl) ho (I.freeC x c e)
  · obtain ⟨e, n, ne, nf, d⟩ := I.pin p hp
    have nch : p.1 ∉ ch := fun z => (hch p.1 z).2.2.2 p hp rfl
    exact ⟨keep p.1 p.2 ne nf nch e n, free p.1 p.2 nch e n, ne, nf, d⟩
/-- .. where the frame's own object is kept too -/
theorem Inv.un {t' : Nat} (I : Inv X pins σ H s) (u : Un X.fs [] H H' s.heap h') (hok : HOk X.prog X.w H' h') : Inv X pins σ H' { s with heap := h', toks := t' } := by
  obtain ⟨m, ⟨o, es, ep, ho, r⟩, _⟩ := id I.loc
  obtain ⟨sl, hL⟩ := u.any ho I.free (by simp)
  exact I.step (g' := s.gens) (d' := s.drawn) (ch := []) (fun _ z => nomatch z) (fun b o _ hb _ e n => u.keep b o e n hb (by simp)) (fun b o _ hb _ e n => u.slot b o e n hb (by simp)) (fun b o _ e n => u.free b o e n (by simp)) (fun b o _ e => u.there b o e (by simp)) u.tups u.frzs u.tbls (fun m' hm => by
    obtain ⟨o', es', ep', ho', r'⟩ := hm
    rw [ho] at ho'; cases ho'
    exact ⟨_, es', ep', hL, r'⟩) hok I.bare
/-- behind a call (or a comprehension's block): the slots of this frame may have changed too, the records at ch may have turned -/
theorem Inv.call {g' : Array GenState} {t' : Nat} {d' : Drawn} {ch : List Addr} (I : Inv X pins σ H s) (u : Un (frs X.stack) ch H H' s.heap h') (hok : HOk X.prog X.w H' h') (hg : AllBare g')
    (hch : ∀ b ∈ ch, (b ∈ X.ex ∨ X.s₀.heap.objs.size ≤ b) ∧ b ≠ X.env.locals ∧ (∀ x c, X.env.cells.lookup x = some c → c ≠ b) ∧ ∀ p ∈ X.pn ++ pins, p.1 ≠ b) :
    Inv X pins σ H' { s with heap := h', gens := g', drawn := d', toks := t' } := by
  obtain ⟨m, ⟨o, es, ep, ho, r⟩, _⟩ := id I.loc
  obtain ⟨sl, hL⟩ := u.any ho I.free fun z => (hch _ z).2.1 rfl
  exact I.step (ch := ch) hch (fun b o hL hb hc e n => u.keep b o e n (fun z => (List.mem_cons.mp (I.stkSub b z)).elim hL hb) hc) (fun b o _ _ hc e n => u.any e n hc) (fun b o hc e n => u.free b o e n hc) (fun b o hc e => u.there b o e hc) u.tups u.frzs u.tbls (fun m' hm => by
    obtain ⟨o', es', ep', ho', r'⟩ := hm
    rw [ho] at ho'; cases ho'
    exact ⟨_, es', ep', hL, r'⟩) hok hg
/-- an untracked record of ours (an iterator) has turned -/
theorem Inv.turned {t' : Nat} {it : Addr} (I : Inv X pins σ H s) (k : ∀ b o, b ≠ it → s.heap.get? b = some o → h'.get? b = some o) (hn : H it = none) (hL : it ≠ X.env.locals)
    (h1 : it ∈ X.ex ∨ X.s₀.heap.objs.size ≤ it) (h2 : ∀ x c, X.env.cells.lookup x = some c → c ≠ it) (h3 : ∀ p ∈ X.pn ++ pins, p.1 ≠ it) : Inv X pins σ H { s with heap := h', toks := t' } := by
  have nit : ∀ b u, H b = some u → b ≠ it := fun b u e z => by rw [z, hn] at e; cases e
  refine I.step (g' := s.gens) (d' := s.drawn) (ch := [it]) (fun b hb => ?_) (fun b o _ _ hc e _ => k b o (fun z => hc (by simp [z])) e) (fun b o _ _ hc e _ => ⟨o.slots, k b o (fun z => hc (by simp [z])) e⟩) (fun _ _ _ _ n => n)
    (fun b o hc e => ⟨o, k b o (fun z => hc (by simp [z])) e⟩) (fun _ _ e => e) (fun _ _ _ e => e) (fun b ps e => ⟨#[], by rw [e]; simp⟩) (fun m hm => ?_) (fun b u e => ?_) I.bare
  · have e : b = it := by simpa using hb
    subst e
    exact ⟨h1, hL, h2, h3⟩
  · obtain ⟨o, es, ep, ho, r⟩ := hm
    exact ⟨o, es, ep, k _ o (Ne.symm hL) ho, r⟩
  · refine (I.hok b u e).stay (fun c v hc q => k c v ?_ q) (fun _ q => q) fun _ _ q => q
    rcases hc with z | z
    · rw [z]; exact nit b u e
    · exact nit c _ z
theorem Inv.tok (I : Inv X pins σ H s) (t : Nat) : Inv X pins σ H { s with toks := t } := I.un (h' := s.heap) (t' := t) Un.refl I.hok
/-- all objects kept -/
theorem Inv.kept {t' : Nat} (I : Inv X pins σ H s) (k : ∀ b u, s.heap.get? b = some u → h'.get? b = some u) : Inv X pins σ H { s with heap := h', toks := t' } := I.un (Un.kept k) (I.hok.kept k)
/-- a new object laid and tracked -/
theorem Inv.laid {a : Addr} {o : HO} {t' : Nat} (I : Inv X pins σ H s) (k : ∀ b u, s.heap.get? b = some u → h'.get? b = some u) (hp : s.heap.objs.size ≤ a) (new : ObjOk X.prog X.w (upd H a o) h' a o) :
    Inv X pins σ (upd H a o) { s with heap := h', toks := t' } := I.un (Un.laid k hp (I.hok.fresh hp)) (I.hok.laid k hp new)
/-- an object written -/
theorem Inv.write {x e : Addr} {o : HO} {t' : Nat} (I : Inv X pins σ H s) (mu : Mut (H x)) (he : e = x ∨ H e = some (.own x)) (k : ∀ b u, b ≠ e → s.heap.get? b = some u → h'.get? b = some u) (heo : ∃ u, h'.get? e = some u)
    (new : ObjOk X.prog X.w (upd H x o) h' x o) : Inv X pins σ (upd H x o) { s with heap := h', toks := t' } := I.un (Un.write mu he k heo) (I.hok.write mu he k heo new)
theorem Inv.pins_of {pins' : List (Addr × Obj)} (I : Inv X pins σ H s) (h : ∀ p ∈ pins', s.heap.get? p.1 = some p.2 ∧ H p.1 = none ∧ p.1 ≠ X.env.locals ∧ p.1 ∉ X.fs ∧ ∀ v, p.2.data ≠ .cell v) : Inv X pins' σ H s :=
  ⟨I.ok, I.os, I.bare, I.base, I.loc, I.cell, I.free, I.freeC, fun p hp => (List.mem_append.mp hp).elim (fun z => I.pin p (List.mem_append_left _ z)) (h p), I.hok, I.len⟩

theorem nodup_ix {N : List Str} (hN : N.Nodup) {i j : Nat} {x : Str} (a : N[i]? = some x) (b : N[j]? = some x) : i = j := by
  obtain ⟨h1, e1⟩ := List.getElem?_eq_some_iff.mp a
  obtain ⟨h2, e2⟩ := List.getElem?_eq_some_iff.mp b
  exact (List.getElem_inj hN).mp (e1.trans e2.symm)

/-- a name is stored; what changed -/
theorem store_ok2 {M : Model} {A : Around} {E : Value → Shared → Prop} {i : Nat} {x : Str} {v : V} {u : Value} {Q : Unit → Shared → Prop} (I : Inv X pins σ H s) (hN : X.N.Nodup) (hi : X.N[i]? = some x) (hx : Loc X.env.scope x) (r : RelV v u)
    (h : ∀ s', Inv X pins (σ.set i (some v)) H s' → (∃ a, Heap.SameBut a s.heap s'.heap ∧ (a = X.env.locals ∨ X.env.cells.lookup x = some a)) → Q () s') (hf : X.fn x = true ∨ X.env.scope.names.lookup x = some .local := by first | exact .inl rfl | exact .inr rfl | assumption) : wpAny M A (storeName X.env x u) Q E s := by
  obtain ⟨m, hn, hl⟩ := id I.loc
  have hcls : (X.env.scope.kind == .class || (X.env.scope.kind == .module && X.env.locals != X.env.globals)) = false := by rw [I.ok.kind]; rfl
  have hiσ : i < σ.length := by rw [I.len]; exact (List.getElem?_eq_some_iff.mp hi).1
  have cne := I.cne
  have tracked : ∀ {a : Addr} {h' : Heap}, (∃ o, s.heap.get? a = some o ∧ H a = none) → Heap.SameBut a s.heap h' → HOk X.prog X.w H h' := fun {a h'} ha hs b ob e => by
    obtain ⟨_, _, hfree⟩ := ha
    refine (I.hok b ob e).stay (fun c w' hc q => (hs.2 c ?_).trans q) (fun _ q => q) fun _ _ q => q
    rintro rfl
    rcases hc with rfl | hc
    · rw [hfree] at e; cases e
    · rw [hfree] at hc; cases hc
  rcases hx with hk | hk
  · refine wpAny_storeName_local hk hn (fun h' hn' hs => ?_) hcls
    obtain ⟨oL, _, _, hoL, _⟩ := id hn
    refine h _ ⟨I.ok, I.os, I.bare, ⟨fun b o e n hb hx => ?_, fun b o e n hb hx => ?_, I.base.free, fun b o e hx => ?_, I.base.tups, I.base.frzs, I.base.tbls⟩, ⟨_, hn', fun j y v' e1 e2 e3 => ?_⟩, fun y c e => ?_, I.free, I.freeC, fun p hp => ?_, tracked ⟨oL, hoL, I.free⟩ hs, by simpa using I.len⟩ ⟨_, hs, .inl rfl⟩
    · exact (hs.2 b (Nat.ne_of_lt (Nat.lt_of_lt_of_le (Heap.lt_size e) I.ok.above))).trans (I.base.keep b o e n hb hx)
    · obtain ⟨sl, e1⟩ := I.base.slot b o e n hb hx
      exact ⟨sl, (hs.2 b (Nat.ne_of_lt (Nat.lt_of_lt_of_le (Heap.lt_size e) I.ok.above))).trans e1⟩
    · obtain ⟨o', e1⟩ := I.base.there b o e hx
      exact ⟨o', (hs.2 b (Nat.ne_of_lt (Nat.lt_of_lt_of_le (Heap.lt_size e) I.ok.above))).trans e1⟩
    · by_cases hj : j = i
      · subst hj
        rw [hi] at e1; cases e1
        rw [List.getElem?_set_self hiσ] at e2
        cases e2
        exact ⟨u, r, .inl ⟨hk, by simp⟩⟩
      · rw [List.getElem?_set_ne (Ne.symm hj)] at e2
        obtain ⟨u', r', q⟩ := hl j y v' e1 e2 e3
        refine ⟨u', r', ?_⟩
        rcases q with ⟨k, e⟩ | ⟨k, c, e, z⟩
        · refine .inl ⟨k, ?_⟩
          have : y ≠ x := fun e => hj (nodup_ix hN e1 (e ▸ hi))
          simp [this, e]
        · exact .inr ⟨k, c, e, z.sameBut hs (cne y c e)⟩
    · obtain ⟨w', z⟩ := I.cell y c e
      exact ⟨w', z.sameBut hs (cne y c e)⟩
    · obtain ⟨e, n, ne, nf, d⟩ := I.pin p hp
      exact ⟨(hs.2 p.1 ne).trans e, n, ne, nf, d⟩
  · have hfn : X.fn x = true := by
      rcases hf with z | z
      · exact z
      · rw [z] at hk; cases hk
    obtain ⟨c, hc⟩ := I.ok.has x (.inl hk)
    obtain ⟨w', z⟩ := I.cell x c hc
    refine wpAny_storeName_cell I.ok.kind hk hc z (fun h' hc' hs => ?_)
    obtain ⟨oc, hoc, hocd⟩ := id z
    refine h { s with heap := h' } ⟨I.ok, I.os, I.bare, ⟨fun b o e n hb hx => ?_, fun b o e n hb hx => ?_, I.base.free, fun b o e hx => ?_, I.base.tups, I.base.frzs, I.base.tbls⟩, ⟨m, hn.sameBut hs (Ne.symm (cne x c hc)), fun j y v' e1 e2 e3 => ?_⟩, fun y c' e => ?_, I.free, I.freeC, fun p hp => ?_, tracked ⟨oc, hoc, I.freeC x c hc⟩ hs, by simpa using I.len⟩ ⟨c, hs, .inr hc⟩
    · exact (hs.2 b (Nat.ne_of_lt (Nat.lt_of_lt_of_le (Heap.lt_size e) (I.ok.cab x c hfn hc)))).trans (I.base.keep b o e n hb hx)
    · obtain ⟨sl, e1⟩ := I.base.slot b o e n hb hx
      exact ⟨sl, (hs.2 b (Nat.ne_of_lt (Nat.lt_of_lt_of_le (Heap.lt_size e) (I.ok.cab x c hfn hc)))).trans e1⟩
    · obtain ⟨o', e1⟩ := I.base.there b o e hx
      exact ⟨o', (hs.2 b (Nat.ne_of_lt (Nat.lt_of_lt_of_le (Heap.lt_size e) (I.ok.cab x c hfn hc)))).trans e1⟩
    · by_cases hj : j = i
      · subst hj
        rw [hi] at e1; cases e1
        rw [List.getElem?_set_self hiσ] at e2
        cases e2
        exact ⟨u, r, .inr ⟨.inl hk, c, hc, hc'⟩⟩
      · rw [List.getElem?_set_ne (Ne.symm hj)] at e2
        obtain ⟨u', r', q⟩ := hl j y v' e1 e2 e3
        refine ⟨u', r', ?_⟩
        rcases q with q | ⟨k, c', e, z'⟩
        · exact .inl q
        · refine .inr ⟨k, c', e, z'.sameBut hs ?_⟩
          rintro rfl
          exact hj (nodup_ix hN e1 (I.ok.inj _ _ _ e hc ▸ hi))
    · by_cases hcc : c' = c
      · subst hcc; exact ⟨_, hc'⟩
      · obtain ⟨w2, z2⟩ := I.cell y c' e
        exact ⟨w2, z2.sameBut hs hcc⟩
    · obtain ⟨e, n, ne, nf, d⟩ := I.pin p hp
      refine ⟨(hs.2 p.1 ?_).trans e, n, ne, nf, d⟩
      intro q
      rw [q, hoc] at e
      have q' : oc = p.2 := Option.some.inj e
      exact d w' (by rw [← q']; exact hocd)
theorem store_ok {M : Model} {A : Around} {E : Value → Shared → Prop} {i : Nat} {x : Str} {v : V} {u : Value} {Q : Unit → Shared → Prop} (I : Inv X pins σ H s) (hN : X.N.Nodup) (hi : X.N[i]? = some x) (hx : Loc X.env.scope x) (r : RelV v u)
    (h : ∀ s', Inv X pins (σ.set i (some v)) H s' → Q () s') (hf : X.fn x = true ∨ X.env.scope.names.lookup x = some .local := by first | exact .inl rfl | exact .inr rfl | assumption) : wpAny M A (storeName X.env x u) Q E s :=
  store_ok2 I hN hi hx r (fun s' I' _ => h s' I') hf
/-- behind a call or a block, the state as it is -/
theorem Inv.call' {s' : Shared} {ch : List Addr} (I : Inv X pins σ H s) (ho : s'.os = s.os) (u : Un (frs X.stack) ch H H' s.heap s'.heap) (hok : HOk X.prog X.w H' s'.heap) (hg : AllBare s'.gens)
    (hch : ∀ b ∈ ch, (b ∈ X.ex ∨ X.s₀.heap.objs.size ≤ b) ∧ b ≠ X.env.locals ∧ (∀ x c, X.env.cells.lookup x = some c → c ≠ b) ∧ ∀ p ∈ X.pn ++ pins, p.1 ≠ b) : Inv X pins σ H' s' := by
  obtain ⟨h', g', d', t', o'⟩ := s'
  have e : o' = s.os := ho
  subst e
  exact I.call (g' := g') (t' := t') (d' := d') u hok hg hch
end

/-! ### the judgements -/
/-- an exception: its class, its own dict's address (where it has one), the abstract heap behind it -/
noncomputable abbrev XK := Value → Option Addr → Hp → Prop
noncomputable abbrev St := List (Option V)
noncomputable abbrev VK := V → Hp → Prop
/-- an expression's reading; a test's; an argument list's -/
noncomputable abbrev TE := St → Hp → VK → Prop
noncomputable abbrev TT := St → Hp → (Bool → Hp → Prop) → Prop
noncomputable abbrev TA := St → Hp → (List V → Hp → Prop) → Prop
/-- what is wanted behind a statement -/
structure Ends where
  nx : St → Hp → Prop
  rt : VK
  bk : St → Hp → Prop := fun _ _ => False
  ct : St → Hp → Prop := fun _ _ => False
noncomputable abbrev TS := Ends → St → Hp → Prop

noncomputable def EP (X : Cx) (pins : List (Addr × Obj)) (σ : St) (Q : VK) (u : Value) (s' : Shared) : Prop := ∃ v H', Inv X pins σ H' s' ∧ RelV v u ∧ Q v H'
noncomputable def TP (X : Cx) (pins : List (Addr × Obj)) (σ : St) (Q : Bool → Hp → Prop) (b : Bool) (s' : Shared) : Prop := ∃ H', Inv X pins σ H' s' ∧ Q b H'
noncomputable def AP (X : Cx) (pins : List (Addr × Obj)) (σ : St) (Q : List V → Hp → Prop) (us : List Value) (s' : Shared) : Prop := ∃ vs H', Inv X pins σ H' s' ∧ Vals vs us ∧ Q vs H'
noncomputable def SP (X : Cx) (pins : List (Addr × Obj)) (D : Ends) (f : Flow) (s' : Shared) : Prop :=
  match f with
  | .next => ∃ σ' H', Inv X pins σ' H' s' ∧ D.nx σ' H'
  | .brk => ∃ σ' H', Inv X pins σ' H' s' ∧ D.bk σ' H'
  | .cont => ∃ σ' H', Inv X pins σ' H' s' ∧ D.ct σ' H'
  | .ret u => ∃ v σ' H', Inv X pins σ' H' s' ∧ RelV v u ∧ D.rt v H'

noncomputable def PE (X : Cx) (e : Expr) (t : TE) : Prop :=
  ∀ (pins : List (Addr × Obj)) (s : Shared) (σ : St) (H : Hp) (Q : VK), Inv X pins σ H s → t σ H Q → wpAny (model X.prog X.w) X.A (eval e X.env) (EP X pins σ Q) X.xe s
noncomputable def PT (X : Cx) (e : Expr) (t : TT) : Prop :=
  ∀ (pins : List (Addr × Obj)) (s : Shared) (σ : St) (H : Hp) (Q : Bool → Hp → Prop), Inv X pins σ H s → t σ H Q → wpAny (model X.prog X.w) X.A (isTrue e X.env (eval e X.env)) (TP X pins σ Q) X.xe s
/-- a test whatever its 'whole' is (and, or) -/
noncomputable def PW (X : Cx) (e : Expr) (t : TT) : Prop :=
  ∀ (whole : Sem Value) (pins : List (Addr × Obj)) (s : Shared) (σ : St) (H : Hp) (Q : Bool → Hp → Prop), Inv X pins σ H s → t σ H Q → wpAny (model X.prog X.w) X.A (isTrue e X.env whole) (TP X pins σ Q) X.xe s
theorem PW.pt {X : Cx} {e : Expr} {t : TT} (h : PW X e t) : PT X e t := h _
/-- an argument list (no star), from the left -/
noncomputable def PA (X : Cx) (es : List Expr) (t : TA) : Prop :=
  ∀ (pos : Pos) (pins : List (Addr × Obj)) (s : Shared) (σ : St) (H : Hp) (Q : List V → Hp → Prop), Inv X pins σ H s → t σ H Q → wpAny (model X.prog X.w) X.A (spliced (backTo pos (starEach es X.env))) (AP X pins σ Q) X.xe s
noncomputable def PS (X : Cx) (st : Stmt) (t : TS) : Prop :=
  ∀ (pins : List (Addr × Obj)) (s : Shared) (σ : St) (H : Hp) (D : Ends), Inv X pins σ H s → t D σ H → wpAny (model X.prog X.w) X.A (exec st X.env) (SP X pins D) X.xe s
noncomputable def PSs (X : Cx) (st : List Stmt) (t : TS) : Prop :=
  ∀ (pins : List (Addr × Obj)) (s : Shared) (σ : St) (H : Hp) (D : Ends), Inv X pins σ H s → t D σ H → wpAny (model X.prog X.w) X.A (execs st X.env) (SP X pins D) X.xe s
/-- weaken the end -/
theorem thn {α : Type} {t : Sem α} {Q Q' : α → Shared → Prop} {M : Model} {A : Around} {E : Value → Shared → Prop} {s : Shared} (h : wpAny M A t Q E s) (hQ : ∀ a s, Q a s → Q' a s) : wpAny M A t Q' E s := wpAny_mono h hQ fun _ _ x => x
end L2

namespace L2
open PySem PySem.Spec PyProof.Rows
section
variable {X : Cx}


/-! ### names and constants -/
noncomputable def tVar (i : Nat) : TE := fun σ H Q => ∃ v, σ[i]? = some (some v) ∧ Q v H
noncomputable def tC (v : V) : TE := fun _ H Q => Q v H
theorem pe_var {i : Nat} {x : Str} {pos : Pos} (hN : X.N[i]? = some x) (hv : Vis X.env.scope x) (hd : (x == ("__debug__" : Str)) = false := by decide) (hcd : (x == ("__classdict__" : Str)) = false := by decide) : PE X (.Name x pos) (tVar i) := by
  intro pins s σ H Q I h
  obtain ⟨v, e, h⟩ := h
  obtain ⟨m, hn, hl⟩ := I.loc
  obtain ⟨u, r, l⟩ := hl i x v hN e hv
  have fin : EP X pins σ Q u s := ⟨v, H, I, r, h⟩
  rcases l with ⟨hk, hm⟩ | ⟨hk, c, hc, hcell⟩
  · exact wpAny_Name (wpAny_loadName_local I.ok.kind hk hn hm fin) hd
  · rcases hk with hk | hk
    · exact wpAny_Name (wpAny_loadName_cell I.ok.kind hk hc hcell fin) hd
    · exact wpAny_Name (wpAny_loadName_free I.ok.kind hk hc hcell fin hcd) hd
theorem pe_int {i j pos} : PE X (.Constant (.int i) j pos) (tC (.int i)) := fun _ _ _ H _ I h => wpAny_Constant_int ⟨.int i, H, I.tok _, ⟨_, rfl⟩, h⟩
theorem pe_bl {b j pos} : PE X (.Constant (.bool b) j pos) (tC (.bl b)) := fun _ _ _ H _ I h => Constant_bool ⟨.bl b, H, I, rfl, h⟩
theorem pe_non {j pos} : PE X (.Constant .none j pos) (tC .non) := fun _ _ _ H _ I h => Constant_none ⟨.non, H, I, rfl, h⟩
theorem pe_str {x j pos} : PE X (.Constant (.str x) j pos) (tC (.str x)) := fun _ _ _ H _ I h => Calls.Constant_str ⟨.str x, H, I.tok _, ⟨_, rfl⟩, h⟩

/-- a global name of the def -/
noncomputable def Gl (X : Cx) (x : Str) : Prop := X.env.kindOf x = some .globalImplicit
theorem ld_glob {E : Value → Shared → Prop} {pins : List (Addr × Obj)} {s : Shared} {σ : St} {H : Hp} {x : Str} {u : Value} {pos : Pos} {Q : Value → Shared → Prop} (I : Inv X pins σ H s) (hg : Gl X x) (hm : X.mg x = some u) (h : Q u s)
    (hd : (x == ("__debug__" : Str)) = false := by decide) : wpAny (model X.prog X.w) X.A (eval (.Name x pos) X.env) Q E s :=
  Calls.Name_function_global I.ok.kind hg (Calls.loadGlobal_global (by rw [I.ok.glob]; exact I.mod.glob.keeps I.bk) hm h) hd
theorem ld_blt {E : Value → Shared → Prop} {pins : List (Addr × Obj)} {s : Shared} {σ : St} {H : Hp} {x : Str} {u : Value} {pos : Pos} {Q : Value → Shared → Prop} (I : Inv X pins σ H s) (hg : Gl X x) (hm : X.mg x = none) (hv : bootBuiltins x = some u) (h : Q u s)
    (hn : x ≠ "__name__" := by decide) (hd : (x == ("__debug__" : Str)) = false := by decide) : wpAny (model X.prog X.w) X.A (eval (.Name x pos) X.env) Q E s := by
  obtain ⟨mb, h1, h2⟩ := I.mod.blt
  exact Calls.Name_function_global I.ok.kind hg (Calls.loadGlobal_builtin (by rw [I.ok.glob]; exact I.mod.glob.keeps I.bk) hm (by rw [I.ok.blt]; exact h1.keeps I.bk) ((h2 x hn).trans hv) h) hd
/-- a module's constant, a class, a function, as a value -/
theorem pe_glob {x : Str} {v : V} {u : Value} {pos : Pos} (hg : Gl X x) (hm : X.mg x = some u) (r : RelV v u) (hd : (x == ("__debug__" : Str)) = false := by decide) : PE X (.Name x pos) (tC v) :=
  fun _ _ _ H _ I h => ld_glob I hg hm ⟨v, H, I, r, h⟩ hd
theorem pe_bltn {x : Str} {v : V} {u : Value} {pos : Pos} (hg : Gl X x) (hm : X.mg x = none) (hv : bootBuiltins x = some u) (r : RelV v u) (hn : x ≠ "__name__" := by decide) (hd : (x == ("__debug__" : Str)) = false := by decide) : PE X (.Name x pos) (tC v) :=
  fun _ _ _ H _ I h => ld_blt I hg hm hv ⟨v, H, I, r, h⟩ hn hd

/-! ### arithmetic -/
/-- two ints -/
noncomputable def t2I (ta tb : TE) (k : Int → Int → Hp → Prop) : St → Hp → Prop := fun σ H => ta σ H fun x H1 => tb σ H1 fun y H2 => ∃ i j, x = .int i ∧ y = .int j ∧ k i j H2
noncomputable def tAdd (ta tb : TE) : TE := fun σ H Q => t2I ta tb (fun i j H2 => Q (.int (i + j)) H2) σ H
noncomputable def tSub (ta tb : TE) : TE := fun σ H Q => t2I ta tb (fun i j H2 => Q (.int (i - j)) H2) σ H
/-- the left factor below 2^64 -/
noncomputable def tMul (ta tb : TE) : TE := fun σ H Q => t2I ta tb (fun i j H2 => (-(2 ^ 64) < i ∧ i < 2 ^ 64) ∧ Q (.int (i * j)) H2) σ H
variable {a b : Expr} {ta tb : TE} {pos : Pos}

/-! ### comparisons -/
noncomputable def PC (X : Cx) (op : CmpOp) (a b : Expr) (t : TE) : Prop :=
  ∀ (pins : List (Addr × Obj)) (s : Shared) (σ : St) (H : Hp) (Q : VK), Inv X pins σ H s → t σ H Q →
    wpAny (model X.prog X.w) X.A (eval a X.env) (fun v s₁ => wpAny (model X.prog X.w) X.A (eval b X.env) (fun u s₂ => wpAny (model X.prog X.w) X.A (compareOp op v u) (EP X pins σ Q) X.xe s₂) X.xe s₁) X.xe s
theorem nobehind (b : Expr) {op : CmpOp} (h : op ≠ .In) (h2 : op ≠ .NotIn) : behindInMarks op b = false := by
  have e1 : (op == CmpOp.In) = false := by cases op <;> first | rfl | exact absurd rfl h
  have e2 : (op == CmpOp.NotIn) = false := by cases op <;> first | rfl | exact absurd rfl h2
  cases b <;> simp [behindInMarks, e1, e2]
noncomputable def tCmp (p : Int → Int → Bool) (ta tb : TE) : TE := fun σ H Q => t2I ta tb (fun i j H2 => Q (.bl (p i j)) H2) σ H
noncomputable abbrev tLt : TE → TE → TE := tCmp fun i j => decide (i < j)
noncomputable abbrev tLe : TE → TE → TE := tCmp fun i j => decide (i ≤ j)
noncomputable abbrev tGt : TE → TE → TE := tCmp fun i j => decide (j < i)
noncomputable abbrev tGe : TE → TE → TE := tCmp fun i j => decide (j ≤ i)
noncomputable abbrev tEqI : TE → TE → TE := tCmp fun i j => decide (i = j)
noncomputable abbrev tNeI : TE → TE → TE := tCmp fun i j => !decide (i = j)
/-- is None -/
noncomputable def tIsN (ta : TE) : TE := fun σ H Q => ta σ H fun x H1 => Q (.bl (decide (x = .non))) H1
noncomputable def tNotN (ta : TE) : TE := fun σ H Q => ta σ H fun x H1 => Q (.bl (!decide (x = .non))) H1
theorem RelV.none_iff {x : V} {v : Value} (r : RelV x v) : (v == Value.none) = decide (x = .non) := by
  cases x with
  | non => cases r; rfl
  | bl _ => cases r; rfl
  | int _ => obtain ⟨t, rfl⟩ := r; rfl
  | str _ => obtain ⟨t, rfl⟩ := r; rfl
  | byt _ => obtain ⟨t, rfl⟩ := r; rfl
  | flt _ => obtain ⟨t, rfl⟩ := r; rfl
  | ref _ => cases r; rfl
  | ty _ => cases r; rfl
theorem pc_isN {j pos'} (ha : PE X a ta) : PC X .Is a (.Constant .none j pos') (tIsN ta) := by
  intro pins s σ H Q I h
  refine thn (ha pins s σ H _ I h) fun v s1 ⟨x, H1, I1, r1, q1⟩ => ?_
  exact Constant_none (is_none_gen ⟨.bl _, H1, I1, by rw [r1.none_iff]; rfl, q1⟩)
/-- a comparison as a value, as a test -/
noncomputable def tB (t : TE) : TT := fun σ H Q => t σ H fun x H1 => ∃ c, x = .bl c ∧ Q c H1
theorem pt_cmp {op : CmpOp} {t : TE} (h : PC X op a b t) (h1 : behindInMarks op b = false := by first | exact nobehind _ (by decide) (by decide) | rfl) : PT X (.Compare a [op] [b] pos) (tB t) := by
  intro pins s σ H Q I hw
  refine wpAny_isTrue_Compare1 (thn (h pins s σ H _ I hw) fun v s1 h1 => thn h1 fun u s2 h2 => thn h2 fun c s3 ⟨x, H1, I1, r1, q1⟩ => ?_) h1
  obtain ⟨d, rfl, q⟩ := q1
  cases r1
  exact wpAny_truthy_bool ⟨H1, I1, q⟩
/-- an expression whose value is a bool, as a test -/
theorem pt_val {e : Expr} {t : TE} (h : PE X e t) (he : ∀ whole, isTrue e X.env whole = (do let v ← whole; standAt e.pos; holding [v] (truthy v)) := by intro _; rfl) : PT X e (tB t) := by
  intro pins s σ H Q I hw
  refine isTrue_plain (thn (h pins s σ H _ I hw) fun v s1 ⟨x, H1, I1, r1, q1⟩ => ?_) (he _)
  obtain ⟨d, rfl, q⟩ := q1
  cases r1
  exact wpAny_truthy_bool ⟨H1, I1, q⟩

/-! ### and, or, not -/
variable {tA tB' : TT} {rest : List Expr}
noncomputable def tAnd (t u : TT) : TT := fun σ H Q => t σ H fun c H1 => if c = true then u σ H1 Q else Q false H1
noncomputable def tOr (t u : TT) : TT := fun σ H Q => t σ H fun c H1 => if c = true then Q true H1 else u σ H1 Q
noncomputable def tNot (t : TT) : TT := fun σ H Q => t σ H fun c H1 => Q (!c) H1
theorem pw_and1 (ha : PT X a tA) : PW X (.BoolOp .And [a] pos) tA := by
  intro wh pins s σ H Q I h
  refine isTrue_and (thn (ha pins s σ H Q I h) fun c s1 e => ?_)
  cases c with
  | true => exact isTrue_and_nil e
  | false => exact e
theorem pw_or1 (ha : PT X a tA) : PW X (.BoolOp .Or [a] pos) tA := by
  intro wh pins s σ H Q I h
  refine isTrue_or (thn (ha pins s σ H Q I h) fun c s1 e => ?_)
  cases c with
  | false => exact isTrue_or_nil e
  | true => exact e
theorem pw_and (ha : PT X a tA) (hb : PW X (.BoolOp .And (b :: rest) pos) tB') : PW X (.BoolOp .And (a :: b :: rest) pos) (tAnd tA tB') := by
  intro wh pins s σ H Q I h
  refine isTrue_and (thn (ha pins s σ H _ I h) fun c s1 ⟨H1, I1, q1⟩ => ?_)
  cases c with
  | true => exact hb wh pins s1 σ H1 Q I1 q1
  | false => exact ⟨H1, I1, q1⟩
theorem pw_or (ha : PT X a tA) (hb : PW X (.BoolOp .Or (b :: rest) pos) tB') : PW X (.BoolOp .Or (a :: b :: rest) pos) (tOr tA tB') := by
  intro wh pins s σ H Q I h
  refine isTrue_or (thn (ha pins s σ H _ I h) fun c s1 ⟨H1, I1, q1⟩ => ?_)
  cases c with
  | true => exact ⟨H1, I1, q1⟩
  | false => exact hb wh pins s1 σ H1 Q I1 q1
theorem pt_not (ha : PT X a tA) : PT X (.UnaryOp .Not a pos) (tNot tA) := by
  intro pins s σ H Q I h
  exact isTrue_not (ha pins s σ H (fun c H1 => Q (!c) H1) I h)
/-- .. as values (bools) -/
noncomputable def tAndV (ta tb : TE) : TE := fun σ H Q => ta σ H fun x H1 => ∃ c, x = .bl c ∧ if c = true then tb σ H1 Q else Q (.bl false) H1
noncomputable def tOrV (ta tb : TE) : TE := fun σ H Q => ta σ H fun x H1 => ∃ c, x = .bl c ∧ if c = true then Q (.bl true) H1 else tb σ H1 Q
noncomputable def tNotV (ta : TE) : TE := fun σ H Q => ta σ H fun x H1 => ∃ c, x = .bl c ∧ Q (.bl (!c)) H1
theorem pe_one {op} {t : TE} (h : PE X a t) : PE X (.BoolOp op [a] pos) t := fun pins s σ H Q I hw => BoolOp_one (h pins s σ H Q I hw)
theorem pe_and (ha : PE X a ta) (hb : PE X (.BoolOp .And (b :: rest) pos) tb) : PE X (.BoolOp .And (a :: b :: rest) pos) (tAndV ta tb) := by
  intro pins s σ H Q I h
  refine BoolOp_and (thn (ha pins s σ H _ I h) fun v s1 ⟨x, H1, I1, r1, q1⟩ => ?_)
  obtain ⟨c, rfl, q1⟩ := q1
  cases r1
  refine wpAny_truthy_bool ?_
  cases c with
  | true => exact hb pins s1 σ H1 Q I1 q1
  | false => exact ⟨.bl false, H1, I1, rfl, q1⟩
theorem pe_or (ha : PE X a ta) (hb : PE X (.BoolOp .Or (b :: rest) pos) tb) : PE X (.BoolOp .Or (a :: b :: rest) pos) (tOrV ta tb) := by
  intro pins s σ H Q I h
  refine BoolOp_or (thn (ha pins s σ H _ I h) fun v s1 ⟨x, H1, I1, r1, q1⟩ => ?_)
  obtain ⟨c, rfl, q1⟩ := q1
  cases r1
  refine wpAny_truthy_bool ?_
  cases c with
  | false => exact hb pins s1 σ H1 Q I1 q1
  | true => exact ⟨.bl true, H1, I1, rfl, q1⟩
/-- a if t else b -/
noncomputable def tIf (t : TT) (ta tb : TE) : TE := fun σ H Q => t σ H fun c H1 => if c = true then ta σ H1 Q else tb σ H1 Q
theorem pe_ifExp {c : Expr} (hc : PT X c tA) (ha : PE X a ta) (hb : PE X b tb) : PE X (.IfExp c a b pos) (tIf tA ta tb) := by
  intro pins s σ H Q I h
  refine wpAny_IfExp (thn (hc pins s σ H _ I h) fun d s1 ⟨H1, I1, q1⟩ => ?_)
  cases d with
  | true => exact ha pins s1 σ H1 Q I1 q1
  | false => exact hb pins s1 σ H1 Q I1 q1
end
end L2

namespace L2
open PySem PySem.Spec PyProof.Rows

/-! ### a list, a tuple that is read: tracked, frozen, or an object of the module -/
noncomputable def SqL (K : PySem.W.Frag) (H : Hp) (a : Addr) (xs : List V) : Prop :=
  Rd H a (.lst xs) ∨
    ∃ (o : Obj) (its : Array Value) (n : Nat), K.lookup a = some o ∧ o.cls = .type "list" ∧ o.dict = none ∧ o.data = .seq its n ∧ its.size ≤ sizeLine ∧ Vals xs its.toList
noncomputable def SqT (K : PySem.W.Frag) (H : Hp) (a : Addr) (xs : List V) : Prop :=
  Rd H a (.tup xs) ∨
    ∃ (o : Obj) (its : Array Value) (n : Nat), K.lookup a = some o ∧ o.cls = .type "tuple" ∧ o.data = .seq its n ∧ its.size ≤ sizeLine ∧ Vals xs its.toList
noncomputable def absV : Value → Option V
  | .none => some .non
  | .bool b => some (.bl b)
  | .int i _ => some (.int i)
  | .str x _ => some (.str x)
  | .bytes b _ => some (.byt b)
  | .float b _ => some (.flt b)
  | .ref a => some (.ref a)
  | .type n => some (.ty n)
  | _ => none
theorem RelV.abs {x : V} {u : Value} (r : RelV x u) : absV u = some x := by
  cases x with
  | non => cases r; rfl
  | bl _ => cases r; rfl
  | int _ => obtain ⟨t, rfl⟩ := r; rfl
  | str _ => obtain ⟨t, rfl⟩ := r; rfl
  | byt _ => obtain ⟨t, rfl⟩ := r; rfl
  | flt _ => obtain ⟨t, rfl⟩ := r; rfl
  | ref _ => cases r; rfl
  | ty _ => cases r; rfl
theorem RelV.inj {x y : V} {u : Value} (r : RelV x u) (q : RelV y u) : x = y := Option.some.inj (r.abs.symm.trans q.abs)
theorem Vals.inj : ∀ {xs ys : List V} {us : List Value}, Vals xs us → Vals ys us → xs = ys
  | _, _, _, .nil, .nil => rfl
  | _, _, _, .cons r t, .cons r' t' => by rw [r.inj r', Vals.inj t t']
section
variable {X : Cx} {pins : List (Addr × Obj)} {σ : St} {H : Hp} {s : Shared} {a : Addr} {xs ys : List V}
theorem SqL.of {K : PySem.W.Frag} (h : H a = some (.lst xs)) : SqL K H a xs := .inl (.inl h)
theorem SqT.of {K : PySem.W.Frag} (h : H a = some (.tup xs)) : SqT K H a xs := .inl (.inl h)
theorem Inv.list (I : Inv X pins σ H s) (h : SqL X.K H a xs) : ∃ its : List Value, Vals xs its ∧ PlainL s.heap a its.toArray ∧ xs.length ≤ sizeLine := by
  rcases h with h | ⟨o, its, n, hk, hc, hd, hs, hz, r⟩
  · obtain ⟨z, its, n, r, e⟩ := h.ok I.hok
    exact ⟨its, r, ⟨_, n, e, rfl, rfl, rfl⟩, z⟩
  · refine ⟨its.toList, r, ⟨o, n, I.kIn a o hk, hc, hd, by simpa using hs⟩, ?_⟩
    have e := r.length
    simp only [Array.length_toList] at e
    omega
theorem Inv.tuple (I : Inv X pins σ H s) (h : SqT X.K H a xs) : ∃ its : List Value, Vals xs its ∧ IsTup s.heap a its.toArray ∧ xs.length ≤ sizeLine := by
  rcases h with h | ⟨o, its, n, hk, hc, hs, hz, r⟩
  · obtain ⟨z, its, r, p⟩ := h.ok I.hok
    exact ⟨its, r, p, z⟩
  · refine ⟨its.toList, r, ⟨o, I.kIn a o hk, hc, n, by simpa using hs⟩, ?_⟩
    have e := r.length
    simp only [Array.length_toList] at e
    omega
theorem Inv.list_inj (I : Inv X pins σ H s) (h : SqL X.K H a xs) (h' : SqL X.K H a ys) : xs = ys := by
  obtain ⟨its, r, ⟨o, n, e, _, _, d⟩, _⟩ := I.list h
  obtain ⟨its', r', ⟨o', n', e', _, _, d'⟩, _⟩ := I.list h'
  rw [e] at e'; cases e'
  rw [d] at d'
  injection d' with d1 _
  have : its = its' := by simpa using congrArg Array.toList d1
  subst this
  exact r.inj r'
theorem Inv.tuple_inj (I : Inv X pins σ H s) (h : SqT X.K H a xs) (h' : SqT X.K H a ys) : xs = ys := by
  obtain ⟨its, r, ⟨o, e, _, n, d⟩, _⟩ := I.tuple h
  obtain ⟨its', r', ⟨o', e', _, n', d'⟩, _⟩ := I.tuple h'
  rw [e] at e'; cases e'
  rw [d] at d'
  injection d' with d1 _
  have : its = its' := by simpa using congrArg Array.toList d1
  subst this
  exact r.inj r'
end

/-! ### another wish about exceptions -/
noncomputable abbrev Cx.wish (X : Cx) (E : Value → Shared → Prop) : Cx := { X with xe := E }
/-- no exception leaves -/
noncomputable abbrev Cx.nox (X : Cx) : Cx := X.wish fun _ _ => False
theorem Cx.Ok.wish {X : Cx} (ok : X.Ok) (E : Value → Shared → Prop) : (X.wish E).Ok :=
  ⟨ok.mod, ok.kind, ok.glob, ok.blt, ok.above, ok.inj, ok.has, ok.cab, ok.hd, ok.frames, ok.stk, ok.exf, ok.bs, ok.bsz, ok.noex, ok.exfs, ok.funs, ok.frf⟩
theorem Cx.Ok.unwish {X : Cx} {E : Value → Shared → Prop} (ok : (X.wish E).Ok) : X.Ok :=
  ⟨ok.mod, ok.kind, ok.glob, ok.blt, ok.above, ok.inj, ok.has, ok.cab, ok.hd, ok.frames, ok.stk, ok.exf, ok.bs, ok.bsz, ok.noex, ok.exfs, ok.funs, ok.frf⟩
section
variable {X : Cx} {pins : List (Addr × Obj)} {σ : St} {H : Hp} {s : Shared} {E : Value → Shared → Prop}
theorem Inv.wish (I : Inv X pins σ H s) (E : Value → Shared → Prop) : Inv (X.wish E) pins σ H s := ⟨I.ok.wish E, I.os, I.bare, I.base, I.loc, I.cell, I.free, I.freeC, I.pin, I.hok, I.len⟩
theorem Inv.unwish (I : Inv (X.wish E) pins σ H s) : Inv X pins σ H s := ⟨I.ok.unwish, I.os, I.bare, I.base, I.loc, I.cell, I.free, I.freeC, I.pin, I.hok, I.len⟩
theorem SP.unwish {D : Ends} {f : Flow} {s' : Shared} (h : SP (X.wish E) pins D f s') : SP X pins D f s' := by
  cases f with
  | next => obtain ⟨σ', H', I, q⟩ := h; exact ⟨σ', H', I.unwish, q⟩
  | brk => obtain ⟨σ', H', I, q⟩ := h; exact ⟨σ', H', I.unwish, q⟩
  | cont => obtain ⟨σ', H', I, q⟩ := h; exact ⟨σ', H', I.unwish, q⟩
  | ret u => obtain ⟨v, σ', H', I, r, q⟩ := h; exact ⟨v, σ', H', I.unwish, r, q⟩
theorem PE.nox {e : Expr} {t : TE} (h : PE X.nox e t) : PE X e t := fun pins s σ H Q I hw =>
  wpAny_mono (h pins s σ H Q (I.wish _) hw) (fun _ _ ⟨v, H', I', r, q⟩ => ⟨v, H', I'.unwish, r, q⟩) fun _ _ z => False.elim z
theorem PT.nox {e : Expr} {t : TT} (h : PT X.nox e t) : PT X e t := fun pins s σ H Q I hw =>
  wpAny_mono (h pins s σ H Q (I.wish _) hw) (fun _ _ ⟨H', I', q⟩ => ⟨H', I'.unwish, q⟩) fun _ _ z => False.elim z
theorem PSs.nox {st : List Stmt} {t : TS} (h : PSs X.nox st t) : PSs X st t := fun pins s σ H D I hw =>
  wpAny_mono (h pins s σ H D (I.wish _) hw) (fun _ _ q => q.unwish) fun _ _ z => False.elim z
end

/-! ### blocks and small statements -/
section
variable {X : Cx} {st : Stmt} {rest : List Stmt} {t u : TS} {e : Expr} {te : TE} {pos : Pos}
noncomputable def tNext : TS := fun D σ H => D.nx σ H
noncomputable def tSeq (t u : TS) : TS := fun D σ H => t { D with nx := u D } σ H
theorem pss_nil : PSs X [] tNext := fun _ _ σ H _ I h => wpAny_execs_nil ⟨σ, H, I, h⟩
theorem pss_cons (h1 : PS X st t) (h2 : PSs X rest u) : PSs X (st :: rest) (tSeq t u) := by
  intro pins s σ H D I h
  refine wpAny_execs_cons (thn (h1 pins s σ H { D with nx := u D } I h) fun f s1 q => ?_)
  cases f with
  | next =>
    obtain ⟨σ', H', I', q⟩ := q
    exact h2 pins s1 σ' H' D I' q
  | ret v => exact q
  | brk => exact q
  | cont => exact q
theorem pss_one (h1 : PS X st t) : PSs X [st] t := by
  intro pins s σ H D I h
  refine wpAny_execs_cons (thn (h1 pins s σ H D I h) fun f s1 q => ?_)
  cases f with
  | next => exact wpAny_execs_nil q
  | ret v => exact q
  | brk => exact q
  | cont => exact q
noncomputable def tBreak : TS := fun D σ H => D.bk σ H
noncomputable def tCont : TS := fun D σ H => D.ct σ H
/-- in a def's body nothing is shown -/
theorem Inv.quiet {pins : List (Addr × Obj)} {σ : St} {H : Hp} {s : Shared} (I : Inv X pins σ H s) : interactive X.env = false := by simp [interactive, I.ok.kind]
/-- an expression whose value is dropped -/
noncomputable def tDrop (te : TE) : TS := fun D σ H => te σ H fun _ H1 => D.nx σ H1
theorem ps_expr (he : PE X e te) (hs : swapsWith e none pos.line X.env = pure false := by rfl) : PS X (.Expr e pos) (tDrop te) := by
  intro pins s σ H D I h
  exact wpAny_Expr_any (thn (he pins s σ H _ I h) fun v s1 ⟨x, H1, I1, r1, q1⟩ => ⟨σ, H1, I1, q1⟩) I.quiet hs
noncomputable def tRet (te : TE) : TS := fun D σ H => te σ H D.rt
theorem ps_ret (he : PE X e te) : PS X (.Return (some e) pos) (tRet te) := by
  intro pins s σ H D I h
  exact wpAny_Return_some (thn (he pins s σ H _ I h) fun v s1 ⟨x, H1, I1, r1, q1⟩ => ⟨x, σ, H1, I1, r1, q1⟩)
noncomputable def tRetN : TS := fun D _ H => D.rt .non H
noncomputable def tIfS (c : TT) (t u : TS) : TS := fun D σ H => c σ H fun b H1 => if b = true then t D σ H1 else u D σ H1
theorem ps_if {c : Expr} {a b : List Stmt} {tc : TT} (hc : PT X c tc) (ha : PSs X a t) (hb : PSs X b u) : PS X (.If c a b pos) (tIfS tc t u) := by
  intro pins s σ H D I h
  refine wpAny_If (thn (hc pins s σ H _ I h) fun d s1 ⟨H1, I1, q1⟩ => ?_)
  cases d with
  | true => exact ha pins s1 σ H1 D I1 q1
  | false => exact hb pins s1 σ H1 D I1 q1
/-- code that the proof never comes to -/
noncomputable def tNever : TS := fun _ _ _ => False
end

/-! ### targets -/
noncomputable abbrev TG := V → St → Hp → (St → Hp → Prop) → Prop
noncomputable abbrev TGs := List V → St → Hp → (St → Hp → Prop) → Prop
noncomputable def PG (X : Cx) (target : Expr) (t : TG) : Prop :=
  ∀ (pins : List (Addr × Obj)) (s : Shared) (σ : St) (H : Hp) (v : V) (u : Value) (Q : St → Hp → Prop), Inv X pins σ H s → RelV v u → t v σ H Q →
    wpAny (model X.prog X.w) X.A (assign target X.env u) (fun _ s' => ∃ σ' H', Inv X pins σ' H' s' ∧ Q σ' H') X.xe s
/-- several targets, one after another -/
noncomputable def PGs (X : Cx) (ts : List Expr) (t : TGs) : Prop :=
  ∀ (pins : List (Addr × Obj)) (s : Shared) (σ : St) (H : Hp) (vs : List V) (us : List Value) (Q : St → Hp → Prop), Inv X pins σ H s → Vals vs us → t vs σ H Q →
    wpAny (model X.prog X.w) X.A (assignInOrder ((assignEach ts X.env).map (·.2)) us) (fun _ s' => ∃ σ' H', Inv X pins σ' H' s' ∧ Q σ' H') X.xe s
/-- o[i] = v, by values -/
noncomputable abbrev TSet := V → V → V → Hp → (Hp → Prop) → Prop
noncomputable def PSet (X : Cx) (t : TSet) : Prop :=
  ∀ (pins : List (Addr × Obj)) (s : Shared) (σ : St) (H : Hp) (o i v : V) (ov iv u : Value) (Q : Hp → Prop), Inv X pins σ H s → RelV o ov → RelV i iv → RelV v u → t o i v H Q →
    wpAny (model X.prog X.w) X.A (setItem ov iv u) (fun _ s' => ∃ H', Inv X pins σ H' s' ∧ Q H') X.xe s
/-- a op= b, by values -/
noncomputable abbrev TIp := V → V → Hp → VK → Prop
noncomputable def PIp (X : Cx) (op : Operator) (t : TIp) : Prop :=
  ∀ (pins : List (Addr × Obj)) (s : Shared) (σ : St) (H : Hp) (x y : V) (v u : Value) (Q : VK), Inv X pins σ H s → RelV x v → RelV y u → t x y H Q →
    wpAny (model X.prog X.w) X.A (inplaceOp op v u) (EP X pins σ Q) X.xe s
section
variable {X : Cx} {pos : Pos}
noncomputable def gName (i : Nat) : TG := fun v σ H Q => Q (σ.set i (some v)) H
theorem pg_name {i : Nat} {x : Str} (hN : X.N.Nodup) (hi : X.N[i]? = some x) (hx : Loc X.env.scope x) (hf : X.fn x = true ∨ X.env.scope.names.lookup x = some .local := by first | exact .inl rfl | exact .inr rfl | assumption) : PG X (.Name x pos) (gName i) := by
  intro pins s σ H v u Q I r h
  exact wpAny_assign_Name (store_ok I hN hi hx r (fun s' I' => ⟨_, H, I', h⟩) hf)
noncomputable def gNil : TGs := fun vs σ H Q => vs = [] ∧ Q σ H
noncomputable def gCons (t : TG) (u : TGs) : TGs := fun vs σ H Q => ∃ v r, vs = v :: r ∧ t v σ H fun σ' H' => u r σ' H' Q
theorem pgs_nil : PGs X [] gNil := by
  intro pins s σ H vs us Q I r h
  obtain ⟨e, h⟩ := h
  subst e
  cases r
  exact assignInOrder_nil ⟨σ, H, I, h⟩
theorem pgs_cons {e : Expr} {es : List Expr} {t : TG} {u : TGs} (h1 : PG X e t) (h2 : PGs X es u)
    (hs : (assignEach (e :: es) X.env).map (·.2) = assign e X.env :: (assignEach es X.env).map (·.2) := by rfl) : PGs X (e :: es) (gCons t u) := by
  intro pins s σ H vs us Q I r h
  obtain ⟨v, vr, e1, h⟩ := h
  subst e1
  cases r with
  | cons r rr =>
    rw [hs]
    refine assignInOrder_cons (thn (h1 pins s σ H _ _ _ I r h) fun _ s1 ⟨σ1, H1, I1, q1⟩ => ?_)
    exact h2 pins s1 σ1 H1 _ _ Q I1 rr q1
/-- (a, b, ..) = a tuple of that length -/
noncomputable def gTup (K : PySem.W.Frag) (n : Nat) (t : TGs) : TG := fun v σ H Q => ∃ a xs, v = .ref a ∧ SqT K H a xs ∧ xs.length = n ∧ t xs σ H Q
theorem pg_tup {es : List Expr} {k : Nat} {t : TGs} {n : Nat} (hc : X.calm = true) (h : PGs X es t)
    (hn : (assignEach es X.env).length = n := by rfl) (hst : (assignEach es X.env).findIdx? (·.1) = none := by rfl) : PG X (.Tuple es k pos) (gTup X.K n t) := by
  intro pins s σ H v u Q I r hw
  obtain ⟨a, xs, e1, hq, hl, hw⟩ := hw
  subst e1
  cases r
  obtain ⟨its, rv, ht, hz⟩ := I.tuple hq
  refine assign_Tuple_tuple (I.ok.hd hc) ht (by simp [hn, ← hl, rv.length]) hst fun h' hx => ?_
  have I1 : Inv X pins σ H { s with heap := h' } := I.kept (t' := s.toks) fun b o e => hx b o (Nat.ne_of_lt (Heap.lt_size e)) e
  exact h pins _ σ H xs _ Q I1 (by simpa using rv) hw
/-- o[i] = .. -/
noncomputable def gSub (to ti : TE) (t : TSet) : TG := fun v σ H Q => to σ H fun o H1 => ti σ H1 fun i H2 => t o i v H2 fun H3 => Q σ H3
theorem pg_sub {o i : Expr} {to ti : TE} {t : TSet} (ho : PE X o to) (hi : PE X i ti) (hs : PSet X t)
    (ha : ∀ v, assign (.Subscript o i pos) X.env v = (do
      let ov ← holding [v] (eval o X.env)
      let iv ← holding [v, ov] (eval i X.env)
      standAt pos
      holding [v, ov, iv] (setItem ov iv v)
      release [v, ov, iv] []) := by intro _; rfl) : PG X (.Subscript o i pos) (gSub to ti t) := by
  intro pins s σ H v u Q I r h
  rw [ha]
  refine wpAny_bind (wpAny_holding (thn (ho pins s σ H _ I h) fun ov s1 ⟨x, H1, I1, r1, q1⟩ => ?_))
  refine wpAny_bind (wpAny_holding (thn (hi pins s1 σ H1 _ I1 q1) fun iv s2 ⟨y, H2, I2, r2, q2⟩ => ?_))
  refine wpAny_bind (wpAny_standAt (wpAny_bind (wpAny_holding (thn (hs pins s2 σ H2 x y v ov iv u _ I2 r1 r2 r q2) fun _ s3 ⟨H3, I3, q3⟩ => ?_))))
  exact wpAny_release ⟨σ, H3, I3, q3⟩
/-- target = value -/
noncomputable def tAsg (te : TE) (g : TG) : TS := fun D σ H => te σ H fun x H1 => g x σ H1 D.nx
theorem ps_asg {tg e : Expr} {te : TE} {g : TG} (he : PE X e te) (hg : PG X tg g) (hs : swapsWithSole [tg] e pos.line X.env = pure false := by rfl) (hw : swappedStores [tg] e X.env = pure none := by rfl)
    (h1 : (assignEach [tg] X.env).map (·.2) = [assign tg X.env] := by rfl) : PS X (.Assign [tg] e pos) (tAsg te g) := by
  intro pins s σ H D I h
  refine wpAny_Assign_stores (thn (he pins s σ H _ I h) fun v s1 ⟨x, H1, I1, r1, q1⟩ => ?_) hs hw
  rw [h1]
  exact thn (hg pins s1 σ H1 x v _ I1 r1 q1) fun _ s2 q => q
/-- name = value -/
theorem ps_set {i : Nat} {x : Str} {e : Expr} {te : TE} {pos' : Pos} (hN : X.N.Nodup) (hi : X.N[i]? = some x) (hx : Loc X.env.scope x) (he : PE X e te) (hs : swapsWith e (some (.Name x pos')) pos.line X.env = pure false := by rfl) (hf : X.fn x = true ∨ X.env.scope.names.lookup x = some .local := by first | exact .inl rfl | exact .inr rfl | assumption) :
    PS X (.Assign [.Name x pos'] e pos) (tAsg te (gName i)) := by
  intro pins s σ H D I h
  refine wpAny_Assign_Name (thn (he pins s σ H _ I h) fun v s1 ⟨y, H1, I1, r1, q1⟩ => ?_) hs
  exact store_ok I1 hN hi hx r1 (fun s2 I2 => ⟨_, H1, I2, q1⟩) hf
/-- a, b = x, y with plain local names: stored from the right; the pair itself is not tracked (the opening rows as in PyProof/Rows/TupAssign.lean:23) -/
noncomputable def tPar (i j : Nat) (ta : TA) : TS := fun D σ H => ta σ H fun vs H1 => ∃ v w, vs = [v, w] ∧ D.nx ((σ.set i (some v)).set j (some w)) H1
/-- name op= e -/
noncomputable def tAug (i : Nat) (te : TE) (ti : TIp) : TS := fun D σ H => ∃ x, σ[i]? = some (some x) ∧ te σ H fun y H1 => ti x y H1 fun z H2 => D.nx (σ.set i (some z)) H2
/-- o[i] op= e -/
noncomputable def tAugS (to ti te : TE) (tget : V → V → Hp → VK → Prop) (tip : TIp) (tset : TSet) : TS := fun D σ H => to σ H fun o H1 => ti σ H1 fun i H2 => tget o i H2 fun x H3 => te σ H3 fun y H4 => tip x y H4 fun z H5 => tset o i z H5 fun H6 => D.nx σ H6
/-- o[i], by values -/
noncomputable def PGet (X : Cx) (t : V → V → Hp → VK → Prop) : Prop :=
  ∀ (pins : List (Addr × Obj)) (s : Shared) (σ : St) (H : Hp) (o i : V) (ov iv : Value) (Q : VK), Inv X pins σ H s → RelV o ov → RelV i iv → t o i H Q →
    wpAny (model X.prog X.w) X.A (getItem ov iv) (EP X pins σ Q) X.xe s
/-- ints -/
noncomputable def ipI (f : Int → Int → Int) : TIp := fun x y H Q => ∃ i j, x = .int i ∧ y = .int j ∧ Q (.int (f i j)) H
end

/-! ### while -/
section
variable {X : Cx} {pos : Pos}
/-- the invariant W with its measure -/
noncomputable def tWhile (c : TT) (tb : TS) : TS := fun D σ H => ∃ W : Nat → St → Hp → Prop, (∃ m, W m σ H) ∧ ∀ m σ H, W m σ H →
  c σ H fun b H1 => if b = true then ∃ N : St → Hp → Prop, (∀ σ' H', N σ' H' → ∃ m', m' < m ∧ W m' σ' H') ∧ tb { D with nx := N, ct := N, bk := D.nx } σ H1 else D.nx σ H1
end

/-! ### what a loop or a comprehension walks -/
/-- at turn i: it yields x (the heap may grow), or it stops -/
structure It where
  go : Nat → Hp → Prop
  yld : Nat → Hp → V → Hp → Prop
  stop : Nat → Hp → Prop
/-- the iterator's own objects may turn: they are not the frame's, not pinned, younger than the entry (or a comprehension's own) -/
noncomputable def FpOk (X : Cx) (pins : List (Addr × Obj)) (H : Hp) (b : Addr) : Prop :=
  H b = none ∧ b ≠ X.env.locals ∧ b ∉ X.fs ∧ (b ∈ X.ex ∨ X.s₀.heap.objs.size ≤ b) ∧ (∀ x c, X.env.cells.lookup x = some c → c ≠ b) ∧ ∀ p ∈ X.pn ++ pins, p.1 ≠ b
theorem Inv.fpOk {X : Cx} {pins : List (Addr × Obj)} {σ : St} {H H' : Hp} {s : Shared} {b : Addr} (I : Inv X pins σ H s) (hb : s.heap.objs.size ≤ b) (hn : H' b = none) : FpOk X pins H' b := by
  refine ⟨hn, Nat.ne_of_gt (Nat.lt_of_lt_of_le I.lt hb), I.nofs hb, .inr (Nat.le_trans I.sz hb), fun x c e z => ?_, fun p hp z => ?_⟩
  · obtain ⟨v, q⟩ := I.cell x c e
    exact absurd (Nat.lt_of_lt_of_le q.lt (by rw [z]; exact hb)) (Nat.lt_irrefl _)
  · exact absurd (Nat.lt_of_lt_of_le (Heap.lt_size (I.pin p hp).1) (by rw [z]; exact hb)) (Nat.lt_irrefl _)
structure Turn (P : Program) (w : World) (K : PySem.W.Frag) (tg : Expr) (J : It) (fp : List Addr) (it : Addr) (tn : Nat → Heap → Prop) : Prop where
  mem : it ∈ fp
  obj : ∀ i h, tn i h → ∀ b ∈ fp, ∃ o, h.get? b = some o ∧ ∀ v, o.data ≠ .cell v
  keep : ∀ i h h', tn i h → (∀ b ∈ fp, ∀ o, h.get? b = some o → h'.get? b = some o) → tn i h'
  item : ∀ (X : Cx), X.prog = P → X.w = w → X.K = K → X.calm = true → ∀ (i : Nat) (pins : List (Addr × Obj)) (s : Shared) (σ : St) (H : Hp) (E : Value → Shared → Prop), Inv X pins σ H s → (∀ b ∈ fp, FpOk X pins H b) → tn i s.heap → J.go i H →
    wpAny (model P w) X.A (pyNext (.ref it)) (fun r s1 => ∃ u, r = some u ∧
      wpAny (model P w) X.A (letOwnedTupleGo tg (.ref it) u) (fun _ s2 => ∃ x H', Inv X pins σ H' s2 ∧ RelV x u ∧ J.yld i H x H' ∧ tn (i + 1) s2.heap ∧ ∀ b ∈ fp, H' b = none) E s1) E s
  done : ∀ (X : Cx), X.prog = P → X.w = w → X.K = K → X.calm = true → ∀ (i : Nat) (pins : List (Addr × Obj)) (s : Shared) (σ : St) (H : Hp) (E : Value → Shared → Prop), Inv X pins σ H s → (∀ b ∈ fp, FpOk X pins H b) → tn i s.heap → J.stop i H →
    wpAny (model P w) X.A (pyNext (.ref it)) (fun r s1 => r = none ∧ Inv X pins σ H s1) E s
  self : ∀ (A : Around) (i : Nat) (s : Shared) (Q : Value → Shared → Prop) (E : Value → Shared → Prop), tn i s.heap → Q (.ref it) s → wpAny (model P w) A (pyIter (.ref it)) Q E s
noncomputable abbrev TI := St → Hp → (It → Hp → Prop) → Prop
/-- an iterator has come -/
noncomputable def PIE (X : Cx) (pins : List (Addr × Obj)) (σ : St) (tg : Expr) (R : It → Hp → Prop) (itv : Value) (s2 : Shared) : Prop :=
  ∃ (it : Addr) (fp : List Addr) (tn : Nat → Heap → Prop) (J : It) (H' : Hp), itv = .ref it ∧ Inv X pins σ H' s2 ∧ Turn X.prog X.w X.K tg J fp it tn ∧ tn 0 s2.heap ∧ (∀ b ∈ fp, FpOk X pins H' b) ∧ R J H'
noncomputable def PI (X : Cx) (tg iter : Expr) (wi : TI) : Prop :=
  ∀ (pins : List (Addr × Obj)) (s : Shared) (σ : St) (H : Hp) (R : It → Hp → Prop), Inv X pins σ H s → wi σ H R →
    wpAny (model X.prog X.w) X.A (eval iter X.env) (fun v s1 => wpAny (model X.prog X.w) X.A (pyIter v) (PIE X pins σ tg R) X.xe s1) X.xe s

/-- the step ahead of the store is nothing for an iterator that keeps no tuple -/
theorem go_of {M : Model} {A : Around} {E : Value → Shared → Prop} {s : Shared} {tg : Expr} {it : Addr} {u : Value} {o : Obj} {n : String} {vs : Array Value} {Q : Unit → Shared → Prop} (ho : s.heap.get? it = some o) (hc : o.cls = .type n) (hd : o.data = .fields vs)
    (hn : ["enumerate", "zip", "dict_itemiterator", "dict_reverseitemiterator", "odict_iterator", "itertools.zip_longest", "itertools.pairwise"].contains n = false) (hQ : Q () s) : wpAny M A (letOwnedTupleGo tg (.ref it) u) Q E s := by
  unfold letOwnedTupleGo
  cases tg <;> first
    | exact wpAny_pure hQ
    | (cases u <;> first
        | exact wpAny_pure hQ
        | (refine wpAny_bind (wpAny_load ho ?_)
           rw [hc, hd]
           show wpAny M A (if (["enumerate", "zip", "dict_itemiterator", "dict_reverseitemiterator", "odict_iterator", "itertools.zip_longest", "itertools.pairwise"].contains n && vs[0]? == some (rawInt _)) = true then _ else _) Q E s
           rw [if_neg (by intro h; rw [hn, Bool.false_and] at h; cases h)]
           exact wpAny_pure hQ))

/-- the list at a, as it stands at each turn (a loop may append to it) -/
noncomputable def Itl (K : PySem.W.Frag) (a : Addr) : It :=
  ⟨fun i H => ∃ xs x, SqL K H a xs ∧ xs[i]? = some x, fun i H x H' => H' = H ∧ ∀ xs, SqL K H a xs → xs[i]? = some x, fun i H => ∃ xs, SqL K H a xs ∧ xs.length ≤ i⟩
noncomputable def Itt (K : PySem.W.Frag) (a : Addr) : It :=
  ⟨fun i H => ∃ xs x, SqT K H a xs ∧ xs[i]? = some x, fun i H x H' => H' = H ∧ ∀ xs, SqT K H a xs → xs[i]? = some x, fun i H => ∃ xs, SqT K H a xs ∧ xs.length ≤ i⟩
/-- lo, lo + 1, .. (n of them) -/
noncomputable def Itr (lo : Int) (n : Nat) : It := ⟨fun i _ => i < n, fun i H x H' => H' = H ∧ x = .int (lo + i), fun i _ => n ≤ i⟩
theorem turn_list {P : Program} {w : World} {K : PySem.W.Frag} {tg : Expr} (a it : Addr) : Turn P w K tg (Itl K a) [it] it (fun i h => h.IsListIter it a i) where
  mem := by simp
  obj := fun i h st b hb => by
    have e : b = it := by simpa using hb
    subst e
    obtain ⟨o, e, c, d⟩ := st
    exact ⟨o, e, fun v z => by rw [d] at z; cases z⟩
  keep := fun i h h' st k => st.at fun o e => k it (by simp) o e
  item := by
    intro X hP hw hK hc i pins s σ H E I hf st hg
    subst hP hw hK
    obtain ⟨xs, x, hq, hx⟩ := hg
    obtain ⟨its, rv, p, hz⟩ := I.list hq
    obtain ⟨u, hu, ru⟩ := rv.get hx
    obtain ⟨f0, f1, f2, f3, f4, f5⟩ := hf it (by simp)
    refine wpAny_pyNext_list_item st p.isList (x := u) (by simpa using hu) fun h' st' sb => ?_
    have I1 : Inv X pins σ H { s with heap := h' } := I.turned (t' := s.toks) (fun b o hb e => (sb.2 b hb).trans e) f0 f1 f3 f4 f5
    obtain ⟨o, e, c, d⟩ := id st'
    exact ⟨u, rfl, go_of (s := { s with heap := h' }) e c d (by decide) ⟨x, H, I1, ru, ⟨rfl, fun ys hy => by rw [I.list_inj hy hq]; exact hx⟩, st', fun b hb => (hf b hb).1⟩⟩
  done := by
    intro X hP hw hK hc i pins s σ H E I hf st hg
    subst hP hw hK
    obtain ⟨xs, hq, hx⟩ := hg
    obtain ⟨its, rv, p, hz⟩ := I.list hq
    obtain ⟨f0, f1, f2, f3, f4, f5⟩ := hf it (by simp)
    have hl := rv.length
    exact wpAny_pyNext_list_end (I.ok.hd hc) st p.isList (by simp; omega) fun h' eb => ⟨rfl, I.turned (t' := s.toks) (fun b o hb e => eb b o hb e) f0 f1 f3 f4 f5⟩
  self := fun _ _ _ _ _ st h => wpAny_pyIter_listiter st h
theorem turn_tuple {P : Program} {w : World} {K : PySem.W.Frag} {tg : Expr} (a it : Addr) : Turn P w K tg (Itt K a) [it] it (fun i h => h.IsTupleIter it a i) where
  mem := by simp
  obj := fun i h st b hb => by
    have e : b = it := by simpa using hb
    subst e
    obtain ⟨o, e, c, d⟩ := st
    exact ⟨o, e, fun v z => by rw [d] at z; cases z⟩
  keep := fun i h h' st k => st.at fun o e => k it (by simp) o e
  item := by
    intro X hP hw hK hc i pins s σ H E I hf st hg
    subst hP hw hK
    obtain ⟨xs, x, hq, hx⟩ := hg
    obtain ⟨its, rv, p, hz⟩ := I.tuple hq
    obtain ⟨u, hu, ru⟩ := rv.get hx
    obtain ⟨f0, f1, f2, f3, f4, f5⟩ := hf it (by simp)
    refine wpAny_pyNext_tuple_item st (show s.heap.IsTuple a its.toArray from p) (x := u) (by simpa using hu) fun h' st' sb => ?_
    have I1 : Inv X pins σ H { s with heap := h' } := I.turned (t' := s.toks) (fun b o hb e => (sb.2 b hb).trans e) f0 f1 f3 f4 f5
    obtain ⟨o, e, c, d⟩ := id st'
    exact ⟨u, rfl, go_of (s := { s with heap := h' }) e c d (by decide) ⟨x, H, I1, ru, ⟨rfl, fun ys hy => by rw [I.tuple_inj hy hq]; exact hx⟩, st', fun b hb => (hf b hb).1⟩⟩
  done := by
    intro X hP hw hK hc i pins s σ H E I hf st hg
    subst hP hw hK
    obtain ⟨xs, hq, hx⟩ := hg
    obtain ⟨its, rv, p, hz⟩ := I.tuple hq
    obtain ⟨f0, f1, f2, f3, f4, f5⟩ := hf it (by simp)
    have hl := rv.length
    exact wpAny_pyNext_tuple_end (I.ok.hd hc) st (show s.heap.IsTuple a its.toArray from p) (by simp; omega) fun h' eb => ⟨rfl, I.turned (t' := s.toks) (fun b o hb e => eb b o hb e) f0 f1 f3 f4 f5⟩
  self := fun _ _ _ _ _ st h => wpAny_pyIter_tupleiter st h
theorem turn_range {P : Program} {w : World} {K : PySem.W.Frag} {tg : Expr} (it : Addr) (lo : Int) (n : Nat) : Turn P w K tg (Itr lo n) [it] it (fun i h => IsRangeIter h it (lo + (i : Nat) * 1) ((n : Int) - (i : Nat)) 1) where
  mem := by simp
  obj := fun i h st b hb => by
    have e : b = it := by simpa using hb
    subst e
    exact ⟨_, st, fun v z => by
      have z' : Data.fields _ = Data.cell v := z
      cases z'⟩
  keep := fun i h h' st k => k it (by simp) _ st
  item := by
    intro X hP hw hK hc i pins s σ H E I hf st hg
    subst hP hw hK
    obtain ⟨f0, f1, f2, f3, f4, f5⟩ := hf it (by simp)
    have W := Walks.range (prog := X.prog) (w := X.w) (I.ok.hd hc) it lo 1 n
    refine W.item i s _ _ hg st fun v h' tk hv st' kk => ?_
    obtain ⟨t, rfl⟩ := hv
    have I1 : Inv X pins σ H { s with heap := h', toks := tk } := I.turned (fun b o hb e => kk b o (by simpa using hb) e) f0 f1 f3 f4 f5
    refine ⟨_, rfl, go_of (s := { s with heap := h', toks := tk }) (n := "range_iterator") st' rfl rfl (by decide) ⟨.int (lo + i), H, I1, ⟨t, ?_⟩, ⟨rfl, rfl⟩, st', fun b hb => (hf b hb).1⟩⟩
    rw [Int.mul_one]
  done := by
    intro X hP hw hK hc i pins s σ H E I hf st hg
    subst hP hw hK
    obtain ⟨f0, f1, f2, f3, f4, f5⟩ := hf it (by simp)
    exact wpAny_pyNext_range_end (I.ok.hd hc) st (by have : n ≤ i := hg; omega) fun h' eb => ⟨rfl, I.turned (t' := s.toks) (fun b o hb e => eb b o hb e) f0 f1 f3 f4 f5⟩
  self := fun _ _ _ _ _ st h => wpAny_pyIter_rangeiter st h
end L2

namespace L2
open PySem PySem.Spec PyProof.Rows
section
variable {X : Cx} {tg : Expr}
noncomputable def iList (K : PySem.W.Frag) (tl : TE) : TI := fun σ H R => tl σ H fun x H1 => ∃ a, x = .ref a ∧ (∃ xs, SqL K H1 a xs) ∧ R (Itl K a) H1
noncomputable def iTup (K : PySem.W.Frag) (tl : TE) : TI := fun σ H R => tl σ H fun x H1 => ∃ a, x = .ref a ∧ (∃ xs, SqT K H1 a xs) ∧ R (Itt K a) H1
theorem pi_list {l : Expr} {tl : TE} (hl : PE X l tl) : PI X tg l (iList X.K tl) := by
  intro pins s σ H R I h
  refine thn (hl pins s σ H _ I h) fun v s1 ⟨x, H1, I1, r1, q1⟩ => ?_
  obtain ⟨a, e, ⟨xs, hq⟩, q⟩ := q1
  subst e
  cases r1
  obtain ⟨its, rv, p, hz⟩ := I1.list hq
  refine wpAny_pyIter_list p.isList ?_
  refine ⟨s1.heap.objs.size, [s1.heap.objs.size], _, _, H1, rfl, I1.kept (t' := s1.toks) fun b o e => Heap.get?_push_of_some _ e, turn_list a _, ⟨_, Heap.get?_push_size _ rfl, rfl, rfl⟩, fun b hb => ?_, q⟩
  have e : b = s1.heap.objs.size := by simpa using hb
  subst e
  exact I1.fpOk (Nat.le_refl _) (I1.hok.fresh (Nat.le_refl _))
theorem pi_tup {l : Expr} {tl : TE} (hl : PE X l tl) : PI X tg l (iTup X.K tl) := by
  intro pins s σ H R I h
  refine thn (hl pins s σ H _ I h) fun v s1 ⟨x, H1, I1, r1, q1⟩ => ?_
  obtain ⟨a, e, ⟨xs, hq⟩, q⟩ := q1
  subst e
  cases r1
  obtain ⟨its, rv, p, hz⟩ := I1.tuple hq
  refine wpAny_pyIter_tuple (show s1.heap.IsTuple a its.toArray from p) ?_
  refine ⟨s1.heap.objs.size, [s1.heap.objs.size], _, _, H1, rfl, I1.kept (t' := s1.toks) fun b o e => Heap.get?_push_of_some _ e, turn_tuple a _, ⟨_, Heap.get?_push_size _ rfl, rfl, rfl⟩, fun b hb => ?_, q⟩
  have e : b = s1.heap.objs.size := by simpa using hb
  subst e
  exact I1.fpOk (Nat.le_refl _) (I1.hok.fresh (Nat.le_refl _))
/-- a range object just made, walked -/
theorem range_it {pins : List (Addr × Obj)} {σ : St} {H : Hp} {s : Shared} {R : It → Hp → Prop} {E : Value → Shared → Prop} {lo hi : Int} {t u v : Tok} {tk : Nat} (I : Inv X pins σ H s) (h1 : -(2 ^ 62) ≤ lo) (h2 : lo < 2 ^ 62) (h3 : -(2 ^ 62) ≤ hi) (h4 : hi < 2 ^ 62)
    (q : R (Itr lo (hi - lo).toNat) H) : wpAny (model X.prog X.w) X.A (pyIter (.ref s.heap.objs.size)) (PIE X pins σ tg R) E { s with heap := s.heap.push { cls := .type "range", data := .fields #[.int lo t, .int hi u, .int 1 v] }, toks := tk } := by
  refine wpAny_pyIter_range (IsRange.new ..) (small_one h1 h2 h3 h4) ?_
  have I1 : Inv X pins σ H { s with heap := s.heap.push { cls := .type "range", data := .fields #[.int lo t, .int hi u, .int 1 v] }, toks := tk } := I.kept fun b o e => Heap.get?_push_of_some _ e
  refine ⟨(s.heap.push { cls := .type "range", data := .fields #[.int lo t, .int hi u, .int 1 v] }).objs.size, [(s.heap.push { cls := .type "range", data := .fields #[.int lo t, .int hi u, .int 1 v] }).objs.size], _, _, H, rfl,
    I1.kept (t' := tk) fun b o e => Heap.get?_push_of_some _ e, turn_range _ lo (hi - lo).toNat, ?_, fun b hb => ?_, q⟩
  · have e1 : lo + ((0 : Nat) : Int) * 1 = lo := by simp
    have e2 : (((hi - lo).toNat : Nat) : Int) - ((0 : Nat) : Int) = Builtin.Range.rangeSize lo hi 1 := by rw [rangeSize_one]; split <;> omega
    show IsRangeIter _ _ (lo + ((0 : Nat) : Int) * 1) ((((hi - lo).toNat : Nat) : Int) - ((0 : Nat) : Int)) 1
    rw [e1, e2]
    exact Heap.get?_push_size _ rfl
  · have e : b = (s.heap.push { cls := .type "range", data := .fields #[.int lo t, .int hi u, .int 1 v] }).objs.size := by simpa using hb
    subst e
    exact I1.fpOk (Nat.le_refl _) (I1.hok.fresh (Nat.le_refl _))
noncomputable def iRng1 (ta : TA) : TI := fun σ H R => ta σ H fun vs H1 => ∃ j : Int, vs = [.int j] ∧ -(2 ^ 62) ≤ j ∧ j < 2 ^ 62 ∧ R (Itr 0 j.toNat) H1
noncomputable def iRng2 (ta : TA) : TI := fun σ H R => ta σ H fun vs H1 => ∃ i j : Int, vs = [.int i, .int j] ∧ (-(2 ^ 62) ≤ i ∧ i < 2 ^ 62 ∧ -(2 ^ 62) ≤ j ∧ j < 2 ^ 62) ∧ R (Itr i (j - i).toNat) H1
theorem pi_range1 {a : Expr} {ta : TA} {p pos : Pos} (hg : Gl X "range") (hm : X.mg "range" = none) (ha : PA X [a] ta) (hs : starEach [a] X.env = [(false, eval a X.env)] := by rfl) : PI X tg (.Call (.Name "range" p) [a] [] pos) (iRng1 ta) := by
  intro pins s σ H R I h
  refine Call_ (ld_blt I hg hm boot_range (PyProof.Rows.callWith_type1 (thn (ha pos pins s σ H _ I h) fun us s1 ⟨vs, H1, I1, r1, q1⟩ => ?_) hs rfl))
  obtain ⟨j, e, q1, q2, q⟩ := q1
  subst e
  cases r1 with
  | cons r rr =>
    cases rr
    obtain ⟨t, rfl⟩ := r
    exact call_range_1 (range_it I1 (by omega) (by omega) q1 q2 (by simpa using q))
theorem pi_range2 {a b : Expr} {ta : TA} {p pos : Pos} (hg : Gl X "range") (hm : X.mg "range" = none) (ha : PA X [a, b] ta) (hs : starEach [a, b] X.env = [(false, eval a X.env), (false, eval b X.env)] := by rfl) (hs2 : starEach [b] X.env = [(false, eval b X.env)] := by rfl) :
    PI X tg (.Call (.Name "range" p) [a, b] [] pos) (iRng2 ta) := by
  intro pins s σ H R I h
  refine Call_ (ld_blt I hg hm boot_range (PyProof.Rows.callWith_type1 (thn (ha pos pins s σ H _ I h) fun us s1 ⟨vs, H1, I1, r1, q1⟩ => ?_) (by rw [hs, hs2]) (by rw [hs2]; rfl)))
  obtain ⟨i, j, e, ⟨q1, q2, q3, q4⟩, q⟩ := q1
  subst e
  cases r1 with
  | cons r rr =>
    cases rr with
    | cons r' rr =>
      cases rr
      obtain ⟨t, rfl⟩ := r
      obtain ⟨t', rfl⟩ := r'
      exact call_range_2 (range_it I1 q1 q2 q3 q4 q)

/-! ### for -/
/-- W: the invariant by the turn and a measure; N: what the body is to reach -/
noncomputable def tFor (wi : TI) (g : TG) (tb : TS) : TS := fun D σ H => wi σ H fun J H1 => ∃ W : Nat → Nat → St → Hp → Prop, (∃ m, W 0 m σ H1) ∧ ∀ i m σ H, W i m σ H →
  (J.stop i H ∧ D.nx σ H) ∨ (J.go i H ∧ ∃ N : St → Hp → Prop, (∀ σ' H', N σ' H' → ∃ m', m' < m ∧ W (i + 1) m' σ' H') ∧ ∀ x H', J.yld i H x H' → g x σ H' fun σ2 H2 => tb { D with nx := N, ct := N, bk := D.nx } σ2 H2)
/-- the records at fp as they stand -/
noncomputable def pinsAt (fp : List Addr) (h : Heap) : List (Addr × Obj) := fp.filterMap fun b => (h.get? b).map fun o => (b, o)
theorem mem_pinsAt {fp : List Addr} {h : Heap} {b : Addr} {o : Obj} (hb : b ∈ fp) (e : h.get? b = some o) : (b, o) ∈ pinsAt fp h := List.mem_filterMap.mpr ⟨b, hb, by rw [e]; rfl⟩
theorem of_pinsAt {fp : List Addr} {h : Heap} {p : Addr × Obj} (hp : p ∈ pinsAt fp h) : p.1 ∈ fp ∧ h.get? p.1 = some p.2 := by
  obtain ⟨b, hb, e⟩ := List.mem_filterMap.mp hp
  cases q : h.get? b with
  | none => rw [q] at e; cases e
  | some o =>
    rw [q] at e
    have e' : (b, o) = p := Option.some.inj e
    subst e'
    exact ⟨hb, q⟩
theorem Inv.pinned {pins : List (Addr × Obj)} {σ : St} {H : Hp} {s : Shared} {fp : List Addr} (I : Inv X pins σ H s) (hf : ∀ b ∈ fp, FpOk X pins H b) (ho : ∀ b ∈ fp, ∃ o, s.heap.get? b = some o ∧ ∀ v, o.data ≠ .cell v) : Inv X (pins ++ pinsAt fp s.heap) σ H s :=
  I.pins_of fun p hp => (List.mem_append.mp hp).elim (fun z => I.pin p (List.mem_append_right _ z)) fun z => by
    obtain ⟨hb, e⟩ := of_pinsAt z
    obtain ⟨f0, f1, f2, _⟩ := hf p.1 hb
    obtain ⟨o, e', d⟩ := ho p.1 hb
    rw [e] at e'; cases e'
    exact ⟨e, f0, f1, f2, d⟩
theorem Inv.unpinned {pins pl : List (Addr × Obj)} {σ : St} {H : Hp} {s : Shared} (I : Inv X (pins ++ pl) σ H s) : Inv X pins σ H s := I.pins_of fun p hp => I.pin p (List.mem_append_right _ (List.mem_append_left _ hp))
theorem ps_for {iter : Expr} {body : List Stmt} {wi : TI} {g : TG} {tb : TS} {pos : Pos} (hp : PassesOwn (model X.prog X.w) X.A X.env X.xe) (hc : X.calm = true) (hi : PI X tg iter wi) (hg : PG X tg g) (hb : PSs X body tb)
    (hs : ∀ x, foldedSetIterable iter X.env x = pure x := by intro _; rfl) : PS X (.For tg iter body [] pos) (tFor wi g tb) := by
  intro pins s σ H D I h
  refine wpAny_For (thn (hi pins s σ H _ I h) fun v s1 h1 => thn h1 fun itv s2 h2 => ?_) hs
  obtain ⟨it, fp, tn, J, H2, e, I2, T, st2, f2, W, ⟨m0, w0⟩, turn⟩ := h2
  subst e
  -- what stays true of the iterator's objects through the loop
  have stat : ∀ {H' : Hp}, (∀ b ∈ fp, H' b = none) → ∀ b ∈ fp, FpOk X pins H' b := fun hn b hb => ⟨hn b hb, (f2 b hb).2⟩
  refine codeAny_forLoop_any (fun n s' => ∃ i σ' H', Inv X pins σ' H' s' ∧ tn i s'.heap ∧ (∀ b ∈ fp, H' b = none) ∧ W i n σ' H') ?_ m0 ⟨0, σ, H2, I2, st2, fun b hb => (f2 b hb).1, w0⟩
  rintro n s3 ⟨i, σ3, H3, I3, st3, fr3, w3⟩
  rcases turn i n σ3 H3 w3 with ⟨stop, qn⟩ | ⟨go, N, hN, step⟩
  · refine wpAny_passesOwn hp (thn (T.done X rfl rfl rfl hc i pins s3 σ3 H3 X.xe I3 (stat fr3) st3 stop) fun r s4 ⟨hr, I4⟩ => ?_)
    subst hr
    exact wpAny_execs_nil ⟨σ3, H3, I4, qn⟩
  · refine wpAny_passesOwn hp (thn (T.item X rfl rfl rfl hc i pins s3 σ3 H3 X.xe I3 (stat fr3) st3 go) fun r s4 ⟨u, hr, h4⟩ => ?_)
    subst hr
    refine wpAny_passesOwn hp (thn h4 fun _ s5 ⟨x, H5, I5, r5, y5, st5, fr5⟩ => ?_)
    have I5' := I5.pinned (stat fr5) (T.obj _ _ st5)
    refine wpAny_passesOwn hp (thn (hg _ s5 σ3 H5 x u _ I5' r5 (step x H5 y5)) fun _ s6 ⟨σ6, H6, I6, q6⟩ => ?_)
    refine wpAny_passesOwn hp (thn (hb _ s6 σ6 H6 _ I6 q6) fun f s7 q7 => ?_)
    have again : ∀ {σ7 : St} {H7 : Hp}, Inv X (pins ++ pinsAt fp s5.heap) σ7 H7 s7 → N σ7 H7 → ∃ m, m < n ∧ ∃ i σ' H', Inv X pins σ' H' s7 ∧ tn i s7.heap ∧ (∀ b ∈ fp, H' b = none) ∧ W i m σ' H' := fun {σ7 H7} I7 n7 => by
      obtain ⟨m', hm, w7⟩ := hN σ7 H7 n7
      refine ⟨m', hm, i + 1, σ7, H7, I7.unpinned, T.keep _ _ _ st5 fun b hb o e => (I7.pin (b, o) (List.mem_append_right _ (List.mem_append_right _ (mem_pinsAt hb e)))).1, fun b hb => ?_, w7⟩
      obtain ⟨o, e, d⟩ := T.obj _ _ st5 b hb
      exact (I7.pin (b, o) (List.mem_append_right _ (List.mem_append_right _ (mem_pinsAt hb e)))).2.1
    cases f with
    | next => obtain ⟨σ7, H7, I7, n7⟩ := q7; exact again I7 n7
    | cont => obtain ⟨σ7, H7, I7, n7⟩ := q7; exact again I7 n7
    | brk => obtain ⟨σ7, H7, I7, q7⟩ := q7; exact ⟨σ7, H7, I7.unpinned, q7⟩
    | ret v => obtain ⟨x7, σ7, H7, I7, r7, q7⟩ := q7; exact ⟨x7, σ7, H7, I7.unpinned, r7, q7⟩
end

/-! ### the forms one uses -/
theorem for_range {lo : Int} {n : Nat} {g : TG} {tb : TS} {D : Ends} {σ : St} {H : Hp} (Pv : Nat → St → Hp → Prop) (h0 : Pv 0 σ H)
    (hs : ∀ i σ H, i < n → Pv i σ H → g (.int (lo + i)) σ H fun σ2 H2 => tb { D with nx := Pv (i + 1), ct := Pv (i + 1), bk := D.nx } σ2 H2) (hd : ∀ σ H, Pv n σ H → D.nx σ H) :
    ∃ W : Nat → Nat → St → Hp → Prop, (∃ m, W 0 m σ H) ∧ ∀ i m σ H, W i m σ H →
      ((Itr lo n).stop i H ∧ D.nx σ H) ∨ ((Itr lo n).go i H ∧ ∃ N : St → Hp → Prop, (∀ σ' H', N σ' H' → ∃ m', m' < m ∧ W (i + 1) m' σ' H') ∧ ∀ x H', (Itr lo n).yld i H x H' → g x σ H' fun σ2 H2 => tb { D with nx := N, ct := N, bk := D.nx } σ2 H2) := by
  refine ⟨fun i m σ H => m = n - i ∧ i ≤ n ∧ Pv i σ H, ⟨n, by simp, Nat.zero_le _, h0⟩, ?_⟩
  rintro i m σ H ⟨rfl, hi, p⟩
  by_cases hlt : i < n
  · refine .inr ⟨hlt, Pv (i + 1), fun σ' H' p' => ⟨n - (i + 1), by omega, rfl, hlt, p'⟩, fun x H' y => ?_⟩
    obtain ⟨e, y⟩ := y
    subst e y
    exact hs i σ _ hlt p
  · have e : i = n := by omega
    subst e
    exact .inl ⟨Nat.le_refl _, hd σ H p⟩
end L2

namespace L2
open PySem PySem.Spec PyProof.Rows

noncomputable abbrev R2 := V → V → Hp → VK → Prop
/-- a two-place operation on values: f is binaryOp op, inplaceOp op or compareOp op -/
noncomputable def OpR (X : Cx) (f : Value → Value → Sem Value) (r : R2) : Prop :=
  ∀ (pins : List (Addr × Obj)) (s : Shared) (σ : St) (H : Hp) (x y : V) (v u : Value) (Q : VK), Inv X pins σ H s → RelV x v → RelV y u → r x y H Q →
    wpAny (model X.prog X.w) X.A (f v u) (EP X pins σ Q) X.xe s
/-- a one-place operation -/
noncomputable def UnR (X : Cx) (f : Value → Sem Value) (r : V → Hp → VK → Prop) : Prop :=
  ∀ (pins : List (Addr × Obj)) (s : Shared) (σ : St) (H : Hp) (x : V) (v : Value) (Q : VK), Inv X pins σ H s → RelV x v → r x H Q →
    wpAny (model X.prog X.w) X.A (f v) (EP X pins σ Q) X.xe s
/-- a call of a value that is known (a builtin, a type) with values -/
noncomputable def CallR (X : Cx) (f : Value) (r : List V → Hp → VK → Prop) : Prop :=
  ∀ (pins : List (Addr × Obj)) (s : Shared) (σ : St) (H : Hp) (xs : List V) (us : List Value) (Q : VK), Inv X pins σ H s → Vals xs us → r xs H Q →
    wpAny (model X.prog X.w) X.A (call f us) (EP X pins σ Q) X.xe s
/-- a value's truth -/
noncomputable def TruR (X : Cx) (r : V → Hp → (Bool → Hp → Prop) → Prop) : Prop :=
  ∀ (pins : List (Addr × Obj)) (s : Shared) (σ : St) (H : Hp) (x : V) (v : Value) (Q : Bool → Hp → Prop), Inv X pins σ H s → RelV x v → r x H Q →
    wpAny (model X.prog X.w) X.A (truthy v) (TP X pins σ Q) X.xe s

noncomputable def tOp (r : R2) (ta tb : TE) : TE := fun σ H Q => ta σ H fun x H1 => tb σ H1 fun y H2 => r x y H2 Q
noncomputable def tUn (r : V → Hp → VK → Prop) (ta : TE) : TE := fun σ H Q => ta σ H fun x H1 => r x H1 Q
/-- ints in, under C, and a value out -/
noncomputable def rI (C : Int → Int → Prop) (g : Int → Int → V) : R2 := fun x y H Q => ∃ i j, x = .int i ∧ y = .int j ∧ C i j ∧ Q (g i j) H
noncomputable def rI0 (g : Int → Int → V) : R2 := fun x y H Q => ∃ i j, x = .int i ∧ y = .int j ∧ Q (g i j) H
noncomputable def rU (g : Int → V) : V → Hp → VK → Prop := fun x H Q => ∃ i, x = .int i ∧ Q (g i) H

section
variable {X : Cx} {a b c : Expr} {ta tb tc : TE} {pos : Pos}

theorem binT (ha : PE X a ta) (hb : PE X b tb) {pins : List (Addr × Obj)} {s : Shared} {σ : St} {H : Hp} {R : V → V → Hp → Prop} (I : Inv X pins σ H s)
    (h : ta σ H fun x H1 => tb σ H1 fun y H2 => R x y H2) {Q : Value → Shared → Prop} {f : Value → Value → Sem Value}
    (hf : ∀ v u s2 x y H2, Inv X pins σ H2 s2 → RelV x v → RelV y u → R x y H2 → wpAny (model X.prog X.w) X.A (f v u) Q X.xe s2) :
    wpAny (model X.prog X.w) X.A (eval a X.env) (fun v s₁ => wpAny (model X.prog X.w) X.A (eval b X.env) (fun u s₂ => wpAny (model X.prog X.w) X.A (f v u) Q X.xe s₂) X.xe s₁) X.xe s := by
  refine thn (ha pins s σ H _ I h) fun v s1 ⟨x, H1, I1, r1, q1⟩ => ?_
  refine thn (hb pins s1 σ H1 _ I1 q1) fun u s2 ⟨y, H2, I2, r2, q2⟩ => ?_
  exact hf v u s2 x y H2 I2 r1 r2 q2

theorem pe_op {op : Operator} {r : R2} (ho : OpR X (binaryOp op) r) (ha : PE X a ta) (hb : PE X b tb) : PE X (.BinOp a op b pos) (tOp r ta tb) := by
  intro pins s σ H Q I h
  exact wpAny_BinOp (binT ha hb I h fun v u s2 x y H2 I2 rx ry q => ho pins s2 σ H2 x y v u Q I2 rx ry q)
theorem pe_un {op : UnaryOp} {r : V → Hp → VK → Prop} (ho : UnR X (unaryOp op) r) (ha : PE X a ta) : PE X (.UnaryOp op a pos) (tUn r ta) := by
  intro pins s σ H Q I h
  exact UnaryOp_ (thn (ha pins s σ H _ I h) fun v s1 ⟨x, H1, I1, r1, q1⟩ => ho pins s1 σ H1 x v Q I1 r1 q1)

/-! ### ints -/
theorem opI {f : Value → Value → Sem Value} {C : Int → Int → Prop} {g : Int → Int → Int}
    (rule : ∀ (i j : Int) (t u : Tok) (s : Shared) (Q : Value → Shared → Prop) (E : Value → Shared → Prop), C i j → Q (.int (g i j) s.toks) { s with toks := s.toks + 1 } → wpAny (model X.prog X.w) X.A (f (.int i t) (.int j u)) Q E s) :
    OpR X f (rI C fun i j => .int (g i j)) := by
  intro pins s σ H x y v u Q I rx ry h
  obtain ⟨i, j, rfl, rfl, hc, q⟩ := h
  obtain ⟨t, rfl⟩ := rx
  obtain ⟨t', rfl⟩ := ry
  exact rule i j t t' s _ _ hc ⟨.int (g i j), H, I.tok _, ⟨_, rfl⟩, q⟩
theorem opI0 {f : Value → Value → Sem Value} {g : Int → Int → Int}
    (rule : ∀ (i j : Int) (t u : Tok) (s : Shared) (Q : Value → Shared → Prop) (E : Value → Shared → Prop), Q (.int (g i j) s.toks) { s with toks := s.toks + 1 } → wpAny (model X.prog X.w) X.A (f (.int i t) (.int j u)) Q E s) :
    OpR X f (rI0 fun i j => .int (g i j)) := by
  intro pins s σ H x y v u Q I rx ry h
  obtain ⟨i, j, rfl, rfl, q⟩ := h
  obtain ⟨t, rfl⟩ := rx
  obtain ⟨t', rfl⟩ := ry
  exact rule i j t t' s _ _ ⟨.int (g i j), H, I.tok _, ⟨_, rfl⟩, q⟩
theorem opB0 {f : Value → Value → Sem Value} {g : Int → Int → Bool}
    (rule : ∀ (i j : Int) (t u : Tok) (s : Shared) (Q : Value → Shared → Prop) (E : Value → Shared → Prop), Q (.bool (g i j)) s → wpAny (model X.prog X.w) X.A (f (.int i t) (.int j u)) Q E s) :
    OpR X f (rI0 fun i j => .bl (g i j)) := by
  intro pins s σ H x y v u Q I rx ry h
  obtain ⟨i, j, rfl, rfl, q⟩ := h
  obtain ⟨t, rfl⟩ := rx
  obtain ⟨t', rfl⟩ := ry
  exact rule i j t t' s _ _ ⟨.bl (g i j), H, I, rfl, q⟩

noncomputable def CDiv (i j : Int) : Prop := 0 < j ∧ j < 1073741824
noncomputable def CDivN (i j : Int) : Prop := j ≠ 0 ∧ j.natAbs < 1073741824
noncomputable def CPow (i j : Int) : Prop := 0 ≤ j ∧ j ≤ 1000000 ∧ i.natAbs < 2 ^ 64
noncomputable def CMul (i j : Int) : Prop := (-(2 ^ 64) < i ∧ i < 2 ^ 64) ∨ (-(2 ^ 64) < j ∧ j < 2 ^ 64)
theorem CMul.ok {i j : Int} (h : CMul i j) : IntMulOk i j := by
  rcases h with ⟨h1, h2⟩ | ⟨h1, h2⟩
  · exact .of_left (intBits_le_64 h1 h2)
  · exact .of_right (intBits_le_64 h1 h2)

theorem op_add : OpR X (binaryOp .Add) (rI0 fun i j => .int (i + j)) := opI0 fun _ _ _ _ _ _ _ q => add_int q
theorem op_sub : OpR X (binaryOp .Sub) (rI0 fun i j => .int (i - j)) := opI0 fun _ _ _ _ _ _ _ q => sub_int q
theorem op_mul : OpR X (binaryOp .Mult) (rI CMul fun i j => .int (i * j)) := opI fun _ _ _ _ _ _ _ hc q => mul_int q hc.ok
/-- // by a positive divisor -/
theorem op_fdiv : OpR X (binaryOp .FloorDiv) (rI CDiv fun i j => .int (i / j)) := opI fun i j _ _ _ _ _ hc q => by
  have h1 : (0 : Int) < j := hc.1
  have h2 : j < 1073741824 := hc.2
  exact floordiv_int (by omega) (by rw [Int.fdiv_eq_ediv_of_nonneg i (by omega)]; exact q) (.inl (PyProof.noPylong_small (by omega)))
/-- % by a positive divisor of any size -/
theorem op_mod : OpR X (binaryOp .Mod) (rI (fun _ j => 0 < j) fun i j => .int (i % j)) := opI fun i j _ _ _ _ _ hc q => by
  have h1 : (0 : Int) < j := hc
  exact mod_int' (by omega) (by rw [Int.fmod_eq_emod_of_nonneg i (by omega)]; exact q)
theorem op_pow : OpR X (binaryOp .Pow) (rI CPow fun i j => .int (i ^ j.toNat)) := opI fun _ _ _ _ _ _ _ hc q => pow_int_small hc.1 hc.2.1 hc.2.2 q


theorem unI {f : Value → Sem Value} {g : Int → Int}
    (rule : ∀ (i : Int) (t : Tok) (s : Shared) (Q : Value → Shared → Prop) (E : Value → Shared → Prop), Q (.int (g i) s.toks) { s with toks := s.toks + 1 } → wpAny (model X.prog X.w) X.A (f (.int i t)) Q E s) :
    UnR X f (rU fun i => .int (g i)) := by
  intro pins s σ H x v Q I rx h
  obtain ⟨i, rfl, q⟩ := h
  obtain ⟨t, rfl⟩ := rx
  exact rule i t s _ _ ⟨.int (g i), H, I.tok _, ⟨_, rfl⟩, q⟩
theorem un_neg : UnR X (unaryOp .USub) (rU fun i => .int (-i)) := unI fun _ _ _ _ _ q => neg_int q

/-! ### bools among ints: n += (a < b) -/
end

/-! ### comparisons -/
/-- the scalars that == tells apart as data does -/
noncomputable def scal : V → V → Bool
  | .non, .non => true | .non, .int _ => true | .int _, .non => true | .non, .bl _ => true | .bl _, .non => true | .non, .str _ => true | .str _, .non => true
  | .int _, .int _ => true | .bl _, .bl _ => true | .str _, .str _ => true | .byt _, .byt _ => true
  | .int _, .str _ => true | .str _, .int _ => true | .bl _, .str _ => true | .str _, .bl _ => true
  | _, _ => false
noncomputable def rEq : R2 := fun x y H Q => scal x y = true ∧ Q (.bl (decide (x = y))) H
noncomputable def rNe : R2 := fun x y H Q => scal x y = true ∧ Q (.bl (!decide (x = y))) H

theorem dec_int {i j : Int} : decide (V.int i = V.int j) = (i == j) := by
  rw [Bool.eq_iff_iff]
  simp
theorem dec_bl {i j : Bool} : decide (V.bl i = V.bl j) = (i == j) := by
  rw [Bool.eq_iff_iff]
  simp
theorem dec_str {i j : Str} : decide (V.str i = V.str j) = (i == j) := by
  rw [Bool.eq_iff_iff]
  simp
theorem dec_byt {i j : Array UInt8} : decide (V.byt i = V.byt j) = (i.toList == j.toList) := by
  rw [Bool.eq_iff_iff]
  cases i
  cases j
  simp

section
variable {X : Cx} {a b c : Expr} {ta tb tc : TE} {pos : Pos}
theorem fin_bl {pins : List (Addr × Obj)} {σ : St} {H : Hp} {s : Shared} {Q : VK} {k k' : Bool} (I : Inv X pins σ H s) (q : Q (.bl k) H) (e : k = k') : EP X pins σ Q (.bool k') s := by
  subst e
  exact ⟨.bl k, H, I, rfl, q⟩
theorem op_eq : OpR X (compareOp .Eq) rEq := by
  intro pins s σ H x y v u Q I rx ry h
  obtain ⟨hs, q⟩ := h
  cases x with
  | non =>
    cases rx
    cases y with
    | non => cases ry; exact PySem.EqNone.eq_none_none (fin_bl I q (by simp))
    | bl j => cases ry; exact PySem.EqNone.eq_none_bool (fin_bl I q (by simp))
    | int j => obtain ⟨t', rfl⟩ := ry; exact PySem.EqNone.eq_none_int (fin_bl I q (by simp))
    | str j => obtain ⟨t', rfl⟩ := ry; exact PySem.EqNone.eq_none_str (fin_bl I q (by simp))
    | _ => exact absurd (show false = true from hs) Bool.false_ne_true
  | bl i =>
    cases rx
    cases y with
    | non => cases ry; exact PySem.EqNone.eq_bool_none (fin_bl I q (by simp))
    | bl j => cases ry; exact eq_bool (fin_bl I q dec_bl)
    | str j => obtain ⟨t', rfl⟩ := ry; exact PySem.EqMixed.eq_bool_str (fin_bl I q (by simp))
    | _ => exact absurd (show false = true from hs) Bool.false_ne_true
  | int i =>
    obtain ⟨t, rfl⟩ := rx
    cases y with
    | non => cases ry; exact PySem.EqNone.eq_int_none (fin_bl I q (by simp))
    | int j => obtain ⟨t', rfl⟩ := ry; exact eq_int (fin_bl I q dec_int)
    | str j => obtain ⟨t', rfl⟩ := ry; exact PySem.EqMixed.eq_int_str (fin_bl I q (by simp))
    | _ => exact absurd (show false = true from hs) Bool.false_ne_true
  | str i =>
    obtain ⟨t, rfl⟩ := rx
    cases y with
    | non => cases ry; exact PySem.EqNone.eq_str_none (fin_bl I q (by simp))
    | bl j => cases ry; exact PySem.EqMixed.eq_str_bool (fin_bl I q (by simp))
    | int j => obtain ⟨t', rfl⟩ := ry; exact PySem.EqMixed.eq_str_int (fin_bl I q (by simp))
    | str j => obtain ⟨t', rfl⟩ := ry; exact eq_str (fin_bl I q dec_str)
    | _ => exact absurd (show false = true from hs) Bool.false_ne_true
  | byt i =>
    obtain ⟨t, rfl⟩ := rx
    cases y with
    | byt j => obtain ⟨t', rfl⟩ := ry; exact PySem.W.eq_bytes (fin_bl I q dec_byt)
    | _ => exact absurd (show false = true from hs) Bool.false_ne_true
  | _ => cases y <;> exact absurd (show false = true from hs) Bool.false_ne_true
theorem op_ne : OpR X (compareOp .NotEq) rNe := by
  intro pins s σ H x y v u Q I rx ry h
  obtain ⟨hs, q⟩ := h
  cases x with
  | non =>
    cases rx
    cases y with
    | non => cases ry; exact PySem.EqNone.ne_none_none (fin_bl I q (by simp))
    | bl j => cases ry; exact PySem.EqNone.ne_none_bool (fin_bl I q (by simp))
    | int j => obtain ⟨t', rfl⟩ := ry; exact PySem.EqNone.ne_none_int (fin_bl I q (by simp))
    | str j => obtain ⟨t', rfl⟩ := ry; exact PySem.EqNone.ne_none_str (fin_bl I q (by simp))
    | _ => exact absurd (show false = true from hs) Bool.false_ne_true
  | bl i =>
    cases rx
    cases y with
    | non => cases ry; exact PySem.EqNone.ne_bool_none (fin_bl I q (by simp))
    | bl j => cases ry; exact ne_bool (fin_bl I q (congrArg not dec_bl))
    | str j => obtain ⟨t', rfl⟩ := ry; exact PySem.EqMixed.ne_bool_str (fin_bl I q (by simp))
    | _ => exact absurd (show false = true from hs) Bool.false_ne_true
  | int i =>
    obtain ⟨t, rfl⟩ := rx
    cases y with
    | non => cases ry; exact PySem.EqNone.ne_int_none (fin_bl I q (by simp))
    | int j => obtain ⟨t', rfl⟩ := ry; exact ne_int (fin_bl I q (congrArg not dec_int))
    | str j => obtain ⟨t', rfl⟩ := ry; exact PySem.EqMixed.ne_int_str (fin_bl I q (by simp))
    | _ => exact absurd (show false = true from hs) Bool.false_ne_true
  | str i =>
    obtain ⟨t, rfl⟩ := rx
    cases y with
    | non => cases ry; exact PySem.EqNone.ne_str_none (fin_bl I q (by simp))
    | bl j => cases ry; exact PySem.EqMixed.ne_str_bool (fin_bl I q (by simp))
    | int j => obtain ⟨t', rfl⟩ := ry; exact PySem.EqMixed.ne_str_int (fin_bl I q (by simp))
    | str j => obtain ⟨t', rfl⟩ := ry; exact ne_str (fin_bl I q (congrArg not dec_str))
    | _ => exact absurd (show false = true from hs) Bool.false_ne_true
  | byt i =>
    obtain ⟨t, rfl⟩ := rx
    cases y with
    | byt j => obtain ⟨t', rfl⟩ := ry; exact PySem.W.ne_bytes (fin_bl I q (congrArg not dec_byt))
    | _ => exact absurd (show false = true from hs) Bool.false_ne_true
  | _ => cases y <;> exact absurd (show false = true from hs) Bool.false_ne_true

theorem op_lt : OpR X (compareOp .Lt) (rI0 fun i j => .bl (decide (i < j))) := opB0 fun _ _ _ _ _ _ _ q => lt_int q
theorem op_le : OpR X (compareOp .LtE) (rI0 fun i j => .bl (decide (i ≤ j))) := opB0 fun _ _ _ _ _ _ _ q => le_int q
theorem op_gt : OpR X (compareOp .Gt) (rI0 fun i j => .bl (decide (j < i))) := opB0 fun _ _ _ _ _ _ _ q => gt_int q
theorem op_ge : OpR X (compareOp .GtE) (rI0 fun i j => .bl (decide (j ≤ i))) := opB0 fun _ _ _ _ _ _ _ q => ge_int q
/-- the one string within the other -/
theorem op_in_str : OpR X (compareOp .In) (fun x y H Q => ∃ i j, x = .str i ∧ y = .str j ∧ Q (.bl (!(Builtin.Str.occurrences j i 0 j.length 1).isEmpty)) H) := by
  intro pins s σ H x y v u Q I rx ry h
  obtain ⟨i, j, rfl, rfl, q⟩ := h
  obtain ⟨t, rfl⟩ := rx
  obtain ⟨t', rfl⟩ := ry
  exact in_str (fin_bl I q rfl)


/-- is, is not of two objects that are tracked lists or instances -/
noncomputable def isObj : HO → Bool
  | .lst _ => true
  | .ins _ _ _ => true
  | _ => false

/-- two rules for one operation: by cases -/
theorem OpR.or {f : Value → Value → Sem Value} {r r' : R2} (h : OpR X f r) (h' : OpR X f r') : OpR X f (fun x y H Q => r x y H Q ∨ r' x y H Q) := by
  intro pins s σ H x y v u Q I rx ry q
  rcases q with q | q
  · exact h pins s σ H x y v u Q I rx ry q
  · exact h' pins s σ H x y v u Q I rx ry q

theorem nomark (b : Expr) {op : CmpOp} (h : op ≠ .In := by decide) (h2 : op ≠ .NotIn := by decide) : behindInMarks op b = false := by
  have e1 : (op == CmpOp.In) = false := by cases op <;> first | rfl | exact absurd rfl h
  have e2 : (op == CmpOp.NotIn) = false := by cases op <;> first | rfl | exact absurd rfl h2
  cases b <;> simp [behindInMarks, e1, e2]
/-- a comparison as a value; hm: nomark b, or (for in, not in) by with_unfolding_all rfl -/
theorem pe_cmpR {op : CmpOp} {r : R2} (ho : OpR X (compareOp op) r) (ha : PE X a ta) (hb : PE X b tb) (hm : behindInMarks op b = false) : PE X (.Compare a [op] [b] pos) (tOp r ta tb) := by
  intro pins s σ H Q I h
  exact wpAny_Compare1 (binT ha hb I h fun v u s2 x y H2 I2 rx ry q => ho pins s2 σ H2 x y v u Q I2 rx ry q) hm
/-- a reading of a value as a test -/
noncomputable def tTest (t : TE) : TT := fun σ H Q => t σ H fun x H' => ∃ k, x = .bl k ∧ Q k H'
theorem pt_cmpR {op : CmpOp} {r : R2} (ho : OpR X (compareOp op) r) (ha : PE X a ta) (hb : PE X b tb) (hm : behindInMarks op b = false) : PT X (.Compare a [op] [b] pos) (tTest (tOp r ta tb)) := by
  intro pins s σ H Q I h
  refine wpAny_isTrue_Compare1 (thn (ha pins s σ H _ I h) fun v s1 ⟨x, H1, I1, r1, q1⟩ => thn (hb pins s1 σ H1 _ I1 q1) fun u s2 ⟨y, H2, I2, r2, q2⟩ =>
    thn (ho pins s2 σ H2 x y v u _ I2 r1 r2 q2) fun c s3 ⟨z, H3, I3, r3, k, e, q3⟩ => ?_) hm
  subst e
  cases r3
  exact wpAny_truthy_bool ⟨H3, I3, q3⟩
/-- a op1 b op2 c -/
noncomputable def tChain (r r' : R2) (ta tb tc : TE) : TE := fun σ H Q => ta σ H fun x H1 => tb σ H1 fun y H2 => r x y H2 fun z H3 => ∃ k, z = .bl k ∧
  (if k = true then tc σ H3 fun w' H4 => r' y w' H4 Q else Q (.bl false) H3)
theorem pt_chain {op op' : CmpOp} {r r' : R2} (ho : OpR X (compareOp op) r) (ho' : OpR X (compareOp op') r') (ha : PE X a ta) (hb : PE X b tb) (hc : PE X c tc)
    (hm : lastMarks [op, op'] [b, c] = false := by with_unfolding_all rfl) : PT X (.Compare a [op, op'] [b, c] pos) (tTest (tChain r r' ta tb tc)) := by
  intro pins s σ H Q I h
  refine isTrue_chain (thn (ha pins s σ H _ I h) fun v s1 ⟨x, H1, I1, r1, q1⟩ => test_link (thn (hb pins s1 σ H1 _ I1 q1) fun u s2 ⟨y, H2, I2, r2, q2⟩ =>
    thn (ho pins s2 σ H2 x y v u _ I2 r1 r2 q2) fun d s3 ⟨z, H3, I3, r3, k, e, q3⟩ => ?_)) hm
  subst e
  cases r3
  refine wpAny_truthy_bool ?_
  cases k with
  | false =>
    obtain ⟨k', e', q'⟩ := q3
    cases e'
    exact ite_ff ⟨H3, I3, q'⟩
  | true =>
    refine ite_tt (test_last (thn (hc pins s3 σ H3 _ I3 q3) fun w' s4 ⟨z', H4, I4, r4, q4⟩ => thn (ho' pins s4 σ H4 y z' u w' _ I4 r2 r4 q4) fun d' s5 ⟨z2, H5, I5, r5, k2, e2, q5⟩ => ?_))
    subst e2
    cases r5
    exact wpAny_truthy_bool ⟨H5, I5, q5⟩

/-! ### truth -/
/-- a value's truth by the abstract heap -/
noncomputable def TruV (K : PySem.W.Frag) (x : V) (H : Hp) (k : Bool) : Prop :=
  match x with
  | .non => k = false
  | .bl b => k = b
  | .int i => k = (i != 0)
  | .str y => y.length ≤ sizeLine ∧ k = ((y.length : Int) != 0)
  | .byt y => y.size ≤ sizeLine ∧ k = ((y.size : Int) != 0)
  | .ref p => (∃ xs, SqL K H p xs ∧ k = !xs.isEmpty) ∨ (∃ xs, SqT K H p xs ∧ k = !xs.isEmpty) ∨ ∃ kvs, H p = some (.dK kvs) ∧ k = !kvs.isEmpty
  | _ => False
theorem line63 : (sizeLine : Nat) < 2 ^ 63 := by rw [sizeLine_eq]; decide

/-! ### strs and bytes -/
theorem op_add_str : OpR X (binaryOp .Add) (fun x y H Q => ∃ i j, x = .str i ∧ y = .str j ∧ i.length + j.length ≤ sizeLine ∧ Q (.str (i ++ j)) H) := by
  intro pins s σ H x y v u Q I rx ry h
  obtain ⟨i, j, rfl, rfl, hz, q⟩ := h
  obtain ⟨t, rfl⟩ := rx
  obtain ⟨t', rfl⟩ := ry
  exact add_str (fun t' tk => ⟨.str (i ++ j), H, I.tok _, ⟨_, rfl⟩, q⟩) hz

noncomputable def PlainIxT (b : Expr) : Prop := ∀ o i, subscripted b false o i = operate [o, i] (getItem o i)

/-! ### scalar builtins, by CallR -/
theorem vals1 {x : V} {us : List Value} (r : Vals [x] us) : ∃ u, us = [u] ∧ RelV x u := by
  cases r with
  | cons r1 r2 => cases r2; exact ⟨_, rfl, r1⟩
/-- len of a str, a bytes, a list, a tuple -/
noncomputable def LenV (K : PySem.W.Frag) (x : V) (H : Hp) (n : Nat) : Prop :=
  match x with
  | .str y => y.length ≤ sizeLine ∧ n = y.length
  | .byt y => y.size ≤ sizeLine ∧ n = y.size
  | .ref p => (∃ xs, SqL K H p xs ∧ n = xs.length) ∨ ∃ xs, SqT K H p xs ∧ n = xs.length
  | _ => False
end
end L2

namespace L2
open PySem PySem.Spec PyProof.Rows

/-! ### an instance, its attributes a map -/
structure ObjM (h : Heap) (x dx C : Addr) (mA : Str → Option Value) : Prop where
  obj : h.get? x = some (PySem.W.instObj C dx)
  ns : h.Ns1 dx mA
  ne : dx ≠ x

theorem lookIn_ns {h : Heap} {dx : Addr} {mA : Str → Option Value} (n : h.Ns1 dx mA) : ∃ od, h.get? dx = some od ∧ ∀ name, PySem.W.lookIn name od = some (mA name) := by
  obtain ⟨o, es, ep, ho, hd, hk, _, hm⟩ := n
  refine ⟨o, ho, fun name => ?_⟩
  have e := hm name
  unfold nsFind findBy at e
  rw [← Array.find?_toList] at e
  unfold PySem.W.lookIn
  rw [hd]
  dsimp only
  split
  · rename_i y q
    rw [q] at e
    exact congrArg some e
  · rename_i q
    rw [q] at e
    have a : es.toList.any (·.refKey) = false := by
      rw [List.any_eq_false]
      intro y hy
      obtain ⟨z, t, hkey⟩ := hk y (Array.mem_toList_iff.mp hy)
      simp [DictEntry.refKey, hkey]
    have a' : ¬ es.toList.any (·.refKey) = true := by rw [a]; exact Bool.false_ne_true
    rw [if_neg a']
    exact congrArg some e

theorem ObjM.look {h : Heap} {x dx C : Addr} {mA : Str → Option Value} (I : ObjM h x dx C mA) : ∃ od, PySem.W.InstAt h x (PySem.W.instObj C dx) C (some od) ∧ ∀ name, PySem.W.lookIn name od = some (mA name) :=
  let ⟨od, ho, hl⟩ := lookIn_ns I.ns
  ⟨od, ⟨I.obj, rfl, rfl, ho⟩, hl⟩

section
variable {prog : Program} {w : World} {A : Around} {E : Value → Shared → Prop} {s : Shared} {K : PySem.W.Frag} {x dx C f : Addr} {mA : Str → Option Value} {name : Str} {v : Value}





end

/-! ### the attributes as a list of pairs -/
noncomputable def putF (f : Str) (v : V) : List (Str × V) → List (Str × V)
  | [] => [(f, v)]
  | (g, x) :: r => if g = f then (g, v) :: r else (g, x) :: putF f v r
theorem lookup_putF (f g : Str) (v : V) : ∀ fs : List (Str × V), (putF f v fs).lookup g = if g = f then some v else fs.lookup g
  | [] => by
    show List.lookup g [(f, v)] = _
    by_cases h : g = f
    · have hb : (g == f) = true := beq_iff_eq.mpr h
      simp only [List.lookup, hb, if_pos h]
    · have hb : (g == f) = false := beq_eq_false_iff_ne.mpr h
      simp only [List.lookup, hb, if_neg h]
  | (k, x) :: r => by
    have ih := lookup_putF f g v r
    rw [show putF f v ((k, x) :: r) = (if k = f then (k, v) :: r else (k, x) :: putF f v r) from rfl]
    by_cases hk : k = f
    · rw [if_pos hk]
      by_cases h : g = k
      · have hb : (g == k) = true := beq_iff_eq.mpr h
        simp only [List.lookup, hb, if_pos (h.trans hk)]
      · have hb : (g == k) = false := beq_eq_false_iff_ne.mpr h
        simp only [List.lookup, hb, if_neg (fun e : g = f => h (e.trans hk.symm))]
    · rw [if_neg hk]
      by_cases h : g = k
      · have hb : (g == k) = true := beq_iff_eq.mpr h
        simp only [List.lookup, hb, if_neg (fun e : g = f => hk (h.symm.trans e))]
      · have hb : (g == k) = false := beq_eq_false_iff_ne.mpr h
        simp only [List.lookup, hb]
        exact ih
theorem keys_putF (f : Str) (v : V) : ∀ fs : List (Str × V), f ∈ (putF f v fs).map (·.1) ∧ ∀ g, g ∈ fs.map (·.1) → g ∈ (putF f v fs).map (·.1)
  | [] => ⟨by simp [putF], fun g h => by simp at h⟩
  | (k, x) :: r => by
    obtain ⟨i1, i2⟩ := keys_putF f v r
    rw [show putF f v ((k, x) :: r) = (if k = f then (k, v) :: r else (k, x) :: putF f v r) from rfl]
    by_cases hk : k = f
    · rw [if_pos hk]
      subst hk
      exact ⟨by simp, fun g h => by simpa using h⟩
    · rw [if_neg hk]
      refine ⟨?_, fun g h => ?_⟩
      · rw [List.map_cons]
        exact List.mem_cons_of_mem _ i1
      · rw [List.map_cons] at h ⊢
        rcases List.mem_cons.mp h with e | e
        · exact List.mem_cons.mpr (.inl e)
        · exact List.mem_cons_of_mem _ (i2 g e)

theorem RelO.some_of {v : V} {o : Option Value} (r : RelO (some v) o) : ∃ u, o = some u ∧ RelV v u := by
  cases o with
  | none => exact (show False from r).elim
  | some u => exact ⟨u, rfl, r⟩
theorem handed_of {v : V} {u : Value} (r : RelV v u) : PySem.W.handedIn u = true := by
  cases v with
  | non => cases (show u = Value.none from r); rfl
  | bl b => cases (show u = Value.bool b from r); rfl
  | int i => obtain ⟨t, e⟩ := (show ∃ t, u = Value.int i t from r); cases e; rfl
  | str x => obtain ⟨t, e⟩ := (show ∃ t, u = Value.str x t from r); cases e; rfl
  | byt b => obtain ⟨t, e⟩ := (show ∃ t, u = Value.bytes b t from r); cases e; rfl
  | flt b => obtain ⟨t, e⟩ := (show ∃ t, u = Value.float b t from r); cases e; rfl
  | ref a => cases (show u = Value.ref a from r); rfl
  | ty n => cases (show u = Value.type n from r); rfl

section
variable {P : Program} {w : World} {H H' : Hp} {h h' : Heap} {a C dx : Addr} {fs fs' : List (Str × V)}
theorem ins_get (hok : HOk P w H h) (e : H a = some (.ins C dx fs)) : ∃ mA, ObjM h a dx C mA ∧ (∀ f, RelO (fs.lookup f) (mA f)) ∧ PySem.Within mA (fs.map (·.1)) ∧ fs.length ≤ 1000 ∧ H dx = some (.own a) := by
  obtain ⟨d, z, ne, ob, mA, n, r, q⟩ := (show ObjOk P w H h a (.ins C dx fs) from hok a _ e)
  exact ⟨mA, ⟨ob, n, ne⟩, r, q, z, d⟩
end

/-! ### what of the text a class must have -/
structure Cls (K : PySem.W.Frag) (C : Addr) : Prop where
  pg : PySem.W.plainGet K C Str.empty = true
  hd : PySem.W.hasDictIn K C = true
  po : PySem.W.plainOver K C = true
  sa : PySem.W.findIn K (.ref C) "__setattr__" = some (some (.builtin "object.__setattr__"))
theorem Cls.get {K : PySem.W.Frag} {C : Addr} (c : Cls K C) (f : Str) : PySem.W.plainGet K C f = true := c.pg
/-- no class of it has the name -/
noncomputable def NoAttr (K : PySem.W.Frag) (C : Addr) (f : Str) : Prop := PySem.W.findIn K (.ref C) f = some none
/-- a constant of the class -/
structure Con (K : PySem.W.Frag) (C : Addr) (f : Str) (v : V) (u : Value) : Prop where
  at_ : PySem.W.findIn K (.ref C) f = some (some u)
  rel : RelV v u
  get : PySem.W.specialIn K u "__get__" = some none
  cp : PySem.W.copiedNames.contains f = false
/-- a method: a plain def of the class or of one above it -/
structure Meth (K : PySem.W.Frag) (C : Addr) (m : Str) (f : Addr) : Prop where
  at_ : PySem.W.findIn K (.ref C) m = some (some (.ref f))
  fn : PySem.W.isFn K (.ref f) = true
  kp : PySem.W.keepIn K (.ref f) = true

section
variable {X : Cx} {pins : List (Addr × Obj)} {σ : St} {H : Hp} {s : Shared} {a C dx : Addr} {fs : List (Str × V)} {f : Str} {v : V} {A : Around} {E : Value → Shared → Prop}





/-- a new instance, tracked, without attributes -/
theorem Inv.made (I : Inv X pins σ H s) : Inv X pins σ (upd (upd H s.heap.objs.size (.own (s.heap.objs.size + 1))) (s.heap.objs.size + 1) (.ins C s.heap.objs.size []))
    { s with heap := (s.heap.push PySem.W.emptyDict).push (PySem.W.instObj C s.heap.objs.size) } := by
  have e1 : (s.heap.push PySem.W.emptyDict).get? s.heap.objs.size = some PySem.W.emptyDict := Heap.get?_push_size s.heap rfl
  have e2 : ((s.heap.push PySem.W.emptyDict).push (PySem.W.instObj C s.heap.objs.size)).get? (s.heap.objs.size + 1) = some (PySem.W.instObj C s.heap.objs.size) := by
    have := Heap.get?_push_size (s.heap.push PySem.W.emptyDict) (o := PySem.W.instObj C s.heap.objs.size) rfl
    rwa [Heap.size_push] at this
  have e3 : (s.heap.push PySem.W.emptyDict).Ns s.heap.objs.size (fun _ => none) := ⟨PySem.W.emptyDict, #[], _, e1, rfl, (fun e he => absurd he (by simp)), fun _ => rfl⟩
  have I1 := I.laid (a := s.heap.objs.size) (o := .own (s.heap.objs.size + 1)) (h' := s.heap.push PySem.W.emptyDict) (t' := s.toks) (fun b u q => Heap.get?_push_of_some _ q) (Nat.le_refl _) ⟨_, e1⟩
  refine I1.laid (a := s.heap.objs.size + 1) (o := .ins C s.heap.objs.size []) (t' := s.toks) (fun b u q => Heap.get?_push_of_some _ q) (Nat.le_of_eq (Heap.size_push _ _)) ?_
  have ne : s.heap.objs.size ≠ s.heap.objs.size + 1 := Nat.ne_of_lt (Nat.lt_succ_self _)
  refine ⟨by rw [upd_ne ne, upd_same], Nat.zero_le _, ne, e2, fun _ => none, (Heap.Ns1.of_empty e3).at fun o q => Heap.get?_push_of_some _ q, fun _ => True.intro, fun y hy => absurd rfl hy⟩

/-- e.f where nothing but the object is asked: through attributeBase (super) and the last hold -/
theorem attr_of {prog : Program} {w : World} {env : Env} {e : Expr} {f : Str} {pos : Pos} {s : Shared} {Q : Value → Shared → Prop} (hb : attributeBase e f env (eval e env) = eval e env)
    (h : wpAny (model prog w) A (eval e env) (fun o s₁ => wpAny (model prog w) A (getAttr o f true) Q E s₁) E s) : wpAny (model prog w) A (eval (.Attribute e f pos) env) Q E s :=
  Attribute_any_ h (by rw [arm_eval_Attribute, hb])
end

/-! ### readings and rules -/
/-- e.f, an attribute of the instance -/
noncomputable def tFld (K : PySem.W.Frag) (ta : TE) (f : Str) : TE := fun σ H Q => ta σ H fun x H1 => ∃ a C dx fs v, x = .ref a ∧ H1 a = some (.ins C dx fs) ∧ Cls K C ∧ NoAttr K C f ∧ fs.lookup f = some v ∧ Q v H1
/-- e.f, a constant of the class -/
noncomputable def tCon (K : PySem.W.Frag) (ta : TE) (f : Str) : TE := fun σ H Q => ta σ H fun x H1 => ∃ a C dx fs v u, x = .ref a ∧ H1 a = some (.ins C dx fs) ∧ Cls K C ∧ Con K C f v u ∧ fs.lookup f = none ∧ Q v H1
/-- e.f = value -/
noncomputable def sFld (K : PySem.W.Frag) (ta tv : TE) (f : Str) : TS := fun D σ H => tv σ H fun y H1 => ta σ H1 fun x H2 => ∃ a C dx fs, x = .ref a ∧ H2 a = some (.ins C dx fs) ∧ Cls K C ∧ NoAttr K C f ∧ fs.length < 1000 ∧
  D.nx σ (upd H2 a (.ins C dx (putF f y fs)))
/-- an augmented operator on two values -/
noncomputable def InOp (X : Cx) (op : Operator) (rd : V → V → Hp → VK → Prop) : Prop :=
  ∀ (pins : List (Addr × Obj)) (s : Shared) (σ : St) (H : Hp) (x y : V) (u v : Value) (Q : VK), Inv X pins σ H s → RelV x u → RelV y v → rd x y H Q → wpAny (model X.prog X.w) X.A (inplaceOp op u v) (EP X pins σ Q) X.xe s
/-- e.f op= value -/
noncomputable def sFldAug (K : PySem.W.Frag) (ta tv : TE) (rd : V → V → Hp → VK → Prop) (f : Str) : TS := fun D σ H => ta σ H fun x H1 => ∃ a C dx fs v, x = .ref a ∧ H1 a = some (.ins C dx fs) ∧ Cls K C ∧ NoAttr K C f ∧ fs.lookup f = some v ∧
  tv σ H1 fun y H2 => rd v y H2 fun z H3 => ∃ dx' fs', H3 a = some (.ins C dx' fs') ∧ fs'.length < 1000 ∧ D.nx σ (upd H3 a (.ins C dx' (putF f z fs')))

section
variable {X : Cx} {o e value : Expr} {f : Str} {pos pos' tpos : Pos} {ta tv : TE}
noncomputable def rAdd : V → V → Hp → VK → Prop := fun x y H Q => ∃ i j, x = .int i ∧ y = .int j ∧ Q (.int (i + j)) H
noncomputable def rSub : V → V → Hp → VK → Prop := fun x y H Q => ∃ i j, x = .int i ∧ y = .int j ∧ Q (.int (i - j)) H

end

/-! ### isinstance -/
section
variable {X : Cx} {pins : List (Addr × Obj)} {σ : St} {H : Hp} {s : Shared} {A : Around} {E : Value → Shared → Prop} {Q : Value → Shared → Prop} {c : Value} {b : Bool}
/-- the type of a value, as the fragment's deciders take it; for an instance its class -/
inductive TyOf (K : PySem.W.Frag) (H : Hp) : V → Value → Prop where
  | non : TyOf K H .non (.type "NoneType")
  | bl (x : Bool) : TyOf K H (.bl x) (.type "bool")
  | int (i : Int) : TyOf K H (.int i) (.type "int")
  | str (x : Str) : TyOf K H (.str x) (.type "str")
  | flt (x : UInt64) : TyOf K H (.flt x) (.type "float")
  | lst {a : Addr} {xs : List V} (e : H a = some (.lst xs)) : TyOf K H (.ref a) (.type "list")
  | frz {a : Addr} {o : Obj} {xs : List V} (e : H a = some (.frz o (.lst xs))) : TyOf K H (.ref a) (.type "list")
  | tup {a : Addr} {xs : List V} (e : H a = some (.tup xs)) : TyOf K H (.ref a) (.type "tuple")
  | dK {a : Addr} {kvs : List (Key × V)} (e : H a = some (.dK kvs)) : TyOf K H (.ref a) (.type "dict")
  | dT {a : Addr} {kvs : List (List Key × V)} (e : H a = some (.dT kvs)) : TyOf K H (.ref a) (.type "dict")
  | ins {a C dx : Addr} {fs : List (Str × V)} (e : H a = some (.ins C dx fs)) (cl : Cls K C) (ha : PySem.W.findIn K (.ref C) "__class__" = some (some (.builtin "object.__class__")))
      (hn : PySem.W.specialIn K (.builtin "object.__class__") "__get__" = some (some (.builtin "getset_descriptor.__get__"))) (htk : PySem.W.takesIn K (.builtin "object.__class__") = some true)
      (hm : PySem.W.mroIn K C (.type "object") = some true) : TyOf K H (.ref a) (.ref C)
/-- isinstance(x, c) for one class c, a built-in or an own one: kitOne's answer -/
theorem isinst_ok {x : V} {u t : Value} (I : Inv X pins σ H s) (rx : RelV x u) (ty : TyOf X.K H x t) (e : PySem.W.kitOne X.K t c = some b) (h : ∀ tk, Q (.bool b) { s with toks := tk }) :
    wpAny (model X.prog X.w) A (call (.builtin "isinstance") [u, c]) Q E s := by
  cases ty with
  | non => cases (show u = Value.none from rx); exact PySem.W.kia_one PySem.W.kitx_none I.kIn True.intro e (fun z => nomatch z) h
  | bl y => cases (show u = Value.bool y from rx); exact PySem.W.kia_one PySem.W.kitx_bool I.kIn True.intro e (fun z => nomatch z) h
  | int i => obtain ⟨t, q⟩ := (show ∃ t, u = Value.int i t from rx); cases q; exact PySem.W.kia_one PySem.W.kitx_int I.kIn True.intro e (fun z => nomatch z) h
  | str y => obtain ⟨t, q⟩ := (show ∃ t, u = Value.str y t from rx); cases q; exact PySem.W.kia_one PySem.W.kitx_str I.kIn True.intro e (fun z => nomatch z) h
  | flt y => obtain ⟨t, q⟩ := (show ∃ t, u = Value.float y t from rx); cases q; exact PySem.W.kia_one PySem.W.kitx_float I.kIn True.intro e (fun z => nomatch z) h
  | @lst a xs ea =>
    cases (show u = Value.ref a from rx)
    obtain ⟨_, _, n, _, h1⟩ := (show ObjOk X.prog X.w H s.heap a (.lst xs) from I.hok a _ ea)
    exact PySem.W.kia_one PySem.W.kitx_list I.kIn ⟨_, h1, rfl⟩ e (fun z => nomatch z) h
  | @frz a ob xs ea =>
    cases (show u = Value.ref a from rx)
    obtain ⟨_, _, _, n, _, h1⟩ := (show ObjOk X.prog X.w H s.heap a (.frz ob (.lst xs)) from I.hok a _ ea)
    exact PySem.W.kia_one PySem.W.kitx_list I.kIn ⟨_, h1, rfl⟩ e (fun z => nomatch z) h
  | @tup a xs ea =>
    cases (show u = Value.ref a from rx)
    obtain ⟨_, _, _, p⟩ := (show ObjOk X.prog X.w H s.heap a (.tup xs) from I.hok a _ ea)
    obtain ⟨o, h1, h2, _⟩ := p
    exact PySem.W.kia_one PySem.W.kitx_tuple I.kIn ⟨o, h1, h2⟩ e (fun z => nomatch z) h
  | @dK a kvs ea =>
    cases (show u = Value.ref a from rx)
    obtain ⟨_, _, vs, _, p⟩ := (show ObjOk X.prog X.w H s.heap a (.dK kvs) from I.hok a _ ea)
    obtain ⟨o, es, ep, h1, h2, _⟩ := p
    exact PySem.W.kia_one PySem.W.kitx_dict I.kIn ⟨o, h1, h2.1⟩ e (fun z => nomatch z) h
  | @dT a kvs ea =>
    cases (show u = Value.ref a from rx)
    obtain ⟨_, _, xs, _, o, es, ep, h1, h2, _⟩ := (show ObjOk X.prog X.w H s.heap a (.dT kvs) from I.hok a _ ea)
    exact PySem.W.kia_one PySem.W.kitx_dict I.kIn ⟨o, h1, h2.1⟩ e (fun z => nomatch z) h
  | @ins a C dx fs ea cl ha hn htk hm =>
    cases (show u = Value.ref a from rx)
    obtain ⟨mA, O, _⟩ := ins_get I.hok ea
    obtain ⟨od, J, _⟩ := O.look
    exact PySem.W.kia_one (PySem.W.kitx_own (cl.get _) cl.hd ha hn htk hm) I.kIn J e (fun z => nomatch z) h
end
end L2

namespace L2
open PySem PySem.Spec PyProof.Rows

/-! ### room -/
structure Room (k : Nat) (A : Around) : Prop where
  hd : A.handled = none
  dp : A.depth + 3 * k + 5 < recursionLimit
  un : A.units + 16 * k + 200 < cLine
  gd : A.guards = some []
theorem Room.mono {j k : Nat} {A : Around} (r : Room k A) (h : j ≤ k) : Room j A := ⟨r.hd, by have := r.dp; omega, by have := r.un; omega, r.gd⟩
theorem Room.deeper {k : Nat} {A : Around} (r : Room (k + 1) A) (env : Env) : Room k (A.deeper env) :=
  ⟨r.hd, by have := r.dp; show A.depth + 1 + 3 * k + 5 < _; omega, by have := r.un; show A.units + 3 + 16 * k + 200 < _; omega, r.gd⟩
theorem Room.in1 {k : Nat} {A : Around} (r : Room (k + 1) A) : Room k A.in1 :=
  ⟨r.hd, by have := r.dp; show A.depth + 3 * k + 5 < _; omega, by have := r.un; show A.units + 1 + 16 * k + 200 < _; omega, r.gd⟩
theorem make_depth {A : Around} {C : Addr} {us : List Value} {kw : List (Str × Value)} : (A.under (.builtin "type.__call__" ⟨.ref C :: us, kw⟩)).depth = A.depth + 1 := by
  first | rfl | simp [Around.under, Code.weight, Code.isCreation, Code.isGuard, Code.isCaller, Code.frames, Code.isFrame, guardIds]
theorem make_units {A : Around} {C : Addr} {us : List Value} {kw : List (Str × Value)} : (A.under (.builtin "type.__call__" ⟨.ref C :: us, kw⟩)).units = A.units + 1 := by
  first | rfl | simp [Around.under, Code.cUnits, Code.frames, Code.isFrame]
theorem Room.make {k : Nat} {A : Around} (r : Room (k + 1) A) (C : Addr) (us : List Value) (kw : List (Str × Value)) : Room k (A.under (.builtin "type.__call__" ⟨.ref C :: us, kw⟩)) :=
  ⟨r.hd, by have := r.dp; rw [make_depth]; omega, by have := r.un; rw [make_units]; omega, by first | exact r.gd | simpa [Around.under, Code.isGuard, Code.isFrame, guardIds] using r.gd⟩
theorem Room.depth {k : Nat} {A : Around} (r : Room k A) : A.depth < recursionLimit := by have := r.dp; omega
theorem Room.units {k : Nat} {A : Around} (r : Room k A) : A.units + 64 < cLine := by have := r.un; omega

/-! ### argument lists and displays -/
noncomputable def tNil : TA := fun _ H Q => Q [] H
noncomputable def tCons (ta : TE) (tr : TA) : TA := fun σ H Q => ta σ H fun x H1 => tr σ H1 fun xs H2 => Q (x :: xs) H2
section
variable {X : Cx} {e : Expr} {es : List Expr} {te : TE} {t : TA} {pos : Pos}
theorem pa_nil : PA X [] tNil := fun _ _ _ _ H Q I h => Calls.spliced_nil ⟨[], H, I, .nil, h⟩
theorem pa_cons (ha : PE X e te) (hr : PA X es t) (hs : starEach (e :: es) X.env = (false, eval e X.env) :: starEach es X.env := by rfl) : PA X (e :: es) (tCons te t) := by
  intro pos pins s σ H Q I h
  rw [hs]
  show wpAny _ _ (spliced ((false, eval e X.env) :: backTo pos (starEach es X.env))) _ _ s
  refine Calls.spliced_cons (thn (ha pins s σ H _ I h) fun u s1 ⟨x, H1, I1, r1, q1⟩ => ?_)
  exact thn (hr pos pins s1 σ H1 _ I1 q1) fun us s2 ⟨xs, H2, I2, r2, q2⟩ => ⟨x :: xs, H2, I2, .cons r1 r2, q2⟩

/-- a tuple, a list of written items -/
noncomputable def tTup (t : TA) : TE := fun σ H Q => t σ H fun xs H1 => xs.length ≤ sizeLine ∧ ∀ p, H1 p = none → Q (.ref p) (upd H1 p (.tup xs))
noncomputable def tLst (t : TA) : TE := fun σ H Q => t σ H fun xs H1 => xs.length ≤ sizeLine ∧ ∀ p, H1 p = none → Q (.ref p) (upd H1 p (.lst xs))
theorem pe_tup {x1} (h : PA X es t) : PE X (.Tuple es x1 pos) (tTup t) := by
  intro pins s σ H Q I hq
  refine wpAny_Tuple_spliced (thn (h pos pins s σ H _ I hq) fun us s1 ⟨xs, H1, I1, r, z, q⟩ => ⟨by rw [← r.length]; exact z, ?_⟩)
  have hf : H1 s1.heap.objs.size = none := I1.hok.fresh (Nat.le_refl _)
  refine ⟨.ref s1.heap.objs.size, upd H1 s1.heap.objs.size (.tup xs), I1.laid (t' := s1.toks) (fun b u e => Heap.get?_push_of_some _ e) (Nat.le_refl _) ?_, rfl, q _ hf⟩
  exact ⟨z, us, r, ⟨_, Heap.get?_push_size _ rfl, rfl, _, rfl⟩⟩
theorem pe_lst (h : PA X es t) : PE X (.List es pos) (tLst t) := by
  intro pins s σ H Q I hq
  refine wpAny_List_spliced (thn (h pos pins s σ H _ I hq) fun us s1 ⟨xs, H1, I1, r, z, q⟩ => ⟨by rw [← r.length]; exact z, ?_⟩)
  have hf : H1 s1.heap.objs.size = none := I1.hok.fresh (Nat.le_refl _)
  refine ⟨.ref s1.heap.objs.size, upd H1 s1.heap.objs.size (.lst xs), I1.laid (t' := s1.toks) (fun b u e => Heap.get?_push_of_some _ e) (Nat.le_refl _) ?_, rfl, q _ hf⟩
  exact ⟨z, us, 0, r, Heap.get?_push_size _ rfl⟩
end

/-! ### what a def promises -/
/-- a def's promise: the bound arguments in the parameters' order, the heap, the wanted end, the wanted exception -/
noncomputable abbrev Sp := List V → Hp → VK → XK → Prop
/-- how an exception lies behind a call (file 08 gives it): the callers' frames, abstract heap and state ahead of the call, the wish, the exception, the state -/
noncomputable abbrev CXT := List Env → Hp → Shared → XK → Value → Shared → Prop

/-- the state at a call -/
structure Env0 (P : Program) (w : World) (K : PySem.W.Frag) (mg : Str → Option Value) (base : Heap) (A : Around) (outer : List Env) (s : Shared) (H : Hp) : Prop where
  frames : A.frames = some outer
  mod : Mod K mg base
  bs : ∀ b o, base.get? b = some o → s.heap.get? b = some o ∧ H b = none
  bsz : base.objs.size ≤ s.heap.objs.size
  funs : s.heap.FunFrames base outer
  frf : ∀ b ∈ frs outer, H b = none
  hok : HOk P w H s.heap
  bare : AllBare s.gens
/-- a call's end -/
noncomputable def CE (outer : List Env) (P : Program) (w : World) (H : Hp) (s : Shared) (Q : VK) (u : Value) (s' : Shared) : Prop :=
  ∃ v H', s'.os = s.os ∧ AllBare s'.gens ∧ Un (frs outer) [] H H' s.heap s'.heap ∧ HOk P w H' s'.heap ∧ RelV v u ∧ Q v H'
noncomputable def CR (CX : CXT) (outer : List Env) (P : Program) (w : World) (H : Hp) (s : Shared) (Q : VK) (E : XK) (r : Result) (s' : Shared) : Prop :=
  match r with
  | .ok (.ret u) => CE outer P w H s Q u s'
  | .ok _ => False
  | .error e => CX outer H s E e s'
structure FnOk (P : Program) (w : World) (K : PySem.W.Frag) (mg : Str → Option Value) (base : Heap) (CX : CXT) (k : Nat) (f : Addr) (fd : FuncData) (ps : List Str) (sp : Sp) : Prop where
  len : ∀ vs H Q E, sp vs H Q E → vs.length = ps.length
  run : ∀ (A : Around) (outer : List Env) (s : Shared) (H : Hp) (args : Args) (us : List Value) (vs : List V) (Q : VK) (E : XK), Room k A → Env0 P w K mg base A outer s H → BindsTo s fd args (ps.zip us) → Vals vs us → sp vs H Q E →
    codeAny (model P w) A (.call (.ref f) args) (CR CX outer P w H s Q E) s
theorem FnOk.mono {P : Program} {w : World} {K : PySem.W.Frag} {mg : Str → Option Value} {base : Heap} {CX : CXT} {j k : Nat} {f : Addr} {fd : FuncData} {ps : List Str} {sp : Sp} (F : FnOk P w K mg base CX j f fd ps sp) (h : j ≤ k) :
    FnOk P w K mg base CX k f fd ps sp := ⟨F.len, fun A outer s H args us vs Q E hr => F.run A outer s H args us vs Q E (hr.mono h)⟩
/-- a weaker promise -/
theorem FnOk.imp {P : Program} {w : World} {K : PySem.W.Frag} {mg : Str → Option Value} {base : Heap} {CX : CXT} {k : Nat} {f : Addr} {fd : FuncData} {ps : List Str} {sp sp' : Sp} (F : FnOk P w K mg base CX k f fd ps sp)
    (h : ∀ vs H Q E, sp' vs H Q E → sp vs H Q E) : FnOk P w K mg base CX k f fd ps sp' :=
  ⟨fun vs H Q E q => F.len vs H Q E (h _ _ _ _ q), fun A outer s H args us vs Q E hr he hb hv hs => F.run A outer s H args us vs Q E hr he hb hv (h _ _ _ _ hs)⟩

theorem Env0.make {P : Program} {w : World} {K : PySem.W.Frag} {mg : Str → Option Value} {base : Heap} {A : Around} {outer : List Env} {s : Shared} {H : Hp} (e : Env0 P w K mg base A outer s H) (C : Addr) (us : List Value) (kw : List (Str × Value)) :
    Env0 P w K mg base (A.under (.builtin "type.__call__" ⟨.ref C :: us, kw⟩)) outer s H := ⟨by first | exact e.frames | (simpa [Around.under, Code.envs, Code.isFrame, pushEnvs] using e.frames), e.mod, e.bs, e.bsz, e.funs, e.frf, e.hok, e.bare⟩
theorem Env0.in1 {P : Program} {w : World} {K : PySem.W.Frag} {mg : Str → Option Value} {base : Heap} {A : Around} {outer : List Env} {s : Shared} {H : Hp} (e : Env0 P w K mg base A outer s H) :
    Env0 P w K mg base A.in1 outer s H := ⟨e.frames, e.mod, e.bs, e.bsz, e.funs, e.frf, e.hok, e.bare⟩

section
variable {X : Cx} {pins : List (Addr × Obj)} {σ : St} {H : Hp} {s s' : Shared}
/-- from a body: what a callee wants -/
theorem Inv.env0 (I : Inv X pins σ H s) : Env0 X.prog X.w X.K X.mg X.base X.A X.stack s H :=
  ⟨I.ok.frames, I.ok.mod, I.bs, Nat.le_trans I.ok.bsz I.sz, I.stack, I.stkFree, I.hok, I.bare⟩
/-- behind a call -/
theorem Inv.after {Q : VK} {u : Value} (I : Inv X pins σ H s) (h : CE X.stack X.prog X.w H s Q u s') : EP X pins σ Q u s' := by
  obtain ⟨v, H', os, bare, un, hok, r, q⟩ := h
  obtain ⟨hh, g, d, t, os'⟩ := s'
  obtain rfl : os' = s.os := os
  exact ⟨v, H', I.call (h' := hh) (g' := g) (d' := d) (t' := t) (ch := []) un hok bare (fun b z => absurd z (by simp)), r, q⟩
end

/-! ### calls -/
/-- f(..): the written arguments, then the defaults dvs; E: what is wanted of an exception -/
noncomputable def tCall (sp : Sp) (dvs : List V) (E : XK) (t : TA) : TE := fun σ H Q => t σ H fun vs H1 => sp (vs ++ dvs) H1 Q E
/-- o.m(..) of an instance of the class at C -/
noncomputable def tMeth (C : Addr) (m : Str) (sp : Sp) (dvs : List V) (E : XK) (ta : TE) (t : TA) : TE := fun σ H Q => ta σ H fun x H1 => ∃ a dx fs, x = .ref a ∧ H1 a = some (.ins C dx fs) ∧ fs.lookup m = none ∧
  t σ H1 fun vs H2 => sp (x :: (vs ++ dvs)) H2 Q E
/-- C(..): a new instance and its dict, then __init__ -/
noncomputable def tMake (C : Addr) (sp : Sp) (dvs : List V) (E : XK) (t : TA) : TE := fun σ H Q => t σ H fun vs H1 => ∀ x dx, H1 x = none → H1 dx = none → dx ≠ x →
  sp (.ref x :: (vs ++ dvs)) (upd (upd H1 dx (.own x)) x (.ins C dx [])) (fun v H2 => v = .non ∧ Q (.ref x) H2) E

/-- how the parameters are bound: us the positional arguments, kw the keywords' values by name, ds the defaults that fill up -/
noncomputable def Binds (K : PySem.W.Frag) (fd : FuncData) (ps : List Str) (ds : List Value) : Prop :=
  ∀ (s : Shared) (us : List Value), K.In s.heap → (us ++ ds).length = ps.length → BindsTo s fd ⟨us, []⟩ (ps.zip (us ++ ds))
/-- every parameter is given -/
theorem Binds.all {K : PySem.W.Frag} {fd : FuncData} {ps : List Str} (h : ∀ us : List Value, us.length = ps.length → bindArgs fd ⟨us, []⟩ = pure (ps.zip us)) : Binds K fd ps [] := fun s us _ hl => by
  rw [List.append_nil] at hl ⊢
  exact .of_eq (h us hl)

/-- an exception of a callee reaches what this body wants of exceptions -/
noncomputable def Passes (CX : CXT) (X : Cx) (E : XK) : Prop := ∀ (pins : List (Addr × Obj)) (σ : St) (H : Hp) (s : Shared) (e : Value) (s' : Shared), Inv X pins σ H s → CX X.stack H s E e s' → X.xe e s'

section
variable {X : Cx} {CX : CXT} {k : Nat} {f C : Addr} {fd : FuncData} {ps : List Str} {sp : Sp} {dvs : List V} {ds : List Value} {E : XK} {x m : Str} {p pos apos : Pos} {e o : Expr} {es : List Expr} {ta : TE} {t : TA}

/-- the callee runs -/
theorem run_fn {pins : List (Addr × Obj)} {σ : St} {H : Hp} {s : Shared} {Q : VK} {us : List Value} {vs : List V} (F : FnOk X.prog X.w X.K X.mg X.base CX k f fd ps sp) (hr : Room k X.A) (hb : Binds X.K fd ps ds) (hd : Vals dvs ds) (hx : Passes CX X E)
    (I : Inv X pins σ H s) (r : Vals vs us) (h : sp (vs ++ dvs) H Q E) : wpAny (model X.prog X.w) X.A (call (.ref f) us) (EP X pins σ Q) X.xe s := by
  have r2 : Vals (vs ++ dvs) (us ++ ds) := r.append hd
  have hl : (us ++ ds).length = ps.length := by rw [← r2.length]; exact F.len _ _ _ _ h
  refine wpAny_call (codeAny_mono (F.run X.A X.stack s H ⟨us, []⟩ (us ++ ds) (vs ++ dvs) Q E hr I.env0 (hb s us I.kIn hl) r2 h) fun r s' hq => ?_)
  cases r with
  | error e => exact hx pins σ H s e s' I hq
  | ok fl =>
    cases fl with
    | ret u => exact I.after hq
    | next => exact False.elim hq
    | brk => exact False.elim hq
    | cont => exact False.elim hq

theorem pe_call (F : FnOk X.prog X.w X.K X.mg X.base CX k f fd ps sp) (hr : Room k X.A) (hg : Gl X x) (hm : X.mg x = some (.ref f)) (hk : PySem.W.keepIn X.K (.ref f) = true) (hb : Binds X.K fd ps ds) (hd : Vals dvs ds) (hx : Passes CX X E)
    (ha : PA X (e :: es) t) (hdb : (x == ("__debug__" : Str)) = false := by decide) (he : starEach (e :: es) X.env = (false, eval e X.env) :: starEach es X.env := by rfl) (hpl : (backTo pos (starEach es X.env)).any (·.1) = false := by rfl) :
    PE X (.Call (.Name x p) (e :: es) [] pos) (tCall sp dvs E t) := by
  intro pins s σ H Q I h
  refine wpAny_Call_Name_kw (ld_glob I hg hm ?_ hdb)
  refine PySem.W.callWith_K (h₀ := X.base) I.ok.mod.kin hk (thn (ha pos pins s σ H _ I h) fun us s1 ⟨vs, H1, I1, r, q⟩ => ⟨I1.kIn, ?_⟩) he hpl
  exact run_fn F hr hb hd hx I1 r q
theorem pe_call0 (F : FnOk X.prog X.w X.K X.mg X.base CX k f fd ps sp) (hr : Room k X.A) (hg : Gl X x) (hm : X.mg x = some (.ref f)) (hk : PySem.W.keepIn X.K (.ref f) = true) (hb : Binds X.K fd ps ds) (hd : Vals dvs ds) (hx : Passes CX X E)
    (hdb : (x == ("__debug__" : Str)) = false := by decide) : PE X (.Call (.Name x p) [] [] pos) (tCall sp dvs E tNil) := by
  intro pins s σ H Q I h
  refine wpAny_Call_Name_kw (ld_glob I hg hm ?_ hdb)
  exact PySem.W.callWith_K0 I.kIn hk (run_fn (us := []) F hr hb hd hx I .nil h)


/-- what a class must have to be made -/
structure Mk (K : PySem.W.Frag) (C f : Addr) : Prop where
  makes : PySem.W.makesIn K C = true
  init : PySem.W.findIn K (.ref C) "__init__" = some (some (.ref f))
  fn : PySem.W.isFn K (.ref f) = true
  kp : PySem.W.keepIn K (.ref C) = true

end

/-! ### keywords -/
/-- the values of the keywords, from the left -/
noncomputable def PK (X : Cx) (kws : List Keyword) (t : TA) : Prop :=
  ∀ (pos : Pos) (pins : List (Addr × Obj)) (s : Shared) (σ : St) (H : Hp) (Q : List V → Hp → Prop), Inv X pins σ H s → t σ H Q → wpAny (model X.prog X.w) X.A (evalAll ((backToKw pos (keywordEach kws X.env)).map (·.2))) (AP X pins σ Q) X.xe s
section
variable {X : Cx} {CX : CXT} {k : Nat} {f C : Addr} {fd : FuncData} {ps ks : List Str} {sp : Sp} {E : XK} {x m : Str} {p pos apos kpos : Pos} {e o : Expr} {es : List Expr} {kws : List Keyword} {te ta : TE} {t tk : TA} {nm : Option Str}

/-- how a call with keywords binds: g puts the positional values us and the keywords' values ws (names ks) in the parameters' order, defaults among them -/
structure KBinds (K : PySem.W.Frag) (fd : FuncData) (ps ks : List Str) (g : List Value → List Value → List Value) (gV : List V → List V → List V) : Prop where
  to : ∀ (s : Shared) (us ws : List Value), K.In s.heap → (g us ws).length = ps.length → BindsTo s fd ⟨us, ks.zip ws⟩ (ps.zip (g us ws))
  rel : ∀ {vs : List V} {us : List Value} {zs : List V} {ws : List Value}, Vals vs us → Vals zs ws → Vals (gV vs zs) (g us ws)
noncomputable def tCallK (sp : Sp) (gV : List V → List V → List V) (E : XK) (t tk : TA) : TE := fun σ H Q => t σ H fun vs H1 => tk σ H1 fun zs H2 => sp (gV vs zs) H2 Q E
variable {g : List Value → List Value → List Value} {gV : List V → List V → List V}
end

/-! ### a def's body keeps its promise -/
/-- names: the parameters first -/
structure FnScope (N P : List Str) (sc : Scope) : Prop where
  kind : sc.kind = .function
  co : sc.isCoroutine = false
  gen : sc.isGenerator = false
  nd : N.Nodup
  pre : N.take P.length = P
  par : ∀ x ∈ P, sc.names.lookup x = some .local ∨ sc.names.lookup x = some .cell
  nofree : ∀ y ∈ sc.names, y.2 ≠ .free

theorem bindL_out {kindOf : Str → Option NameKind} {x : Str} : ∀ {binds : List (Str × Value)} {m : Str → Option Value}, (∀ v, (x, v) ∉ binds) → bindL kindOf binds m x = m x
  | [], _, _ => rfl
  | (n, v) :: r, m, h => by
    unfold bindL
    rw [bindL_out fun w hw => h w (List.mem_cons_of_mem _ hw)]
    split
    · have : x ≠ n := by rintro rfl; exact h v List.mem_cons_self
      simp [this]
    · rfl
theorem bindC_out {kindOf : Str → Option NameKind} {x : Str} : ∀ {binds : List (Str × Value)} {m : Str → Option Value}, (∀ v, (x, v) ∉ binds) → bindC kindOf binds m x = m x
  | [], _, _ => rfl
  | (n, v) :: r, m, h => by
    unfold bindC
    rw [bindC_out fun w hw => h w (List.mem_cons_of_mem _ hw)]
    split
    · rfl
    · have : x ≠ n := by rintro rfl; exact h v List.mem_cons_self
      simp [this]
theorem bindL_get {kindOf : Str → Option NameKind} {x : Str} {v : Value} : ∀ {P : List Str} {vs : List Value} {i : Nat} {m : Str → Option Value}, P.Nodup → P[i]? = some x → vs[i]? = some v → kindOf x = some .local →
    bindL kindOf (P.zip vs) m x = some v
  | [], _, _, _, _, h, _, _ => by simp at h
  | _ :: _, [], _, _, _, _, h, _ => by simp at h
  | p :: P, w :: vs, 0, m, nd, h1, h2, hk => by
    simp at h1 h2; subst h1; subst h2
    show bindL kindOf ((p, w) :: P.zip vs) m p = _
    unfold bindL
    rw [bindL_out fun v hv => (List.nodup_cons.mp nd).1 (List.of_mem_zip hv).1, if_pos hk]
    simp
  | p :: P, w :: vs, i + 1, m, nd, h1, h2, hk => by
    show bindL kindOf ((p, w) :: P.zip vs) m x = _
    unfold bindL
    exact bindL_get (i := i) (List.nodup_cons.mp nd).2 (by simpa using h1) (by simpa using h2) hk
theorem bindC_get {kindOf : Str → Option NameKind} {x : Str} {v : Value} : ∀ {P : List Str} {vs : List Value} {i : Nat} {m : Str → Option Value}, P.Nodup → P[i]? = some x → vs[i]? = some v → kindOf x ≠ some .local →
    bindC kindOf (P.zip vs) m x = some v
  | [], _, _, _, _, h, _, _ => by simp at h
  | _ :: _, [], _, _, _, _, h, _ => by simp at h
  | p :: P, w :: vs, 0, m, nd, h1, h2, hk => by
    simp at h1 h2; subst h1; subst h2
    show bindC kindOf ((p, w) :: P.zip vs) m p = _
    unfold bindC
    rw [bindC_out fun v hv => (List.nodup_cons.mp nd).1 (List.of_mem_zip hv).1, if_neg hk]
    simp
  | p :: P, w :: vs, i + 1, m, nd, h1, h2, hk => by
    show bindC kindOf ((p, w) :: P.zip vs) m x = _
    unfold bindC
    exact bindC_get (i := i) (List.nodup_cons.mp nd).2 (by simpa using h1) (by simpa using h2) hk

/-- the names' values at the entry -/
noncomputable def start (N : List Str) (vs : List V) : St := vs.map some ++ List.replicate (N.length - vs.length) none

/-- the context of a def's body, at its entry; an exception leaves the frame, then lies as CX says -/
noncomputable def cxOf (CX : CXT) (P : Program) (w : World) (K : PySem.W.Frag) (mg : Str → Option Value) (base : Heap) (N : List Str) (qual : Str) (scope : Scope) (f : Addr) (cd : Value) (A : Around) (outer : List Env) (s : Shared) (H : Hp) (E : XK) : Cx where
  prog := P
  w := w
  K := K
  mg := mg
  base := base
  A := A.deeper (envOfC qual scope s.heap.objs.size f cd)
  N := N
  s₀ := s
  H₀ := H
  env := envOfC qual scope s.heap.objs.size f cd
  outer := outer
  stack := envOfC qual scope s.heap.objs.size f cd :: outer
  ex := []
  calm := true
  fn := fun _ => true
  pn := []
  xe := fun e s' => wpAny (model P w) (A.deeper (envOfC qual scope s.heap.objs.size f cd)) (leaving (envOfC qual scope s.heap.objs.size f cd) e) (fun _ s'' => CX outer H s E e s'') (fun e' s'' => CX outer H s E e' s'') s'

theorem cell_has {sc : Scope} {n : Nat} {x : Str} (h : sc.names.lookup x = some .cell) : ∃ c, (cellsFrom n sc.names []).lookup x = some c := by
  have q := PySem.W.cellsFrom_some sc.names n [] (.inl h)
  exact Option.isSome_iff_exists.mp q

theorem inv_start {CX : CXT} {P : Program} {w : World} {K : PySem.W.Frag} {mg : Str → Option Value} {base : Heap} {N ps : List Str} {qual : Str} {scope : Scope} {f : Addr} {cd : Value} {A : Around} {outer : List Env} {s s1 : Shared} {H : Hp} {E : XK} {us : List Value} {vs : List V}
    (S : FnScope N ps scope) (hd : A.handled = none) (e0 : Env0 P w K mg base A outer s H) (hl : vs.length = ps.length) (r : Vals vs us)
    (x : InCallC s s.heap.objs.size (bindL (envOfC qual scope s.heap.objs.size f cd).kindOf (ps.zip us) fun _ => none) (cellsFrom (s.heap.objs.size + 1) scope.names []) (bindC (envOfC qual scope s.heap.objs.size f cd).kindOf (ps.zip us) fun _ => none) s1) :
    Inv (cxOf CX P w K mg base N qual scope f cd A outer s H E) [] (start N vs) H s1 := by
  have hpl : ps.length ≤ N.length := by have := congrArg List.length S.pre; rw [List.length_take] at this; omega
  obtain ⟨h1, tk, rfl, hk⟩ := x.done
  have noA : ∀ b : Addr, b ∉ (cxOf CX P w K mg base N qual scope f cd A outer s H E).ex := fun b z => absurd (show b ∈ ([] : List Addr) from z) (by simp)
  refine ⟨⟨e0.mod, S.kind, rfl, rfl, Nat.le_refl _, fun y z c h1 h2 => ?_, fun y hy => ?_, fun y c _ h => ?_, fun _ => hd, Around.frames_deeper e0.frames, .inr ⟨rfl, rfl⟩, fun b z => absurd z (noA b), e0.bs, e0.bsz, fun b _ _ => noA b, fun b z => absurd z (noA b), e0.funs, e0.frf⟩,
    rfl, e0.bare, Un.kept hk, ⟨_, x.toInCall.ns, fun i y v h1 h2 h3 => ?_⟩, fun y c h => ⟨_, x.cell y c h⟩, e0.hok.fresh (Nat.le_refl _), fun y c h => ?_, fun p hp => absurd (show p ∈ ([] : List (Addr × Obj)) from hp) (by simp), e0.hok.kept hk, ?_⟩
  · exact name_of_addr x.apart (PySem.mem_of_lookup h1) (PySem.mem_of_lookup h2)
  · have hy : scope.names.lookup y = some .cell ∨ scope.names.lookup y = some .free := hy
    rcases hy with hy | hy
    · exact cell_has hy
    · exact absurd rfl (S.nofree _ (PySem.mem_of_lookup hy))
  · exact Nat.le_of_lt (x.above y c (PySem.mem_of_lookup h))
  · have hi : i < vs.length := by
      unfold start at h2
      by_cases hi : i < vs.length
      · exact hi
      · rw [List.getElem?_append_right (by simpa using hi)] at h2
        rw [List.getElem?_replicate] at h2
        split at h2 <;> cases h2
    have ha : vs[i]? = some v := by
      unfold start at h2
      rw [List.getElem?_append_left (by simpa using hi), List.getElem?_map] at h2
      cases e : vs[i]? with
      | none => rw [e] at h2; cases h2
      | some a => rw [e] at h2; cases h2; rfl
    obtain ⟨u, hu, rv⟩ := r.get ha
    have hp : ps[i]? = some y := by
      rw [← S.pre, List.getElem?_take_of_lt (by omega)]; exact h1
    have ndP : ps.Nodup := by rw [← S.pre]; exact S.nd.sublist (List.take_sublist _ _)
    refine ⟨u, rv, ?_⟩
    rcases S.par y (List.mem_of_getElem? hp) with k | k
    · exact .inl ⟨k, bindL_get ndP hp hu k⟩
    · obtain ⟨c, e⟩ := cell_has (n := s.heap.objs.size + 1) k
      refine .inr ⟨.inl k, c, e, ?_⟩
      have q := x.cell y c e
      rw [bindC_get ndP hp hu (by show scope.names.lookup y ≠ _; rw [k]; decide)] at q
      exact q
  · exact e0.hok.fresh (Nat.le_of_lt (x.above y c (PySem.mem_of_lookup h)))
  · unfold start
    show _ = N.length
    rw [List.length_append, List.length_map, List.length_replicate]
    omega

/-- THE RULE: a def (or a method) of the text, by its body. The body's reading t is chosen for each entry; it is run at the parameters' values -/
theorem fn_of {CX : CXT} {P : Program} {w : World} {K : PySem.W.Frag} {mg : Str → Option Value} {base : Heap} {k : Nat} {f : Addr} {name qual : Str} {params : Arguments} {body : List Stmt} {scope : Scope} {dV kV doc pm cdv ct oc : Value} {an od : Option Addr}
    {osl : Array (Option Value)} {N ps : List Str} {sp : Sp} (lk : K.lookup f = some ⟨oc, od, .func (PySem.W.fnOf name qual params body scope dV kV doc pm an cdv ct), osl⟩) (hcd : PySem.W.codeIn K cdv qual = true) (S : FnScope N ps scope)
    (len : ∀ vs H Q E, sp vs H Q E → vs.length = ps.length)
    (hbody : ∀ (A : Around) (outer : List Env) (s : Shared) (H : Hp) (vs : List V) (Q : VK) (E : XK), Room k (A.deeper (envOfC qual scope s.heap.objs.size f cdv)) → sp vs H Q E →
      ∃ t, PSs (cxOf CX P w K mg base N qual scope f cdv A outer s H E) body t ∧ t { nx := fun _ H' => Q .non H', rt := Q } (start N vs) H) :
    FnOk P w K mg base CX (k + 1) f (PySem.W.fnOf name qual params body scope dV kV doc pm an cdv ct) ps sp := by
  refine ⟨len, fun A outer s H args us vs Q E hr e0 hb r hsp => ?_⟩
  have hl := len _ _ _ _ hsp
  have KX : K.In s.heap := e0.mod.kin.keeps fun b o e => (e0.bs b o e).1
  have lim : s.heap.NoLimit := e0.mod.nolimit.keeps fun b o e => (e0.bs b o e).1
  have hkind : ∀ y ∈ ps.zip us, scope.names.lookup y.1 = some .local ∨ (scope.names.lookup y.1 = some .cell ∧ ((cellsFrom (s.heap.objs.size + 1) scope.names []).lookup y.1).isSome = true) := fun ⟨n, v⟩ hy => by
    rcases S.par n (List.of_mem_zip hy).1 with q | q
    · exact .inl q
    · exact .inr ⟨q, PySem.W.cellsFrom_some _ _ _ (.inl q)⟩
  refine codeAny_call_function hr.depth (KX _ _ lk) rfl S.co S.gen rfl (PySem.W.codeRec_of KX hcd) (hb _ _ _ _ ?_)
  refine wpAny_newFunctionEnv_cells S.kind hkind fun env he s1 x => ?_
  subst he
  refine ⟨lim.keeps x.toInCall.keep, codeAny_func ?_⟩
  obtain ⟨t, ht, hq⟩ := hbody A outer s H vs Q E (hr.deeper _) hsp
  have I : Inv (cxOf CX P w K mg base N qual scope f cdv A outer s H E) [] (start N vs) H s1 := inv_start S hr.hd e0 hl r x
  refine wpAny_mono (ht [] s1 (start N vs) H _ I hq) (fun fl s' hs => ?_) fun e s' hs => hs
  have fin : ∀ {σ' : St} {H' : Hp} {v : V} {u : Value}, Inv (cxOf CX P w K mg base N qual scope f cdv A outer s H E) [] σ' H' s' → RelV v u → Q v H' → CE outer P w H s Q u s' :=
    fun {σ' H' v u} J rv q => ⟨v, H', J.os, J.bare, J.base, J.hok, rv, q⟩
  cases fl with
  | ret u =>
    obtain ⟨v, σ', H', J, rv, q⟩ := hs
    exact fin J rv q
  | next =>
    obtain ⟨σ', H', J, q⟩ := hs
    exact fin (v := V.non) (u := Value.none) J rfl q
  | brk =>
    obtain ⟨_, _, _, q⟩ := hs
    exact False.elim q
  | cont =>
    obtain ⟨_, _, _, q⟩ := hs
    exact False.elim q
end L2

namespace L2
open PySem PySem.Spec PyProof.Rows
section
variable {X : Cx} {x : Str} {p pos : Pos} {e : Expr} {es : List Expr} {t : TA} {id T : String} {r : List V → Hp → VK → Prop}

noncomputable def tCB (r : List V → Hp → VK → Prop) (t : TA) : TE := fun σ H Q => t σ H fun vs H1 => r vs H1 Q
/-- f(e, ..), f a built-in function -/
theorem pe_callB (hc : CallR X (.builtin id) r) (hg : Gl X x) (hm : X.mg x = none) (hv : bootBuiltins x = some (.builtin id)) (ha : PA X (e :: es) t) (hn : x ≠ "__name__" := by decide) (hdb : (x == ("__debug__" : Str)) = false := by decide)
    (he : starEach (e :: es) X.env = (false, eval e X.env) :: starEach es X.env := by rfl) (hpl : (backTo pos (starEach es X.env)).any (·.1) = false := by rfl) : PE X (.Call (.Name x p) (e :: es) [] pos) (tCB r t) := by
  intro pins s σ H Q I h
  refine wpAny_Call_Name_kw (ld_blt I hg hm hv ?_ hn hdb)
  exact PyProof.Rows.callWith_builtin1 (thn (ha pos pins s σ H _ I h) fun us s1 ⟨vs, H1, I1, r1, q1⟩ => hc pins s1 σ H1 vs us Q I1 r1 q1) he hpl
/-- T(e, ..), T a built-in type -/
theorem pe_callTy (hc : CallR X (.type T) r) (hg : Gl X x) (hm : X.mg x = none) (hv : bootBuiltins x = some (.type T)) (ha : PA X (e :: es) t) (hn : x ≠ "__name__" := by decide) (hdb : (x == ("__debug__" : Str)) = false := by decide)
    (he : starEach (e :: es) X.env = (false, eval e X.env) :: starEach es X.env := by rfl) (hpl : (backTo pos (starEach es X.env)).any (·.1) = false := by rfl) : PE X (.Call (.Name x p) (e :: es) [] pos) (tCB r t) := by
  intro pins s σ H Q I h
  refine wpAny_Call_Name_kw (ld_blt I hg hm hv ?_ hn hdb)
  exact PyProof.Rows.callWith_type1 (thn (ha pos pins s σ H _ I h) fun us s1 ⟨vs, H1, I1, r1, q1⟩ => hc pins s1 σ H1 vs us Q I1 r1 q1) he hpl
end
end L2

namespace HT
open PySem PyProof.Rows

/-- t < u of tuples of ints -/
noncomputable def lexLt : List Int → List Int → Bool
  | [], [] => false
  | [], _ :: _ => true
  | _ :: _, [] => false
  | x :: xs, y :: ys => if x = y then lexLt xs ys else decide (x < y)


section
open PySem.SeqAt
open PySem.AutoSeq1 (wpAny_loadPart')
open PySem.MeetsSeq PySem.MeetsSeq2 PySem.MeetsSeq3

end

section
variable {prog : Program} {w : World} {A : Around} {E : Value → Shared → Prop} {s : Shared}



/-! ### t[a:b], not the whole -/
/-- a slice's bound as a place among n (d where it is left out) -/
noncomputable def sIx (n d : Nat) : Option Int → Nat
  | none => d
  | some v => if v < 0 then (v + (n : Int)).toNat else min v.toNat n
theorem sIx_none (n d : Nat) : sIx n d none = d := rfl
theorem sIx_nat (n d k : Nat) : sIx n d (some (k : Int)) = min k n := by
  show (if (k : Int) < 0 then ((k : Int) + (n : Int)).toNat else min (k : Int).toNat n) = min k n
  rw [if_neg (by omega), Int.toNat_natCast]

end
end HT

namespace L2
open PySem PySem.Spec PyProof.Rows

/-! ### the parts of a slice -/
noncomputable abbrev TO := St → Hp → (Option Int → Hp → Prop) → Prop
/-- a slice's part (left out, or an int) -/
noncomputable def PO (X : Cx) (e : Option Expr) (t : TO) : Prop :=
  ∀ (pins : List (Addr × Obj)) (s : Shared) (σ : St) (H : Hp) (Q : Option Int → Hp → Prop), Inv X pins σ H s → t σ H Q →
    wpAny (model X.prog X.w) X.A (evalPart e X.env) (fun u s' => ∃ o H', Inv X pins σ H' s' ∧ IsPart u o ∧ Q o H') X.xe s
noncomputable def tNoPart : TO := fun _ H Q => Q none H
noncomputable def tPart (t : TE) : TO := fun σ H Q => t σ H fun x H1 => ∃ i, x = .int i ∧ Q (some i) H1


section
variable {X : Cx} {e : Expr} {te : TE} {lo hi : Option Expr} {tl th : TO} {pos p2 : Pos}

theorem po_none : PO X none tNoPart := by
  intro pins s σ H Q I h
  rw [evalPart_none]
  exact wpAny_pure ⟨none, H, I, .none, h⟩
theorem po_some (h : PE X e te) : PO X (some e) (tPart te) := by
  intro pins s σ H Q I hw
  rw [evalPart_some]
  refine thn (h pins s σ H _ I hw) fun u s1 ⟨x, H1, I1, r1, q1⟩ => ?_
  obtain ⟨i, rfl, q⟩ := q1
  obtain ⟨t, rfl⟩ := r1
  exact ⟨some i, H1, I1, .int i t, q⟩

/-- what a slice of a value is, by values: the slice object stands at sl -/
noncomputable def SlR (X : Cx) (r : V → Option Int → Option Int → Hp → VK → Prop) : Prop :=
  ∀ (pins : List (Addr × Obj)) (s : Shared) (σ : St) (H : Hp) (x : V) (v vl vu : Value) (lo hi : Option Int) (sl : Addr) (Q : VK), Inv X pins σ H s → RelV x v → s.heap.IsSliceOf sl vl vu .none → IsPart vl lo → IsPart vu hi → r x lo hi H Q →
    ∃ T id, typeLookup (.type T) "__getitem__" = pure (some (.builtin id)) ∧ s.TypeIs v T ∧ wpAny (model X.prog X.w) X.A (getItem v (.ref sl)) (EP X pins σ Q) X.xe s
theorem SlR.or {r r' : V → Option Int → Option Int → Hp → VK → Prop} (h : SlR X r) (h' : SlR X r') : SlR X (fun x lo hi H Q => r x lo hi H Q ∨ r' x lo hi H Q) := by
  intro pins s σ H x v vl vu lo hi sl Q I rx hs pl pu q
  rcases q with q | q
  · exact h pins s σ H x v vl vu lo hi sl Q I rx hs pl pu q
  · exact h' pins s σ H x v vl vu lo hi sl Q I rx hs pl pu q
noncomputable def tSl (r : V → Option Int → Option Int → Hp → VK → Prop) (te : TE) (tl th : TO) : TE := fun σ H Q => te σ H fun x H1 => tl σ H1 fun l H2 => th σ H2 fun u H3 => r x l u H3 Q
/-- a[lo:hi], any a -/
theorem pe_slice {r : V → Option Int → Option Int → Hp → VK → Prop} (hr : SlR X r) (he : PE X e te) (hl : PO X lo tl) (hu : PO X hi th) : PE X (.Subscript e (.Slice lo hi none p2) pos) (tSl r te tl th) := by
  intro pins s σ H Q I h
  refine Subscript_ (thn (he pins s σ H _ I h) fun v s1 ⟨x, H1, I1, r1, q1⟩ => ?_)
  refine wpAny_Slice (thn (hl pins s1 σ H1 _ I1 q1) fun vl s2 ⟨l, H2, I2, pl, q2⟩ => thn (hu pins s2 σ H2 _ I2 q2) fun vu s3 ⟨u, H3, I3, pu, q3⟩ => ?_)
  rw [evalPart_none]
  refine wpAny_pure ?_
  have I4 : Inv X pins σ H3 { s3 with heap := s3.heap.push { cls := .type "slice", data := .fields #[vl, vu, .none] } } := I3.kept (t' := s3.toks) fun b ob q => Heap.get?_push_of_some _ q
  obtain ⟨T, id, hT, ht, hg⟩ := hr pins { s3 with heap := s3.heap.push { cls := .type "slice", data := .fields #[vl, vu, .none] } } σ H3 x v vl vu l u s3.heap.objs.size Q I4 r1 (Heap.IsSliceOf.new ..) pl pu q3
  show wpAny (model X.prog X.w) X.A (subscriptTail e (.Slice lo hi none p2) v (.ref s3.heap.objs.size)) (EP X pins σ Q) X.xe { s3 with heap := s3.heap.push { cls := .type "slice", data := .fields #[vl, vu, .none] } }
  exact tail_any (ops := [.ref s3.heap.objs.size, v]) ht hT hg (by with_unfolding_all rfl)

/-- the items of xs[lo:hi] -/
noncomputable def cutV (xs : List V) (lo hi : Option Int) : List V := (xs.drop (HT.sIx xs.length 0 lo)).take (HT.sIx xs.length xs.length hi - HT.sIx xs.length 0 lo)
theorem cutV_length (xs : List V) (lo hi : Option Int) : (cutV xs lo hi).length ≤ xs.length := by
  unfold cutV
  rw [List.length_take, List.length_drop]
  omega
/-- t[lo:hi], not the whole of it (the whole would be t itself) -/
noncomputable def rSlT (K : PySem.W.Frag) : V → Option Int → Option Int → Hp → VK → Prop := fun x lo hi H Q => ∃ a xs, x = .ref a ∧ SqT K H a xs ∧
  ¬ (HT.sIx xs.length 0 lo = 0 ∧ HT.sIx xs.length xs.length hi = xs.length) ∧ ∀ p, H p = none → Q (.ref p) (upd H p (.tup (cutV xs lo hi)))

/-! ### t < u, t + u -/
noncomputable def rLtT (K : PySem.W.Frag) : R2 := fun x y H Q => ∃ a b ns ms, x = .ref a ∧ y = .ref b ∧ SqT K H a (ns.map V.int) ∧ SqT K H b (ms.map V.int) ∧ Q (.bl (HT.lexLt ns ms)) H
/-- t + u, t not empty: u empty gives t itself -/
noncomputable def rCatT (K : PySem.W.Frag) : R2 := fun x y H Q => ∃ a b xs ys, x = .ref a ∧ y = .ref b ∧ SqT K H a xs ∧ SqT K H b ys ∧ xs ≠ [] ∧ xs.length + ys.length ≤ sizeLine ∧
  (ys = [] → Q (.ref a) H) ∧ (ys ≠ [] → ∀ p, H p = none → Q (.ref p) (upd H p (.tup (xs ++ ys))))
end
end L2

namespace L2
open PySem PySem.Spec PyProof.Rows

/-! ### places -/
/-- the place that an index of any sign means -/
noncomputable def ixN (n : Nat) (i : Int) : Option Nat := if 0 ≤ i then (if i < n then some i.toNat else none) else if -(n : Int) ≤ i then some (i + n).toNat else none
noncomputable def atI {α : Type} (xs : List α) (i : Int) : Option α := (ixN xs.length i).bind fun j => xs[j]?
theorem ixN_seq {n : Nat} {i : Int} {j : Nat} (h : ixN n i = some j) : seqIndex? i n = some j ∧ j < n ∧ -(n : Int) ≤ i ∧ i < n := by
  unfold ixN at h
  by_cases h0 : 0 ≤ i
  · rw [if_pos h0] at h
    by_cases h1 : i < n
    · rw [if_pos h1] at h
      have e : i.toNat = j := Option.some.inj h
      exact ⟨by rw [seqIndex_of h0 h1, e], by omega, by omega, h1⟩
    · rw [if_neg h1] at h; cases h
  · rw [if_neg h0] at h
    by_cases h1 : -(n : Int) ≤ i
    · rw [if_pos h1] at h
      have e : (i + n).toNat = j := Option.some.inj h
      exact ⟨by rw [seqIndex_neg (by omega) h1, e], by omega, h1, by omega⟩
    · rw [if_neg h1] at h; cases h
theorem atI_get {α : Type} {xs : List α} {i : Int} {v : α} (h : atI xs i = some v) : ∃ j, seqIndex? i xs.length = some j ∧ xs[j]? = some v ∧ j < xs.length ∧ -(xs.length : Int) ≤ i ∧ i < xs.length := by
  unfold atI at h
  cases e : ixN xs.length i with
  | none => rw [e] at h; cases h
  | some j =>
    rw [e] at h
    obtain ⟨h1, h2, h3, h4⟩ := ixN_seq e
    exact ⟨j, h1, h, h2, h3, h4⟩
theorem atI_nat {α : Type} {xs : List α} {j : Nat} {v : α} (h : xs[j]? = some v) : atI xs (j : Int) = some v := by
  have hj : j < xs.length := (List.getElem?_eq_some_iff.mp h).1
  have e : ixN xs.length (j : Int) = some j := by
    unfold ixN
    rw [if_pos (by omega), if_pos (by omega)]; simp
  unfold atI; rw [e]; exact h

/-! ### what may be subscripted -/
/-- what stands as an index of a plain subscript -/
noncomputable def PlainIx (b : Expr) : Prop := ∀ o i, subscripted b false o i = operate [o, i] (getItem o i)
/-- a subscript by values -/
noncomputable def IxR (X : Cx) (r : R2) : Prop :=
  ∀ (value slice : Expr) (pins : List (Addr × Obj)) (s : Shared) (σ : St) (H : Hp) (x y : V) (v u : Value) (Q : VK), Inv X pins σ H s → RelV x v → RelV y u → r x y H Q →
    subscripted slice false v u = operate [v, u] (getItem v u) → wpAny (model X.prog X.w) X.A (subscriptTail value slice v u) (EP X pins σ Q) X.xe s
/-- a call of a builtin's method by values: the receiver, the arguments -/
noncomputable def MtR (X : Cx) (id : String) (r : V → List V → Hp → VK → Prop) : Prop :=
  ∀ (pins : List (Addr × Obj)) (s : Shared) (σ : St) (H : Hp) (x : V) (xs : List V) (v : Value) (us : List Value) (Q : VK), Inv X pins σ H s → RelV x v → Vals xs us → r x xs H Q →
    wpAny (model X.prog X.w) X.A (call (.builtin id) (v :: us)) (EP X pins σ Q) X.xe s
section
variable {X : Cx} {a b : Expr} {ta tb : TE} {pos : Pos}
theorem IxR.or {r r' : R2} (h : IxR X r) (h' : IxR X r') : IxR X (fun x y H Q => r x y H Q ∨ r' x y H Q) := by
  intro value slice pins s σ H x y v u Q I rx ry q hs
  rcases q with q | q
  · exact h value slice pins s σ H x y v u Q I rx ry q hs
  · exact h' value slice pins s σ H x y v u Q I rx ry q hs
theorem MtR.or {id : String} {r r' : V → List V → Hp → VK → Prop} (h : MtR X id r) (h' : MtR X id r') : MtR X id (fun x xs H Q => r x xs H Q ∨ r' x xs H Q) := by
  intro pins s σ H x xs v us Q I rx rs q
  rcases q with q | q
  · exact h pins s σ H x xs v us Q I rx rs q
  · exact h' pins s σ H x xs v us Q I rx rs q
/-- a[b] -/
theorem pe_ix {r : R2} (hr : IxR X r) (ha : PE X a ta) (hb : PE X b tb) (hs : PlainIx b) : PE X (.Subscript a b pos) (tOp r ta tb) := by
  intro pins s σ H Q I h
  exact Subscript_ (binT ha hb I h fun v u s2 x y H2 I2 rx ry q => hr a b pins s2 σ H2 x y v u Q I2 rx ry q (hs _ _))

noncomputable def rIxL (K : PySem.W.Frag) : R2 := fun x y H Q => ∃ p xs i v, x = .ref p ∧ y = .int i ∧ SqL K H p xs ∧ atI xs i = some v ∧ Q v H
noncomputable def rIxT (K : PySem.W.Frag) : R2 := fun x y H Q => ∃ p xs i v, x = .ref p ∧ y = .int i ∧ SqT K H p xs ∧ atI xs i = some v ∧ Q v H
noncomputable def rIxS : R2 := fun x y H Q => ∃ z i c, x = .str z ∧ y = .int i ∧ z.length ≤ sizeLine ∧ atI z.cps.toList i = some c ∧ Q (.str ⟨#[c]⟩) H
theorem ix_list : IxR X (rIxL X.K) := by
  intro value slice pins s σ H x y v u Q I rx ry h hs
  obtain ⟨p, xs, i, z, rfl, rfl, hq, he, q⟩ := h
  cases rx
  obtain ⟨t, rfl⟩ := ry
  obtain ⟨its, r, pl, hz⟩ := I.list hq
  obtain ⟨j, h1, h2, h3, h4, h5⟩ := atI_get he
  obtain ⟨w, ew, rw'⟩ := r.get h2
  have hl := r.length
  have hn := line63
  have fin : EP X pins σ Q w s := ⟨z, H, I, rw', q⟩
  by_cases h0 : 0 ≤ i
  · have hj : i.toNat = j := by
      rw [seqIndex_of h0 h5] at h1
      exact Option.some.inj h1
    exact item_listR pl.isList h0 (by omega) (by rw [hj]; simpa using ew) fin hs
  · have hj : (i + (its.toArray.size : Int)).toNat = j := by
      rw [seqIndex_neg (by omega) h4] at h1
      rw [List.size_toArray, ← hl]
      exact Option.some.inj h1
    exact subscriptTail_builtinR (x := w) pl.isList.typeIs slot_list_getitem.lookup
      (wpAny_getItem_list_neg (Q := fun r s' => r = w ∧ EP X pins σ Q r s') pl.isList (by omega) (by rw [List.size_toArray] <;> omega) (by omega) (by rw [hj]; simpa using ew) ⟨rfl, fin⟩) hs
theorem ix_tup : IxR X (rIxT X.K) := by
  intro value slice pins s σ H x y v u Q I rx ry h hs
  obtain ⟨p, xs, i, z, rfl, rfl, hq, he, q⟩ := h
  cases rx
  obtain ⟨t, rfl⟩ := ry
  obtain ⟨its, r, pl, hz⟩ := I.tuple hq
  obtain ⟨j, h1, h2, h3, h4, h5⟩ := atI_get he
  obtain ⟨w, ew, rw'⟩ := r.get h2
  have hl := r.length
  have hn := line63
  have fin : EP X pins σ Q w s := ⟨z, H, I, rw', q⟩
  exact subscriptTail_builtinR (x := w) pl.typeIs slot_tuple_getitem.lookup
    (getItem_tuple (j := j) (Q := fun r s' => r = w ∧ EP X pins σ Q r s') pl (by omega) (by omega) (by rw [List.size_toArray, ← hl]; exact h1) (by simpa using ew) ⟨rfl, fin⟩) hs
theorem ix_str : IxR X rIxS := by
  intro value slice pins s σ H x y v u Q I rx ry h hs
  obtain ⟨z, i, c, rfl, rfl, hz, he, q⟩ := h
  obtain ⟨t, rfl⟩ := rx
  obtain ⟨t', rfl⟩ := ry
  obtain ⟨j, h1, h2, h3, h4, h5⟩ := atI_get he
  have hl : z.cps.toList.length = z.length := by simp [Str.length]
  rw [hl] at h1 h4 h5
  have hn := line63
  exact tail_any (typeIs_str s z t) slot_str_getitem.lookup (getItem_str (c := c) (by
    have e1 : decide (i < -(2 ^ 63 : Int)) = false := decide_eq_false (by omega)
    have e2 : decide (i ≥ 2 ^ 63) = false := decide_eq_false (by omega)
    rw [e1, e2, Bool.or_false]) (by rw [h1]; simpa using h2) ⟨.str ⟨#[c]⟩, H, I.tok _, ⟨_, rfl⟩, q⟩) hs
/-- list, tuple or str -/
noncomputable def rIx (K : PySem.W.Frag) : R2 := fun x y H Q => rIxL K x y H Q ∨ rIxT K x y H Q ∨ rIxS x y H Q
theorem ix_seq : IxR X (rIx X.K) := ix_list.or (ix_tup.or ix_str)

/-! ### xs[i] = v, any sign -/
/-- the list's object behind a store -/
theorem mapSeq_set (its : List Value) (n j : Nat) (u : Value) : Obj.mapSeq (·.setIfInBounds j u) { cls := .type "list", data := .seq its.toArray n } = { cls := .type "list", data := .seq (its.set j u).toArray n } := by
  simp [Obj.mapSeq]
theorem Inv.lst {pins : List (Addr × Obj)} {σ : St} {H : Hp} {s : Shared} {p : Addr} {xs : List V} (I : Inv X pins σ H s) (h : H p = some (.lst xs)) :
    ∃ (its : List Value) (n : Nat), Vals xs its ∧ s.heap.get? p = some { cls := .type "list", data := .seq its.toArray n } ∧ xs.length ≤ sizeLine := by
  obtain ⟨z, its, n, r, e⟩ := I.hok p _ h
  exact ⟨its, n, r, e, z⟩
/-- the list at p is written by an update of its object -/
theorem Inv.lstUpd {pins : List (Addr × Obj)} {σ : St} {H : Hp} {s : Shared} {p : Addr} {xs ys : List V} {its its' : List Value} {n n' : Nat} {f : Obj → Obj} (I : Inv X pins σ H s) (h : H p = some (.lst xs))
    (ho : s.heap.get? p = some { cls := .type "list", data := .seq its.toArray n }) (hf : f { cls := .type "list", data := .seq its.toArray n } = { cls := .type "list", data := .seq its'.toArray n' }) (r : Vals ys its') (hz : ys.length ≤ sizeLine) (t : Nat) :
    Inv X pins σ (upd H p (.lst ys)) { s with heap := s.heap.update p f, toks := t } := by
  have e : (s.heap.update p f).get? p = some { cls := .type "list", data := .seq its'.toArray n' } := by
    rw [Heap.get?_update_self f ho (by rw [hf] <;> rfl), hf]
  refine I.write (x := p) (e := p) (by rw [h]; trivial) (.inl rfl) (fun b u hb q => (Heap.get?_update_other _ _ (Ne.symm hb)).trans q) ⟨_, e⟩ ?_
  exact ⟨hz, its', n', r, e⟩
noncomputable def rSetL : V → V → V → Hp → (Hp → Prop) → Prop := fun o i v H Q => ∃ p xs k j, o = .ref p ∧ i = .int k ∧ H p = some (.lst xs) ∧ ixN xs.length k = some j ∧ Q (upd H p (.lst (xs.set j v)))
theorem set_list : PSet X rSetL := by
  intro pins s σ H o i v ov iv u Q I ro ri rv h
  obtain ⟨p, xs, k, j, rfl, rfl, hp, hj, q⟩ := h
  cases ro
  obtain ⟨t, rfl⟩ := ri
  obtain ⟨its, n, r, ho, hz⟩ := I.lst hp
  obtain ⟨h1, h2, h3, h4⟩ := ixN_seq hj
  have hl := r.length
  have hn := line63
  have I' : Inv X pins σ (upd H p (.lst (xs.set j v))) { s with heap := s.heap.update p (Obj.mapSeq (·.setIfInBounds j u)) } :=
    I.lstUpd hp ho (mapSeq_set its n j u) (r.set rv j) (by rw [List.length_set]; exact hz) s.toks
  by_cases h0 : 0 ≤ k
  · have hk : k.toNat = j := by
      rw [seqIndex_of h0 h4] at h1
      exact Option.some.inj h1
    exact PySem.W.ki_setAt ho h0 (by omega) (by rw [List.size_toArray, ← hl]; exact h4) (by rw [hk]; exact ⟨_, I', q⟩)
  · have hk : (k + (its.toArray.size : Int)).toNat = j := by
      rw [seqIndex_neg (by omega) h3] at h1
      rw [List.size_toArray, ← hl]
      exact Option.some.inj h1
    exact PySem.W.ki_setBack ho (by omega) (by rw [List.size_toArray, ← hl]; exact h3) (by omega) (by rw [hk]; exact ⟨_, I', q⟩)

/-! ### slices -/
theorem slice_bounds (lo hi : Option Int) (n : Nat) : (sliceBounds lo hi none n).1 = ((HT.sIx n 0 lo : Nat) : Int) ∧ (sliceBounds lo hi none n).2.1 = ((HT.sIx n n hi : Nat) : Int) ∧ (sliceBounds lo hi none n).2.2 = 1 := by
  refine ⟨?_, ?_, rfl⟩
  · cases lo with
    | none => simp [sliceBounds, HT.sIx]
    | some i =>
      simp only [sliceBounds, HT.sIx, Option.getD_none, show (1 : Int) > 0 by decide, if_true]
      by_cases h : i < 0
      · simp only [h, if_true] <;> omega
      · simp only [h, if_false] <;> omega
  · cases hi with
    | none => simp [sliceBounds, HT.sIx]
    | some i =>
      simp only [sliceBounds, HT.sIx, Option.getD_none, show (1 : Int) > 0 by decide, if_true]
      by_cases h : i < 0
      · simp only [h, if_true] <;> omega
      · simp only [h, if_false] <;> omega
theorem slicePick_cut (its : List Value) (lo hi : Option Int) : slicePick its.toArray lo hi none = ((its.drop (HT.sIx its.length 0 lo)).take (HT.sIx its.length its.length hi - HT.sIx its.length 0 lo)).toArray := by
  obtain ⟨h1, h2, h3⟩ := slice_bounds lo hi its.toArray.size
  unfold slicePick
  rw [h1, h2, h3]
  simp only [sliceRange_one, pick_run, List.size_toArray] <;> rfl
/-- xs[lo:hi] of a list: a new list -/
noncomputable def rSlL (K : PySem.W.Frag) : V → Option Int → Option Int → Hp → VK → Prop := fun x lo hi H Q => ∃ a xs, x = .ref a ∧ SqL K H a xs ∧ ∀ p, H p = none → Q (.ref p) (upd H p (.lst (cutV xs lo hi)))
theorem sl_list : SlR X (rSlL X.K) := by
  intro pins s σ H x v vl vu lo hi sl Q I rx hs pl pu h
  obtain ⟨a, xs, rfl, hx, q⟩ := h
  cases rx
  obtain ⟨its, r, ht, hz⟩ := I.list hx
  have hlen := r.length
  refine ⟨"list", _, slot_list_getitem.lookup, ht.isList.typeIs, ?_⟩
  refine wpAny_getItem_list_slice ht.isList hs pl pu .none (by simp) ?_ (by rw [List.size_toArray] <;> omega)
  rw [slicePick_cut, ← hlen]
  refine ⟨.ref s.heap.objs.size, _, I.laid (t' := s.toks) (o := .lst (cutV xs lo hi)) (fun b ob q => Heap.get?_push_of_some _ q) (Nat.le_refl _) ?_, rfl, q _ (I.hok.fresh (Nat.le_refl _))⟩
  exact ⟨Nat.le_trans (cutV_length xs lo hi) hz, _, 0, (r.drop (HT.sIx xs.length 0 lo)).take (HT.sIx xs.length xs.length hi - HT.sIx xs.length 0 lo), Heap.get?_push_size _ rfl⟩

/-! ### in, not in: flat items -/
noncomputable def flatV : V → Bool
  | .non => true
  | .bl _ => true
  | .int _ => true
  | .str _ => true
  | _ => false
/-- == of flat values -/
noncomputable def eqV : V → V → Bool
  | .non, .non => true
  | .bl a, .bl b => a == b
  | .bl a, .int b => (if a then 1 else 0) == b
  | .int a, .bl b => a == (if b then 1 else 0)
  | .int a, .int b => a == b
  | .str a, .str b => a == b
  | _, _ => false
theorem eqAt_V {A : Around} {s : Shared} {y x : V} {u v : Value} (ry : RelV y u) (rx : RelV x v) (fy : flatV y = true) (fx : flatV x = true) : SeqAt.EqAt A s u v (eqV y x) := by
  cases y with
  | non =>
    cases ry
    cases x with
    | non => cases rx; exact SeqAt.EqAt.same _
    | bl b => cases rx; exact SeqAt.EqAt.none_bool b
    | int b => obtain ⟨t, rfl⟩ := rx; exact SeqAt.EqAt.none_int b t
    | str b => obtain ⟨t, rfl⟩ := rx; exact SeqAt.EqAt.none_str b t
    | _ => exact absurd (show false = true from fx) Bool.false_ne_true
  | bl a =>
    cases ry
    cases x with
    | non => cases rx; exact SeqAt.EqAt.bool_none a
    | bl b => cases rx; exact SeqAt.EqAt.bool_bool a b
    | int b => obtain ⟨t, rfl⟩ := rx; exact SeqAt.EqAt.bool_int a b t
    | str b => obtain ⟨t, rfl⟩ := rx; exact SeqAt.EqAt.bool_str a b t
    | _ => exact absurd (show false = true from fx) Bool.false_ne_true
  | int a =>
    obtain ⟨t', rfl⟩ := ry
    cases x with
    | non => cases rx; exact SeqAt.EqAt.int_none a t'
    | bl b => cases rx; exact SeqAt.EqAt.int_bool a t' b
    | int b => obtain ⟨t, rfl⟩ := rx; exact SeqAt.EqAt.int_int a t' b t
    | str b => obtain ⟨t, rfl⟩ := rx; exact SeqAt.EqAt.int_str a t' b t
    | _ => exact absurd (show false = true from fx) Bool.false_ne_true
  | str a =>
    obtain ⟨t', rfl⟩ := ry
    cases x with
    | non => cases rx; exact SeqAt.EqAt.str_none a t'
    | bl b => cases rx; exact SeqAt.EqAt.str_bool a t' b
    | int b => obtain ⟨t, rfl⟩ := rx; exact SeqAt.EqAt.str_int a t' b t
    | str b => obtain ⟨t, rfl⟩ := rx; exact SeqAt.EqAt.str_str a t' b t
    | _ => exact absurd (show false = true from fx) Bool.false_ne_true
  | _ => exact absurd (show false = true from fy) Bool.false_ne_true
/-- the items' answers, read off the values (a value's own answer does not lean on its token) -/
noncomputable def eqU (x : V) (u : Value) : Bool := match u with
  | .none => eqV .non x
  | .bool b => eqV (.bl b) x
  | .int i _ => eqV (.int i) x
  | .str z _ => eqV (.str z) x
  | _ => false
theorem eqU_of {x y : V} {u : Value} (r : RelV y u) (f : flatV y = true) : eqU x u = eqV y x := by
  cases y with
  | non => cases r; rfl
  | bl b => cases r; rfl
  | int i => obtain ⟨t, rfl⟩ := r; rfl
  | str z => obtain ⟨t, rfl⟩ := r; rfl
  | _ => exact absurd (show false = true from f) Bool.false_ne_true
theorem any_eqU {x : V} : ∀ {xs : List V} {us : List Value}, Vals xs us → xs.all flatV = true → us.any (eqU x) = xs.any fun y => eqV y x
  | _, _, .nil, _ => rfl
  | y :: xs, u :: us, .cons r t, f => by
    rw [List.all_cons, Bool.and_eq_true] at f
    rw [List.any_cons, List.any_cons, eqU_of r f.1, any_eqU t f.2]
theorem mem_eqAt {A : Around} {s : Shared} {x : V} {v : Value} (rx : RelV x v) (fx : flatV x = true) : ∀ {xs : List V} {us : List Value}, Vals xs us → xs.all flatV = true → ∀ u ∈ us, SeqAt.EqAt A s u v (eqU x u)
  | _, _, .nil, _ => fun u hu => by cases hu
  | y :: xs, u :: us, .cons r t, f => fun u' hu => by
    rw [List.all_cons, Bool.and_eq_true] at f
    rcases List.mem_cons.mp hu with rfl | hu
    · rw [eqU_of r f.1]; exact eqAt_V r rx f.1 fx
    · exact mem_eqAt rx fx t f.2 u' hu
noncomputable def inV (x : V) (xs : List V) : Bool := xs.any fun y => eqV y x
/-- x in a list or tuple of flat items -/
noncomputable def rIn (K : PySem.W.Frag) (neg : Bool) : R2 := fun x y H Q => ∃ p xs, y = .ref p ∧ (SqL K H p xs ∨ SqT K H p xs) ∧ flatV x = true ∧ xs.all flatV = true ∧ Q (.bl (if neg then !inV x xs else inV x xs)) H
theorem op_in_seq : OpR X (compareOp .In) (rIn X.K false) := by
  intro pins s σ H x y v u Q I rx ry h
  obtain ⟨p, xs, rfl, hq, fx, fs, q⟩ := h
  cases ry
  rcases hq with hq | hq
  · obtain ⟨its, r, pl, hz⟩ := I.list hq
    refine SeqAt.in_listAt (eqU x) pl.isList (fun w hw => mem_eqAt rx fx r fs w (by simpa using hw)) ⟨.bl _, H, I, rfl, ?_⟩
    rw [show its.toArray.any (eqU x) = its.any (eqU x) by simp, any_eqU r fs]
    exact q
  · obtain ⟨its, r, pl, hz⟩ := I.tuple hq
    refine SeqAt.in_tupleAt (eqU x) pl (fun w hw => mem_eqAt rx fx r fs w (by simpa using hw)) ⟨.bl _, H, I, rfl, ?_⟩
    rw [show its.toArray.any (eqU x) = its.any (eqU x) by simp, any_eqU r fs]
    exact q
theorem op_notIn_seq : OpR X (compareOp .NotIn) (rIn X.K true) := by
  intro pins s σ H x y v u Q I rx ry h
  obtain ⟨p, xs, rfl, hq, fx, fs, q⟩ := h
  cases ry
  rcases hq with hq | hq
  · obtain ⟨its, r, pl, hz⟩ := I.list hq
    refine SeqAt.notIn_listAt (eqU x) pl.isList (fun w hw => mem_eqAt rx fx r fs w (by simpa using hw)) ⟨.bl _, H, I, rfl, ?_⟩
    rw [show its.toArray.any (eqU x) = its.any (eqU x) by simp, any_eqU r fs]
    exact q
  · obtain ⟨its, r, pl, hz⟩ := I.tuple hq
    refine SeqAt.notIn_tupleAt (eqU x) pl (fun w hw => mem_eqAt rx fx r fs w (by simpa using hw)) ⟨.bl _, H, I, rfl, ?_⟩
    rw [show its.toArray.any (eqU x) = its.any (eqU x) by simp, any_eqU r fs]
    exact q

/-! ### len, list(x), tuple(x) of any list or tuple that is read -/
theorem call_len_seq : CallR X (.builtin "len") (fun xs H Q => ∃ p ys, xs = [.ref p] ∧ (SqL X.K H p ys ∨ SqT X.K H p ys) ∧ Q (.int ys.length) H) := by
  intro pins s σ H xs us Q I r h
  obtain ⟨p, ys, rfl, hq, q⟩ := h
  obtain ⟨u, rfl, rx⟩ := vals1 r
  cases rx
  have hn := line63
  rcases hq with hq | hq
  · obtain ⟨its, r', pl, hz⟩ := I.list hq
    have hlen := r'.length
    exact Calls.call_len_list pl.isList (by simp only [List.size_toArray] <;> omega) ⟨.int ys.length, H, I.tok _, ⟨s.toks + 1, by rw [List.size_toArray, hlen]⟩, q⟩
  · obtain ⟨its, r', pl, hz⟩ := I.tuple hq
    have hlen := r'.length
    exact len_tuple pl (by simp only [List.size_toArray] <;> omega) ⟨.int ys.length, H, I.tok _, ⟨s.toks + 1, by rw [List.size_toArray, hlen]⟩, q⟩
theorem call_len_str : CallR X (.builtin "len") (fun xs H Q => ∃ z, xs = [.str z] ∧ z.length ≤ sizeLine ∧ Q (.int z.length) H) := by
  intro pins s σ H xs us Q I r h
  obtain ⟨z, rfl, hz, q⟩ := h
  obtain ⟨u, rfl, t, rfl⟩ := vals1 r
  have hn := line63
  exact len_str (by omega) ⟨.int z.length, H, I.tok _, ⟨_, rfl⟩, q⟩
theorem CallR.or {f : Value} {r r' : List V → Hp → VK → Prop} (h : CallR X f r) (h' : CallR X f r') : CallR X f (fun xs H Q => r xs H Q ∨ r' xs H Q) := by
  intro pins s σ H xs us Q I rs q
  rcases q with q | q
  · exact h pins s σ H xs us Q I rs q
  · exact h' pins s σ H xs us Q I rs q
theorem call_list_of : CallR X (.type "list") (fun xs H Q => ∃ p ys, xs = [.ref p] ∧ (SqL X.K H p ys ∨ SqT X.K H p ys) ∧ ∀ l, H l = none → Q (.ref l) (upd H l (.lst ys))) := by
  intro pins s σ H xs us Q I r h
  obtain ⟨p, ys, rfl, hq, q⟩ := h
  obtain ⟨u, rfl, rx⟩ := vals1 r
  cases rx
  have fin : ∀ (its : List Value), Vals ys its → ys.length ≤ sizeLine → ∀ (h' : Heap) (c' : Nat), (∀ b o', s.heap.get? b = some o' → h'.get? b = some o') →
      h'.get? s.heap.objs.size = some { cls := .type "list", dict := none, data := .seq its.toArray c', slots := #[] } → EP X pins σ Q (.ref s.heap.objs.size) { s with heap := h' } := fun its r' hz h' c' kp e =>
    ⟨.ref s.heap.objs.size, _, I.laid (t' := s.toks) kp (Nat.le_refl _) (show ObjOk X.prog X.w _ h' _ (.lst ys) from ⟨hz, its, c', r', e⟩), rfl, q _ (I.hok.fresh (Nat.le_refl _))⟩
  rcases hq with hq | hq
  · obtain ⟨its, r', pl, hz⟩ := I.list hq
    have hlen := r'.length
    obtain ⟨o, ho, hc, n, hd⟩ := pl.isList
    exact call_list_seq p (.inl rfl) ho hc hd (fun h' c' kp e => fin its r' hz h' c' kp e) (by simp only [List.size_toArray] <;> omega)
  · obtain ⟨its, r', pl, hz⟩ := I.tuple hq
    have hlen := r'.length
    obtain ⟨o, ho, hc, n, hd⟩ := pl
    exact call_list_seq p (.inr rfl) ho hc hd (fun h' c' kp e => fin its r' hz h' c' kp e) (by simp only [List.size_toArray] <;> omega)
theorem call_tuple_of : CallR X (.type "tuple") (fun xs H Q => ∃ p ys, xs = [.ref p] ∧ ((SqL X.K H p ys ∧ ∀ l, H l = none → Q (.ref l) (upd H l (.tup ys))) ∨ (SqT X.K H p ys ∧ Q (.ref p) H))) := by
  intro pins s σ H xs us Q I r h
  obtain ⟨p, ys, rfl, h⟩ := h
  obtain ⟨u, rfl, rx⟩ := vals1 r
  cases rx
  rcases h with ⟨hq, q⟩ | ⟨hq, q⟩
  · obtain ⟨its, r', pl, hz⟩ := I.list hq
    have hlen := r'.length
    refine call_tuple_list pl.isList (fun h' kp => ?_) (by simp only [List.size_toArray] <;> omega)
    have I1 : Inv X pins σ H { s with heap := h' } := I.kept (t' := s.toks) kp
    have I2 : Inv X pins σ (upd H h'.objs.size (.tup ys)) { s with heap := h'.push { cls := .type "tuple", data := .seq its.toArray } } :=
      I1.laid (t' := s.toks) (fun b o e => Heap.get?_push_of_some _ e) (Nat.le_refl _) (show ObjOk X.prog X.w _ _ _ (.tup ys) from ⟨hz, its, r', IsTup.new _ _⟩)
    exact ⟨.ref h'.objs.size, _, I2, rfl, q _ (I1.hok.fresh (Nat.le_refl _))⟩
  · obtain ⟨its, r', pl, hz⟩ := I.tuple hq
    exact call_tuple_same pl ⟨.ref p, H, I, rfl, q⟩

/-! ### the call of a builtin's method: o.m(..) -/
/-- the value is of that builtin type -/
noncomputable def tyV (K : PySem.W.Frag) (T : String) (x : V) (H : Hp) : Prop := match x with
  | .str _ => T = "str"
  | .int _ => T = "int"
  | .ref p => (T = "list" ∧ ∃ xs, SqL K H p xs) ∨ (T = "tuple" ∧ ∃ o, K.lookup p = some o ∧ o.cls = .type "tuple" ∧ o.dict = none) ∨
      (T = "dict" ∧ ((∃ kvs, H p = some (.dK kvs)) ∨ ∃ kvs, H p = some (.dT kvs))) ∨ (T = "set" ∧ ∃ S n, H p = some (.set S n))
  | _ => False
theorem tyV_is {pins : List (Addr × Obj)} {σ : St} {H : Hp} {s : Shared} {T : String} {x : V} {v : Value} (I : Inv X pins σ H s) (r : RelV x v) (ty : tyV X.K T x H) :
    s.TypeIs v T ∧ ∀ a, v = .ref a → ∃ ob, s.heap.get? a = some ob ∧ ob.dict = none := by
  cases x with
  | str z =>
    obtain ⟨t, rfl⟩ := r
    cases (show T = "str" from ty)
    exact ⟨typeIs_str s z t, fun _ e => nomatch e⟩
  | int i =>
    obtain ⟨t, rfl⟩ := r
    cases (show T = "int" from ty)
    exact ⟨typeIs_int s i t, fun _ e => nomatch e⟩
  | ref p =>
    cases r
    rcases ty with ⟨rfl, xs, hq⟩ | ⟨rfl, o, hk, hc, hd⟩ | ⟨rfl, hk⟩ | ⟨rfl, S, n, hk⟩
    · obtain ⟨its, _, pl, _⟩ := I.list hq
      refine ⟨pl.isList.typeIs, fun a e => ?_⟩
      cases e
      obtain ⟨o, n, e, c, hd, _⟩ := pl
      exact ⟨o, e, hd⟩
    · refine ⟨⟨o, I.kIn p o hk, hc⟩, fun a e => ?_⟩
      cases e
      exact ⟨o, I.kIn _ o hk, hd⟩
    · have z : ∃ o, s.heap.get? p = some o ∧ o.ExactDict := by
        rcases hk with ⟨kvs, hk⟩ | ⟨kvs, hk⟩
        · obtain ⟨_, _, _, _, o, _, _, e, ex, _⟩ := I.hok p _ hk
          exact ⟨o, e, ex⟩
        · obtain ⟨_, _, _, _, o, _, _, e, ex, _⟩ := I.hok p _ hk
          exact ⟨o, e, ex⟩
      obtain ⟨o, e, ex⟩ := z
      refine ⟨⟨o, e, ex.1⟩, fun a e2 => ?_⟩
      cases e2
      exact ⟨o, e, ex.2.1⟩
    · obtain ⟨o, _, _, _, e, ex, _⟩ := I.hok p _ hk
      refine ⟨⟨o, e, ex.1⟩, fun a e2 => ?_⟩
      cases e2
      exact ⟨o, e, ex.2.1⟩
  | _ => exact False.elim ty
noncomputable def tBM0 (K : PySem.W.Frag) (T : String) (r : V → List V → Hp → VK → Prop) (to : TE) : TE := fun σ H Q => to σ H fun x H1 => tyV K T x H1 ∧ r x [] H1 Q
noncomputable def tBM (K : PySem.W.Frag) (T : String) (r : V → List V → Hp → VK → Prop) (to : TE) (t : TA) : TE := fun σ H Q => to σ H fun x H1 => tyV K T x H1 ∧ t σ H1 fun xs H2 => r x xs H2 Q
variable {o e : Expr} {es : List Expr} {to : TE} {t : TA} {name : Str} {apos cpos : Pos} {T id : String} {r : V → List V → Hp → VK → Prop}
theorem pe_bm (pa : PlainAttrs T) (slot : Slot T name id) (hty : typeOf (.builtin id) = pure (.type "method_descriptor")) (hm : MtR X id r) (ho : PE X o to) (ha : PA X (e :: es) t)
    (hbase : attributeBase o name X.env (eval o X.env) = eval o X.env := by rfl)
    (hfew : ((backTo cpos (starEach (e :: es) X.env)).all (fun x => !x.1) && (backToKw cpos (keywordEach [] X.env)).all (fun x => x.1.isSome)
      && decide ((e :: es).length + ([] : List Keyword).length + (if ([] : List Keyword).isEmpty then 0 else 1) < 30)) = true := by rfl)
    (hline : (apos.endLine == cpos.line) = true := by rfl) (hs : starEach (e :: es) X.env = (false, eval e X.env) :: starEach es X.env := by rfl) (hplain : (backTo cpos (starEach es X.env)).any (·.1) = false := by rfl) :
    PE X (.Call (.Attribute o name apos) (e :: es) [] cpos) (tBM X.K T r to t) := by
  intro pins s σ H Q I h
  refine wpAny_Call_method_late hbase hfew hline rfl (thn (ho pins s σ H _ I h) fun v s1 ⟨x, H1, I1, r1, ty, q1⟩ => ?_)
  obtain ⟨h1, h2⟩ := tyV_is I1 r1 ty
  refine ⟨T, id, pa, slot, hty, h1, h2, ?_⟩
  have hA := ha cpos pins s1 σ H1 _ I1 q1
  rw [hs] at hA ⊢
  refine Calls.callWith_builtin (by show (false || (backTo cpos (starEach es X.env)).any (·.1)) = false; rw [hplain] <;> rfl) (Calls.evalArgs_plain ?_)
  exact thn hA fun us s2 ⟨vs, H2, I2, r2, q2⟩ => hm pins s2 σ H2 x vs v us Q I2 r1 r2 q2
/- xs.append(e), list.index on a module's tuple .. are MtR facts of 06m -/
end
end L2

namespace L2
open PySem PySem.Spec PyProof.Rows

noncomputable def MtM (X : Cx) (id : String) (r : V → List V → Hp → VK → Prop) : Prop :=
  ∀ (pins : List (Addr × Obj)) (s : Shared) (σ : St) (H : Hp) (x : V) (xs : List V) (v : Value) (us : List Value) (Q : VK), Inv X pins σ H s → RelV x v → Vals xs us → r x xs H Q →
    wpAny (model X.prog X.w) X.A (call (.builtin id) (v :: us)) (EP X pins σ Q) X.xe s

/-! ### lists of values -/
theorem Vals.one : ∀ {x : V} {us : List Value}, Vals [x] us → ∃ u, us = [u] ∧ RelV x u
  | _, _, .cons r .nil => ⟨_, rfl, r⟩
theorem Vals.two : ∀ {x y : V} {us : List Value}, Vals [x, y] us → ∃ u v, us = [u, v] ∧ RelV x u ∧ RelV y v
  | _, _, _, .cons r (.cons q .nil) => ⟨_, _, rfl, r, q⟩
theorem Vals.zero : ∀ {us : List Value}, Vals [] us → us = []
  | _, .nil => rfl
theorem Vals.dropLast {xs : List V} {us : List Value} (h : Vals xs us) : Vals xs.dropLast us.dropLast := by
  induction h with
  | nil => exact .nil
  | cons r t ih =>
    cases t with
    | nil => exact .nil
    | cons q t' => exact .cons r ih
theorem Vals.eraseIdx : ∀ {xs : List V} {us : List Value} (i : Nat), Vals xs us → Vals (xs.eraseIdx i) (us.eraseIdx i)
  | _, _, _, .nil => .nil
  | _, _, 0, .cons _ t => t
  | _, _, i + 1, .cons r t => .cons r (Vals.eraseIdx i t)
theorem Vals.reverse {xs : List V} {us : List Value} (h : Vals xs us) : Vals xs.reverse us.reverse := by
  induction h with
  | nil => exact .nil
  | cons r t ih => rw [List.reverse_cons, List.reverse_cons]; exact Vals.append ih (.cons r .nil)
theorem Vals.rep {xs : List V} {us : List Value} (h : Vals xs us) : ∀ k : Nat, Vals (List.replicate k xs).flatten (List.replicate k us).flatten
  | 0 => .nil
  | k + 1 => by
    rw [List.replicate_succ, List.replicate_succ, List.flatten_cons, List.flatten_cons]
    exact Vals.append h (Vals.rep h k)
theorem foldl_rep (its : List Value) : ∀ (k : Nat) (acc : List Value),
    List.foldl (fun x1 x2 => x1 ++ x2) acc.toArray (List.replicate k its.toArray) = (acc ++ (List.replicate k its).flatten).toArray
  | 0, acc => by simp
  | k + 1, acc => by
    have e : acc.toArray ++ its.toArray = (acc ++ its).toArray := by simp
    have e2 : (acc ++ its) ++ (List.replicate k its).flatten = acc ++ (List.replicate (k + 1) its).flatten := by
      rw [List.replicate_succ, List.flatten_cons, List.append_assoc]
    rw [← e2, ← foldl_rep its k (acc ++ its), ← e, List.replicate_succ, List.foldl_cons]

section
variable {X : Cx} {pins : List (Addr × Obj)} {σ : St} {H : Hp} {s : Shared} {l b : Addr} {xs ys zs : List V}

/-! ### the two steps: a tracked list is rewritten, a new list is laid -/
theorem Inv.lset {its its' : List Value} {n : Nat} {f : Array Value → Array Value} {t' : Nat} (I : Inv X pins σ H s) (hH : H l = some (.lst xs))
    (e : s.heap.get? l = some { cls := .type "list", data := .seq its.toArray n }) (hf : f its.toArray = its'.toArray) (hv : Vals ys its') (hz : ys.length ≤ sizeLine) :
    Inv X pins σ (upd H l (.lst ys)) { s with heap := s.heap.update l (Obj.mapSeq f), toks := t' } := by
  have q := PySem.IsL.update e f
  rw [hf] at q
  refine I.write (x := l) (e := l) (by rw [hH]; exact trivial) (.inl rfl) (fun b' u hb hu => (Heap.get?_update_other s.heap (Obj.mapSeq f) (Ne.symm hb)).trans hu) ⟨_, q⟩ ?_
  exact ⟨hz, its', _, hv, q⟩
theorem Inv.lnew {its : List Value} {t' : Nat} (I : Inv X pins σ H s) (hv : Vals ys its) (hz : ys.length ≤ sizeLine) :
    Inv X pins σ (upd H s.heap.objs.size (.lst ys)) { s with heap := s.heap.push { cls := .type "list", data := .seq its.toArray }, toks := t' } :=
  I.laid (fun _ _ q => Heap.get?_push_of_some _ q) (Nat.le_refl _) ⟨hz, its, 0, hv, Heap.get?_push_size _ rfl⟩
theorem Inv.fresh (I : Inv X pins σ H s) : H s.heap.objs.size = none := I.hok.fresh (Nat.le_refl _)
theorem Inv.lstM (I : Inv X pins σ H s) (hH : H l = some (.lst xs)) : xs.length ≤ sizeLine ∧ ∃ (its : List Value) (n : Nat), Vals xs its ∧ xs.length = its.length ∧ s.heap.get? l = some { cls := .type "list", data := .seq its.toArray n } := by
  obtain ⟨z, its, n, r, e⟩ := I.hok l _ hH
  exact ⟨z, its, n, r, r.length, e⟩

theorem notLongL {n : Nat} (h : n ≤ sizeLine) : Builtin.List.listTooLong n = false := by
  unfold Builtin.List.listTooLong
  exact decide_eq_false (by omega)
end

section
variable {X : Cx}

/-! ### methods -/
noncomputable def rAppend : V → List V → Hp → VK → Prop := fun x vs H Q => ∃ l xs y, x = .ref l ∧ vs = [y] ∧ H l = some (.lst xs) ∧ xs.length < sizeLine ∧ Q .non (upd H l (.lst (xs ++ [y])))
theorem mt_append : MtM X "list.append" rAppend := by
  intro pins s σ H x vs v us Q I rx rv h
  obtain ⟨l, xs, y, rfl, rfl, hH, hz, q⟩ := h
  cases rx
  obtain ⟨u, rfl, ru⟩ := rv.one
  obtain ⟨z, its, n, r, hl, e⟩ := I.lstM hH
  refine call_meets F.slot_list_append ⟨_, e, rfl⟩ F.entry_list_append (F.args_list_append_2 _ _) (PySem.list_append l its.toArray n u (by rw [List.size_toArray]; omega)) ⟨e, ?_⟩
  refine ⟨.non, _, I.lset (its' := its ++ [u]) hH e (by simp) (r.append (.cons ru .nil)) ?_, rfl, q⟩
  rw [List.length_append, List.length_singleton]
  omega

noncomputable def rExtend : V → List V → Hp → VK → Prop := fun x vs H Q => ∃ l b xs zs, x = .ref l ∧ vs = [.ref b] ∧ H l = some (.lst xs) ∧ H b = some (.lst zs) ∧ xs.length + zs.length ≤ sizeLine ∧ Q .non (upd H l (.lst (xs ++ zs)))

noncomputable def rPop : V → List V → Hp → VK → Prop := fun x vs H Q => ∃ l xs y, x = .ref l ∧ vs = [] ∧ H l = some (.lst xs) ∧ xs[xs.length - 1]? = some y ∧ Q y (upd H l (.lst xs.dropLast))

noncomputable def rPopAt : V → List V → Hp → VK → Prop := fun x vs H Q => ∃ l xs i k y, x = .ref l ∧ vs = [.int i] ∧ H l = some (.lst xs) ∧ -(2 ^ 63) ≤ i ∧ i < 2 ^ 63 ∧ seqIndex? i xs.length = some k ∧ xs[k]? = some y ∧ Q y (upd H l (.lst (xs.eraseIdx k)))

noncomputable def rReverse : V → List V → Hp → VK → Prop := fun x vs H Q => ∃ l xs, x = .ref l ∧ vs = [] ∧ H l = some (.lst xs) ∧ Q .non (upd H l (.lst xs.reverse))

noncomputable def rClear : V → List V → Hp → VK → Prop := fun x vs H Q => ∃ l xs, x = .ref l ∧ vs = [] ∧ H l = some (.lst xs) ∧ Q .non (upd H l (.lst []))

/-! ### list + list, list += list, list * int -/
noncomputable def rCat : R2 := fun x y H Q => ∃ l b xs zs, x = .ref l ∧ y = .ref b ∧ H l = some (.lst xs) ∧ H b = some (.lst zs) ∧ xs.length + zs.length ≤ sizeLine ∧ ∀ p, H p = none → Q (.ref p) (upd H p (.lst (xs ++ zs)))
theorem op_cat : OpR X (binaryOp .Add) rCat := by
  intro pins s σ H x y v u Q I rx ry h
  obtain ⟨l, b, xs, zs, rfl, rfl, hH, hB, hz, q⟩ := h
  cases rx
  cases ry
  obtain ⟨z, its, n, r, hl, e⟩ := I.lstM hH
  obtain ⟨z2, its2, n2, r2, hl2, e2⟩ := I.lstM hB
  refine PySem.P.add_list e e2 ?_ (by rw [List.size_toArray, List.size_toArray]; omega)
  have ea : its.toArray ++ its2.toArray = (its ++ its2).toArray := by simp
  rw [ea]
  exact ⟨.ref _, _, I.lnew (t' := s.toks) (r.append r2) (by rw [List.length_append]; omega), rfl, q _ I.fresh⟩
/-- a list times an int (a negative one is nothing) -/
noncomputable def rRep : R2 := fun x y H Q => ∃ l k xs, x = .ref l ∧ y = .int k ∧ H l = some (.lst xs) ∧ -(2 ^ 63) ≤ k ∧ k < 2 ^ 63 ∧ xs.length * k.toNat ≤ sizeLine ∧
  ∀ p, H p = none → Q (.ref p) (upd H p (.lst (List.replicate k.toNat xs).flatten))
theorem len_rep {α : Type} (xs : List α) (k : Nat) : (List.replicate k xs).flatten.length = k * xs.length := by
  induction k with
  | zero => simp
  | succ k ih => rw [List.replicate_succ, List.flatten_cons, List.length_append, ih, Nat.succ_mul, Nat.add_comm]
theorem op_rep : OpR X (binaryOp .Mult) rRep := by
  intro pins s σ H x y v u Q I rx ry h
  obtain ⟨l, k, xs, rfl, rfl, hH, h1, h2, hz, q⟩ := h
  cases rx
  obtain ⟨t, rfl⟩ := ry
  obtain ⟨z, its, n, r, hl, e⟩ := I.lstM hH
  have hlen : its.toArray.size * k.toNat ≤ sizeLine := by rw [List.size_toArray, ← hl]; exact hz
  have hcap : ¬ its.toArray.size * k.toNat > (2 ^ 63 - 1) / 8 := by
    have : (sizeLine : Nat) ≤ (2 ^ 63 - 1) / 8 := by decide
    omega
  have hfit : ¬ (!Builtin.List.listFitsIndex k) = true := by
    rw [fitsIndex_both h1 h2]
    exact Bool.false_ne_true
  have hlong : ¬ Builtin.List.listTooLong (its.toArray.size * k.toNat) = true := by
    rw [notLongL hlen]
    exact Bool.false_ne_true
  have hnew : List.foldl (fun x1 x2 => x1 ++ x2) #[] (List.replicate (if its.toArray.isEmpty = true then 0 else k.toNat) its.toArray) = (List.replicate k.toNat its).flatten.toArray := by
    have f0 : ∀ m : Nat, List.foldl (fun x1 x2 => x1 ++ x2) #[] (List.replicate m its.toArray) = (List.replicate m its).flatten.toArray := fun m => by
      have := foldl_rep its m []
      rw [List.nil_append] at this
      exact this
    rw [f0]
    cases its with
    | nil => simp
    | cons a r' => rw [if_neg (by simp)]
  refine wpAny_binaryOp_repeat_ref (T := "list") (U := "int") (by decide) ⟨_, e, rfl⟩ (fun s' => typeIs_int s' k t) noFill_list_mul F.fills_int_mul F.slot_int_rmul repeat_list F.slot_int_index.lookup
    (call_meets F.slot_int_rmul (typeIs_int s k t) F.entry_int_rmul (F.args_int_rmul_2 _ _) (int___rmul___int_list k t l its.toArray n)
      ⟨e, rfl, ⟨_, e, rfl⟩, call_meets F.slot_list_mul ⟨_, e, rfl⟩ F.entry_list_mul (F.args_list_mul_2 _ _) (AutoListH.list___mul___list_int_3 l its.toArray n k t hfit hcap hlong) ⟨e, ?_⟩⟩)
  rw [hnew]
  exact ⟨.ref _, _, I.lnew (t' := s.toks) (r.rep k.toNat) (by rw [len_rep, Nat.mul_comm]; exact hz), rfl, q _ I.fresh⟩

/-! ### del xs[i] -/
end

/-! ### xs[a:b] = ys -/
section
variable {prog : Program} {w : World} {A : Around} {E : Value → Shared → Prop} {s : Shared}
end

section
variable {X : Cx}
end
end L2

namespace Att
open PySem PySem.W PySem.Calls PyProof.Rows

/-! ### the script -/
theorem ints_of_wellAll {P : Params} {h : Heap} : ∀ (ns : List Int) (vs : List Value), WellAll P h vs (ns.map WData.int) → IntsAre vs ns := by
  intro ns
  induction ns with
  | nil =>
    intro vs w
    rw [List.map_nil] at w
    cases w
    exact .nil
  | cons n ns ih =>
    intro vs w
    rw [List.map_cons] at w
    cases w with
    | cons a b =>
      cases a
      exact .cons _ _ (ih _ b)

theorem script_of {l : OpenLaw} {n : Nat} (hn : l.most = some n) {P : Params} {h : Heap} {args : List WData} {vals : List Value}
    (hpre : l.row.toRowW.claim.pre args = true) (hwl : WellAll P h vals args) :
    ∃ a vs ns, vals = [Value.ref a] ∧ args = [WData.list (ns.map WData.int)] ∧ h.get? a = some { cls := .type "list", data := .seq vs.toArray } ∧ IntsAre vs ns ∧ ns.length ≤ n := by
  have hsh : WShape.hasAll [] args [.list .int] = true := (pre_splitW hpre).1
  have hc : l.pre.holds [] { args := args } = true := (pre_splitW hpre).2
  obtain ⟨d, r, rfl, h1, h2⟩ := hasAllW_cons hsh
  obtain rfl := hasAllW_nil h2
  obtain ⟨xs, rfl, h3⟩ := hasW_list h1
  obtain ⟨ns, rfl⟩ := items_int h3
  have hlen : ns.length ≤ n := by
    unfold OpenLaw.pre at hc
    have h4 : (WTm.not (.lt (.lit (.int (n : Int))) (.len (.arg 0)))).holds [] { args := [.list (ns.map .int)] } = true := by
      have h4 := (holds_andW hc).1
      rw [hn] at h4
      exact h4
    have h5 := condW_of h4 (w_not (w_lt w_lit (w_len_list (w_arg rfl))))
    rw [List.length_map] at h5
    refine Nat.le_of_not_lt fun q => ?_
    have q' : (n : Int) < ((ns.length : Nat) : Int) := by omega
    first
      | (rw [decide_eq_true q'] at h5; exact absurd h5 (by decide))
      | (simp at h5; omega)
  cases hwl with
  | cons w1 w2 =>
    cases w2
    cases w1 with
    | list ho hall => exact ⟨_, _, ns, rfl, rfl, ho, ints_of_wellAll ns _ hall, hlen⟩

theorem post_true (l : OpenLaw) (args : List WData) : l.row.toRowW.claim.post args (.bool true) args = true :=
  postW_of (r := l.row.toRowW) (X := (true == true))
    (show WShape.has [] (.bool true) .bool = true by first | rfl | decide | simp [WShape.has, WShape.arms, WShape.armsAll])
    (show (WTm.eq .res (.lit (.bool true))).value [] { args := args, res := some (.bool true), after := args } = some (.bool (true == true)) from w_eq_bool (w_res rfl) w_lit) rfl

/-! ### the attachment: holds_open's last premise (the goal 'hc' behind k_head) from a wpAny of the law's body -/

/-- the same from a codeAny of the CALL (for a layer whose function contracts speak of calls) -/
theorem attach_call {l : OpenLaw} {n : Nat} {q : Program} {loose : List Str} {XP : (Str → Option Value) → Heap → Prop} {YP : World → Heap → Prop} {d : DefRec}
    (hn : l.most = some n) (hdf : d.params.defaults = [])
    (call : ∀ (w : World) (s₀ s₁ : Shared) (mg mb : Str → Option Value) (fa : Addr) (o : Obj) (pm cd doc : Value) (a : Addr) (vs : List Value) (ns : List Int),
      Ground q loose [] XP w s₀ mg mb s₁.heap → YP w s₁.heap →
      s₁.heap.get? fa = some o → o.data = .func (docDef d.name d.params d.body d.scope pm cd doc) → s₁.heap.CodeRec cd d.name → mg d.name = some (.ref fa) →
      s₁.heap.get? a = some { cls := .type "list", data := .seq vs.toArray } → IntsAre vs ns → ns.length ≤ n → s₁.gens = #[] →
      codeAny (model l.prog w) callerA (.call (.ref fa) ⟨[.ref a], []⟩) (fun r s' => r = .ok (.ret (.bool true)) ∧ OldK s₁.heap s'.heap ∧ s'.os = s₁.os ∧ AllBare s'.gens) s₁) :
    WalkO q loose XP YP l.row.toRowW d [] (fun f vs => PySem.call f vs) := by
  intro w s₀ s₁ mg mb G Y fa o pm cd doc dV kV ho hd hcd hD hmg hg args vals as hpre hlay hrd hwl hlo
  obtain rfl : dV = .none := Dflts.none hD hdf
  obtain rfl : kV = .none := Dflts.noKw hD
  obtain ⟨a, vs, ns, rfl, rfl, hobj, hints, hlen⟩ := script_of hn hpre hwl
  refine enter_call (codeAny_mono (call w s₀ s₁ mg mb fa o pm cd doc a vs ns G Y ho (fd_plain hd) hcd hmg hobj hints hlen hg) fun r s' hq => ?_)
  obtain ⟨rfl, h2, h3, h4⟩ := hq
  exact ⟨.inl ⟨.bool true, .bool true, [], rfl, fun _ => rfl, .bool true, post_true l _, fun _ => ⟨List.Pairwise.nil, fun _ hm => (nomatch hm)⟩⟩, h2, h3, h4⟩


/-! ### rules over ANY heap (no ledger) from facts about the written part K: the library's own take a ledger (News) for what they write -/
section
variable {prog : Program} {w : World} {A : Around} {E : Value → Shared → Prop} {s : Shared} {K : Frag}





/-! the whole heap as the ledger: makes every rule that writes through a ledger a rule over any heap -/
noncomputable def noObjs (h : Heap) : Heap := { h with objs := #[] }
noncomputable def ledger (h : Heap) (L d : Addr) : List (Addr × Obj) := (List.range h.objs.size).filterMap fun a => if a = L ∨ a = d then none else (h.get? a).map fun o => (a, o)

end
end Att

namespace L2
open PySem PySem.Spec PyProof.Rows

theorem vals_ints : ∀ {vs : List Value} {ns : List Int}, IntsAre vs ns → Vals (ns.map V.int) vs
  | _, _, .nil => .nil
  | _, _, .cons n t h => .cons ⟨t, rfl⟩ (vals_ints h)

/-- nothing is tracked but the script, known to the object (or it is an object of the module) -/
noncomputable def Only (H : Hp) : Prop := ∀ b, H b = none ∨ ∃ o xs, H b = some (.frz o (.lst xs))

/-- THE HEAD: the law's promise, at the heap behind the top. F, the promise of the law's def, may use that base is part of the heap (so K.In base, base.Ns mainGlobals mg stand in Mod) -/
theorem law_call {P : Program} {w : World} {K : PySem.W.Frag} {mg mb : Str → Option Value} {CX : CXT} {k : Nat} {fa a : Addr} {fd : FuncData} {x : Str} {sp : Sp} {s₁ : Shared} {vs : List Value} {ns : List Int}
    (KX : K.In s₁.heap) (hns : s₁.heap.Ns mainGlobals mg) (hb : s₁.heap.Ns builtinsNs mb) (hbb : ∀ x : Str, x ≠ "__name__" → mb x = bootBuiltins x) (hlim : s₁.heap.NoLimit) (hg : s₁.gens = #[])
    (ha : s₁.heap.get? a = some { cls := .type "list", data := .seq vs.toArray }) (hi : IntsAre vs ns) (hl : ns.length ≤ sizeLine) (hr : Room k callerA)
    (F : ∀ base : Heap, K.In base → base.Ns mainGlobals mg → FnOk P w K mg base CX k fa fd [x] sp) (hbind : ∀ (s : Shared) (u : Value), BindsTo s fd ⟨[u], []⟩ [(x, u)])
    (hsp : ∀ H : Hp, Only H → SqL K H a (ns.map V.int) → sp [.ref a] H (fun v _ => v = .bl true) fun _ _ _ => False)
    (hCX : ∀ H e s', CX [] H s₁ (fun _ _ _ => False) e s' → False) :
    codeAny (model P w) callerA (.call (.ref fa) ⟨[.ref a], []⟩) (fun r s' => r = .ok (.ret (.bool true)) ∧ OldK s₁.heap s'.heap ∧ s'.os = s₁.os ∧ AllBare s'.gens) s₁ := by
  have rv := vals_ints hi
  have lenV := hi.length
  -- from an abstract heap in which nothing but the script may be tracked
  have core : ∀ H : Hp, Only H → SqL K H a (ns.map V.int) → HOk P w H s₁.heap → (∀ b, H b ≠ none → b = a) → (H a ≠ none → K.lookup a = none) →
      codeAny (model P w) callerA (.call (.ref fa) ⟨[.ref a], []⟩) (fun r s' => r = .ok (.ret (.bool true)) ∧ OldK s₁.heap s'.heap ∧ s'.os = s₁.os ∧ AllBare s'.gens) s₁ := by
    intro H hO hS hok hA hK
    have base_of : ∀ {b : Addr} {o : Obj}, s₁.heap.get? b = some o → H b = none → (hidT s₁.heap H).get? b = some o := fun e n => hidT_get e n
    have noA : ∀ {b : Addr} {o : Obj} {es : Array DictEntry} {ep : Nat}, s₁.heap.get? b = some o → o.data = .dict es ep → H b = none := fun {b o es ep} e d => by
      cases q : H b with
      | none => rfl
      | some u =>
        have e' : b = a := hA b (by rw [q]; simp)
        subst e'
        rw [ha] at e; cases e
        have d' : Data.seq vs.toArray _ = Data.dict es ep := d
        cases d'
    have nsK : ∀ {b : Addr} {m : Str → Option Value}, s₁.heap.Ns b m → (hidT s₁.heap H).Ns b m := fun {b m} ⟨o, es, ep, e, d, r⟩ => ⟨o, es, ep, base_of e (noA e d), d, r⟩
    have hKb : K.In (hidT s₁.heap H) := fun b o e => base_of (KX b o e) (by
      cases q : H b with
      | none => rfl
      | some u =>
        have e' : b = a := hA b (by rw [q]; simp)
        subst e'
        rw [hK (by rw [q]; simp)] at e; cases e)
    have hM : Mod K mg (hidT s₁.heap H) := ⟨hKb, nsK hns, ⟨mb, nsK hb, hbb⟩, let ⟨mc, h1, h2⟩ := hlim; ⟨mc, nsK h1, h2⟩⟩
    have e0 : Env0 P w K mg (hidT s₁.heap H) callerA [] s₁ H := ⟨rfl, hM, fun b o e => of_hidT e, Nat.le_of_eq (hidT_size _ _), trivial, fun b hb => absurd (show b ∈ ([] : List Addr) from hb) (by simp), hok, .of_eq hg⟩
    refine codeAny_mono ((F _ hKb (nsK hns)).run callerA [] s₁ H ⟨[.ref a], []⟩ [.ref a] [.ref a] _ _ hr e0 (hbind s₁ (.ref a)) (.cons rfl .nil) (hsp H hO hS)) fun r s' h => ?_
    cases r with
    | error e => exact (hCX H e s' h).elim
    | ok fl =>
      cases fl with
      | next => exact False.elim h
      | brk => exact False.elim h
      | cont => exact False.elim h
      | ret u =>
        obtain ⟨v, H', os, bare, un, hok', r', q⟩ := h
        have q' : v = .bl true := q
        subst q'
        obtain rfl : u = Value.bool true := r'
        refine ⟨rfl, OldK.of_keep fun b o e => ?_, os, bare⟩
        cases q : H b with
        | none => exact un.keep b o e q (by intro z; exact absurd (show b ∈ ([] : List Addr) from z) (by simp)) (by simp)
        | some u =>
          rcases hO b with z | ⟨ob, xs, z⟩
          · rw [q] at z; cases z
          · have z2 := un.frzs b ob _ z
            obtain ⟨e1, _⟩ := hok b _ z
            obtain ⟨e2, _⟩ := hok' b _ z2
            rw [e] at e1; cases e1
            exact e2
  cases hk : K.lookup a with
  | some o =>
    -- the script is one of the module's own objects
    have e := KX a o hk
    rw [ha] at e
    cases e
    refine core (fun _ => none) (fun _ => .inl rfl) (.inr ⟨_, vs.toArray, _, hk, rfl, rfl, rfl, by rw [List.size_toArray, lenV]; exact hl, by simpa using rv⟩) (fun b u z => by have z' : (none : Option HO) = some u := z; cases z') (fun b z => absurd rfl z) fun z => absurd rfl z
  | none =>
    refine core (fun b => if b = a then some (.frz { cls := .type "list", data := .seq vs.toArray } (.lst (ns.map V.int))) else none) (fun b => ?_) (.inl (.inr ⟨{ cls := .type "list", data := .seq vs.toArray }, if_pos rfl⟩)) (fun b u z => ?_) (fun b z => ?_) fun _ => hk
    · by_cases hb : b = a
      · exact .inr ⟨_, _, if_pos hb⟩
      · exact .inl (if_neg hb)
    · by_cases hb : b = a
      · have z' := (if_pos hb).symm.trans z
        cases z'
        subst hb
        exact ⟨ha, by rw [List.length_map]; exact hl, vs, _, rv, ha⟩
      · have z' := (if_neg hb).symm.trans z
        cases z'
    · by_cases hb : b = a
      · exact hb
      · exact absurd (if_neg hb) z
end L2

namespace L2
open PySem PySem.Spec PyProof.Rows

noncomputable abbrev KOf {K : PySem.W.Frag} {h : Heap} (_ : K.In h) : PySem.W.Frag := K

/-- the goal that k_head leaves (case hc), from the law's promise. F gives the function object fd (K's own) once, then the promise over every base -/
theorem walk_of {l : PySem.W.OpenLaw} {n k : Nat} {q : Program} {loose : List Str} {XP : (Str → Option Value) → Heap → Prop} {YP : World → Heap → Prop} {d : DefRec} {K : Params → PySem.W.Frag} {CX : World → CXT} {sp : World → Sp} {x : Str}
    (hn : l.most = some n) (hn2 : n ≤ sizeLine) (hdf : d.params.defaults = []) (hr : Room k callerA)
    (hY : ∀ (w : World) (h : Heap), YP w h → (K w.params).In h)
    (F : ∀ (w : World) (mg : Str → Option Value) (fa : Addr) (h : Heap), (K w.params).In h → h.Ns mainGlobals mg → mg d.name = some (.ref fa) →
      ∃ fd : FuncData, (∀ (s : Shared) (u : Value), BindsTo s fd ⟨[u], []⟩ [(x, u)]) ∧
        ∀ base : Heap, (K w.params).In base → base.Ns mainGlobals mg → FnOk l.prog w (K w.params) mg base (CX w) k fa fd [x] (sp w))
    (hsp : ∀ (w : World) (H : Hp) (a : Addr) (ns : List Int), ns.length ≤ n → Only H → SqL (K w.params) H a (ns.map V.int) → sp w [.ref a] H (fun v _ => v = .bl true) fun _ _ _ => False)
    (hCX : ∀ (w : World) (H : Hp) (s : Shared) (e : Value) (s' : Shared), CX w [] H s (fun _ _ _ => False) e s' → False) :
    PySem.W.WalkO q loose XP YP l.row.toRowW d [] (fun f vs => PySem.call f vs) := by
  refine Att.attach_call hn hdf fun w s₀ s₁ mg mb fa o pm cd doc a vs ns G Y ho hd hcd hmg hobj hints hlen hg => ?_
  have KX := hY w _ Y
  obtain ⟨fd, hb, hF⟩ := F w mg fa _ KX G.T.g hmg
  exact law_call KX G.T.g G.T.b G.T.builtins G.T.nolimit hg hobj hints (Nat.le_trans hlen hn2) hr hF hb (fun H hO hS => hsp w H a ns hlen hO hS) fun H e s' => hCX w H s₁ e s'
end L2

/- THE LAST THEOREM (shape; LID, My.* are yours):
   My.Adr: a structure of the addresses that your layer names (classes, functions); My.Txt K t: a structure (Prop) of the equations over K;
   My.txt_mk : {K} {implicit addresses ..} (e1 : nsIn K mainGlobals "law" = some (some (.ref f))) (e2 : K.lookup f = some ⟨oc, od, .func (fnOf "law" "law" params body scope dV kV doc pm an cdv ct), sl⟩) (e3 : codeIn K cdv "law" = true) .. : ∃ t, My.Txt K t

set_option maxRecDepth 100000 in
set_option maxHeartbeats 0 in
theorem PySem.Challenge.cw_LID_holds : PySem.Challenge.rw_LID.Holds := by
  w_on; o_law; k_head; (case hw => w_witness2)
  k_fill
  refine L2.walk_of (l := PySem.Challenge.rw_LID) (n := 63) (k := 40) (x := "script") (CX := fun w => ..) (sp := fun _ => My.sp_law) rfl (by decide) rfl ⟨rfl, by decide, by decide⟩ (fun w h Y => PySem.W.kIn_of Y) ?F ?S ?C
  case F =>
    intro w mg fa h KX G hmg
    have T : ∃ t, My.Txt (L2.KOf KX) t := by
      dsimp only [L2.KOf]                          -- K must stand as «<heap const> w.params» for k_is
      refine' My.txt_mk ?e1 ?e2 ?e3 ..
      (case e1 => PySem.W.k_is)                    -- in the order: a name -> its address -> its object -> its parts
      (case e2 => PySem.W.k_is)
      ..
    obtain ⟨t, T⟩ := T
    have e0 := hmg.symm.trans (PySem.W.mg_of KX G T.law)
    cases e0                                       -- fa is the law's own address
    exact ⟨_, fun s u => .of_eq rfl, fun base kb nb => My.law_fn T kb nb⟩     -- if «.of_eq rfl» comes too early: refine' ⟨_, ?b, fun base kb nb => My.law_fn T kb nb⟩; exact fun s u => .of_eq rfl
  case S => exact fun w H a ns hl hO hS => ..
  case C => exact ..
(the tactic k_is has no namespace: write k_is) -/

/-! SHORT WORDS over the layer: a def of the text, its body, what a loop and a test want. -/
namespace L2
open PySem PySem.Spec PyProof.Rows

/-! ### the text by places -/
/-- the j-th statement of a class's body -/
noncomputable def inClass (s : Stmt) (j : Nat) : Stmt := match s with
  | .ClassDef _ _ _ body _ _ _ _ _ _ _ => body.getD j (.Pass ⟨0, 0, 0, 0⟩)
  | _ => .Pass ⟨0, 0, 0, 0⟩
noncomputable def defArgs (s : Stmt) : Arguments := match s with
  | .FunctionDef _ a _ _ _ _ _ _ _ _ => a
  | _ => { posonlyargs := [], args := [], vararg := none, kwonlyargs := [], kw_defaults := [], kwarg := none, defaults := [] }
noncomputable def defBody (s : Stmt) : List Stmt := match s with
  | .FunctionDef _ _ b _ _ _ _ _ _ _ => b
  | _ => []
noncomputable def defScope (s : Stmt) : Scope := match s with
  | .FunctionDef _ _ _ _ _ _ sc _ _ _ => sc
  | _ => { kind := .function, names := [], isGenerator := false, isCoroutine := false }

/-! ### no exception leaves a def -/
noncomputable abbrev CX0 : CXT := fun _ _ _ _ _ _ => False
noncomputable abbrev E0 : XK := fun _ _ _ => False
theorem pass0 {X : Cx} : Passes CX0 X E0 := fun _ _ _ _ _ _ _ h => h.elim

/-! ### a def (or method) of the text as it stands behind the top -/
structure Fun (K : PySem.W.Frag) (x qual : Str) (st : Stmt) (f : Addr) (fd : FuncData) : Prop where
  ex : ∃ (oc : Value) (od : Option Addr) (kV doc pm : Value) (an : Option Addr) (cdv ct : Value) (osl : Array (Option Value)),
    fd = PySem.W.fnOf x qual (defArgs st) (defBody st) (defScope st) .none kV doc pm an cdv ct ∧ K.lookup f = some ⟨oc, od, .func fd, osl⟩ ∧ PySem.W.codeIn K cdv qual = true
  kp : PySem.W.keepIn K (.ref f) = true
section
variable {P : Program} {w : World} {K : PySem.W.Frag} {mg : Str → Option Value} {base : Heap}
/-- THE RULE for a def: its body as a term of rules, and the reading of that term -/
theorem Fun.ok {x qual : Str} {st : Stmt} {f : Addr} {fd : FuncData} {N ps : List Str} {k : Nat} {sp : Sp} (F : Fun K x qual st f fd) (S : FnScope N ps (defScope st)) (len : ∀ vs H Q E, sp vs H Q E → vs.length = ps.length)
    (hbody : ∀ (cdv : Value) (A : Around) (outer : List Env) (s : Shared) (H : Hp) (vs : List V) (Q : VK) (E : XK), Room k (A.deeper (envOfC qual (defScope st) s.heap.objs.size f cdv)) → sp vs H Q E →
      ∃ t, PSs (cxOf CX0 P w K mg base N qual (defScope st) f cdv A outer s H E).nox (defBody st) t ∧ t { nx := fun _ H' => Q .non H', rt := Q } (start N vs) H) : FnOk P w K mg base CX0 (k + 1) f fd ps sp := by
  obtain ⟨oc, od, kV, doc, pm, an, cdv, ct, osl, rfl, lk, hcd⟩ := F.ex
  refine fn_of lk hcd S len fun A outer s H vs Q E hr hsp => ?_
  obtain ⟨t, h, q⟩ := hbody cdv A outer s H vs Q E hr hsp
  exact ⟨t, h.nox, q⟩
/-- how its arguments bind (no defaults): h is «fun _ _ _ _ _ _ us hl => match us, hl with | [_, _], _ => rfl», one _ a parameter -/
theorem Fun.binds {x qual : Str} {st : Stmt} {f : Addr} {fd : FuncData} {ps : List Str} (F : Fun K x qual st f fd)
    (h : ∀ (kV doc pm : Value) (an : Option Addr) (cdv ct : Value) (us : List Value), us.length = ps.length → bindArgs (PySem.W.fnOf x qual (defArgs st) (defBody st) (defScope st) .none kV doc pm an cdv ct) ⟨us, []⟩ = pure (ps.zip us)) : Binds K fd ps [] := by
  obtain ⟨oc, od, kV, doc, pm, an, cdv, ct, osl, rfl, lk, hcd⟩ := F.ex
  exact .all (h kV doc pm an cdv ct)
theorem fun_mk {x qual : Str} {st : Stmt} {f : Addr} {oc : Value} {od an : Option Addr} {osl : Array (Option Value)} {kV doc pm cdv ct : Value} (l : K.lookup f = some ⟨oc, od, .func (PySem.W.fnOf x qual (defArgs st) (defBody st) (defScope st) .none kV doc pm an cdv ct), osl⟩)
    (c : PySem.W.codeIn K cdv qual = true) (k : PySem.W.keepIn K (.ref f) = true) : Fun K x qual st f (PySem.W.fnOf x qual (defArgs st) (defBody st) (defScope st) .none kV doc pm an cdv ct) := ⟨⟨oc, od, kV, doc, pm, an, cdv, ct, osl, rfl, l, c⟩, k⟩
end
theorem small1000 {n : Nat} (h : n ≤ 1000) : n < sizeLine := Nat.lt_of_le_of_lt h (by decide)

/-! ### expressions in short: the name that stands in the i-th slot -/
section
variable {X : Cx}
theorem pv (i : Nat) {x : Str} {pos : Pos} (hN : X.N[i]? = some x := by rfl) (hv : Vis X.env.scope x := by first | exact Or.inl rfl | exact Or.inr (Or.inl rfl) | exact Or.inr (Or.inr rfl)) (hd : (x == ("__debug__" : Str)) = false := by decide)
    (hcd : (x == ("__classdict__" : Str)) = false := by decide) : PE X (.Name x pos) (tVar i) := pe_var hN hv hd hcd
end

/-! ### tests -/
theorem iteF {A B : Prop} (h : B) : if false = true then A else B := by
  rw [if_neg Bool.false_ne_true]
  exact h
theorem iteT {A B : Prop} (h : A) : if true = true then A else B := by
  rw [if_pos rfl]
  exact h
theorem iteNS {c A B : Prop} [Decidable c] (hc : c) (h : B) : if (!decide c) = true then A else B := by
  rw [decide_eq_true hc]
  exact iteF h

/-! ### heaps -/
/-- all that was tracked is as it was -/
noncomputable def Same (H H' : Hp) : Prop := ∀ b o, H b = some o → H' b = some o
theorem Same.refl (H : Hp) : Same H H := fun _ _ h => h
theorem Same.trans {H H1 H2 : Hp} (a : Same H H1) (b : Same H1 H2) : Same H H2 := fun c o h => b c o (a c o h)
theorem Same.free {H H' : Hp} (e : Same H H') {l : Addr} (h : H' l = Option.none) : H l = Option.none := by
  cases q : H l with
  | none => rfl
  | some o =>
    rw [e l o q] at h
    cases h
theorem Same.seq {K : PySem.W.Frag} {H H' : Hp} {a : Addr} {xs : List V} (e : Same H H') (h : SqL K H a xs) : SqL K H' a xs := by
  rcases h with (h | ⟨o, h⟩) | h
  · exact .inl (.inl (e _ _ h))
  · exact .inl (.inr ⟨o, e _ _ h⟩)
  · exact .inr h

end L2

set_option Elab.async false
set_option linter.all false
set_option maxRecDepth 100000
namespace L2
open PySem PySem.Spec PyProof.Rows

/-! ### comprehensions -/
section
variable {P : Program} {w : World} {A : Around} {R : Result → Shared → Prop} {s : Shared}
/-- the loop of a comprehension, the step ahead of the store with it -/
theorem comp_loop {elt tgt iter : Expr} {ifs : List Expr} {scope : Scope} {pos : Pos} {it acc : Value} {env : Env} (J : Nat → Shared → Prop)
    (turn : ∀ n s, J n s → wpAny (model P w) A (pyNext it) (fun r c₁ => match r with
      | none => R (.ok .next) c₁
      | some v => wpAny (model P w) A (letOwnedTupleGo tgt it v) (fun _ d₁ => wpAny (model P w) A (assign tgt env v) (fun _ c₂ =>
          wpAny (model P w) A (forIn ifs true fun c r => if r = true then do let ok ← isTrue c env (eval c env); pure (ForInStep.yield ok) else pure (ForInStep.yield r)) (fun ok c₃ =>
            if ok = true then wpAny (model P w) A (eval elt env) (fun x c₄ =>
              wpAny (model P w) A (call (.builtin "list.append") [acc, x]) (fun _ c₅ => ∃ m, m < n ∧ J m c₅) (notedBy (model P w) A env fun e s' => R (.error e) s') c₄) (notedBy (model P w) A env fun e s' => R (.error e) s') c₃
            else ∃ m, m < n ∧ J m c₃) (notedBy (model P w) A env fun e s' => R (.error e) s') c₂) (notedBy (model P w) A env fun e s' => R (.error e) s') d₁) (notedBy (model P w) A env fun e s' => R (.error e) s') c₁) (notedBy (model P w) A env fun e s' => R (.error e) s') s)
    (n : Nat) (hn : J n s) :
    codeAny (model P w) A (.compLoop (.ListComp elt [⟨tgt, iter, ifs, 0⟩] scope pos) 0 it acc env) R s := by
  refine codeAny_loop rfl J (fun n s hJ => ?_) n hn
  show wpAny _ A ((compTurn (.ListComp elt [⟨tgt, iter, ifs, 0⟩] scope pos) 0 it acc env).onRaise (fun x => do noteFrame x env; theTreesLotGoes x)) _ _ s
  refine wpAny_noted ?_
  rw [compTurn_list]
  refine wpAny_bind (wpAny_standAt (wpAny_bind (wpAny_mono (turn n s hJ) (fun r c₁ e₁ => ?_) fun _ _ z => z)))
  cases r with
  | none => exact wpAny_pure e₁
  | some v =>
    refine wpAny_bind (wpAny_mono e₁ (fun _ d₁ f₁ => ?_) fun _ _ z => z)
    refine wpAny_bind (wpAny_mono f₁ (fun _ c₂ e₂ => wpAny_bind (wpAny_mono e₂ (fun ok c₃ e₃ => ?_) fun _ _ z => z)) fun _ _ z => z)
    cases ok with
    | false => exact wpAny_pure ⟨rfl, e₃⟩
    | true =>
      exact wpAny_bind (wpAny_bind (wpAny_mono e₃ (fun x c₄ e₄ => wpAny_bind (wpAny_mono e₄ (fun _ c₅ e₅ => wpAny_pure (wpAny_pure ⟨rfl, e₅⟩)) fun _ _ z => z)) fun _ _ z => z))
end

/-- the cells that a block is given -/
noncomputable def cloF (env : Env) : List (Str × NameKind) → List (Str × Addr) → List (Str × Addr)
  | [], acc => acc
  | (n, k) :: r, acc => if k = .free then cloF env r ((n, (env.cells.lookup n).getD 0) :: acc) else cloF env r acc
theorem closure_go {env : Env} : ∀ (names : List (Str × NameKind)) (acc : List (Str × Addr)), (∀ x ∈ names, x.2 = .free → ∃ c, env.cells.lookup x.1 = some c) →
    (forIn names acc (fun (x : Str × NameKind) (cs : List (Str × Addr)) => (if (x.2 == NameKind.free) = true then do let a ← cellOf env x.1; pure (ForInStep.yield ((x.1, a) :: cs)) else pure (ForInStep.yield cs) : Sem (ForInStep (List (Str × Addr))))) : Sem (List (Str × Addr))) = pure (cloF env names acc)
  | [], acc, _ => by simp [cloF]
  | (n, k) :: r, acc, h => by
    have ih := fun acc => closure_go (env := env) r acc fun x hx => h x (List.mem_cons_of_mem _ hx)
    rw [List.forIn_cons]
    by_cases hk : k = .free
    · subst hk
      obtain ⟨c, hc⟩ := h (n, .free) List.mem_cons_self rfl
      have hc' : env.cells.lookup n = some c := hc
      have e : cellOf env n = pure c := by unfold cellOf; rw [hc']
      simp only [cloF, if_true, hc', Option.getD_some, beq_self_eq_true, e, pure_bind]
      exact ih _
    · have hb : (k == NameKind.free) = false := by simpa using hk
      simp only [cloF, hk, if_false, hb, Bool.false_eq_true, pure_bind]
      exact ih _
theorem closure_eq {env : Env} {scope : Scope} (h : ∀ x ∈ scope.names, x.2 = .free → ∃ c, env.cells.lookup x.1 = some c) : closureFor scope env = pure (cloF env scope.names []) := by
  rw [← closure_go scope.names [] h]
  unfold closureFor
  simp only [bind_pure]
theorem cloF_lookup {env : Env} {y : Str} : ∀ (names : List (Str × NameKind)) (acc : List (Str × Addr)), (cloF env names acc).lookup y = if (y, NameKind.free) ∈ names then some ((env.cells.lookup y).getD 0) else acc.lookup y
  | [], acc => by simp [cloF]
  | (n, k) :: r, acc => by
    unfold cloF
    by_cases hk : k = .free
    · subst hk
      rw [if_pos rfl, cloF_lookup r]
      by_cases hy : y = n
      · subst hy
        simp [List.lookup_cons]
      · have hb : (y == n) = false := by simpa using hy
        simp [List.lookup_cons, hb, hy]
    · rw [if_neg hk, cloF_lookup r]
      have : ¬ ((y, NameKind.free) = (n, k)) := by
        intro e
        exact hk (Prod.mk.inj e).2.symm
      simp [this]

/-- what a block's scope is like: o the def's own scope, TN the targets' names, F the def's names that the block reads -/
structure CScope (o sc : Scope) (TN F : List Str) : Prop where
  okind : o.kind = .function
  kind : sc.kind = .function
  nocell : ∀ y ∈ sc.names, y.2 ≠ .cell
  names : ∀ y ∈ sc.names, y.2 = .local → sc.names.lookup y.1 = some .local
  fr : ∀ y ∈ sc.names, y.2 = .free → o.names.lookup y.1 = some .cell ∧ sc.names.lookup y.1 = some .free
  ff : ∀ y ∈ F, (y, NameKind.free) ∈ sc.names

theorem relabel_free {env : Env} {y : Str} (hk : env.scope.kind = .function) (hc : env.kindOf y = some .cell) : ∀ {names : List (Str × NameKind)}, names.lookup y = some .free →
    (names.map fun (n, k) => if (k == NameKind.free && env.scope.kind == .function && env.kindOf n == some .cell) then (n, NameKind.cell) else (n, k)).lookup y = some .cell
  | [], h => by simp at h
  | (n, k) :: r, h => by
    have ih := @relabel_free env y hk hc r
    show List.lookup y ((if (k == NameKind.free && env.scope.kind == .function && env.kindOf n == some .cell) = true then (n, NameKind.cell) else (n, k)) :: _) = _
    cases hx : y == n with
    | true =>
      rw [List.lookup_cons, hx] at h
      cases h
      have e : y = n := by simpa using hx
      subst e
      rw [if_pos (by simp [hk, hc])]
      simp [List.lookup_cons]
    | false =>
      rw [List.lookup_cons, hx] at h
      by_cases hc' : (k == NameKind.free && env.scope.kind == .function && env.kindOf n == some .cell) = true
      · rw [if_pos hc']; simp only [List.lookup_cons, hx]; exact ih h
      · rw [if_neg hc']; simp only [List.lookup_cons, hx]; exact ih h
theorem relabel_from {env : Env} {y : Str} : ∀ {names : List (Str × NameKind)}, (∀ z ∈ names, z.2 ≠ .cell) →
    ((names.map fun (n, k) => if (k == NameKind.free && env.scope.kind == .function && env.kindOf n == some .cell) then (n, NameKind.cell) else (n, k)).lookup y = some .cell ∨
     (names.map fun (n, k) => if (k == NameKind.free && env.scope.kind == .function && env.kindOf n == some .cell) then (n, NameKind.cell) else (n, k)).lookup y = some .free) → (y, NameKind.free) ∈ names
  | [], _, h => by simp at h
  | (n, k) :: r, hn, h => by
    have ih := @relabel_from env y r fun z hz => hn z (List.mem_cons_of_mem _ hz)
    have h' : List.lookup y ((if (k == NameKind.free && env.scope.kind == .function && env.kindOf n == some .cell) = true then (n, NameKind.cell) else (n, k)) :: (r.map fun (n, k) => if (k == NameKind.free && env.scope.kind == .function && env.kindOf n == some .cell) then (n, NameKind.cell) else (n, k))) = some .cell ∨
      List.lookup y ((if (k == NameKind.free && env.scope.kind == .function && env.kindOf n == some .cell) = true then (n, NameKind.cell) else (n, k)) :: (r.map fun (n, k) => if (k == NameKind.free && env.scope.kind == .function && env.kindOf n == some .cell) then (n, NameKind.cell) else (n, k))) = some .free := h
    clear h
    cases hx : y == n with
    | true =>
      have e : y = n := by simpa using hx
      subst e
      by_cases hc' : (k == NameKind.free && env.scope.kind == .function && env.kindOf y == some .cell) = true
      · have hk : k = .free := by
          have := (Bool.and_eq_true _ _ ▸ (Bool.and_eq_true _ _ ▸ hc').1).1
          simpa using this
        subst hk
        exact List.mem_cons_self
      · rw [if_neg hc'] at h'
        simp only [List.lookup_cons, beq_self_eq_true] at h'
        rcases h' with h' | h'
        · cases h'
          exact absurd rfl (hn _ List.mem_cons_self)
        · cases h'
          exact List.mem_cons_self
    | false =>
      by_cases hc' : (k == NameKind.free && env.scope.kind == .function && env.kindOf n == some .cell) = true
      · rw [if_pos hc'] at h'; simp only [List.lookup_cons, hx] at h'; exact List.mem_cons_of_mem _ (ih h')
      · rw [if_neg hc'] at h'; simp only [List.lookup_cons, hx] at h'; exact List.mem_cons_of_mem _ (ih h')

/-- the context of a comprehension's block -/
noncomputable def cxC (X : Cx) (N : List Str) (sc : Scope) (cl : List (Str × Addr)) (C : Addr) (fp : List Addr) (s₃ : Shared) (H₃ : Hp) (xe : Value → Shared → Prop) : Cx :=
  { X with N := N, s₀ := s₃, H₀ := H₃, env := compEnvC sc cl C X.env, outer := X.stack, ex := fp, fn := fun _ => false, pn := [], xe := xe }
/-- the def's names that a block reads -/
noncomputable def sub (ix : List Nat) (σ : St) : St := ix.map fun i => (σ[i]?).join

theorem inv_comp {X : Cx} {pins : List (Addr × Obj)} {σ : St} {H : Hp} {s : Shared} {sc : Scope} {TN F : List Str} {ix : List Nat} {fp : List Addr} {h4 : Heap} {tk : Nat} {m : Str → Option Value} {xe : Value → Shared → Prop}
    (S : CScope X.env.scope sc TN F) (hix : ix.map (fun i => X.N[i]?) = F.map some) (I : Inv X pins σ H s) (hf : ∀ b ∈ fp, FpOk X pins H b) (ho : ∀ b ∈ fp, ∃ o, s.heap.get? b = some o)
    (hk : ∀ b o, s.heap.get? b = some o → h4.get? b = some o) (hn : h4.Ns s.heap.objs.size m) :
    Inv (cxC X (TN ++ F) sc (cloF X.env sc.names []) s.heap.objs.size fp s H xe) [] (List.replicate TN.length none ++ sub ix σ) H { s with heap := h4, toks := tk } := by
  have cl : ∀ x c, (cloF X.env sc.names []).lookup x = some c → X.env.cells.lookup x = some c := fun x c e => by
    rw [cloF_lookup] at e
    by_cases hx : (x, NameKind.free) ∈ sc.names
    · rw [if_pos hx] at e
      obtain ⟨c', hc'⟩ := I.ok.has x (.inl (S.fr _ hx rfl).1)
      rw [hc'] at e ⊢
      exact e
    · rw [if_neg hx] at e
      cases e
  have cl' : ∀ x, (x, NameKind.free) ∈ sc.names → (cloF X.env sc.names []).lookup x = X.env.cells.lookup x := fun x hx => by
    rw [cloF_lookup, if_pos hx]
    obtain ⟨c', hc'⟩ := I.ok.has x (.inl (S.fr _ hx rfl).1)
    rw [hc']
    rfl
  have hlen : ix.length = F.length := by
    have := congrArg List.length hix
    simpa using this
  refine ⟨⟨I.ok.mod, S.kind, I.ok.glob, I.ok.blt, Nat.le_refl _, fun x y c h1 h2 => I.ok.inj x y c (cl x c h1) (cl y c h2), fun x hx => ?_, fun x c z => (nomatch z), I.ok.hd, I.ok.frames, .inl rfl, fun b hb => ⟨?_, fun x c e => (hf b hb).2.2.2.2.1 x c (cl x c e)⟩,
    I.bs, Nat.le_trans I.ok.bsz I.sz, fun b o e hb => ?_, fun b hb hfs => ?_, I.stack, I.stkFree⟩, rfl, I.bare, Un.kept hk, ⟨m, hn, fun i x v h1 h2 h3 => ?_⟩, fun x c e => ?_, I.hok.fresh (Nat.le_refl _), fun x c e => I.freeC x c (cl x c e), fun p hp => absurd (show p ∈ ([] : List (Addr × Obj)) from hp) (by simp), I.hok.kept hk, ?_⟩
  · have hx' : (x, NameKind.free) ∈ sc.names := relabel_from (env := X.env) S.nocell hx
    obtain ⟨c, hc⟩ := I.ok.has x (.inl (S.fr _ hx' rfl).1)
    exact ⟨c, (cl' x hx').trans hc⟩
  · obtain ⟨o, e⟩ := ho b hb
    exact Nat.ne_of_lt (Heap.lt_size e)
  · rcases (hf b hb).2.2.2.1 with z | z
    · exact I.ok.noex b o e z
    · exact absurd (Nat.lt_of_lt_of_le (Heap.lt_size e) (Nat.le_trans I.ok.bsz z)) (Nat.lt_irrefl _)
  · rcases List.mem_cons.mp (I.stkSub b hfs) with z | z
    · exact (hf b hb).2.1 z
    · exact (hf b hb).2.2.1 z
  · have hi : TN.length ≤ i := by
      apply Nat.le_of_not_lt
      intro hlt
      rw [List.getElem?_append_left (by simpa using hlt), List.getElem?_replicate] at h2
      split at h2 <;> cases h2
    rw [List.getElem?_append_right (by simpa using hi), List.length_replicate] at h2
    have h1' : F[i - TN.length]? = some x := by
      have : (TN ++ F)[i]? = some x := h1
      rw [List.getElem?_append_right hi] at this
      exact this
    have e3 := congrArg (fun l => l[i - TN.length]?) hix
    simp only [List.getElem?_map, h1', Option.map_some] at e3
    unfold sub at h2
    rw [List.getElem?_map] at h2
    cases ej : ix[i - TN.length]? with
    | none => rw [ej] at h2; cases h2
    | some k =>
      rw [ej] at h2 e3
      have h2' : (σ[k]?).join = some v := Option.some.inj h2
      have e3' : X.N[k]? = some x := Option.some.inj e3
      have hσ : σ[k]? = some (some v) := by
        cases e : σ[k]? with
        | none => rw [e] at h2'; cases h2'
        | some q =>
          rw [e] at h2'
          have : q = some v := h2'
          rw [this]
      have hfr := S.ff x (List.mem_of_getElem? h1')
      have hcell := (S.fr _ hfr rfl).1
      obtain ⟨m0, hn0, hl0⟩ := I.loc
      obtain ⟨u, r, l⟩ := hl0 k x v e3' hσ (.inr (.inl hcell))
      refine ⟨u, r, ?_⟩
      rcases l with ⟨l1, _⟩ | ⟨_, c, hc, o, ho', hd⟩
      · have l1' : X.env.scope.names.lookup x = some .local := l1
        rw [hcell] at l1'
        cases l1'
      · exact .inr ⟨.inl (relabel_free (env := X.env) S.okind hcell (S.fr _ hfr rfl).2), c, (cl' x hfr).trans hc, o, hk c o ho', hd⟩
  · obtain ⟨v, o, ho', hd⟩ := I.cell x c (cl x c e)
    exact ⟨v, o, hk c o ho', hd⟩
  · show _ = (TN ++ F).length
    rw [List.length_append, List.length_append, List.length_replicate]
    unfold sub
    rw [List.length_map, hlen]

/-- the tests of a comprehension -/
noncomputable def PTs (X : Cx) (ifs : List Expr) (tc : TT) : Prop :=
  ∀ (pins : List (Addr × Obj)) (s : Shared) (σ : St) (H : Hp) (Q : Bool → Hp → Prop), Inv X pins σ H s → tc σ H Q →
    wpAny (model X.prog X.w) X.A (forIn ifs true fun c r => if r = true then do let ok ← isTrue c X.env (eval c X.env); pure (ForInStep.yield ok) else pure (ForInStep.yield r)) (TP X pins σ Q) X.xe s
noncomputable def tAll : TT := fun _ H Q => Q true H
theorem pts_nil {X : Cx} : PTs X [] tAll := fun _ _ _ H _ I h => wpAny_tests_nil ⟨H, I, h⟩

/-- how a block goes: W by the turn, a measure, the block's names, the items so far, the heap -/
noncomputable def CGo (J : It) (D : Addr) (g : TG) (tc : TT) (te : TE) (Q : VK) (σ : St) (H : Hp) : Prop :=
  ∃ W : Nat → Nat → St → List V → Hp → Prop, (∃ m, W 0 m σ [] (upd H D (.lst []))) ∧ ∀ i m τ ys H, W i m τ ys H → H D = some (.lst ys) ∧
    ((J.stop i H ∧ Q (.ref D) H) ∨ (J.go i H ∧ ∀ v H', J.yld i H v H' → g v τ H' fun τ2 H2 => tc τ2 H2 fun b H3 =>
      if b = true then te τ2 H3 fun y H4 => H4 D = some (.lst ys) ∧ ys.length < sizeLine ∧ ∃ m', m' < m ∧ W (i + 1) m' τ2 (ys ++ [y]) (upd H4 D (.lst (ys ++ [y])))
      else ∃ m', m' < m ∧ W (i + 1) m' τ2 ys H3))
noncomputable def tComp (wi : TI) (n : Nat) (ix : List Nat) (g : TG) (tc : TT) (te : TE) : TE := fun σ H Q => wi σ H fun J H1 => ∀ D, H1 D = none → CGo J D g tc te Q (List.replicate n none ++ sub ix σ) H1

theorem append_ok {X : Cx} {pins : List (Addr × Obj)} {σ : St} {H : Hp} {s : Shared} {D : Addr} {ys : List V} {y : V} {u : Value} {Q : Value → Shared → Prop} {E : Value → Shared → Prop} (I : Inv X pins σ H s) (hD : H D = some (.lst ys)) (hz : ys.length < sizeLine) (r : RelV y u)
    (h : ∀ s', Inv X pins σ (upd H D (.lst (ys ++ [y]))) s' → Q .none s') : wpAny (model X.prog X.w) X.A (call (.builtin "list.append") [.ref D, u]) Q E s := by
  obtain ⟨z, its, n, rr, hl, e⟩ := I.lstM hD
  refine call_meets F.slot_list_append ⟨_, e, rfl⟩ F.entry_list_append (F.args_list_append_2 _ _) (PySem.list_append D its.toArray n u (by rw [List.size_toArray]; omega)) ⟨e, ?_⟩
  refine h _ (I.lset (its' := its ++ [u]) hD e (by simp) (rr.append (.cons r .nil)) ?_)
  rw [List.length_append, List.length_singleton]
  omega

theorem comp_block {X : Cx} {pins : List (Addr × Obj)} {σ : St} {H : Hp} {s : Shared} {sc : Scope} {TN F : List Str} {ix : List Nat} {elt tg iter : Expr} {ifs : List Expr} {pos : Pos} {g : TG} {tc : TT} {te : TE} {J : It} {fp : List Addr} {it : Addr} {tn : Nat → Heap → Prop} {Q : VK}
    {RR : Value → Addr → Result → Shared → Prop} {E : Value → Shared → Prop}
    (S : CScope X.env.scope sc TN F) (hix : ix.map (fun i => X.N[i]?) = F.map some) (hc : X.calm = true) (I : Inv X pins σ H s) (T : Turn X.prog X.w X.K tg J fp it tn) (st : tn 0 s.heap) (hf : ∀ b ∈ fp, FpOk X pins H b)
    (hg : ∀ cl C fp s3 H3 xe, PG (cxC X (TN ++ F) sc cl C fp s3 H3 xe) tg g) (ht : ∀ cl C fp s3 H3 xe, PTs (cxC X (TN ++ F) sc cl C fp s3 H3 xe) ifs tc) (he : ∀ cl C fp s3 H3 xe, PE (cxC X (TN ++ F) sc cl C fp s3 H3 xe) elt te)
    (hW : ∀ D, H D = none → CGo J D g tc te Q (List.replicate TN.length none ++ sub ix σ) H)
    (fin : ∀ D C H' s', Inv X pins σ H' s' → (∃ m, s'.heap.Ns C m) → H' C = none → C ≠ X.env.locals → X.s₀.heap.objs.size ≤ C → (∀ x c, X.env.cells.lookup x = some c → c ≠ C) → (∀ p ∈ X.pn ++ pins, p.1 ≠ C) → Q (.ref D) H' → RR (.ref D) C (.ok .next) s') :
    wpAny (model X.prog X.w) X.A (newList []) (fun acc s₃ => wpAny (model X.prog X.w) X.A (newFunctionEnv sc X.env.globals (cloF X.env sc.names []) [] X.env.qual none .none (some X.env)) (fun cenv s₄ =>
      codeAny (model X.prog X.w) X.A (.compStart (.ListComp elt [⟨tg, iter, ifs, 0⟩] sc pos) 0 (.ref it) acc { cenv with scope := relabel sc X.env }) (RR acc cenv.locals) s₄) E s₃) E s := by
  have hfo : ∀ b ∈ fp, ∃ o, s.heap.get? b = some o := fun b hb => let ⟨o, e, _⟩ := T.obj 0 _ st b hb; ⟨o, e⟩
  refine wpAny_newObj_type ?_
  obtain ⟨W, ⟨m0, w0⟩, go⟩ := hW s.heap.objs.size I.fresh
  have I3 : Inv X pins σ (upd H s.heap.objs.size (.lst [])) { s with heap := s.heap.push { cls := .type "list", data := .seq ([] : List Value).toArray } } := I.lnew (its := []) (ys := []) (t' := s.toks) .nil (Nat.zero_le _)
  generalize hs3 : ({ s with heap := s.heap.push { cls := .type "list", data := .seq ([] : List Value).toArray } } : Shared) = s3 at I3
  have hk3 : ∀ b o, s.heap.get? b = some o → s3.heap.get? b = some o := fun b o e => by
    rw [← hs3]
    exact Heap.get?_push_of_some _ e
  have hf3 : ∀ b ∈ fp, FpOk X pins (upd H s.heap.objs.size (.lst [])) b := fun b hb => by
    obtain ⟨o, e⟩ := hfo b hb
    exact ⟨by rw [upd_ne (Nat.ne_of_lt (Heap.lt_size e))]; exact (hf b hb).1, (hf b hb).2⟩
  have st3 : tn 0 s3.heap := T.keep 0 _ _ st fun b hb o e => hk3 b o e
  show wpAny _ _ _ _ _ s3
  refine wpAny_newFunctionEnv S.nocell (by intro y hy; simp at hy) (fun h4 hn4 hsb => ?_) S.kind
  have hk4 : ∀ b o, s3.heap.get? b = some o → h4.get? b = some o := fun b o e => (hsb.2 b (Nat.ne_of_lt (Heap.lt_size e))).trans (Heap.get?_push_of_some _ e)
  generalize hR : RR (.ref s.heap.objs.size) s3.heap.objs.size = R
  have loop : ∀ s4 : Shared, s4 = { s3 with heap := h4, toks := s3.toks + ([] : List (Str × Value)).length } →
      codeAny (model X.prog X.w) X.A (.compLoop (.ListComp elt [⟨tg, iter, ifs, 0⟩] sc pos) 0 (.ref it) (.ref s.heap.objs.size) (compEnvC sc (cloF X.env sc.names []) s3.heap.objs.size X.env)) R s4 := by
    rintro s4 rfl
    let X' : Cx := cxC X (TN ++ F) sc (cloF X.env sc.names []) s3.heap.objs.size fp s3 (upd H s.heap.objs.size (.lst [])) (notedBy (model X.prog X.w) X.A (compEnvC sc (cloF X.env sc.names []) s3.heap.objs.size X.env) fun e s' => R (.error e) s')
    have I4 : Inv X' [] (List.replicate TN.length none ++ sub ix σ) (upd H s.heap.objs.size (.lst [])) { s3 with heap := h4, toks := s3.toks + ([] : List (Str × Value)).length } :=
      inv_comp S hix I3 hf3 (fun b hb => let ⟨o, e⟩ := hfo b hb; ⟨o, hk3 b o e⟩) hk4 hn4
    have fpx : ∀ {H' : Hp}, (∀ b ∈ fp, H' b = none) → ∀ b ∈ fp, FpOk X' [] H' b := fun {H'} hn b hb => by
      refine ⟨hn b hb, (I4.ok.exf b hb).1, fun z => I4.ok.exfs b hb z, .inl hb, fun x c e => (I4.ok.exf b hb).2 x c e, fun p hp => absurd (show p ∈ ([] : List (Addr × Obj)) from hp) (by simp)⟩
    refine comp_loop (fun n s' => ∃ i τ ys H', Inv X' [] τ H' s' ∧ tn i s'.heap ∧ (∀ b ∈ fp, H' b = none) ∧ W i n τ ys H') ?_ m0 ⟨0, _, [], _, I4, T.keep 0 _ _ st3 fun b hb o e => hk4 b o e, fun b hb => (hf3 b hb).1, w0⟩
    rintro n s5 ⟨i, τ, ys, H5, I5, st5, fr5, w5⟩
    obtain ⟨hD, hgo⟩ := go i n τ ys H5 w5
    rcases hgo with ⟨stop, q⟩ | ⟨hgo, step⟩
    · refine thn (T.done X' rfl rfl rfl hc i [] s5 τ H5 X'.xe I5 (fpx fr5) st5 stop) fun r s6 ⟨hr, I6⟩ => ?_
      subst hr
      show R (.ok .next) s6
      rw [← hR]
      have J6 : Inv X pins σ H5 s6 := I3.call' (ch := fp) I6.os I6.base I6.hok I6.bare fun b hb => ⟨(hf3 b hb).2.2.2.1, (hf3 b hb).2.1, (hf3 b hb).2.2.2.2.1, (hf3 b hb).2.2.2.2.2⟩
      refine fin s.heap.objs.size s3.heap.objs.size H5 s6 J6 (let ⟨m, hn, _⟩ := I6.loc; ⟨m, hn⟩) I6.free (Nat.ne_of_gt I3.lt) I3.sz (fun x c e z => ?_) (fun p hp z => ?_) q
      · obtain ⟨v, o, ho, _⟩ := I3.cell x c e
        exact absurd (Heap.lt_size ho) (by rw [z]; exact Nat.lt_irrefl _)
      · exact absurd (Heap.lt_size (I3.pin p hp).1) (by rw [z]; exact Nat.lt_irrefl _)
    · refine thn (T.item X' rfl rfl rfl hc i [] s5 τ H5 X'.xe I5 (fpx fr5) st5 hgo) fun r s6 ⟨u, hr, h6⟩ => ?_
      subst hr
      refine thn h6 fun _ s7 ⟨v, H7, I7, r7, y7, st7, fr7⟩ => ?_
      have I7' := I7.pinned (fpx fr7) (T.obj _ _ st7)
      refine thn (hg _ _ _ _ _ _ _ s7 τ H7 v u _ I7' r7 (step v H7 y7)) fun _ s8 ⟨τ8, H8, I8, q8⟩ => ?_
      refine thn (ht _ _ _ _ _ _ _ s8 τ8 H8 _ I8 q8) fun ok s9 ⟨H9, I9, q9⟩ => ?_
      have again : ∀ {ys' : List V} {H' : Hp} {s' : Shared}, Inv X' ([] ++ pinsAt fp s7.heap) τ8 H' s' → (∃ m', m' < n ∧ W (i + 1) m' τ8 ys' H') → ∃ m, m < n ∧ ∃ i τ ys H'', Inv X' [] τ H'' s' ∧ tn i s'.heap ∧ (∀ b ∈ fp, H'' b = none) ∧ W i m τ ys H'' := fun {ys' H' s'} I' ⟨m', hm, w'⟩ => by
        refine ⟨m', hm, i + 1, τ8, ys', H', I'.unpinned, T.keep _ _ _ st7 fun b hb o e => (I'.pin (b, o) (List.mem_append_right _ (List.mem_append_right _ (mem_pinsAt hb e)))).1, fun b hb => ?_, w'⟩
        obtain ⟨o, e, d⟩ := T.obj _ _ st7 b hb
        exact (I'.pin (b, o) (List.mem_append_right _ (List.mem_append_right _ (mem_pinsAt hb e)))).2.1
      cases ok with
      | false =>
        exact again I9 q9
      | true =>
        refine thn (he _ _ _ _ _ _ _ s9 τ8 H9 _ I9 q9) fun x s10 ⟨y, H10, I10, r10, hD10, hz10, q10⟩ => ?_
        exact append_ok (X := X') I10 hD10 hz10 r10 fun s11 I11 => again I11 q10
  subst hR
  exact codeAny_compStart_list (loop _ rfl) (T.self X.A 0 _ _ _ (T.keep 0 _ _ st3 fun b hb o e => hk4 b o e) (loop _ rfl))

section
variable {X : Cx} {sc : Scope} {TN F : List Str} {ix : List Nat} {elt tg iter : Expr} {ifs : List Expr} {pos : Pos} {g : TG} {tc : TT} {te : TE} {wi : TI}
theorem closure_of (S : CScope X.env.scope sc TN F) {pins : List (Addr × Obj)} {σ : St} {H : Hp} {s : Shared} (I : Inv X pins σ H s) : closureFor sc X.env = pure (cloF X.env sc.names []) :=
  closure_eq fun x hx hk => I.ok.has x.1 (.inl (S.fr x hx hk).1)
/-- [elt for tg in iter ..] -/
theorem pe_comp (S : CScope X.env.scope sc TN F) (hix : ix.map (fun i => X.N[i]?) = F.map some) (hc : X.calm = true) (hi : PI X tg iter wi)
    (hg : ∀ cl C fp s3 H3 xe, PG (cxC X (TN ++ F) sc cl C fp s3 H3 xe) tg g) (ht : ∀ cl C fp s3 H3 xe, PTs (cxC X (TN ++ F) sc cl C fp s3 H3 xe) ifs tc) (he : ∀ cl C fp s3 H3 xe, PE (cxC X (TN ++ F) sc cl C fp s3 H3 xe) elt te)
    (hs : ∀ x, foldedSetIterable iter X.env x = pure x := by intro _; rfl) : PE X (.ListComp elt [⟨tg, iter, ifs, 0⟩] sc pos) (tComp wi TN.length ix g tc te) := by
  intro pins s σ H Q I h
  rw [eval_ListComp]
  refine wpAny_comprehension_free (use := none) rfl hs (closure_of S I) S.kind S.names (thn (hi pins s σ H _ I h) fun v s1 h1 => thn h1 fun itv s2 h2 => ?_)
  obtain ⟨it, fp, tn, J, H2, e, I2, T, st2, f2, q2⟩ := h2
  subst e
  refine comp_block (RR := fun acc C => compPost (model X.prog X.w) X.A X.xe none (EP X pins σ Q) acc C) S hix hc I2 T st2 f2 hg ht he q2 fun D C H' s' I' hn hC1 hC2 hC3 hC4 hC5 q => ?_
  obtain ⟨m, hn⟩ := hn
  exact ⟨m, hn, fun h' hs' => ⟨.ref D, H', I'.turned (t' := s'.toks) (fun b o hb e => (hs'.2 b hb).trans e) hC1 hC2 (.inr hC3) hC4 hC5, rfl, q⟩⟩
/-- y = [elt for tg in iter ..], y a plain name of the def on the comprehension's own line -/
theorem ps_setC {i : Nat} {y : Str} {py spos : Pos} (hN : X.N.Nodup) (hiy : X.N[i]? = some y) (hy : X.env.scope.names.lookup y = some .local) (S : CScope X.env.scope sc TN F) (hix : ix.map (fun i => X.N[i]?) = F.map some) (hc : X.calm = true) (hi : PI X tg iter wi)
    (hg : ∀ cl C fp s3 H3 xe, PG (cxC X (TN ++ F) sc cl C fp s3 H3 xe) tg g) (ht : ∀ cl C fp s3 H3 xe, PTs (cxC X (TN ++ F) sc cl C fp s3 H3 xe) ifs tc) (he : ∀ cl C fp s3 H3 xe, PE (cxC X (TN ++ F) sc cl C fp s3 H3 xe) elt te)
    (hsw : swapsWith (.ListComp elt [⟨tg, iter, ifs, 0⟩] sc pos) (some (.Name y py)) spos.line X.env = pure true := by rfl)
    (hs : ∀ x, foldedSetIterable iter X.env x = pure x := by intro _; rfl) : PS X (.Assign [.Name y py] (.ListComp elt [⟨tg, iter, ifs, 0⟩] sc pos) spos) (tAsg (tComp wi TN.length ix g tc te) (gName i)) := by
  intro pins s σ H D I h
  rw [exec_Assign_Name_used _ _ _ _ hsw]; refine wpAny_bind (wpAny_standAt (wpAny_bind ?_))
  show wpAny _ X.A (do let _ ← comprehension (.ListComp elt [⟨tg, iter, ifs, 0⟩] sc pos) sc X.env _ (newList []) false (eval iter X.env) (some (assign (.Name y py) X.env))) _ _ s
  refine wpAny_bind (wpAny_mono (wpAny_comprehension_free (use := some (assign (.Name y py) X.env)) (Q := fun _ s' => SP X pins D .next s') rfl hs (closure_of S I) S.kind S.names
    (thn (hi pins s σ H _ I h) fun v s1 h1 => thn h1 fun itv s2 h2 => ?_)) (fun _ s' hq => wpAny_pure (wpAny_pure hq)) fun _ _ e => e)
  obtain ⟨it, fp, tn, J, H2, e, I2, T, st2, f2, q2⟩ := h2
  subst e
  refine comp_block (RR := fun acc C => compPost (model X.prog X.w) X.A X.xe (some (assign (.Name y py) X.env)) (fun _ s' => SP X pins D .next s') acc C) S hix hc I2 T st2 f2 hg ht he q2 fun Dl C H' s' I' hn hC1 hC2 hC3 hC4 hC5 q => ?_
  obtain ⟨m, hn⟩ := hn
  show wpAny _ X.A (assign (.Name y py) X.env (.ref Dl)) _ _ _
  refine wpAny_assign_Name (store_ok2 I' hN hiy (.inl hy) (show RelV (.ref Dl) (.ref Dl) from rfl) (fun s'' I'' ⟨a, hsb, ha⟩ => ?_) (.inr hy))
  have haC : C ≠ a := by
    rcases ha with z | z
    · rw [z]; exact hC2
    · exact fun z' => hC4 y a z z'.symm
  refine ⟨m, hn.sameBut hsb haC, fun h' hs' => ?_⟩
  exact ⟨_, H', I''.turned (t' := s''.toks) (fun b o hb e => (hs'.2 b hb).trans e) hC1 hC2 (.inr hC3) hC4 hC5, q⟩
end
end L2

set_option Elab.async false
set_option linter.all false
set_option maxRecDepth 100000
namespace L2
open PySem PySem.Spec PyProof.Rows
/-! ### readings that reckon -/
noncomputable def seqAt (H : Hp) (p : Addr) : Option (List V) := match H p with
  | some (.lst xs) => some xs
  | some (.tup xs) => some xs
  | _ => none
noncomputable def dAt (H : Hp) (x y : V) : Option V := match x, y with
  | .ref p, .int i => (seqAt H p).bind fun xs => atI xs i
  | _, _ => none
noncomputable def rIxd : R2 := fun x y H Q => ∃ v, dAt H x y = some v ∧ Q v H
section
variable {X : Cx}
theorem ix_d : IxR X rIxd := by
  intro value slice pins s σ H x y v u Q I rx ry h hs
  refine ix_seq value slice pins s σ H x y v u Q I rx ry ?_ hs
  obtain ⟨z, e, q⟩ := h
  unfold dAt at e
  split at e
  case h_2 => cases e
  case h_1 p i =>
    unfold seqAt at e
    split at e
    case h_1 xs hp => exact .inl ⟨_, xs, _, z, rfl, rfl, SqL.of hp, e, q⟩
    case h_2 xs hp => exact .inr (.inl ⟨_, xs, _, z, rfl, rfl, SqT.of hp, e, q⟩)
    case h_3 => cases e
noncomputable def dSet (H : Hp) (o i v : V) : Option Hp := match o, i with
  | .ref p, .int k => match H p with
    | some (.lst xs) => (ixN xs.length k).map fun j => upd H p (.lst (xs.set j v))
    | _ => none
  | _, _ => none
noncomputable def rSetd : V → V → V → Hp → (Hp → Prop) → Prop := fun o i v H Q => ∃ H', dSet H o i v = some H' ∧ Q H'
theorem set_d : PSet X rSetd := by
  intro pins s σ H o i v ov iv u Q I ro ri rv h
  refine set_list pins s σ H o i v ov iv u Q I ro ri rv ?_
  obtain ⟨H', e, q⟩ := h
  unfold dSet at e
  split at e
  case h_2 => cases e
  case h_1 p k =>
    split at e
    case h_2 => cases e
    case h_1 xs hp =>
      cases ej : ixN xs.length k with
      | none => rw [ej] at e; cases e
      | some j =>
        rw [ej] at e
        cases e
        exact ⟨p, xs, k, j, rfl, rfl, hp, ej, q⟩
end
end L2
namespace L2
open PySem PySem.Spec PyProof.Rows
/-! ### steps of a reading -/
section
variable {σ : St} {H : Hp} {Q : VK} {D : Ends} {t u : TS} {te ta tb : TE} {tr : TA} {g : TG} {r : R2} {x y v : V} {c : TT} {QB : Bool → Hp → Prop} {QL : List V → Hp → Prop} {QG : St → Hp → Prop} {n : Nat}
theorem w_seq (h : t { D with nx := u D } σ H) : tSeq t u D σ H := h
theorem w_next (h : D.nx σ H) : tNext D σ H := h
theorem w_asg (h : te σ H fun x H1 => g x σ H1 D.nx) : tAsg te g D σ H := h
theorem w_gname {i : Nat} (h : QG (σ.set i (some v)) H) : gName i v σ H QG := h
theorem w_op (h : ta σ H fun x H1 => tb σ H1 fun y H2 => r x y H2 Q) : tOp r ta tb σ H Q := h
theorem w_var {i : Nat} (e : σ[i]? = some (some v)) (h : Q v H) : tVar i σ H Q := ⟨v, e, h⟩
theorem w_c (h : Q v H) : tC v σ H Q := h
theorem w_rI0 {k : Int → Int → V} {i j : Int} (h : Q (k i j) H) : rI0 k (.int i) (.int j) H Q := ⟨i, j, rfl, rfl, h⟩
theorem w_rI {C : Int → Int → Prop} {k : Int → Int → V} {i j : Int} (hc : C i j) (h : Q (k i j) H) : rI C k (.int i) (.int j) H Q := ⟨i, j, rfl, rfl, hc, h⟩
theorem w_ifs {b : TS} (h : c σ H fun b' H1 => if b' = true then t D σ H1 else b D σ H1) : tIfS c t b D σ H := h
theorem w_ife (h : c σ H fun b' H1 => if b' = true then ta σ H1 Q else tb σ H1 Q) : tIf c ta tb σ H Q := h
theorem w_test (h : te σ H fun x H' => ∃ k, x = .bl k ∧ QB k H') : tTest te σ H QB := h
theorem w_tb (h : te σ H fun x H' => ∃ k, x = .bl k ∧ QB k H') : tB te σ H QB := h
theorem w_bl {b : Bool} {P : Bool → Prop} (h : P b) : ∃ k, V.bl b = .bl k ∧ P k := ⟨b, rfl, h⟩
theorem w_not (h : c σ H fun b H1 => QB (!b) H1) : tNot c σ H QB := h
theorem w_ret (h : te σ H D.rt) : tRet te D σ H := h
theorem w_nil (h : QL [] H) : tNil σ H QL := h
theorem w_cons (h : te σ H fun x H1 => tr σ H1 fun xs H2 => QL (x :: xs) H2) : tCons te tr σ H QL := h
theorem w_lst (h : tr σ H fun xs H1 => xs.length ≤ sizeLine ∧ ∀ p, H1 p = none → Q (.ref p) (upd H1 p (.lst xs))) : tLst tr σ H Q := h
theorem w_tup (h : tr σ H fun xs H1 => xs.length ≤ sizeLine ∧ ∀ p, H1 p = none → Q (.ref p) (upd H1 p (.tup xs))) : tTup tr σ H Q := h
theorem w_cb {r : List V → Hp → VK → Prop} (h : tr σ H fun vs H1 => r vs H1 Q) : tCB r tr σ H Q := h
theorem w_call {sp : Sp} {dvs : List V} {E : XK} (h : tr σ H fun vs H1 => sp (vs ++ dvs) H1 Q E) : tCall sp dvs E tr σ H Q := h
theorem w_gsub {to ti : TE} {ts : TSet} (h : to σ H fun o H1 => ti σ H1 fun i H2 => ts o i v H2 fun H3 => QG σ H3) : gSub to ti ts v σ H QG := h
theorem w_ixL {p : Addr} {xs : List V} {i : Int} (hp : H p = some (.lst xs)) (e : atI xs i = some v) (h : Q v H) : rIxd (.ref p) (.int i) H Q := ⟨v, by simp only [dAt, seqAt, hp, Option.bind_some, e], h⟩
theorem w_ixT {p : Addr} {xs : List V} {i : Int} (hp : H p = some (.tup xs)) (e : atI xs i = some v) (h : Q v H) : rIxd (.ref p) (.int i) H Q := ⟨v, by simp only [dAt, seqAt, hp, Option.bind_some, e], h⟩
theorem w_set {p : Addr} {xs : List V} {i : Int} {j : Nat} {QH : Hp → Prop} (hp : H p = some (.lst xs)) (e : ixN xs.length i = some j) (h : QH (upd H p (.lst (xs.set j v)))) : rSetd (.ref p) (.int i) v H QH :=
  ⟨_, by simp only [dSet, hp, e, Option.map_some], h⟩
theorem w_and {c d : TT} (h : c σ H fun b H1 => if b = true then d σ H1 QB else QB false H1) : tAnd c d σ H QB := h
theorem w_or {c d : TT} (h : c σ H fun b H1 => if b = true then QB true H1 else d σ H1 QB) : tOr c d σ H QB := h
theorem iteD {p A B : Prop} [Decidable p] (h1 : p → A) (h2 : ¬ p → B) : if decide p = true then A else B := by
  by_cases h : p
  · rw [decide_eq_true h, if_pos rfl]
    exact h1 h
  · rw [decide_eq_false h, if_neg Bool.false_ne_true]
    exact h2 h
end
end L2
namespace L2
open PySem PySem.Spec PyProof.Rows
/-- a def of the text that is there and keeps its promise -/
noncomputable def Has (P : Program) (w : World) (K : PySem.W.Frag) (mg : Str → Option Value) (base : Heap) (k : Nat) (x : Str) (ps : List Str) (sp : Sp) : Prop :=
  ∃ f fd, FnOk P w K mg base CX0 k f fd ps sp ∧ mg x = some (.ref f) ∧ PySem.W.keepIn K (.ref f) = true ∧ Binds K fd ps []
theorem pe_fn {X : Cx} {k j : Nat} {x : Str} {ps : List Str} {sp : Sp} {e : Expr} {es : List Expr} {t : TA} {p pos : Pos} (h : Has X.prog X.w X.K X.mg X.base k x ps sp) (hr : Room j X.A) (hkj : k ≤ j) (ha : PA X (e :: es) t) (hg : Gl X x := by rfl)
    (hdb : (x == ("__debug__" : Str)) = false := by decide) (he : starEach (e :: es) X.env = (false, eval e X.env) :: starEach es X.env := by rfl) (hpl : (backTo pos (starEach es X.env)).any (·.1) = false := by rfl) :
    PE X (.Call (.Name x p) (e :: es) [] pos) (tCall sp [] E0 t) := by
  obtain ⟨f, fd, F, hm, hk, hb⟩ := h
  exact pe_call F (hr.mono hkj) hg hm hk hb .nil pass0 ha hdb he hpl
section
variable {lo : Int} {n : Nat} {D : Addr} {te : TE} {tc : TT} {Q : VK} {ρ : St} {H : Hp}
/-- a block over a range, one name -/
theorem cgo_range (Pv : Nat → List V → Hp → Prop) (h0 : Pv 0 [] (upd H D (.lst [])))
    (hs : ∀ i ys H', i < n → Pv i ys H' → H' D = some (.lst ys) → ∀ (R : V → Hp → Prop) (S : Hp → Prop), (∀ y H4, H4 D = some (.lst ys) → ys.length < sizeLine → Pv (i + 1) (ys ++ [y]) (upd H4 D (.lst (ys ++ [y]))) → R y H4) → (∀ H3, H3 D = some (.lst ys) → Pv (i + 1) ys H3 → S H3) →
      tc (some (.int (lo + i)) :: ρ) H' fun b H3 => if b = true then te (some (.int (lo + i)) :: ρ) H3 R else S H3)
    (hd : ∀ ys H', Pv n ys H' → H' D = some (.lst ys) → Q (.ref D) H') : CGo (Itr lo n) D (gName 0) tc te Q (none :: ρ) H := by
  refine ⟨fun i m τ ys H' => m = n - i ∧ i ≤ n ∧ (∃ tv, τ = tv :: ρ) ∧ Pv i ys H' ∧ H' D = some (.lst ys), ⟨n, by omega, Nat.zero_le _, ⟨_, rfl⟩, h0, upd_same⟩, ?_⟩
  rintro i m τ ys H' ⟨rfl, hi, ⟨tv, rfl⟩, hp, hD⟩
  refine ⟨hD, ?_⟩
  by_cases hlt : i < n
  · refine .inr ⟨hlt, ?_⟩
    rintro v H'' ⟨rfl, rfl⟩
    show tc (some (.int (lo + i)) :: ρ) _ _
    exact hs i ys _ hlt hp hD _ _ (fun y H4 a b c => ⟨a, b, n - (i + 1), by omega, rfl, hlt, ⟨_, rfl⟩, c, upd_same⟩) fun H3 a c => ⟨n - (i + 1), by omega, rfl, hlt, ⟨_, rfl⟩, c, a⟩
  · have e : i = n := by omega
    subst e
    exact .inl ⟨Nat.le_refl _, hd ys _ hp hD⟩
/-- a block over a tuple, one name -/
theorem cgo_tup {K : PySem.W.Frag} {a : Addr} {xs : List V} (Pv : Nat → List V → Hp → Prop) (h0 : Pv 0 [] (upd H D (.lst []))) (hl : ∀ i ys H', i ≤ xs.length → Pv i ys H' → SqT K H' a xs)
    (hs : ∀ i x ys H', xs[i]? = some x → Pv i ys H' → H' D = some (.lst ys) → ∀ (R : V → Hp → Prop) (S : Hp → Prop), (∀ y H4, H4 D = some (.lst ys) → ys.length < sizeLine → Pv (i + 1) (ys ++ [y]) (upd H4 D (.lst (ys ++ [y]))) → R y H4) → (∀ H3, H3 D = some (.lst ys) → Pv (i + 1) ys H3 → S H3) →
      tc (some x :: ρ) H' fun b H3 => if b = true then te (some x :: ρ) H3 R else S H3)
    (hd : ∀ ys H', Pv xs.length ys H' → H' D = some (.lst ys) → Q (.ref D) H') : CGo (Itt K a) D (gName 0) tc te Q (none :: ρ) H := by
  refine ⟨fun i m τ ys H' => m = xs.length - i ∧ i ≤ xs.length ∧ (∃ tv, τ = tv :: ρ) ∧ Pv i ys H' ∧ H' D = some (.lst ys), ⟨xs.length, by omega, Nat.zero_le _, ⟨_, rfl⟩, h0, upd_same⟩, ?_⟩
  rintro i m τ ys H' ⟨rfl, hi, ⟨tv, rfl⟩, hp, hD⟩
  refine ⟨hD, ?_⟩
  have sq := hl i ys H' hi hp
  by_cases hlt : i < xs.length
  · refine .inr ⟨⟨xs, xs[i], sq, by simp [hlt]⟩, ?_⟩
    rintro v H'' ⟨rfl, hv⟩
    have hv' := hv xs sq
    show tc (some v :: ρ) _ _
    exact hs i v ys _ hv' hp hD _ _ (fun y H4 a b c => ⟨a, b, xs.length - (i + 1), by omega, rfl, hlt, ⟨_, rfl⟩, c, upd_same⟩) fun H3 a c => ⟨xs.length - (i + 1), by omega, rfl, hlt, ⟨_, rfl⟩, c, a⟩
  · have e : i = xs.length := by omega
    subst e
    exact .inl ⟨⟨xs, sq, Nat.le_refl _⟩, hd ys _ hp hD⟩
end
theorem w_all {σ : St} {H : Hp} {Q : Bool → Hp → Prop} (h : Q true H) : tAll σ H Q := h
end L2
namespace L2
open PySem PySem.Spec PyProof.Rows
noncomputable def relabelS (sc o : Scope) : Scope :=
  { sc with names := sc.names.map fun (n, k) => if (k == .free && o.kind == .function && o.names.lookup n == some .cell) then (n, .cell) else (n, k) }
instance {sc : Scope} {x : Str} : Decidable (Vis sc x) := by unfold Vis; infer_instance
/-- a block's scope, with all that its names want; G: the module's names that it reads -/
structure BScope (o sc : Scope) (TN F G : List Str) : Prop extends CScope o sc TN F where
  nd : (TN ++ F).Nodup
  vis : ∀ x ∈ TN ++ F, Vis (relabelS sc o) x
  loc : ∀ x ∈ TN, (relabelS sc o).names.lookup x = some .local
  gl : ∀ x ∈ G, (relabelS sc o).names.lookup x = some .globalImplicit
section
variable {X : Cx} {sc : Scope} {TN F G : List Str} {cl : List (Str × Addr)} {C : Addr} {fp : List Addr} {s3 : Shared} {H3 : Hp} {xe : Value → Shared → Prop} {x : Str} {pos : Pos}
theorem pvb (S : BScope X.env.scope sc TN F G) (i : Nat) (hN : (TN ++ F)[i]? = some x := by rfl) (hd : (x == ("__debug__" : Str)) = false := by decide) (hcd : (x == ("__classdict__" : Str)) = false := by decide) : PE (cxC X (TN ++ F) sc cl C fp s3 H3 xe) (.Name x pos) (tVar i) :=
  pe_var hN (S.vis x (List.mem_of_getElem? hN)) hd hcd
theorem pgb (S : BScope X.env.scope sc TN F G) (i : Nat) (hN : (TN ++ F)[i]? = some x := by rfl) (hT : TN[i]? = some x := by rfl) : PG (cxC X (TN ++ F) sc cl C fp s3 H3 xe) (.Name x pos) (gName i) :=
  pg_name S.nd hN (.inl (S.loc x (List.mem_of_getElem? hT))) (.inr (S.loc x (List.mem_of_getElem? hT)))
theorem BScope.g (S : BScope X.env.scope sc TN F G) (i : Nat) (hG : G[i]? = some x := by rfl) : Gl (cxC X (TN ++ F) sc cl C fp s3 H3 xe) x := S.gl x (List.mem_of_getElem? hG)
end
end L2
namespace L2
open PySem PySem.Spec PyProof.Rows
/-! ### rows of written constants -/
noncomputable def constV : Expr → Option V
  | .Constant (.int n) _ _ => some (.int n)
  | .Constant (.str y) _ _ => some (.str y)
  | .Constant (.bool b) _ _ => some (.bl b)
  | .Constant .none _ _ => some .non
  | _ => none
noncomputable def constsOf : List Expr → Option (List V)
  | [] => some []
  | e :: r => match constV e, constsOf r with
    | some v, some vs => some (v :: vs)
    | _, _ => none
noncomputable def tVals (vs : List V) : TA := fun _ H Q => Q vs H
end L2
namespace L2
open PySem PySem.Spec PyProof.Rows
instance {sc : Scope} {x : Str} : Decidable (Loc sc x) := by unfold Loc; infer_instance
/-- a def's names -/
structure Nm (N : List Str) (sc : Scope) : Prop where
  nd : N.Nodup
  loc : ∀ x ∈ N, Loc sc x
section
variable {X : Cx} {x : Str} {pos : Pos}
theorem Loc.vis {sc : Scope} (h : Loc sc x) : Vis sc x := h.elim .inl fun z => .inr (.inl z)
theorem pvd (M : Nm X.N X.env.scope) (i : Nat) (hN : X.N[i]? = some x := by rfl) (hd : (x == ("__debug__" : Str)) = false := by decide) (hcd : (x == ("__classdict__" : Str)) = false := by decide) : PE X (.Name x pos) (tVar i) :=
  pe_var hN (M.loc x (List.mem_of_getElem? hN)).vis hd hcd
theorem ps_setD {e : Expr} {te : TE} {pos' : Pos} (M : Nm X.N X.env.scope) (i : Nat) (he : PE X e te) (hi : X.N[i]? = some x := by rfl) (hs : swapsWith e (some (.Name x pos')) pos.line X.env = pure false := by rfl) (hf : X.fn x = true := by rfl) :
    PS X (.Assign [.Name x pos'] e pos) (tAsg te (gName i)) := ps_set M.nd hi (M.loc x (List.mem_of_getElem? hi)) he hs (.inl hf)
theorem pgd (M : Nm X.N X.env.scope) (i : Nat) (hi : X.N[i]? = some x := by rfl) (hf : X.fn x = true := by rfl) : PG X (.Name x pos) (gName i) := pg_name M.nd hi (M.loc x (List.mem_of_getElem? hi)) (.inl hf)
end
end L2
namespace L2
open PySem PySem.Spec PyProof.Rows
section
variable {X : Cx} {l rest : List Stmt} {st : Stmt} {t u : TS} {e e' : Expr} {te : TE}
end
end L2
namespace L2
open PySem PySem.Spec PyProof.Rows
section
variable {ta : TA} {tl : TE} {n : Nat} {ix : List Nat} {g : TG} {tc : TT} {te : TE} {σ : St} {H : Hp} {Q : VK}
theorem w_compT {K : PySem.W.Frag} (h : tl σ H fun x H1 => ∃ a, x = .ref a ∧ (∃ xs, SqT K H1 a xs) ∧ ∀ D, H1 D = none → CGo (Itt K a) D g tc te Q (List.replicate n none ++ sub ix σ) H1) : tComp (iTup K tl) n ix g tc te σ H Q := h
end
end L2
namespace L2
open PySem PySem.Spec PyProof.Rows
/-- a loop's reading, the iterator J at hand -/
noncomputable def ForJ (J : It) (g : TG) (tb : TS) (D : Ends) (σ : St) (H1 : Hp) : Prop := ∃ W : Nat → Nat → St → Hp → Prop, (∃ m, W 0 m σ H1) ∧ ∀ i m σ H, W i m σ H →
  (J.stop i H ∧ D.nx σ H) ∨ (J.go i H ∧ ∃ N : St → Hp → Prop, (∀ σ' H', N σ' H' → ∃ m', m' < m ∧ W (i + 1) m' σ' H') ∧ ∀ x H', J.yld i H x H' → g x σ H' fun σ2 H2 => tb { D with nx := N, ct := N, bk := D.nx } σ2 H2)
theorem w_forR {ta : TA} {g : TG} {tb : TS} {D : Ends} {σ : St} {H : Hp} (h : ta σ H fun vs H1 => ∃ j : Int, vs = [.int j] ∧ -(2 ^ 62) ≤ j ∧ j < 2 ^ 62 ∧ ForJ (Itr 0 j.toNat) g tb D σ H1) : tFor (iRng1 ta) g tb D σ H := h
end L2
namespace L2
open PySem PySem.Spec PyProof.Rows
/-! ### arguments, without running them -/
noncomputable def isStar : Expr → Bool
  | .Starred .. => true
  | _ => false
theorem star1 {e : Expr} {es : List Expr} {env : Env} (h : isStar e = false) : starEach (e :: es) env = (false, eval e env) :: starEach es env := by
  cases e <;> first | rfl | cases h
theorem star_any {env : Env} {pos : Pos} : ∀ {es : List Expr}, es.all (fun e => !isStar e) = true → (backTo pos (starEach es env)).any (·.1) = false
  | [], _ => rfl
  | e :: es, h => by
    rw [List.all_cons, Bool.and_eq_true] at h; rw [star1 (by simpa using h.1)]
    cases es with
    | nil => rfl
    | cons a r =>
      have ih := star_any (env := env) (pos := pos) (es := a :: r) h.2
      rw [star1 (by simpa using (by simpa using h.2 : isStar a = false ∧ _).1)] at ih ⊢
      exact ih
end L2
namespace L2
open PySem PySem.Spec PyProof.Rows
section
variable {X : Cx} {e a : Expr} {es : List Expr} {te : TE} {t ta : TA} {x : Str} {p pos : Pos} {tg : Expr} {id T : String} {r : List V → Hp → VK → Prop}
theorem pa_c (ha : PE X e te) (hr : PA X es t) (h : isStar e = false := by rfl) : PA X (e :: es) (tCons te t) := pa_cons ha hr (star1 h)
theorem pi_r1 (hm : X.mg "range" = none) (ha : PA X [a] ta) (hg : Gl X "range" := by rfl) (h : isStar a = false := by rfl) : PI X tg (.Call (.Name "range" p) [a] [] pos) (iRng1 ta) := pi_range1 hg hm ha (star1 h)
theorem pe_cB (hc : CallR X (.builtin id) r) (hm : X.mg x = none) (hv : bootBuiltins x = some (.builtin id)) (ha : PA X (e :: es) t) (hg : Gl X x := by rfl) (h : isStar e = false := by rfl) (h2 : es.all (fun e => !isStar e) = true := by rfl) (hn : x ≠ "__name__" := by decide) (hdb : (x == ("__debug__" : Str)) = false := by decide) :
    PE X (.Call (.Name x p) (e :: es) [] pos) (tCB r t) := pe_callB hc hg hm hv ha hn hdb (star1 h) (star_any h2)
theorem pe_cT (hc : CallR X (.type T) r) (hm : X.mg x = none) (hv : bootBuiltins x = some (.type T)) (ha : PA X (e :: es) t) (hg : Gl X x := by rfl) (h : isStar e = false := by rfl) (h2 : es.all (fun e => !isStar e) = true := by rfl) (hn : x ≠ "__name__" := by decide) (hdb : (x == ("__debug__" : Str)) = false := by decide) :
    PE X (.Call (.Name x p) (e :: es) [] pos) (tCB r t) := pe_callTy hc hg hm hv ha hn hdb (star1 h) (star_any h2)
theorem pe_f {k j : Nat} {ps : List Str} {sp : Sp} (h : Has X.prog X.w X.K X.mg X.base k x ps sp) (hr : Room j X.A) (hkj : k ≤ j) (ha : PA X (e :: es) t) (hg : Gl X x := by rfl) (h1 : isStar e = false := by rfl) (h2 : es.all (fun e => !isStar e) = true := by rfl)
    (hdb : (x == ("__debug__" : Str)) = false := by decide) : PE X (.Call (.Name x p) (e :: es) [] pos) (tCall sp [] E0 t) := pe_fn h hr hkj ha hg hdb (star1 h1) (star_any h2)
end
end L2
namespace L2
theorem pa_1 {X : Cx} {e : PySem.Expr} {te : TE} (ha : PE X e te) (h : isStar e = false := by rfl) : PA X [e] (tCons te tNil) := pa_c ha pa_nil h
theorem pa_2 {X : Cx} {e e' : PySem.Expr} {te te' : TE} (ha : PE X e te) (hb : PE X e' te') (h : isStar e = false := by rfl) (h' : isStar e' = false := by rfl) : PA X [e, e'] (tCons te (tCons te' tNil)) := pa_c ha (pa_1 hb h') h
end L2
namespace L2
open PySem PySem.Spec PyProof.Rows
theorem w_drop {te : TE} {D : Ends} {σ : St} {H : Hp} (h : te σ H fun _ H1 => D.nx σ H1) : tDrop te D σ H := h
theorem w_bm {K : PySem.W.Frag} {T : String} {r : V → List V → Hp → VK → Prop} {to : TE} {t : TA} {σ : St} {H : Hp} {Q : VK} (h : to σ H fun x H1 => tyV K T x H1 ∧ t σ H1 fun xs H2 => r x xs H2 Q) : tBM K T r to t σ H Q := h
end L2

set_option Elab.async false
set_option linter.all false
set_option maxRecDepth 100000
namespace K05
open PySem L2
local macro_rules | `(tactic| walk_at "v") => `(tactic| repeat (with_reducible first
  | refine w_seq ?_ | refine w_asg ?_ | refine w_gname ?_ | refine w_op ?_ | refine w_var rfl ?_ | refine w_c ?_ | refine w_rI0 ?_ | refine w_ifs ?_ | refine w_ife ?_ | refine w_test ?_ | refine w_tb ?_ | refine w_bl ?_ | refine w_not ?_ | refine w_ret ?_ | refine w_retN ?_
  | refine w_nil ?_ | refine w_cons ?_ | refine w_lst ?_ | refine w_tup ?_ | refine w_cb ?_ | refine w_call ?_ | refine w_gsub ?_ | refine w_and ?_ | refine w_or ?_ | refine w_next ?_ | refine w_all ?_ | refine w_vals ?_ | refine w_compR ?_ | refine w_compT ?_ | refine w_forR ?_ | refine w_forT ?_ | refine w_forL ?_ | refine w_drop ?_ | refine w_bm ?_ | refine iteT ?_ | refine iteF ?_))
noncomputable def top (i : Nat) : Stmt := PySem.Challenge.pw_dropsums_k05_pot_lines_at_their_bounds.main.body.getD i (.Pass ⟨0, 0, 0, 0⟩)
noncomputable abbrev sFeed : Stmt := top 34
noncomputable abbrev sDraw : Stmt := top 35
/-- a feed stands at p -/
noncomputable def FeedAt (H : Hp) (p : Addr) : Prop := ∃ a b c : Int, H p = some (.lst [.int a, .int b, .int c])
theorem FeedAt.here {H : Hp} {p : Addr} {x y z : Int} : FeedAt (upd H p (.lst [.int x, .int y, .int z])) p := ⟨x, y, z, upd_same⟩
noncomputable def spFeed (K : PySem.W.Frag) : Sp := fun vs H Q _ => ∃ (a : Addr) (ns : List Int) (k : Nat), vs = [.ref a, .int k] ∧ SqL K H a (ns.map V.int) ∧ ns.length ≤ 63 ∧ ∀ p x y z, H p = none → Q (.ref p) (upd H p (.lst [.int x, .int y, .int z]))
noncomputable def spDraw : Sp := fun vs H Q _ => ∃ (p : Addr) (m : Int), vs = [.ref p, .int m] ∧ FeedAt H p ∧ 0 < m ∧ m < 1000000 ∧ ∀ (r x y z : Int), 0 ≤ r → r < m → Q (.int r) (upd H p (.lst [.int x, .int y, .int z]))
theorem md {i j : Int} (h : 0 < j) : 0 ≤ i % j ∧ i % j < j := ⟨Int.emod_nonneg _ (Int.ne_of_gt h), Int.emod_lt_of_pos _ h⟩
theorem mulL {i j : Int} (h1 : 0 ≤ i) (h2 : i < 4000000000) : CMul i j := .inl ⟨by omega, by omega⟩
section
variable {P : Program} {w : World} {K : PySem.W.Frag} {mg : Str → Option Value} {base : Heap}
theorem scDraw : FnScope ["_law_feed_here", "_law_many_here", "_law_found", "_law_mixed"] ["_law_feed_here", "_law_many_here"] (defScope sDraw) := ⟨rfl, rfl, rfl, by decide +kernel, rfl, by decide +kernel, by decide +kernel⟩
theorem ok_draw {f : Addr} {fd : FuncData} (F : Fun K "_law_draw" "_law_draw" sDraw f fd) : FnOk P w K mg base CX0 1 f fd ["_law_feed_here", "_law_many_here"] spDraw := by
  refine F.ok scDraw (fun vs H Q E h => ?_) (fun cdv A outer s H vs Q E hr h => ?_)
  · obtain ⟨p, m, rfl, _⟩ := h
    rfl
  · obtain ⟨p, m, rfl, ⟨a, b, c, hp⟩, hm, hm2, k⟩ := h
    refine ⟨_, pss_cons (ps_asg (pe_op op_add (pe_ix ix_d (pv 0) pe_int (fun _ _ => rfl)) pe_int) (pg_sub (pv 0) pe_int set_d))
      (pss_cons (ps_if (pt_cmpR op_gt (pe_ix ix_d (pv 0) pe_int (fun _ _ => rfl)) pe_int (nomark _))
        (pss_cons (ps_set (i := 2) scDraw.nd rfl (Or.inl rfl) (pe_op op_mod (pe_ix ix_d (pv 0) pe_int (fun _ _ => rfl)) (pv 1)))
        (pss_cons (ps_asg (pe_op op_fdiv (pe_ix ix_d (pv 0) pe_int (fun _ _ => rfl)) (pv 1)) (pg_sub (pv 0) pe_int set_d))
        (pss_one (ps_ret (pv 2))))) pss_nil)
      (pss_cons (ps_set (i := 3) scDraw.nd rfl (Or.inl rfl) (pe_op op_mod (pe_op op_mul (pe_op op_mod (pe_op op_add (pe_ix ix_d (pv 0) pe_int (fun _ _ => rfl)) (pe_op op_mul pe_int (pe_ix ix_d (pv 0) pe_int (fun _ _ => rfl)))) pe_int) pe_int) pe_int))
      (pss_cons (ps_set (i := 3) scDraw.nd rfl (Or.inl rfl) (pe_op op_mod (pe_op op_mul (pv 3) (pe_op op_add (pv 3) pe_int)) pe_int))
      (pss_one (ps_ret (pe_op op_mod (pe_op op_fdiv (pe_op op_mod (pe_op op_mul (pv 3) pe_int) pe_int) pe_int) (pv 1))))))), ?_⟩
    walk_at "v"
    refine w_ixL hp rfl ?_
    walk_at "v"
    refine w_set hp rfl ?_
    walk_at "v"
    refine w_ixL upd_same rfl ?_
    walk_at "v"
    refine iteD (fun _ => ?_) (fun _ => ?_)
    · walk_at "v"
      refine w_ixL upd_same rfl ?_
      walk_at "v"
      refine w_rI hm ?_
      walk_at "v"
      refine w_ixL upd_same rfl ?_
      walk_at "v"
      refine w_rI ⟨hm, by omega⟩ ?_
      walk_at "v"
      refine w_set upd_same rfl ?_
      walk_at "v"
      rw [upd_upd]
      exact k _ _ _ _ (md hm).1 (md hm).2
    · walk_at "v"
      refine w_ixL upd_same rfl ?_
      walk_at "v"
      refine w_ixL upd_same rfl ?_
      refine w_rI (mulL (by decide) (by decide)) ?_
      walk_at "v"
      refine w_rI (by decide) ?_
      walk_at "v"
      refine w_rI (mulL (md (by decide)).1 (by have := (md (i := b + 40692 * (c + 1)) (j := 2147483399) (by decide)).2; omega)) ?_
      walk_at "v"
      refine w_rI (by decide) ?_
      generalize hx : (b + 40692 * (c + 1)) % 2147483399 * 48271 % 2147483647 = x
      have h1 := md (i := (b + 40692 * (c + 1)) % 2147483399 * 48271) (j := 2147483647) (by decide)
      rw [hx] at h1
      walk_at "v"
      refine w_rI (mulL h1.1 (by omega)) ?_
      walk_at "v"
      refine w_rI (by decide) ?_
      generalize hy : x * (x + 7919) % 2147483587 = y
      have h2 := md (i := x * (x + 7919)) (j := 2147483587) (by decide)
      rw [hy] at h2
      walk_at "v"
      refine w_rI (mulL h2.1 (by omega)) ?_
      walk_at "v"
      refine w_rI (by decide) ?_
      walk_at "v"
      refine w_rI ⟨by decide, by decide⟩ ?_
      walk_at "v"
      refine w_rI hm ?_
      exact k _ _ _ _ (md hm).1 (md hm).2
theorem scFeed : FnScope ["_law_script", "_law_k", "_law_cell", "_law_left"] ["_law_script", "_law_k"] (defScope sFeed) := ⟨rfl, rfl, rfl, by decide +kernel, rfl, by decide +kernel, by decide +kernel⟩
theorem ok_feed {f : Addr} {fd : FuncData} (hlen : mg "len" = none) (F : Fun K "_law_feed" "_law_feed" sFeed f fd) : FnOk P w K mg base CX0 1 f fd ["_law_script", "_law_k"] (spFeed K) := by
  refine F.ok scFeed (fun vs H Q E h => ?_) (fun cdv A outer s H vs Q E hr h => ?_)
  · obtain ⟨a, ns, k, rfl, _⟩ := h
    rfl
  · obtain ⟨a, ns, k, rfl, hS, hl, q⟩ := h
    refine ⟨_, pss_cons (ps_set (i := 2) scFeed.nd rfl (Or.inl rfl) (pe_op op_add (pe_op op_mul pe_int (pv 1)) pe_int))
      (pss_cons (ps_if (pt_cmpR op_gt (pe_callB call_len_seq (by rfl) hlen PySem.boot_len (pa_cons (pv 0) pa_nil)) pe_int (nomark _))
        (pss_one (ps_set (i := 2) scFeed.nd rfl (Or.inl rfl) (pe_op op_add (pe_ix ix_list (pv 0) (pe_op op_mod (pv 1) (pe_callB call_len_seq (by rfl) hlen PySem.boot_len (pa_cons (pv 0) pa_nil))) (fun _ _ => rfl))
          (pe_op op_mul pe_int (pe_op op_fdiv (pv 1) (pe_callB call_len_seq (by rfl) hlen PySem.boot_len (pa_cons (pv 0) pa_nil)))))))
        pss_nil)
      (pss_cons (ps_set (i := 3) scFeed.nd rfl (Or.inl rfl) (pe_ifExp (pt_cmpR op_ge (pv 2) (pe_op op_pow pe_int pe_int) (nomark _)) (pv 2) pe_int))
      (pss_one (ps_ret (pe_lst (pa_cons (pv 3) (pa_cons (pe_op op_add (pe_op op_add (pe_op op_mod (pv 2) pe_int) (pe_op op_mul pe_int (pv 1))) pe_int) (pa_cons pe_int pa_nil)))))))), ?_⟩
    walk_at "v"
    refine w_rI (mulL (by decide) (by decide)) ?_
    walk_at "v"
    refine ⟨a, _, rfl, .inl hS, ?_⟩
    walk_at "v"
    refine iteD (fun h0 => ?_) (fun _ => ?_)
    · walk_at "v"
      refine ⟨a, _, rfl, .inl hS, ?_⟩
      rw [List.length_map] at h0 ⊢
      have h0' : 0 < ns.length := by omega
      refine w_rI h0 ?_
      obtain ⟨j, hj⟩ : ∃ j : Nat, (k : Int) % (ns.length : Int) = (j : Int) := ⟨k % ns.length, by omega⟩
      have hjl : j < ns.length := by
        have := (md (i := (k : Int)) h0).2
        omega
      refine ⟨a, _, _, .int ns[j], rfl, rfl, hS, ?_, ?_⟩
      · rw [hj]
        exact atI_nat (by simp [hjl])
      · walk_at "v"
        refine ⟨a, _, rfl, .inl hS, ?_⟩
        rw [List.length_map]
        refine w_rI ⟨h0, by omega⟩ ?_
        refine w_rI (mulL (by decide) (by decide)) ?_
        walk_at "v"
        refine w_rI ⟨by decide, by decide, by decide⟩ ?_
        walk_at "v"
        refine iteD (fun _ => ?_) (fun _ => ?_)
        all_goals
          walk_at "v"
          refine w_rI (by decide) ?_
          walk_at "v"
          refine w_rI (mulL (by decide) (by decide)) ?_
          walk_at "v"
          exact ⟨by show 3 ≤ sizeLine; decide, fun p hp => q p _ _ _ hp⟩
    · walk_at "v"
      refine w_rI ⟨by decide, by decide, by decide⟩ ?_
      walk_at "v"
      refine iteD (fun _ => ?_) (fun _ => ?_)
      all_goals
        walk_at "v"
        refine w_rI (by decide) ?_
        walk_at "v"
        refine w_rI (mulL (by decide) (by decide)) ?_
        walk_at "v"
        exact ⟨by show 3 ≤ sizeLine; decide, fun p hp => q p _ _ _ hp⟩
end
end K05

set_option Elab.async false
set_option linter.all false
set_option maxRecDepth 100000
namespace L2
open PySem PySem.Spec PyProof.Rows
/-! ### data: what a value reads as -/
mutual
inductive RdV (H : Hp) : V → PyData → Prop
  | non : RdV H .non .none
  | bl (b : Bool) : RdV H (.bl b) (.bool b)
  | int (i : Int) : RdV H (.int i) (.int i)
  | str (x : Str) : RdV H (.str x) (.str x)
  | lst {p : Addr} {xs : List V} {ds : List PyData} : H p = some (.lst xs) → RdVs H xs ds → RdV H (.ref p) (.list ds)
  | tup {p : Addr} {xs : List V} {ds : List PyData} : H p = some (.tup xs) → RdVs H xs ds → RdV H (.ref p) (.tuple ds)
  | ftup {p : Addr} {o : Obj} {xs : List V} {ds : List PyData} : H p = some (.frz o (.tup xs)) → RdVs H xs ds → RdV H (.ref p) (.tuple ds)
inductive RdVs (H : Hp) : List V → List PyData → Prop
  | nil : RdVs H [] []
  | cons {v : V} {d : PyData} {vs : List V} {ds : List PyData} : RdV H v d → RdVs H vs ds → RdVs H (v :: vs) (d :: ds)
end
section
variable {X : Cx} {pins : List (Addr × Obj)} {σ : St} {H : Hp} {s : Shared}
mutual
theorem RdV.reads (I : Inv X pins σ H s) {v : V} {d : PyData} : RdV H v d → ∀ {u : Value}, RelV v u → ∃ as, Reads s.heap u d as
  | .non, u, r => by
    cases r
    exact ⟨[], .none⟩
  | .bl b, u, r => by
    cases r
    exact ⟨[], .bool b⟩
  | .int i, u, r => by
    obtain ⟨t, rfl⟩ := r
    exact ⟨[], .int i t⟩
  | .str x, u, r => by
    obtain ⟨t, rfl⟩ := r
    exact ⟨[], .str x t⟩
  | .lst (p := p) hp h, u, r => by
    cases r
    obtain ⟨its, n, rv, e, z⟩ := I.lst hp
    obtain ⟨as, q⟩ := RdVs.reads I h rv
    exact ⟨p :: as, .list e rfl rfl (by simpa using q)⟩
  | .tup (p := p) hp h, u, r => by
    cases r
    obtain ⟨z, its, rv, o, e, c, n, d⟩ := I.hok p _ hp
    obtain ⟨as, q⟩ := RdVs.reads I h rv
    exact ⟨as, .tuple e c d (by simpa using q)⟩
  | .ftup (p := p) hp h, u, r => by
    cases r
    obtain ⟨_, z, its, rv, o, e, c, n, d⟩ := I.hok p _ hp
    obtain ⟨as, q⟩ := RdVs.reads I h rv
    exact ⟨as, .tuple e c d (by simpa using q)⟩
theorem RdVs.reads (I : Inv X pins σ H s) {vs : List V} {ds : List PyData} : RdVs H vs ds → ∀ {us : List Value}, Vals vs us → ∃ as, ReadsAll s.heap us ds as
  | .nil, us, r => by
    cases r
    exact ⟨[], .nil⟩
  | .cons h hs, us, r => by
    cases r with
    | cons r1 r2 =>
      obtain ⟨as, q⟩ := RdV.reads I h r1
      obtain ⟨bs, q2⟩ := RdVs.reads I hs r2
      exact ⟨as ++ bs, .cons q q2⟩
end
end
theorem rdInts {H : Hp} : ∀ (ns : List Int), RdVs H (ns.map V.int) (ns.map PyData.int)
  | [] => .nil
  | n :: ns => .cons (.int n) (rdInts ns)
end L2
namespace L2
open PySem PySem.Spec PyProof.Rows
section
variable {X : Cx} {k : Nat}
noncomputable def rEqD : R2 := fun x y H Q => ∃ dx dy, RdV H x dx ∧ RdV H y dy ∧ dx.canLay0 = true ∧ dy.canLay0 = true ∧ dx.depth ≤ 60 ∧ Q (.bl (PyData.eqv dx dy)) H
theorem op_eqD (hr : Room k X.A) : OpR X (compareOp .Eq) rEqD := by
  intro pins s σ H x y v u Q I rx ry h
  obtain ⟨dx, dy, hx, hy, cx, cy, hd, q⟩ := h
  obtain ⟨as, ra⟩ := hx.reads I rx
  obtain ⟨bs, rb⟩ := hy.reads I ry
  have := hr.units
  exact SeqAt.compareEq_reads ra rb cx cy (by omega) ⟨.bl _, H, I, rfl, q⟩
noncomputable def rRepr : List V → Hp → VK → Prop := fun xs H Q => ∃ v d, xs = [v] ∧ RdV H v d ∧ d.showable = true ∧ d.hasDict = false ∧ d.depth ≤ 50 ∧ d.shown.length ≤ sizeLine ∧ Q (.str d.shown) H
theorem call_repr (hr : Room k X.A) : CallR X (.builtin "repr") rRepr := by
  intro pins s σ H xs us Q I r h
  obtain ⟨v, d, rfl, hv, h1, h2, h3, h4, q⟩ := h
  obtain ⟨u, rfl, ru⟩ := r.one
  have hu := hr.units
  cases hv with
  | non =>
    cases ru
    exact PySem.P.repr_of_none ⟨.str _, H, I.tok _, ⟨_, rfl⟩, q⟩
  | bl b =>
    cases ru
    exact PySem.P.repr_of_bool ⟨.str _, H, I.tok _, ⟨_, rfl⟩, q⟩
  | int i =>
    obtain ⟨t, rfl⟩ := ru
    exact PySem.P.repr_of_int (by simpa [PyData.showable] using h1) ⟨.str _, H, I.tok _, ⟨_, rfl⟩, q⟩
  | str x =>
    obtain ⟨t, rfl⟩ := ru
    exact PySem.P.repr_of_str ⟨.str _, H, I.tok _, ⟨_, rfl⟩, q⟩ h4
  | lst hp hs =>
    obtain ⟨as, ra⟩ := RdV.reads I (.lst hp hs) ru
    cases ru
    exact repr_of_reads' ra h1 (fun z => by rw [h2] at z; cases z) hr.gd (by omega) (fun _ _ e => e) (fun h' u tk hk => ⟨.str _, H, I.kept hk, ⟨_, rfl⟩, q⟩) h4
  | tup hp hs =>
    obtain ⟨as, ra⟩ := RdV.reads I (.tup hp hs) ru
    cases ru
    exact repr_of_reads' ra h1 (fun z => by rw [h2] at z; cases z) hr.gd (by omega) (fun _ _ e => e) (fun h' u tk hk => ⟨.str _, H, I.kept hk, ⟨_, rfl⟩, q⟩) h4
  | ftup hp hs =>
    obtain ⟨as, ra⟩ := RdV.reads I (.ftup hp hs) ru
    cases ru
    exact repr_of_reads' ra h1 (fun z => by rw [h2] at z; cases z) hr.gd (by omega) (fun _ _ e => e) (fun h' u tk hk => ⟨.str _, H, I.kept hk, ⟨_, rfl⟩, q⟩) h4
end
end L2
namespace L2
open PySem PySem.Spec PyProof.Rows
theorem eqv_ints : ∀ (ns ms : List Int), PyData.eqvAll (ns.map PyData.int) (ms.map PyData.int) = decide (ns = ms)
  | [], [] => by simp only [List.map_nil, PyData.eqvAll, decide_true]
  | [], m :: ms => by simp [PyData.eqvAll]
  | n :: ns, [] => by simp [PyData.eqvAll]
  | n :: ns, m :: ms => by
    simp only [List.map_cons, PyData.eqvAll, PyData.eqv, eqv_ints ns ms]
    by_cases h : n = m
    · subst h; simp
    · simp [h]
theorem lay_ints : ∀ (ns : List Int), PyData.canLayAll0 (ns.map PyData.int) = true
  | [] => rfl
  | n :: ns => by simp [PyData.canLayAll0, PyData.canLay0, lay_ints ns]
theorem depth_ints : ∀ (ns : List Int), PyData.depthAll (ns.map PyData.int) = 0
  | [] => rfl
  | n :: ns => by simp [PyData.depthAll, PyData.depth, depth_ints ns]
end L2
namespace L2
open PySem PySem.Spec PyProof.Rows
section
variable {X : Cx}
/-- range(n), as a thing of its own -/
noncomputable def rRange : List V → Hp → VK → Prop := fun xs H Q => ∃ j : Int, xs = [.int j] ∧ ∀ r, H r = none → Q (.ref r) (upd H r (.rng 0 j))
noncomputable def rListR : List V → Hp → VK → Prop := fun xs H Q => ∃ (p : Addr) (n : Nat), xs = [.ref p] ∧ H p = some (.rng 0 (n : Int)) ∧ n ≤ 1000 ∧ ∀ l, H l = none → Q (.ref l) (upd H l (.lst ((List.range n).map fun (i : Nat) => V.int (i : Int))))
end
end L2

set_option Elab.async false
set_option linter.all false
set_option maxRecDepth 100000
namespace L2
open PySem PySem.Spec PyProof.Rows
section
variable {X : Cx}
noncomputable def rSum : List V → Hp → VK → Prop := fun xs H Q => ∃ (p : Addr) (ns : List Int), xs = [.ref p] ∧ H p = some (.lst (ns.map V.int)) ∧ Q (.int ns.sum) H
end
end L2

set_option Elab.async false
set_option linter.all false
set_option maxRecDepth 100000
namespace L2
open PySem PySem.Spec PyProof.Rows
section
variable {prog : Program} {w : World} {A : Around} {E : Value → Shared → Prop} {s : Shared}
end
end L2

set_option Elab.async false
set_option linter.all false
set_option maxRecDepth 100000
namespace L2
open PySem PySem.Spec PyProof.Rows
noncomputable abbrev enuH (h : Heap) (t : Addr) : Heap := h.push { cls := .type "tuple_iterator", data := .fields #[.ref t, .int 0 0] }
noncomputable abbrev enuH2 (h : Heap) (t : Addr) : Heap := (enuH h t).push { cls := .type "enumerate", data := .fields #[.none, .bool false, .ref h.objs.size, rawInt 0, .none, .none] }
section
variable {prog : Program} {w : World} {A : Around} {E : Value → Shared → Prop} {s : Shared}
end
end L2
namespace L2
open PySem PySem.Spec PyProof.Rows
section
variable {X : Cx} {pins : List (Addr × Obj)} {σ : St} {H : Hp} {s : Shared}
end
/-- enumerate over the tuple at a -/
noncomputable def Ite (K : PySem.W.Frag) (a : Addr) : It :=
  ⟨fun i H => ∃ xs x, SqT K H a xs ∧ xs[i]? = some x, fun i H v H' => ∃ p x, v = .ref p ∧ H p = none ∧ H' = upd H p (.tup [.int (i : Int), x]) ∧ ∀ xs, SqT K H a xs → xs[i]? = some x, fun i H => ∃ xs, SqT K H a xs ∧ xs.length = i⟩

section
variable {X : Cx} {es : List Expr} {kt : Nat} {pt : Pos}
noncomputable def iEnu (K : PySem.W.Frag) (ta : TA) : TI := fun σ H R => ta σ H fun vs H1 => ∃ a, vs = [.ref a] ∧ (∃ xs, SqT K H1 a xs) ∧ R (Ite K a) H1
end
end L2

set_option Elab.async false
set_option linter.all false
set_option maxRecDepth 100000
namespace L2
open PySem PySem.Spec PyProof.Rows
section
variable {prog : Program} {w : World} {A : Around} {E : Value → Shared → Prop} {s : Shared}
end
end L2
namespace L2
open PySem PySem.Spec PyProof.Rows
noncomputable abbrev zpH1 (h : Heap) (a : Addr) : Heap := h.push { cls := .type "tuple_iterator", data := .fields #[.ref a, .int 0 0] }
noncomputable abbrev zpH2 (h : Heap) (a b : Addr) : Heap := (zpH1 h a).push { cls := .type "tuple_iterator", data := .fields #[.ref b, .int 0 0] }
noncomputable abbrev zpH3 (h : Heap) (a b : Addr) : Heap := (zpH2 h a b).push { cls := .type "tuple", data := .seq #[.ref h.objs.size, .ref (zpH1 h a).objs.size] }
noncomputable abbrev zpH4 (h : Heap) (a b : Addr) : Heap := (zpH3 h a b).push { cls := .type "tuple", data := .seq #[.none, .none] }
noncomputable abbrev zpH5 (h : Heap) (a b : Addr) : Heap := (zpH4 h a b).push { cls := .type "zip", data := .fields #[.none, .bool false, .bool false, .ref (zpH2 h a b).objs.size, .ref (zpH3 h a b).objs.size] }
section
variable {prog : Program} {w : World} {A : Around} {E : Value → Shared → Prop} {s : Shared}
end
end L2

set_option Elab.async false
set_option linter.all false
set_option maxRecDepth 100000
namespace L2
open PySem PySem.Spec PyProof.Rows
/-- zip over the tuples at a and b -/
noncomputable def Itz (K : PySem.W.Frag) (a b : Addr) : It :=
  ⟨fun i H => ∃ xs ys x y, SqT K H a xs ∧ SqT K H b ys ∧ xs[i]? = some x ∧ ys[i]? = some y, fun i H v H' => ∃ p x y, v = .ref p ∧ H p = none ∧ H' = upd H p (.tup [x, y]) ∧ (∀ xs, SqT K H a xs → xs[i]? = some x) ∧ ∀ ys, SqT K H b ys → ys[i]? = some y,
    fun i H => ∃ xs ys, SqT K H a xs ∧ SqT K H b ys ∧ (xs.length ≤ i ∨ ys.length ≤ i)⟩
section
variable {X : Cx} {es : List Expr} {kt : Nat} {pt : Pos}
noncomputable def iZp (K : PySem.W.Frag) (ta : TA) : TI := fun σ H R => ta σ H fun vs H1 => ∃ a b, vs = [.ref a, .ref b] ∧ (∃ xs, SqT K H1 a xs) ∧ (∃ ys, SqT K H1 b ys) ∧ R (Itz K a b) H1
end
end L2

set_option Elab.async false
set_option linter.all false
set_option maxRecDepth 100000
namespace L2
open PySem PySem.Spec PyProof.Rows
/-! ### zip of three tuples -/
noncomputable def IsTri (h : Heap) (T : Addr) (a b c : Value) : Prop := h.get? T = some { cls := .type "tuple", data := .seq #[a, b, c] }
structure Apart3 (z TI TO i1 i2 i3 l1 l2 l3 : Addr) : Prop where
  nz : TI ≠ z ∧ TO ≠ z ∧ i1 ≠ z ∧ i2 ≠ z ∧ i3 ≠ z
  nI : TI ≠ TO ∧ TI ≠ i1 ∧ TI ≠ i2 ∧ TI ≠ i3
  nO : TO ≠ i1 ∧ TO ≠ i2 ∧ TO ≠ i3
  ni : i1 ≠ i2 ∧ i1 ≠ i3 ∧ i2 ≠ i3
  l1 : l1 ≠ z ∧ l1 ≠ TO ∧ l1 ≠ i1 ∧ l1 ≠ i2 ∧ l1 ≠ i3
  l2 : l2 ≠ z ∧ l2 ≠ TO ∧ l2 ≠ i1 ∧ l2 ≠ i2 ∧ l2 ≠ i3
  l3 : l3 ≠ z ∧ l3 ≠ TO ∧ l3 ≠ i1 ∧ l3 ≠ i2 ∧ l3 ≠ i3
section
variable {prog : Program} {w : World} {A : Around} {E : Value → Shared → Prop} {s : Shared}
end
noncomputable abbrev ztH1 (h : Heap) (a : Addr) : Heap := h.push { cls := .type "tuple_iterator", data := .fields #[.ref a, .int 0 0] }
noncomputable abbrev ztH2 (h : Heap) (a b : Addr) : Heap := (ztH1 h a).push { cls := .type "tuple_iterator", data := .fields #[.ref b, .int 0 0] }
noncomputable abbrev ztH3 (h : Heap) (a b c : Addr) : Heap := (ztH2 h a b).push { cls := .type "tuple_iterator", data := .fields #[.ref c, .int 0 0] }
noncomputable abbrev ztH4 (h : Heap) (a b c : Addr) : Heap := (ztH3 h a b c).push { cls := .type "tuple", data := .seq #[.ref h.objs.size, .ref (ztH1 h a).objs.size, .ref (ztH2 h a b).objs.size] }
noncomputable abbrev ztH5 (h : Heap) (a b c : Addr) : Heap := (ztH4 h a b c).push { cls := .type "tuple", data := .seq #[.none, .none, .none] }
noncomputable abbrev ztH6 (h : Heap) (a b c : Addr) : Heap := (ztH5 h a b c).push { cls := .type "zip", data := .fields #[.none, .bool false, .bool false, .ref (ztH3 h a b c).objs.size, .ref (ztH4 h a b c).objs.size] }
end L2

set_option Elab.async false
set_option linter.all false
set_option maxRecDepth 100000
namespace L2
open PySem PySem.Spec PyProof.Rows
section
variable {D : Addr} {te : TE} {tc : TT} {Q : VK} {ρ : St} {H : Hp}
end
section
variable {ta : TA} {tl : TE} {n : Nat} {ix : List Nat} {g : TG} {tc : TT} {te : TE} {σ : St} {H : Hp} {Q : VK}
theorem w_compL {K : PySem.W.Frag} (h : tl σ H fun x H1 => ∃ a, x = .ref a ∧ (∃ xs, SqL K H1 a xs) ∧ ∀ D, H1 D = none → CGo (Itl K a) D g tc te Q (List.replicate n none ++ sub ix σ) H1) : tComp (iList K tl) n ix g tc te σ H Q := h
end
section
variable {X : Cx}
/-- isinstance(x, T), T a type of the language -/
noncomputable def rIsI (K : PySem.W.Frag) : List V → Hp → VK → Prop := fun xs H Q => ∃ v n t b, xs = [v, .ty n] ∧ TyOf K H v t ∧ PySem.W.kitOne K t (.type n) = some b ∧ Q (.bl b) H
theorem call_isI : CallR X (.builtin "isinstance") (rIsI X.K) := by
  intro pins s σ H xs us Q I r h
  obtain ⟨v, n, t, b, rfl, ty, e, q⟩ := h
  cases r with
  | cons r1 r2 =>
    obtain ⟨u, rfl, ru⟩ := Vals.one r2
    cases ru
    exact isinst_ok I r1 ty e fun tk => ⟨.bl b, H, I.kept (t' := tk) fun _ _ e => e, rfl, q⟩
end
section
variable {σ : St} {H : Hp} {Q : VK} {te ta tb tc : TE} {r r' : R2} {tl th : TO}
theorem w_chain (h : ta σ H fun x H1 => tb σ H1 fun y H2 => r x y H2 fun z H3 => ∃ k, z = .bl k ∧ (if k = true then tc σ H3 fun w' H4 => r' y w' H4 Q else Q (.bl false) H3)) : tChain r r' ta tb tc σ H Q := h
theorem w_sl {r : V → Option Int → Option Int → Hp → VK → Prop} (h : te σ H fun x H1 => tl σ H1 fun l H2 => th σ H2 fun u H3 => r x l u H3 Q) : tSl r te tl th σ H Q := h
theorem w_nopart {QO : Option Int → Hp → Prop} (h : QO none H) : tNoPart σ H QO := h
theorem w_part {QO : Option Int → Hp → Prop} (h : te σ H fun x H1 => ∃ i, x = .int i ∧ QO (some i) H1) : tPart te σ H QO := h
end
end L2

set_option Elab.async false
set_option linter.all false
set_option maxRecDepth 100000
namespace L2
open PySem PySem.Spec PyProof.Rows
/-! ### displays of constants, numbers below nought too -/
noncomputable def constW : Expr → Option V
  | .Constant (.int n) _ _ => some (.int n)
  | .Constant (.str y) _ _ => some (.str y)
  | .UnaryOp .USub (.Constant (.int n) _ _) _ => some (.int (-n))
  | _ => none
noncomputable def constsW : List Expr → Option (List V)
  | [] => some []
  | e :: r => match constW e, constsW r with
    | some v, some vs => some (v :: vs)
    | _, _ => none
theorem w_unI {σ : St} {H : Hp} {Q : VK} {g : Int → V} {ta : TE} (h : ta σ H fun x H1 => ∃ i, x = .int i ∧ Q (g i) H1) : tUn (rU g) ta σ H Q := h
end L2
namespace G2
open PySem L2
theorem md {i j : Int} (h : 0 < j) : 0 ≤ i % j ∧ i % j < j := ⟨Int.emod_nonneg _ (Int.ne_of_gt h), Int.emod_lt_of_pos _ h⟩
theorem mulL {i j : Int} (h1 : -4000000000 < i) (h2 : i < 4000000000) : CMul i j := .inl ⟨by omega, by omega⟩
/-- tuples stay, and what is known as an object -/
structure TK (H H' : Hp) : Prop where
  t : ∀ q xs, H q = some (.tup xs) → H' q = some (.tup xs)
  f : ∀ q o u, H q = some (.frz o u) → H' q = some (.frz o u)
section
variable {p l : Addr} {H H' H'' : Hp} {o : HO}
theorem TK.refl : TK H H := ⟨fun _ _ e => e, fun _ _ _ e => e⟩
theorem TK.trans (a : TK H H') (b : TK H' H'') : TK H H'' := ⟨fun q xs e => b.t q xs (a.t q xs e), fun q o u e => b.f q o u (a.f q o u e)⟩
theorem TK.new (h : H l = none) : TK H (upd H l o) := ⟨fun q xs e => by rw [upd_ne (ne_of_none e h)]; exact e, fun q ob u e => by rw [upd_ne (ne_of_none e h)]; exact e⟩
theorem TK.lst {ys : List V} (h : H l = some (.lst ys)) : TK H (upd H l o) := ⟨fun q xs e => by rw [upd_ne (ne_of e h (by intro z; cases z))]; exact e, fun q ob u e => by rw [upd_ne (ne_of e h (by intro z; cases z))]; exact e⟩
theorem TK.same (k : Same H H') : TK H H' := ⟨fun _ _ e => k _ _ e, fun _ _ _ e => k _ _ e⟩
end
theorem _root_.L2.Same.new {H H' : Hp} {l : Addr} {o : HO} (k : Same H H') (h : H' l = none) : Same H (upd H' l o) := fun b u e => by
  rw [upd_ne (ne_of_none (k b u e) h)]
  exact k b u e
theorem _root_.L2.Same.put {H H' : Hp} {l : Addr} {o : HO} (k : Same H H') (h : H l = none) : Same H (upd H' l o) := fun b u e => by
  rw [upd_ne (ne_of_none e h)]
  exact k b u e
/-- the script, known as an object -/
noncomputable def SqF (K : PySem.W.Frag) (H : Hp) (a : Addr) (xs : List V) : Prop :=
  (∃ o, H a = some (.frz o (.lst xs))) ∨ ∃ (o : Obj) (its : Array Value) (n : Nat), K.lookup a = some o ∧ o.cls = .type "list" ∧ o.dict = none ∧ o.data = .seq its n ∧ its.size ≤ sizeLine ∧ Vals xs its.toList
theorem SqF.sq {K : PySem.W.Frag} {H : Hp} {a : Addr} {xs : List V} : SqF K H a xs → SqL K H a xs
  | .inl ⟨o, e⟩ => .inl (.inr ⟨o, e⟩)
  | .inr h => .inr h
theorem SqF.of {K : PySem.W.Frag} {H : Hp} {a : Addr} {xs : List V} (O : Only H) : SqL K H a xs → SqF K H a xs
  | .inl (.inl e) => by
    rcases O a with z | ⟨o, ys, z⟩
    · rw [e] at z; cases z
    · rw [e] at z; cases z
  | .inl (.inr h) => .inl h
  | .inr h => .inr h
theorem SqF.tk {K : PySem.W.Frag} {H H' : Hp} {a : Addr} {xs : List V} (k : TK H H') : SqF K H a xs → SqF K H' a xs
  | .inl ⟨o, e⟩ => .inl ⟨o, k.f _ _ _ e⟩
  | .inr h => .inr h
/-! ### a tape of draws -/
structure Tp (H : Hp) (p l : Addr) (ns : List Int) : Prop where
  ex : ∃ c e : Int, H p = some (.lst [.ref l, .int c, .int e])
  hl : H l = some (.lst (ns.map V.int))
  ne : p ≠ l
section
variable {p l a : Addr} {H H' : Hp} {o : HO} {ns : List Int}
theorem Tp.np (t : Tp H p l ns) (h : H a = none) : p ≠ a := let ⟨_, _, e⟩ := t.ex; ne_of_none e h
theorem Tp.nl (t : Tp H p l ns) (h : H a = none) : l ≠ a := ne_of_none t.hl h
theorem Tp.new (t : Tp H p l ns) (h : H a = none) : Tp (upd H a o) p l ns := by
  obtain ⟨c, e, hp⟩ := t.ex
  exact ⟨⟨c, e, by rw [upd_ne (ne_of_none hp h)]; exact hp⟩, by rw [upd_ne (ne_of_none t.hl h)]; exact t.hl, t.ne⟩
theorem Tp.put (t : Tp H p l ns) (h1 : p ≠ a) (h2 : l ≠ a) : Tp (upd H a o) p l ns := by
  obtain ⟨c, e, hp⟩ := t.ex
  exact ⟨⟨c, e, by rw [upd_ne h1]; exact hp⟩, by rw [upd_ne h2]; exact t.hl, t.ne⟩
theorem Tp.same (t : Tp H p l ns) (k : Same H H') : Tp H' p l ns := by
  obtain ⟨c, e, hp⟩ := t.ex
  exact ⟨⟨c, e, k _ _ hp⟩, k _ _ t.hl, t.ne⟩
theorem Tp.tk (t : Tp H p l ns) : TK H (upd H p o) := let ⟨_, _, e⟩ := t.ex; TK.lst e
end
/-! ### texts -/
theorem log_small {n : Nat} (h : n < 1000000000000000) : n.log2 < 1920 := by
  by_cases h0 : n = 0
  · subst h0
    decide
  · exact (Nat.log2_lt h0).mpr (Nat.lt_of_lt_of_le h (by decide +kernel))
noncomputable def Sm (i : Int) : Prop := -1000000000000000 < i ∧ i < 1000000000000000
theorem show_ints : ∀ (ns : List Int), (∀ n ∈ ns, Sm n) → PyData.showableAll (ns.map PyData.int) = true
  | [], _ => rfl
  | n :: ns, h => by
    obtain ⟨h0, h1⟩ := h n List.mem_cons_self
    have hs : n.natAbs.log2 < 1920 := log_small (by omega)
    simp only [List.map_cons, PyData.showableAll, PyData.showable, decide_eq_true hs, show_ints ns fun m hm => h m (List.mem_cons_of_mem _ hm), Bool.and_self]
theorem nodict_ints : ∀ (ns : List Int), PyData.hasDictAll (ns.map PyData.int) = false
  | [] => rfl
  | n :: ns => by simp only [List.map_cons, PyData.hasDictAll, PyData.hasDict, nodict_ints ns, Bool.or_self]
theorem len_int {n : Int} (h : Sm n) : (PyData.shown (.int n)).length ≤ 16 := by
  obtain ⟨h0, h1⟩ := h
  have := int_text_length_le10 (a := n) (k := 15) (by decide) (by omega)
  show (Str.ofString (toString n)).length ≤ 16
  rw [ofString_length]
  exact this
theorem len_ints : ∀ (ns : List Int), (∀ n ∈ ns, Sm n) → ((PyData.shownAll (ns.map PyData.int)).map (·.length)).sum ≤ 16 * ns.length ∧ (PyData.shownAll (ns.map PyData.int)).length = ns.length
  | [], _ => ⟨Nat.le_refl _, rfl⟩
  | n :: ns, h => by
    obtain ⟨i1, i2⟩ := len_ints ns fun m hm => h m (List.mem_cons_of_mem _ hm)
    have e := len_int (h n List.mem_cons_self)
    simp only [List.map_cons, PyData.shownAll, List.sum_cons, List.length_cons]
    exact ⟨by omega, by omega⟩
theorem len_tup (ds : List PyData) : (PyData.shown (.tuple ds)).length ≤ ((PyData.shownAll ds).map (·.length)).sum + 2 * (PyData.shownAll ds).length + 3 := tupleText_len_le _
/-- a thing that may be shown: at most n signs, at most h within one another -/
structure Shw (d : PyData) (n h : Nat) : Prop where
  s : d.showable = true
  nd : d.hasDict = false
  p : d.depth ≤ h
  l : d.shown.length ≤ n
theorem Shw.up {d : PyData} {n h m i : Nat} (x : Shw d n h) (h1 : n ≤ m) (h2 : h ≤ i) : Shw d m i := ⟨x.s, x.nd, Nat.le_trans x.p h2, Nat.le_trans x.l h1⟩
theorem Shw.int {i : Int} (h : Sm i) : Shw (.int i) 16 0 := ⟨by
  obtain ⟨h0, h1⟩ := h
  have hs : i.natAbs.log2 < 1920 := log_small (by omega)
  simp only [PyData.showable, decide_eq_true hs], rfl, Nat.zero_le _, len_int h⟩
theorem Shw.ints {ns : List Int} (h : ∀ n ∈ ns, Sm n) : Shw (.tuple (ns.map PyData.int)) (18 * ns.length + 3) 1 := ⟨by
    simp only [PyData.showable]
    exact show_ints ns h, by
    simp only [PyData.hasDict]
    exact nodict_ints ns, by
    show PyData.depthAll _ + 1 ≤ 1
    rw [depth_ints]
    decide, by
    have h1 := len_tup (ns.map PyData.int)
    obtain ⟨h2, h3⟩ := len_ints ns h
    omega⟩
theorem Shw.two {a b : PyData} {m n h : Nat} (ha : Shw a m h) (hb : Shw b n h) : Shw (.tuple [a, b]) (m + n + 7) (h + 1) := ⟨by
    simp only [PyData.showable, PyData.showableAll, ha.s, hb.s, Bool.and_self], by
    simp only [PyData.hasDict, PyData.hasDictAll, ha.nd, hb.nd, Bool.or_self], by
    show PyData.depthAll [a, b] + 1 ≤ h + 1
    have := ha.p
    have := hb.p
    simp only [PyData.depthAll]
    omega, by
    have h1 := len_tup [a, b]
    have := ha.l
    have := hb.l
    simp only [PyData.shownAll, List.map_cons, List.map_nil, List.sum_cons, List.sum_nil, List.length_cons, List.length_nil] at h1
    omega⟩
theorem Shw.three {a b c : PyData} {m n k h : Nat} (ha : Shw a m h) (hb : Shw b n h) (hc : Shw c k h) : Shw (.tuple [a, b, c]) (m + n + k + 9) (h + 1) := ⟨by
    simp only [PyData.showable, PyData.showableAll, ha.s, hb.s, hc.s, Bool.and_self], by
    simp only [PyData.hasDict, PyData.hasDictAll, ha.nd, hb.nd, hc.nd, Bool.or_self], by
    show PyData.depthAll [a, b, c] + 1 ≤ h + 1
    have := ha.p
    have := hb.p
    have := hc.p
    simp only [PyData.depthAll]
    omega, by
    have h1 := len_tup [a, b, c]
    have := ha.l
    have := hb.l
    have := hc.l
    simp only [PyData.shownAll, List.map_cons, List.map_nil, List.sum_cons, List.sum_nil, List.length_cons, List.length_nil] at h1
    omega⟩
theorem w_shw {H : Hp} {Q : VK} {v : V} {d : PyData} {n h : Nat} (r : RdV H v d) (x : Shw d n h) (hn : n ≤ 100000) (hh : h ≤ 50) (q : Q (.str d.shown) H) : rRepr [v] H Q :=
  ⟨v, d, rfl, r, x.s, x.nd, Nat.le_trans x.p hh, Nat.le_trans x.l (Nat.le_trans hn (by decide : 100000 ≤ sizeLine)), q⟩
/-- each of the ones times its other, added -/
noncomputable def dot : List Int → List Int → Int
  | x :: xs, y :: ys => x * y + dot xs ys
  | _, _ => 0
/-- the two may be multiplied, item by item -/
noncomputable def MulOk (xs ys : List Int) : Prop := ∀ (i : Nat) (x y : Int), xs[i]? = some x → ys[i]? = some y → CMul x y
end G2

set_option Elab.async false
set_option linter.all false
set_option maxRecDepth 100000
namespace L2
open PySem PySem.Spec PyProof.Rows
/-! ### products of great numbers -/
end L2
namespace G2
open PySem L2
/-- at most ninety figures -/
noncomputable def Bg (i : Int) : Prop := i.natAbs < 10 ^ 90
section
variable {D : Addr} {te : TE} {tc : TT} {Q : VK} {ρ : St} {H : Hp} {K : PySem.W.Frag} {a b : Addr}
end
/-! ### texts of great numbers -/
theorem Bg.log {i : Int} (h : Bg i) : i.natAbs.log2 < 1920 := by
  unfold Bg at h
  by_cases h0 : i.natAbs = 0
  · rw [h0]
    decide
  · exact (Nat.log2_lt h0).mpr (Nat.lt_of_lt_of_le h (by decide +kernel))
theorem Bg.len {n : Int} (h : Bg n) : (PyData.shown (.int n)).length ≤ 91 := by
  have := int_text_length_le10 (a := n) (k := 90) (by decide) h
  show (Str.ofString (toString n)).length ≤ 91
  rw [ofString_length]
  exact this
theorem Shw.big {i : Int} (h : Bg i) : Shw (.int i) 91 0 := ⟨by simp only [PyData.showable, decide_eq_true h.log], rfl, Nat.zero_le _, h.len⟩
/-! ### lists and tuples compared -/
section
variable {X : Cx} {k : Nat}
noncomputable def rNeD : R2 := fun x y H Q => ∃ dx dy, RdV H x dx ∧ RdV H y dy ∧ dx.canLay0 = true ∧ dy.canLay0 = true ∧ dx.depth ≤ 60 ∧ Q (.bl (!PyData.eqv dx dy)) H
theorem op_neD (hr : Room k X.A) : OpR X (compareOp .NotEq) rNeD := by
  intro pins s σ H x y v u Q I rx ry h
  obtain ⟨dx, dy, hx, hy, cx, cy, hd, q⟩ := h
  obtain ⟨as, ra⟩ := hx.reads I rx
  obtain ⟨bs, rb⟩ := hy.reads I ry
  have := hr.units
  exact SeqAt.compareNe_reads ra rb cx cy (by omega) ⟨.bl _, H, I, rfl, q⟩
end
/-! ### forms -/
structure Fm where
  ins : List Int
  sts : List Int
  plus : Int
noncomputable def FmAt (H : Hp) (q : Addr) (f : Fm) : Prop := ∃ a b, H q = some (.tup [.ref a, .ref b, .int f.plus]) ∧ H a = some (.tup (f.ins.map V.int)) ∧ H b = some (.tup (f.sts.map V.int))
theorem FmAt.same {H H' : Hp} {q : Addr} {f : Fm} (k : Same H H') : FmAt H q f → FmAt H' q f
  | ⟨a, b, h1, h2, h3⟩ => ⟨a, b, k _ _ h1, k _ _ h2, k _ _ h3⟩
theorem FmAt.tk {H H' : Hp} {q : Addr} {f : Fm} (k : TK H H') : FmAt H q f → FmAt H' q f
  | ⟨a, b, h1, h2, h3⟩ => ⟨a, b, k.t _ _ h1, k.t _ _ h2, k.t _ _ h3⟩
noncomputable def addF (f g : Fm) : Fm := ⟨List.zipWith (fun x y => x + y) f.ins g.ins, List.zipWith (fun x y => x + y) f.sts g.sts, f.plus + g.plus⟩
noncomputable def oftF (t : Int) (f : Fm) : Fm := ⟨f.ins.map fun x => t * x, f.sts.map fun x => t * x, t * f.plus⟩
noncomputable def moreF (n : Int) (f : Fm) : Fm := ⟨f.ins, f.sts, f.plus + n⟩
noncomputable def fmV (f : Fm) (am st : List Int) : Int := dot f.ins am + dot f.sts st + f.plus
/-- its kind, and a bound of its numbers -/
structure FmOk (n m : Nat) (B : Int) (f : Fm) : Prop where
  li : f.ins.length = n
  ls : f.sts.length = m
  bi : ∀ x ∈ f.ins, -B ≤ x ∧ x ≤ B
  bs : ∀ x ∈ f.sts, -B ≤ x ∧ x ≤ B
  bp : -B ≤ f.plus ∧ f.plus ≤ B
noncomputable def fmD (f : Fm) : PyData := .tuple [.tuple (f.ins.map .int), .tuple (f.sts.map .int), .int f.plus]
theorem fm_rd {H : Hp} {q : Addr} {f : Fm} : FmAt H q f → RdV H (.ref q) (fmD f)
  | ⟨_, _, hq, ha, hb⟩ => .tup hq (.cons (.tup ha (rdInts _)) (.cons (.tup hb (rdInts _)) (.cons (.int _) .nil)))
theorem Bg.of {x B : Int} (hB : B < 10 ^ 90) (h : -B ≤ x ∧ x ≤ B) : Bg x := by
  unfold Bg
  omega
end G2

set_option Elab.async false
set_option linter.all false
set_option maxRecDepth 100000
namespace L2
open PySem PySem.Spec PyProof.Rows
section
variable {prog : Program} {w : World} {A : Around} {E : Value → Shared → Prop} {s : Shared}
end
/-- zip over the tuples at a, b and c, all as long -/
noncomputable def It3 (K : PySem.W.Frag) (a b c : Addr) : It :=
  ⟨fun i H => ∃ xs ys zs x y z, SqT K H a xs ∧ SqT K H b ys ∧ SqT K H c zs ∧ xs[i]? = some x ∧ ys[i]? = some y ∧ zs[i]? = some z,
   fun i H v H' => ∃ p x y z, v = .ref p ∧ H p = none ∧ H' = upd H p (.tup [x, y, z]) ∧ (∀ xs, SqT K H a xs → xs[i]? = some x) ∧ (∀ ys, SqT K H b ys → ys[i]? = some y) ∧ ∀ zs, SqT K H c zs → zs[i]? = some z,
   fun i H => ∃ xs, SqT K H a xs ∧ xs.length ≤ i⟩
section
variable {X : Cx} {es : List Expr} {kt : Nat} {pt : Pos}
noncomputable def iZt (K : PySem.W.Frag) (ta : TA) : TI := fun σ H R => ta σ H fun vs H1 => ∃ a b c, vs = [.ref a, .ref b, .ref c] ∧ (∃ xs, SqT K H1 a xs) ∧ (∃ ys, SqT K H1 b ys) ∧ (∃ zs, SqT K H1 c zs) ∧ R (It3 K a b c) H1
end
end L2

set_option Elab.async false
set_option linter.all false
set_option maxRecDepth 100000
namespace L2
open PySem PySem.Spec PyProof.Rows
section
variable {X : Cx}
theorem bools_of : ∀ {bs : List Bool} {us : List Value}, Vals (bs.map V.bl) us → us = bs.map Value.bool
  | [], us, r => by
    cases r
    rfl
  | b :: bs, us, r => by
    cases r with
    | cons r1 r2 =>
      cases r1
      rw [bools_of r2]
      rfl
noncomputable def rAll : List V → Hp → VK → Prop := fun xs H Q => ∃ (p : Addr) (bs : List Bool), xs = [.ref p] ∧ H p = some (.lst (bs.map V.bl)) ∧ Q (.bl (bs.all id)) H
theorem all_range (bs : List Bool) : (List.range bs.length).all (fun i => bs.getD i false) = bs.all id := by
  rw [Bool.eq_iff_iff, List.all_eq_true, List.all_eq_true]
  constructor
  · intro h b hb
    obtain ⟨i, hi, rfl⟩ := List.getElem_of_mem hb
    have := h i (List.mem_range.mpr hi)
    simpa [List.getD_eq_getElem?_getD, hi] using this
  · intro h i hi
    have hi' := List.mem_range.mp hi
    have := h bs[i] (List.getElem_mem hi')
    simpa [List.getD_eq_getElem?_getD, hi'] using this
theorem call_all (hc : X.calm = true) : CallR X (.builtin "all") rAll := by
  intro pins s σ H xs us Q I r h
  obtain ⟨p, bs, rfl, hp, q⟩ := h
  obtain ⟨u, rfl, ru⟩ := r.one
  cases ru
  obtain ⟨its, n, rv, e, z⟩ := I.lst hp
  have hits := bools_of rv
  subst hits
  have hl : s.heap.IsList p (bs.map Value.bool).toArray := ⟨_, e, rfl, n, rfl⟩
  refine call_all_walk (wpAny_pyIter_list hl ?_)
  refine ⟨_, _, _, _, _, _, fun i => bs.getD i false, rfl, Walks.list (A := X.A.in1) (I.ok.hd hc) _ p (Nat.ne_of_lt (Heap.lt_size e)) (bs.map Value.bool).toArray, ⟨⟨_, Heap.get?_push_size _ rfl, rfl, rfl⟩, hl.push _⟩, ?_, fun h' tk hk => ?_⟩
  · intro i v s' Q' E' hv hQ'
    have hv' : (bs.map Value.bool)[i]? = some v := by simpa using hv
    rw [List.getElem?_map] at hv'
    cases eb : bs[i]? with
    | none => rw [eb] at hv'; cases hv'
    | some b =>
      rw [eb] at hv'
      cases hv'
      have : bs.getD i false = b := by rw [List.getD_eq_getElem?_getD, eb]; rfl
      refine wpAny_truthy_bool ?_
      dsimp only at hQ'
      rw [this] at hQ'
      exact hQ'
  · have e1 : (List.range (bs.map Value.bool).toArray.size).all (fun i => bs.getD i false) = bs.all id := by simpa using all_range bs
    rw [e1]
    exact ⟨.bl _, H, I.kept (t' := tk) (old_kept (l := p) hk), rfl, q⟩
noncomputable def rMinL : List V → Hp → VK → Prop := fun xs H Q => ∃ (p : Addr) (ns : List Int), xs = [.ref p] ∧ H p = some (.lst (ns.map V.int)) ∧ 0 < ns.length ∧ ∀ M, M ∈ ns → (∀ a ∈ ns, M ≤ a) → Q (.int M) H
end
end L2

set_option Elab.async false
set_option linter.all false
set_option maxRecDepth 100000
namespace L2
open PySem PySem.Spec PyProof.Rows
/-- enumerate over the list at a -/
noncomputable def Itel (K : PySem.W.Frag) (a : Addr) : It :=
  ⟨fun i H => ∃ xs x, SqL K H a xs ∧ xs[i]? = some x, fun i H v H' => ∃ p x, v = .ref p ∧ H p = none ∧ H' = upd H p (.tup [.int (i : Int), x]) ∧ ∀ xs, SqL K H a xs → xs[i]? = some x, fun i H => ∃ xs, SqL K H a xs ∧ xs.length = i⟩

section
variable {X : Cx} {es : List Expr} {kt : Nat} {pt : Pos}
noncomputable def iEnl (K : PySem.W.Frag) (ta : TA) : TI := fun σ H R => ta σ H fun vs H1 => ∃ a, vs = [.ref a] ∧ (∃ xs, SqL K H1 a xs) ∧ R (Itel K a) H1
end
end L2

set_option Elab.async false
set_option linter.all false
set_option maxRecDepth 100000
namespace L2
open PySem PySem.Spec PyProof.Rows
noncomputable def isI (i : Int) : Value → Bool
  | .int a _ => a == i
  | _ => false
section
variable {X : Cx}
/-- xs.remove(i), xs a list of ints -/
noncomputable def rRem : V → List V → Hp → VK → Prop := fun x vs H Q => ∃ (l : Addr) (xs : List Int) (i : Int), x = .ref l ∧ vs = [.int i] ∧ H l = some (.lst (xs.map V.int)) ∧ i ∈ xs ∧ Q .non (upd H l (.lst ((xs.erase i).map V.int)))

end
/-- a block over a list, one name -/
theorem cgo_list {D : Addr} {tc : TT} {te : TE} {Q : VK} {ρ : St} {H : Hp} {K : PySem.W.Frag} {a : Addr} {xs : List V} (Pv : Nat → List V → Hp → Prop) (h0 : Pv 0 [] (upd H D (.lst []))) (hl : ∀ i ys H', i ≤ xs.length → Pv i ys H' → SqL K H' a xs)
    (hs : ∀ i x ys H', xs[i]? = some x → Pv i ys H' → H' D = some (.lst ys) → ∀ (R : V → Hp → Prop) (S : Hp → Prop), (∀ y H4, H4 D = some (.lst ys) → ys.length < sizeLine → Pv (i + 1) (ys ++ [y]) (upd H4 D (.lst (ys ++ [y]))) → R y H4) → (∀ H3, H3 D = some (.lst ys) → Pv (i + 1) ys H3 → S H3) →
      tc (some x :: ρ) H' fun b H3 => if b = true then te (some x :: ρ) H3 R else S H3)
    (hd : ∀ ys H', Pv xs.length ys H' → H' D = some (.lst ys) → Q (.ref D) H') : CGo (Itl K a) D (gName 0) tc te Q (none :: ρ) H := by
  refine ⟨fun i m τ ys H' => m = xs.length - i ∧ i ≤ xs.length ∧ (∃ tv, τ = tv :: ρ) ∧ Pv i ys H' ∧ H' D = some (.lst ys), ⟨xs.length, by omega, Nat.zero_le _, ⟨_, rfl⟩, h0, upd_same⟩, ?_⟩
  rintro i m τ ys H' ⟨rfl, hi, ⟨tv, rfl⟩, hp, hD⟩
  refine ⟨hD, ?_⟩
  have sq := hl i ys H' hi hp
  by_cases hlt : i < xs.length
  · refine .inr ⟨⟨xs, xs[i], sq, by simp [hlt]⟩, ?_⟩
    rintro v H'' ⟨rfl, hv⟩
    have hv' := hv xs sq
    show tc (some v :: ρ) _ _
    exact hs i v ys _ hv' hp hD _ _ (fun y H4 a b c => ⟨a, b, xs.length - (i + 1), by omega, rfl, hlt, ⟨_, rfl⟩, c, upd_same⟩) fun H3 a c => ⟨xs.length - (i + 1), by omega, rfl, hlt, ⟨_, rfl⟩, c, a⟩
  · have e : i = xs.length := by omega
    subst e
    exact .inl ⟨⟨xs, sq, Nat.le_refl _⟩, hd ys _ hp hD⟩
end L2

set_option Elab.async false
set_option linter.all false
set_option maxRecDepth 100000
namespace L2
open PySem PySem.Spec PyProof.Rows
section
variable {X : Cx}
noncomputable def rAny : List V → Hp → VK → Prop := fun xs H Q => ∃ (p : Addr) (bs : List Bool), xs = [.ref p] ∧ H p = some (.lst (bs.map V.bl)) ∧ Q (.bl (bs.any id)) H
noncomputable def rMaxL : List V → Hp → VK → Prop := fun xs H Q => ∃ (p : Addr) (ns : List Int), xs = [.ref p] ∧ H p = some (.lst (ns.map V.int)) ∧ 0 < ns.length ∧ ∀ M, M ∈ ns → (∀ a ∈ ns, a ≤ M) → Q (.int M) H

/-- xs.insert(i, y), i at 0 or above -/
noncomputable def rIns : V → List V → Hp → VK → Prop := fun x vs H Q => ∃ (l : Addr) (xs : List V) (i : Int) (y : V), x = .ref l ∧ vs = [.int i, y] ∧ H l = some (.lst xs) ∧ 0 ≤ i ∧ i ≤ xs.length ∧ xs.length < sizeLine ∧ Q .non (upd H l (.lst (xs.take i.toNat ++ y :: xs.drop i.toNat)))
end
end L2

set_option Elab.async false
set_option linter.all false
set_option maxRecDepth 100000
namespace L2
open PySem PySem.Spec PyProof.Rows
/-- zip over the lists at a and b -/
noncomputable def Itzl (K : PySem.W.Frag) (a b : Addr) : It :=
  ⟨fun i H => ∃ xs ys x y, SqL K H a xs ∧ SqL K H b ys ∧ xs[i]? = some x ∧ ys[i]? = some y, fun i H v H' => ∃ p x y, v = .ref p ∧ H p = none ∧ H' = upd H p (.tup [x, y]) ∧ (∀ xs, SqL K H a xs → xs[i]? = some x) ∧ ∀ ys, SqL K H b ys → ys[i]? = some y,
    fun i H => ∃ xs ys, SqL K H a xs ∧ SqL K H b ys ∧ (xs.length ≤ i ∨ ys.length ≤ i)⟩
section
variable {X : Cx} {es : List Expr} {kt : Nat} {pt : Pos}
noncomputable def iZpl (K : PySem.W.Frag) (ta : TA) : TI := fun σ H R => ta σ H fun vs H1 => ∃ a b, vs = [.ref a, .ref b] ∧ (∃ xs, SqL K H1 a xs) ∧ (∃ ys, SqL K H1 b ys) ∧ R (Itzl K a b) H1
end
section
variable {D : Addr} {te : TE} {tc : TT} {Q : VK} {ρ : St} {H : Hp}
end
end L2

set_option Elab.async false
set_option linter.all false
set_option maxRecDepth 100000
namespace G2
open PySem L2
end G2

set_option Elab.async false
set_option linter.all false
set_option maxRecDepth 100000
namespace L2
open PySem PySem.Spec PyProof.Rows
/-! ### comprehensions whose own names are read by one within them -/
structure NScope (o sc : Scope) (TN F : List Str) : Prop where
  okind : o.kind = .function
  kind : sc.kind = .function
  names : ∀ y ∈ sc.names, y.2 = .local → sc.names.lookup y.1 = some .local
  clN : ∀ y ∈ sc.names, y.2 = .cell → sc.names.lookup y.1 = some .cell
  fr : ∀ y ∈ sc.names, y.2 = .free → o.names.lookup y.1 = some .cell ∧ sc.names.lookup y.1 = some .free
  ff : ∀ y ∈ F, (y, NameKind.free) ∈ sc.names
theorem cellsFrom_name : ∀ (names : List (Str × NameKind)) (n : Nat) (acc : List (Str × Addr)) (x : Str) (c : Addr), (x, c) ∈ cellsFrom n names acc → (x, NameKind.cell) ∈ names ∨ (x, c) ∈ acc
  | [], n, acc, x, c, h => .inr h
  | (y, k) :: r, n, acc, x, c, h => by
    unfold cellsFrom at h
    split at h
    · rename_i hk
      have hk' : k = .cell := by simpa using hk
      subst hk'
      rcases cellsFrom_name r (n + 1) ((y, n) :: acc) x c h with z | z
      · exact .inl (List.mem_cons_of_mem _ z)
      · rcases List.mem_cons.mp z with e | z
        · cases e
          exact .inl List.mem_cons_self
        · exact .inr z
    · rcases cellsFrom_name r n acc x c h with z | z
      · exact .inl (List.mem_cons_of_mem _ z)
      · exact .inr z
/-- the cells of a block: its own, then those that it is given -/
noncomputable def ownC (n : Nat) (sc : Scope) : List (Str × Addr) := cellsFrom (n + 1) sc.names []
noncomputable def allC (env : Env) (n : Nat) (sc : Scope) : List (Str × Addr) := ownC n sc ++ cloF env sc.names []
theorem NScope.own {o sc : Scope} {TN F : List Str} (S : NScope o sc TN F) {n : Nat} {x : Str} {c : Addr} (h : (ownC n sc).lookup x = some c) : sc.names.lookup x = some .cell := by
  rcases cellsFrom_name sc.names (n + 1) [] x c (PySem.mem_of_lookup h) with z | z
  · exact S.clN _ z rfl
  · cases z
/-- the context of such a block -/
noncomputable def cxN (X : Cx) (N : List Str) (sc : Scope) (cl : List (Str × Addr)) (C : Addr) (fp : List Addr) (s₃ : Shared) (H₃ : Hp) (xe : Value → Shared → Prop) : Cx :=
  { X with N := N, s₀ := s₃, H₀ := H₃, env := compEnvC sc cl C X.env, outer := X.stack, ex := fp, fn := fun y => sc.names.lookup y == some .cell, pn := [], xe := xe }



section
variable {X : Cx} {sc : Scope} {TN F : List Str} {ix : List Nat} {elt tg iter : Expr} {ifs : List Expr} {pos : Pos} {g : TG} {tc : TT} {te : TE} {wi : TI}
end
/-- such a block's names -/
structure NBScope (o sc : Scope) (TN F G : List Str) : Prop extends NScope o sc TN F where
  nd : (TN ++ F).Nodup
  vis : ∀ x ∈ TN ++ F, Vis (relabelS sc o) x
  loc : ∀ x ∈ TN, (relabelS sc o).names.lookup x = some .local ∨ ((relabelS sc o).names.lookup x = some .cell ∧ sc.names.lookup x = some .cell)
  gl : ∀ x ∈ G, (relabelS sc o).names.lookup x = some .globalImplicit
section
variable {X : Cx} {sc : Scope} {TN F G : List Str} {cl : List (Str × Addr)} {C : Addr} {fp : List Addr} {s3 : Shared} {H3 : Hp} {xe : Value → Shared → Prop} {x : Str} {pos : Pos}
theorem NBScope.g (S : NBScope X.env.scope sc TN F G) (i : Nat) (hG : G[i]? = some x := by rfl) : Gl (cxN X (TN ++ F) sc cl C fp s3 H3 xe) x := S.gl x (List.mem_of_getElem? hG)
end
end L2

set_option Elab.async false
set_option linter.all false
set_option maxRecDepth 100000
namespace PySem
open Sem (wp)
open Builtin
open AutoSeq1 (wpAny_loadPart')
end PySem
namespace L2
open PySem PySem.Spec PyProof.Rows
section
variable {X : Cx}
/-- a tuple times an int above 0; once: the tuple itself -/
noncomputable def rRepT : R2 := fun x y H Q => ∃ a k xs, x = .ref a ∧ y = .int k ∧ H a = some (.tup xs) ∧ xs ≠ [] ∧ 0 < k ∧ k ≤ 1000 ∧ xs.length * k.toNat ≤ 1000 ∧ (k = 1 → Q (.ref a) H) ∧
  (k ≠ 1 → ∀ p, H p = none → Q (.ref p) (upd H p (.tup (List.replicate k.toNat xs).flatten)))
end
end L2

set_option Elab.async false
set_option linter.all false
set_option maxRecDepth 100000
namespace L2
open PySem PySem.Spec PyProof.Rows
section
variable {prog : Program} {w : World} {A : Around} {E : Value → Shared → Prop} {s : Shared}
end
end L2
namespace L2
open PySem PySem.Spec PyProof.Rows
noncomputable abbrev zmH1 (h : Heap) (a : Addr) : Heap := h.push { cls := .type "tuple_iterator", data := .fields #[.ref a, .int 0 0] }
noncomputable abbrev zmH2 (h : Heap) (a b : Addr) : Heap := (zmH1 h a).push { cls := .type "list_iterator", data := .fields #[.ref b, .int 0 0] }
noncomputable abbrev zmH3 (h : Heap) (a b : Addr) : Heap := (zmH2 h a b).push { cls := .type "tuple", data := .seq #[.ref h.objs.size, .ref (zmH1 h a).objs.size] }
noncomputable abbrev zmH4 (h : Heap) (a b : Addr) : Heap := (zmH3 h a b).push { cls := .type "tuple", data := .seq #[.none, .none] }
noncomputable abbrev zmH5 (h : Heap) (a b : Addr) : Heap := (zmH4 h a b).push { cls := .type "zip", data := .fields #[.none, .bool false, .bool false, .ref (zmH2 h a b).objs.size, .ref (zmH3 h a b).objs.size] }
section
variable {prog : Program} {w : World} {A : Around} {E : Value → Shared → Prop} {s : Shared}
end
end L2
namespace L2
open PySem PySem.Spec PyProof.Rows
/-- zip over the tuples at a and b -/
noncomputable def Itm (K : PySem.W.Frag) (a b : Addr) : It :=
  ⟨fun i H => ∃ xs ys x y, SqT K H a xs ∧ SqL K H b ys ∧ xs[i]? = some x ∧ ys[i]? = some y, fun i H v H' => ∃ p x y, v = .ref p ∧ H p = none ∧ H' = upd H p (.tup [x, y]) ∧ (∀ xs, SqT K H a xs → xs[i]? = some x) ∧ ∀ ys, SqL K H b ys → ys[i]? = some y,
    fun i H => ∃ xs ys, SqT K H a xs ∧ SqL K H b ys ∧ (xs.length ≤ i ∨ ys.length ≤ i)⟩
section
variable {X : Cx} {es : List Expr} {kt : Nat} {pt : Pos}
noncomputable def iZm (K : PySem.W.Frag) (ta : TA) : TI := fun σ H R => ta σ H fun vs H1 => ∃ a b, vs = [.ref a, .ref b] ∧ (∃ xs, SqT K H1 a xs) ∧ (∃ ys, SqL K H1 b ys) ∧ R (Itm K a b) H1
end
section
variable {D : Addr} {te : TE} {tc : TT} {Q : VK} {ρ : St} {H : Hp}
end
end L2

set_option Elab.async false
set_option linter.all false
set_option maxRecDepth 100000
namespace HT
open PySem PyProof.Rows
section
variable {prog : Program} {w : World} {A : Around} {E : Value → Shared → Prop} {s : Shared}
end
end HT
namespace L2
open PySem PySem.Spec PyProof.Rows
section
variable {X : Cx}
/-- t[a:b], whatever it is -/
noncomputable def rSlG : V → Option Int → Option Int → Hp → VK → Prop := fun x lo hi H Q => ∃ a xs, x = .ref a ∧ H a = some (.tup xs) ∧ ∀ q H', Same H H' → H' q = some (.tup (cutV xs lo hi)) → Q (.ref q) H'
/-- t + u, whatever they are -/
noncomputable def rCatG : R2 := fun x y H Q => ∃ a b xs ys, x = .ref a ∧ y = .ref b ∧ H a = some (.tup xs) ∧ H b = some (.tup ys) ∧ xs.length + ys.length ≤ 1000 ∧ ∀ q H', Same H H' → H' q = some (.tup (xs ++ ys)) → Q (.ref q) H'
end
end L2
namespace PySem
open Sem (wp)
open Builtin
open AutoSeq1 (wpAny_loadPart')
end PySem
namespace L2
open PySem PySem.Spec PyProof.Rows
section
variable {X : Cx}
/-- (v,) times 0 or 1 -/
noncomputable def rRepB : R2 := fun x y H Q => ∃ a k v, x = .ref a ∧ y = .int k ∧ H a = some (.tup [v]) ∧ (k = 0 ∨ k = 1) ∧ (k = 1 → Q (.ref a) H) ∧ (k = 0 → ∀ p, H p = none → Q (.ref p) (upd H p (.tup [])))
end
end L2

set_option Elab.async false
set_option linter.all false
set_option maxRecDepth 100000
namespace L2
open PySem PySem.Spec PyProof.Rows
theorem Same.none {H H' : Hp} {a : Addr} (k : Same H H') (h : H' a = .none) : H a = .none := by
  cases e : H a with
  | none => rfl
  | some o => rw [k _ _ e] at h; cases h
section
variable {X : Cx}
/-- (v,) times n, n from 0 on -/
noncomputable def rRepG : R2 := fun x y H Q => ∃ (a : Addr) (k : Nat) (v : V), x = .ref a ∧ y = .int (k : Int) ∧ H a = some (.tup [v]) ∧ k ≤ 1000 ∧ ∀ q H', Same H H' → H' q = some (.tup (List.replicate k v)) → Q (.ref q) H'
/-- len of a tuple, in a block too -/
noncomputable def rLnT : List V → Hp → VK → Prop := fun xs H Q => ∃ (p : Addr) (ys : List V), xs = [.ref p] ∧ H p = some (.tup ys) ∧ Q (.int ys.length) H
theorem call_lnT : CallR X (.builtin "len") rLnT := fun pins s σ H xs us Q I r h => call_len_seq pins s σ H xs us Q I r (let ⟨p, ys, e, hp, q⟩ := h; ⟨p, ys, e, .inr (SqT.of hp), q⟩)
noncomputable def rLnL : List V → Hp → VK → Prop := fun xs H Q => ∃ (p : Addr) (ys : List V), xs = [.ref p] ∧ H p = some (.lst ys) ∧ Q (.int ys.length) H
theorem call_lnL : CallR X (.builtin "len") rLnL := fun pins s σ H xs us Q I r h => call_len_seq pins s σ H xs us Q I r (let ⟨p, ys, e, hp, q⟩ := h; ⟨p, ys, e, .inl (SqL.of hp), q⟩)
/-- tuple of a list, in a block too -/
noncomputable def rTupL : List V → Hp → VK → Prop := fun xs H Q => ∃ (p : Addr) (ys : List V), xs = [.ref p] ∧ H p = some (.lst ys) ∧ ∀ q H', Same H H' → H' q = some (.tup ys) → Q (.ref q) H'
theorem call_tupL : CallR X (.type "tuple") rTupL := fun pins s σ H xs us Q I r h => call_tuple_of pins s σ H xs us Q I r (let ⟨p, ys, e, hp, q⟩ := h; ⟨p, ys, e, .inl ⟨SqL.of hp, fun l hl => q l _ (Same.new (Same.refl H) hl) upd_same⟩⟩)
end
end L2
namespace G2
open PySem L2
/-! ### rows of forms -/
noncomputable def Fms (H : Hp) : List Addr → List Fm → Prop
  | [], [] => True
  | q :: qs, f :: fs => FmAt H q f ∧ Fms H qs fs
  | _, _ => False
theorem Fms.tk {H H' : Hp} (k : TK H H') : ∀ {qs : List Addr} {fs : List Fm}, Fms H qs fs → Fms H' qs fs
  | [], [], _ => trivial
  | q :: qs, f :: fs, h => ⟨h.1.tk k, Fms.tk k h.2⟩
  | [], _ :: _, h => h.elim
  | _ :: _, [], h => h.elim
theorem Fms.len {H : Hp} : ∀ {qs : List Addr} {fs : List Fm}, Fms H qs fs → qs.length = fs.length
  | [], [], _ => rfl
  | q :: qs, f :: fs, h => by rw [List.length_cons, List.length_cons, Fms.len h.2]
  | [], _ :: _, h => h.elim
  | _ :: _, [], h => h.elim
theorem Fms.app {H : Hp} {ps : List Addr} {gs : List Fm} (h' : Fms H ps gs) : ∀ {qs : List Addr} {fs : List Fm}, Fms H qs fs → Fms H (qs ++ ps) (fs ++ gs)
  | [], [], _ => h'
  | q :: qs, f :: fs, h => ⟨h.1, Fms.app h' h.2⟩
  | [], _ :: _, h => h.elim
  | _ :: _, [], h => h.elim
theorem Fms.rd {H : Hp} : ∀ {qs : List Addr} {fs : List Fm}, Fms H qs fs → RdVs H (qs.map V.ref) (fs.map fmD)
  | [], [], _ => .nil
  | q :: qs, f :: fs, h => .cons (fm_rd h.1) (Fms.rd h.2)
  | [], _ :: _, h => h.elim
  | _ :: _, [], h => h.elim
theorem Fms.one {H : Hp} {q : Addr} {f : Fm} (h : FmAt H q f) : Fms H [q] [f] := ⟨h, trivial⟩
theorem Fms.two {H : Hp} {q r : Addr} {f g : Fm} (h : FmAt H q f) (h' : FmAt H r g) : Fms H [q, r] [f, g] := ⟨h, h', trivial⟩
/-! ### what may be shown -/
theorem all_shw {n h : Nat} : ∀ ds : List PyData, (∀ d ∈ ds, Shw d n h) → PyData.showableAll ds = true ∧ PyData.hasDictAll ds = false ∧ PyData.depthAll ds ≤ h ∧ ((PyData.shownAll ds).map (·.length)).sum ≤ n * ds.length ∧ (PyData.shownAll ds).length = ds.length
  | [], _ => ⟨rfl, rfl, Nat.zero_le _, Nat.zero_le _, rfl⟩
  | d :: ds, k => by
    obtain ⟨h1, h2, h3, h4, h5⟩ := all_shw ds fun x hx => k x (List.mem_cons_of_mem _ hx)
    have e := k d List.mem_cons_self
    have e3 := e.p
    have e4 := e.l
    refine ⟨?_, ?_, ?_, ?_, ?_⟩
    · simp only [PyData.showableAll, e.s, h1, Bool.and_self]
    · simp only [PyData.hasDictAll, e.nd, h2, Bool.or_self]
    · simp only [PyData.depthAll]
      omega
    · simp only [PyData.shownAll, List.map_cons, List.sum_cons, List.length_cons, Nat.mul_succ]
      omega
    · simp only [PyData.shownAll, List.length_cons, h5]
theorem Shw.tups {n h : Nat} {ds : List PyData} (k : ∀ d ∈ ds, Shw d n h) : Shw (.tuple ds) ((n + 2) * ds.length + 3) (h + 1) := by
  obtain ⟨h1, h2, h3, h4, h5⟩ := all_shw ds k
  refine ⟨by simp only [PyData.showable]; exact h1, by simp only [PyData.hasDict]; exact h2, ?_, ?_⟩
  · show PyData.depthAll _ + 1 ≤ h + 1
    omega
  · have := len_tup ds
    rw [Nat.add_mul]
    omega
/-- a value reads as one thing, as long as tuples stay; it may be shown -/
noncomputable def Rs (H : Hp) (v : V) (n h : Nat) : Prop := ∃ d, (∀ H', TK H H' → RdV H' v d) ∧ Shw d n h
theorem Rs.up {H : Hp} {v : V} {n h m i : Nat} (r : Rs H v n h) (h1 : n ≤ m) (h2 : h ≤ i) : Rs H v m i := let ⟨d, a, b⟩ := r; ⟨d, a, b.up h1 h2⟩
theorem Rs.big {H : Hp} {i : Int} (h : Bg i) : Rs H (.int i) 91 0 := ⟨_, fun _ _ => .int i, Shw.big h⟩
theorem Rs.int {H : Hp} {i : Int} (h : Sm i) : Rs H (.int i) 16 0 := ⟨_, fun _ _ => .int i, Shw.int h⟩
theorem Rs.all {H : Hp} {n h : Nat} : ∀ {vs : List V}, (∀ v ∈ vs, Rs H v n h) → ∃ ds : List PyData, ds.length = vs.length ∧ (∀ H', TK H H' → RdVs H' vs ds) ∧ ∀ d ∈ ds, Shw d n h
  | [], _ => ⟨[], rfl, fun _ _ => .nil, fun d hd => by cases hd⟩
  | v :: vs, k => by
    obtain ⟨ds, h1, h2, h3⟩ := Rs.all fun x hx => k x (List.mem_cons_of_mem _ hx)
    obtain ⟨d, a, b⟩ := k v List.mem_cons_self
    refine ⟨d :: ds, by rw [List.length_cons, List.length_cons, h1], fun H' t => .cons (a H' t) (h2 H' t), fun x hx => ?_⟩
    rcases List.mem_cons.mp hx with rfl | hx
    · exact b
    · exact h3 x hx
theorem Rs.tup {H : Hp} {n h : Nat} {p : Addr} {vs : List V} (e : H p = some (.tup vs)) (k : ∀ v ∈ vs, Rs H v n h) : Rs H (.ref p) ((n + 2) * vs.length + 3) (h + 1) := by
  obtain ⟨ds, h1, h2, h3⟩ := Rs.all k
  refine ⟨.tuple ds, fun H' t => .tup (t.t _ _ e) (h2 H' t), ?_⟩
  rw [← h1]
  exact Shw.tups h3
theorem Rs.tk {H H' : Hp} {v : V} {n h : Nat} (t : TK H H') (r : Rs H v n h) : Rs H' v n h := let ⟨d, a, b⟩ := r; ⟨d, fun H2 t2 => a H2 (t.trans t2), b⟩
section
variable {D : Addr} {te : TE} {tc : TT} {Q : VK} {ρ : St} {H : Hp} {K : PySem.W.Frag} {a b : Addr}
end
end G2

set_option Elab.async false
set_option linter.all false
set_option maxRecDepth 100000
namespace L2
open PySem PySem.Spec PyProof.Rows

/-! ### lists of pairs as tables -/
section
variable {κ : Type} [DecidableEq κ]
noncomputable def valV (kvs : List (κ × V)) (k : κ) : Option V := (kvs.find? fun kv => decide (kv.1 = k)).map (·.2)
/-- in its place, or at the end -/
noncomputable def putK (kvs : List (κ × V)) (k : κ) (v : V) : List (κ × V) :=
  if (kvs.any fun kv => decide (kv.1 = k)) = true then kvs.map (fun kv => if kv.1 = k then (kv.1, v) else kv) else kvs ++ [(k, v)]
noncomputable def dropK (kvs : List (κ × V)) (k : κ) : List (κ × V) := kvs.filter fun kv => decide (kv.1 ≠ k)

theorem valV_pos {p : κ × V} {r : List (κ × V)} {k : κ} (e : p.1 = k) : valV (p :: r) k = some p.2 := by simp [valV, List.find?_cons, e]
theorem valV_neg {p : κ × V} {r : List (κ × V)} {k : κ} (e : ¬ p.1 = k) : valV (p :: r) k = valV r k := by simp [valV, List.find?_cons, e]
theorem valV_any (k : κ) : ∀ kvs : List (κ × V), (kvs.any fun kv => decide (kv.1 = k)) = (valV kvs k).isSome
  | [] => rfl
  | p :: r => by
    rw [List.any_cons]
    by_cases e : p.1 = k
    · simp only [valV_pos e, decide_eq_true e, Bool.true_or, Option.isSome_some]
    · rw [valV_neg e, decide_eq_false e, Bool.false_or]; exact valV_any k r

theorem RelO.isSome_eq {o : Option V} {u : Option Value} (r : RelO o u) : o.isSome = u.isSome := by
  cases o with
  | none => cases u with
    | none => rfl
    | some _ => exact (show False from r).elim
  | some _ => cases u with
    | none => exact (show False from r).elim
    | some _ => rfl
theorem RelO.getD {o : Option V} {u : Option Value} {d : V} {d' : Value} (r : RelO o u) (rd : RelV d d') : RelV (o.getD d) (u.getD d') := by
  cases o with
  | none => cases u with
    | none => exact rd
    | some _ => exact (show False from r).elim
  | some _ => cases u with
    | none => exact (show False from r).elim
    | some _ => exact r

/-- raw tables of the same keys -/
theorem KV.val {kvs : List (κ × V)} {vs : List (κ × Value)} (r : KV kvs vs) (k : κ) : RelO (valV kvs k) (valueAt vs k) := by
  unfold KV at r
  induction r with
  | nil => exact True.intro
  | @cons p q ps qs h t ih =>
    obtain ⟨h1, h2⟩ := h
    by_cases e : p.1 = k
    · have e' : q.1 = k := h1.symm.trans e
      have b : valueAt (q :: qs) k = some q.2 := by simp [valueAt, List.find?_cons, e']
      rw [valV_pos e, b]; exact h2
    · have e' : ¬ q.1 = k := fun z => e (h1.trans z)
      have b : valueAt (q :: qs) k = valueAt qs k := by simp [valueAt, List.find?_cons, e']
      rw [valV_neg e, b]; exact ih
theorem KV.any {kvs : List (κ × V)} {vs : List (κ × Value)} (r : KV kvs vs) (k : κ) : (kvs.any fun kv => decide (kv.1 = k)) = vs.any fun kv => decide (kv.1 = k) := by
  unfold KV at r
  induction r with
  | nil => rfl
  | cons h t ih => rw [List.any_cons, List.any_cons, ih, h.1]
theorem KV.repl {kvs : List (κ × V)} {vs : List (κ × Value)} (r : KV kvs vs) (k : κ) {y : V} {u : Value} (ry : RelV y u) :
    KV (kvs.map fun kv => if kv.1 = k then (kv.1, y) else kv) (vs.map fun kv => if kv.1 = k then (kv.1, u) else kv) := by
  unfold KV at r ⊢
  induction r with
  | nil => exact .nil
  | @cons p q ps qs h t ih =>
    rw [List.map_cons, List.map_cons]
    refine .cons ?_ ih
    obtain ⟨h1, h2⟩ := h
    by_cases e : p.1 = k
    · rw [if_pos e, if_pos (h1.symm.trans e)]; exact ⟨h1, ry⟩
    · rw [if_neg e, if_neg (fun z => e (h1.trans z))]; exact ⟨h1, h2⟩
theorem KV.put {kvs : List (κ × V)} {vs : List (κ × Value)} (r : KV kvs vs) (k : κ) {y : V} {u : Value} (ry : RelV y u) : KV (putK kvs k y) (stored vs k u) := by
  unfold putK stored
  rw [r.any k]
  by_cases e : (vs.any fun kv => decide (kv.1 = k)) = true
  · rw [if_pos e, if_pos e]; exact r.repl k ry
  · rw [if_neg e, if_neg e]; exact Paired.snoc r ⟨rfl, ry⟩
theorem KV.drop {kvs : List (κ × V)} {vs : List (κ × Value)} (r : KV kvs vs) (k : κ) : KV (dropK kvs k) (without vs k) := by
  unfold KV at r ⊢
  unfold dropK without
  induction r with
  | nil => exact .nil
  | @cons p q ps qs h t ih =>
    obtain ⟨h1, h2⟩ := h
    rw [List.filter_cons, List.filter_cons]
    by_cases e : p.1 = k
    · have a : ¬ decide (p.1 ≠ k) = true := by simp [e]
      have b : ¬ decide (q.1 ≠ k) = true := by simp [h1.symm.trans e]
      rw [if_neg a, if_neg b]; exact ih
    · have e' : ¬ q.1 = k := fun z => e (h1.trans z)
      have a : decide (p.1 ≠ k) = true := by simp [e]
      have b : decide (q.1 ≠ k) = true := by simp [e']
      rw [if_pos a, if_pos b]; exact .cons ⟨h1, h2⟩ ih
theorem KV.keys {kvs : List (κ × V)} {vs : List (κ × Value)} (r : KV kvs vs) : kvs.map (·.1) = vs.map (·.1) := by
  unfold KV at r
  induction r with
  | nil => rfl
  | cons h t ih => rw [List.map_cons, List.map_cons, ih, h.1]
theorem KV.length {kvs : List (κ × V)} {vs : List (κ × Value)} (r : KV kvs vs) : kvs.length = vs.length := Paired.length r
end


/-! ### a tracked dict, its keys ints and texts or tuples of these -/

/-- raw entries of a dict with tuple keys -/
noncomputable abbrev KT (H : Hp) : List (List Key × V) → List (List Key × Addr × Value) → Prop := Paired fun p q => p.1 = q.1 ∧ H q.2.1 = some (.tup (p.1.map kV)) ∧ RelV p.2 q.2.2
theorem KT.val {H : Hp} {kvs : List (List Key × V)} {xs : List (List Key × Addr × Value)} (r : KT H kvs xs) (k : List Key) : RelO (valV kvs k) ((atKey xs k).map (·.2)) := by
  induction r with
  | nil => exact True.intro
  | @cons p q ps qs h t ih =>
    obtain ⟨h1, _, h2⟩ := h
    by_cases e : p.1 = k
    · have e' : q.1 = k := h1.symm.trans e
      have b : atKey (q :: qs) k = some q.2 := by simp [atKey, List.find?_cons, e']
      rw [valV_pos e, b]; exact h2
    · have e' : ¬ q.1 = k := fun z => e (h1.trans z)
      have b : atKey (q :: qs) k = atKey qs k := by simp [atKey, List.find?_cons, e']
      rw [valV_neg e, b]; exact ih
theorem KT.repl {H : Hp} {kvs : List (List Key × V)} {xs : List (List Key × Addr × Value)} (r : KT H kvs xs) (k : List Key) {y : V} {u : Value} (ry : RelV y u) :
    KT H (kvs.map fun kv => if kv.1 = k then (kv.1, y) else kv) (xs.map (putAt k u)) := by
  induction r with
  | nil => exact .nil
  | @cons p q ps qs h t ih =>
    rw [List.map_cons, List.map_cons]
    refine .cons ?_ ih
    obtain ⟨h1, h2, h3⟩ := h
    unfold putAt
    by_cases e : p.1 = k
    · rw [if_pos e, if_pos (h1.symm.trans e)]; exact ⟨h1, h2, ry⟩
    · rw [if_neg e, if_neg (fun z => e (h1.trans z))]; exact ⟨h1, h2, h3⟩
theorem KT.put {H : Hp} {kvs : List (List Key × V)} {xs : List (List Key × Addr × Value)} (r : KT H kvs xs) (k : List Key) {b : Addr} {y : V} {u : Value} (hb : H b = some (.tup (k.map kV))) (ry : RelV y u) :
    KT H (putK kvs k y) (storedH xs k b u) := by
  have e : (kvs.any fun kv => decide (kv.1 = k)) = (atKey xs k).isSome := by
    rw [valV_any, (r.val k).isSome_eq, Option.isSome_map]
  unfold putK storedH
  rw [e]
  by_cases q : (atKey xs k).isSome = true
  · rw [if_pos q, if_pos q]; exact r.repl k ry
  · rw [if_neg q, if_neg q]; exact Paired.snoc r ⟨rfl, hb, ry⟩
theorem KT.keeps {H H' : Hp} {kvs : List (List Key × V)} {xs : List (List Key × Addr × Value)} (r : KT H kvs xs) (ht : ∀ b ys, H b = some (.tup ys) → H' b = some (.tup ys)) : KT H' kvs xs :=
  Paired.mapP r fun _ _ z => ⟨z.1, ht _ _ z.2.1, z.2.2⟩

section
variable {P : Program} {w : World} {H : Hp} {h : Heap} {a : Addr}
end

/-- what the dict at a holds at the key y -/
noncomputable def DGet (H : Hp) (a : Addr) (y : V) (r : Option V) : Prop :=
  (∃ kvs k, Rd H a (.dK kvs) ∧ y = kV k ∧ r = valV kvs k) ∨ ∃ kvs k b, Rd H a (.dT kvs) ∧ y = .ref b ∧ H b = some (.tup (k.map kV)) ∧ r = valV kvs k
/-- the heap behind a[y] = v -/
noncomputable def DPut (H : Hp) (a : Addr) (y v : V) (H' : Hp) : Prop :=
  (∃ kvs k, H a = some (.dK kvs) ∧ y = kV k ∧ kvs.length < sizeLine ∧ H' = upd H a (.dK (putK kvs k v))) ∨
  ∃ kvs k b, H a = some (.dT kvs) ∧ y = .ref b ∧ H b = some (.tup (k.map kV)) ∧ kvs.length < sizeLine ∧ H' = upd H a (.dT (putK kvs k v))
theorem DGet.k {H : Hp} {a : Addr} {kvs : List (Key × V)} {k : Key} (e : H a = some (.dK kvs)) : DGet H a (kV k) (valV kvs k) := .inl ⟨kvs, k, .inl e, rfl, rfl⟩
theorem DGet.t {H : Hp} {a b : Addr} {kvs : List (List Key × V)} {k : List Key} (e : H a = some (.dT kvs)) (eb : H b = some (.tup (k.map kV))) : DGet H a (.ref b) (valV kvs k) := .inr ⟨kvs, k, b, .inl e, rfl, eb, rfl⟩
theorem DPut.k {H : Hp} {a : Addr} {kvs : List (Key × V)} {k : Key} {v : V} (e : H a = some (.dK kvs)) (hl : kvs.length < sizeLine) : DPut H a (kV k) v (upd H a (.dK (putK kvs k v))) := .inl ⟨kvs, k, e, rfl, hl, rfl⟩
theorem DPut.t {H : Hp} {a b : Addr} {kvs : List (List Key × V)} {k : List Key} {v : V} (e : H a = some (.dT kvs)) (eb : H b = some (.tup (k.map kV))) (hl : kvs.length < sizeLine) :
    DPut H a (.ref b) v (upd H a (.dT (putK kvs k v))) := .inr ⟨kvs, k, b, e, rfl, eb, hl, rfl⟩


section
variable {X : Cx} {pins : List (Addr × Obj)} {σ : St} {H : Hp} {s : Shared} {a : Addr} {y v : V} {u r : Value} {o : Option V} {A : Around} {E : Value → Shared → Prop}

theorem Inv.big (I : Inv X pins σ H s) : sysModules < s.heap.objs.size := by
  have h : mainGlobals < s.heap.objs.size := (I.mod.glob.keeps I.bk).lt
  exact Nat.lt_trans (by decide) h

end

section
variable {X : Cx} {pins : List (Addr × Obj)} {σ : St} {H : Hp} {s : Shared} {a : Addr} {kvs : List (Key × V)} {k : Key} {u : Value} {A : Around} {E : Value → Shared → Prop}
end


/-! ### readings and rules -/
/-- the element of a subscription, not a slice -/
noncomputable def NoSl (i : Expr) : Prop := ∀ ov iv, subscripted i false ov iv = operate [ov, iv] (getItem ov iv)


/-- d[y] -/
noncomputable def tDGet (td ty : TE) : TE := fun σ H Q => td σ H fun x H1 => ty σ H1 fun y H2 => ∃ a v, x = .ref a ∧ DGet H2 a y (some v) ∧ Q v H2
/-- y in d, y not in d -/
noncomputable def tDIn (ty td : TE) : TE := fun σ H Q => ty σ H fun y H1 => td σ H1 fun x H2 => ∃ a o, x = .ref a ∧ DGet H2 a y o ∧ Q (.bl o.isSome) H2
noncomputable def tDNotIn (ty td : TE) : TE := fun σ H Q => ty σ H fun y H1 => td σ H1 fun x H2 => ∃ a o, x = .ref a ∧ DGet H2 a y o ∧ Q (.bl (!o.isSome)) H2
/-- d[y] = v -/
noncomputable def sDPut (td ty tv : TE) : TS := fun D σ H => tv σ H fun v H1 => td σ H1 fun x H2 => ty σ H2 fun y H3 => ∃ a H4, x = .ref a ∧ DPut H3 a y v H4 ∧ D.nx σ H4
/-- d[y] op= v -/
noncomputable def sDAug (td ty tv : TE) (rd : V → V → Hp → VK → Prop) : TS := fun D σ H => td σ H fun x H1 => ty σ H1 fun y H2 => ∃ a v, x = .ref a ∧ DGet H2 a y (some v) ∧
  tv σ H2 fun y2 H3 => rd v y2 H3 fun z H4 => ∃ H5, DPut H4 a y z H5 ∧ D.nx σ H5
/-- del d[y] -/
noncomputable def sDDel (td ty : TE) : TS := fun D σ H => td σ H fun x H1 => ty σ H1 fun y H2 => ∃ a kvs k, x = .ref a ∧ H2 a = some (.dK kvs) ∧ y = kV k ∧ (valV kvs k).isSome = true ∧ D.nx σ (upd H2 a (.dK (dropK kvs k)))

section
variable {X : Cx} {o i e value : Expr} {pos pos' tpos : Pos} {td ty tv : TE}
end


/-! ### displays -/
theorem dk_empty {P : Program} {w : World} {H : Hp} (h : Heap) (hb : sysModules < h.objs.size) : ObjOk P w H (h.push { cls := .type "dict", data := .dict #[] }) h.objs.size (.dK []) :=
  ⟨Nat.zero_le _, beq_eq_false_iff_ne.mpr (Ne.symm (Nat.ne_of_lt hb)), [], .nil, Heap.DictOf.new h⟩
/-- {}, to be a dict of the kind that is wanted -/
noncomputable def tDNewK : TE := fun _ H Q => ∀ p, H p = none → Q (.ref p) (upd H p (.dK []))
noncomputable def tDNewT : TE := fun _ H Q => ∀ p, H p = none → Q (.ref p) (upd H p (.dT []))
section
variable {X : Cx} {pos : Pos}
theorem pe_dnewK : PE X (.Dict [] [] pos) tDNewK := fun pins s σ H Q I h =>
  wpAny_Dict_empty ⟨.ref s.heap.objs.size, _, I.laid (a := s.heap.objs.size) (o := .dK []) (t' := s.toks) (fun _ _ q => Heap.get?_push_of_some _ q) (Nat.le_refl _) (dk_empty s.heap I.big), rfl, h _ (I.hok.fresh (Nat.le_refl _))⟩
end

/-- the pairs of a display, from the left -/
noncomputable def tPairs : List (TE × TE) → St → Hp → (List (V × V) → Hp → Prop) → Prop
  | [], _, H, Q => Q [] H
  | (tk, tv) :: r, σ, H, Q => tk σ H fun x H1 => tv σ H1 fun y H2 => tPairs r σ H2 fun ps H3 => Q ((x, y) :: ps) H3
noncomputable abbrev VV : List (V × V) → List (Value × Value) → Prop := Paired fun p q => RelV p.1 q.1 ∧ RelV p.2 q.2
noncomputable def PPs (X : Cx) (pos : Pos) (keys : List (Option Expr)) (values : List Expr) (trs : List (TE × TE)) : Prop :=
  ∀ (pins : List (Addr × Obj)) (s : Shared) (σ : St) (H : Hp) (Q : List (V × V) → Hp → Prop), Inv X pins σ H s → tPairs trs σ H Q →
    wpAny (model X.prog X.w) X.A (evalPairs (pairTrees keys values X.env pos)) (fun vs s' => ∃ ps H', Inv X pins σ H' s' ∧ VV ps vs ∧ Q ps H') X.xe s

noncomputable def mergeK (kvs more : List (Key × V)) : List (Key × V) := more.foldl (fun acc kv => putK acc kv.1 kv.2) kvs
/-- {k: v, ..} with keys ints and texts; the new dict stands empty while the pairs are made -/
noncomputable def tDisp (trs : List (TE × TE)) : TE := fun σ H Q => ∀ p, H p = none → tPairs trs σ (upd H p (.dK [])) fun ps H2 => H2 p = some (.dK []) ∧ ∃ kvs : List (Key × V), ps = kvs.map (fun kv => (kV kv.1, kv.2)) ∧ kvs.length ≤ 15 ∧ Q (.ref p) (upd H2 p (.dK (mergeK [] kvs)))


/-! ### methods -/
/-- a method call o.m(e) of a built-in, with one argument: what must be seen of the text -/
structure M1 (X : Cx) (o : Expr) (m : Str) (apos : Pos) (e : Expr) (cpos : Pos) : Prop where
  base : attributeBase o m X.env (eval o X.env) = eval o X.env
  few : ((backTo cpos (starEach [e] X.env)).all (fun x => !x.1) && (backToKw cpos (keywordEach [] X.env)).all (fun x => x.1.isSome)
    && decide (([e] : List Expr).length + ([] : List Keyword).length + (if ([] : List Keyword).isEmpty then 0 else 1) < 30)) = true
  line : (apos.endLine == cpos.line) = true
  trees : backTo cpos (starEach [e] X.env) = [(false, eval e X.env)]
structure M2 (X : Cx) (o : Expr) (m : Str) (apos : Pos) (e f : Expr) (cpos : Pos) : Prop where
  base : attributeBase o m X.env (eval o X.env) = eval o X.env
  few : ((backTo cpos (starEach [e, f] X.env)).all (fun x => !x.1) && (backToKw cpos (keywordEach [] X.env)).all (fun x => x.1.isSome)
    && decide (([e, f] : List Expr).length + ([] : List Keyword).length + (if ([] : List Keyword).isEmpty then 0 else 1) < 30)) = true
  line : (apos.endLine == cpos.line) = true
  trees : backTo cpos (starEach [e, f] X.env) = [(false, eval e X.env), (false, eval f X.env)]

/-- a is a dict, whatever its keys -/
noncomputable def IsD (H : Hp) (a : Addr) : Prop := (∃ kvs, Rd H a (.dK kvs)) ∨ ∃ kvs, Rd H a (.dT kvs)

section
variable {X : Cx} {pins : List (Addr × Obj)} {σ : St} {H : Hp} {s : Shared} {a : Addr} {y d : V} {u r : Value} {o : Option V} {A : Around} {E : Value → Shared → Prop}
end

noncomputable def tDGet1 (td ty : TE) : TE := fun σ H Q => td σ H fun x H1 => ∃ a, x = .ref a ∧ IsD H1 a ∧ ty σ H1 fun y H2 => ∃ o, DGet H2 a y o ∧ Q (o.getD .non) H2
noncomputable def tDGet2 (td ty tx : TE) : TE := fun σ H Q => td σ H fun x H1 => ∃ a, x = .ref a ∧ IsD H1 a ∧ ty σ H1 fun y H2 => tx σ H2 fun z H3 => ∃ o, DGet H3 a y o ∧ Q (o.getD z) H3
/-- d.pop(k): there; d.pop(k, x): there or not -/
noncomputable def tDPop1 (td ty : TE) : TE := fun σ H Q => td σ H fun x H1 => ∃ a, x = .ref a ∧ IsD H1 a ∧ ty σ H1 fun y H2 => ∃ kvs k v, H2 a = some (.dK kvs) ∧ y = kV k ∧ valV kvs k = some v ∧ Q v (upd H2 a (.dK (dropK kvs k)))
noncomputable def tDPop2 (td ty tx : TE) : TE := fun σ H Q => td σ H fun x H1 => ∃ a, x = .ref a ∧ IsD H1 a ∧ ty σ H1 fun y H2 => tx σ H2 fun z H3 => ∃ kvs k, H3 a = some (.dK kvs) ∧ y = kV k ∧
  (∀ v, valV kvs k = some v → Q v (upd H3 a (.dK (dropK kvs k)))) ∧ (valV kvs k = none → Q z H3)
section
variable {X : Cx} {o e f : Expr} {apos cpos : Pos} {td ty tx : TE}
end

/-! ### dict(d): a copy -/
section
variable {X : Cx} {pins : List (Addr × Obj)} {σ : St} {H : Hp} {s : Shared} {a : Addr} {kvs : List (Key × V)} {A : Around} {E : Value → Shared → Prop}
end


section
variable {X : Cx} {pins : List (Addr × Obj)} {σ : St} {H : Hp} {s : Shared} {a : Addr} {y : V} {u : Value} {A : Around} {E : Value → Shared → Prop}
end
end L2

set_option Elab.async false
set_option linter.all false
set_option maxRecDepth 100000
namespace L2
open PySem PySem.Spec PyProof.Rows
section
variable {X : Cx} {pins : List (Addr × Obj)} {σ : St} {H : Hp} {s : Shared} {a o : Addr} {kvs more : List (Key × V)} {A : Around} {E : Value → Shared → Prop}
end
/-- d.update(e) -/
noncomputable def tDUpd (td ty : TE) : TE := fun σ H Q => td σ H fun x H1 => ∃ a, x = .ref a ∧ IsD H1 a ∧ ty σ H1 fun y H2 => ∃ o kvs more, y = .ref o ∧ H2 a = some (.dK kvs) ∧ H2 o = some (.dK more) ∧ a ≠ o ∧ kvs.length + more.length ≤ 1000 ∧ Q .non (upd H2 a (.dK (mergeK kvs more)))
end L2

set_option Elab.async false
set_option linter.all false
set_option maxRecDepth 100000
namespace L2
open PySem PySem.Spec PyProof.Rows
section
variable {X : Cx} {k : Nat}
/-- xs == [], whatever stands in xs -/
noncomputable def rEqE : R2 := fun x y H Q => ∃ (a z : Addr) (xs : List V), x = .ref a ∧ y = .ref z ∧ H a = some (.lst xs) ∧ H z = some (.lst []) ∧ Q (.bl xs.isEmpty) H
noncomputable def rNeE : R2 := fun x y H Q => ∃ (a z : Addr) (xs : List V), x = .ref a ∧ y = .ref z ∧ H a = some (.lst xs) ∧ H z = some (.lst []) ∧ Q (.bl (!xs.isEmpty)) H
/-- dict(d) -/
noncomputable def rDictC : List V → Hp → VK → Prop := fun xs H Q => ∃ (a : Addr) (kvs : List (Key × V)), xs = [.ref a] ∧ H a = some (.dK kvs) ∧ ∀ p, H p = none → Q (.ref p) (upd H p (.dK kvs))
end
end L2

set_option Elab.async false
set_option linter.all false
set_option maxRecDepth 100000
namespace PySem.SeqAt
open PySem.MeetsSeq PySem PySem.Spec
section
variable {A : Around} {s : Shared}
end
end PySem.SeqAt
namespace HT
open PySem PySem.Spec PyProof.Rows
section
variable {prog : Program} {w : World} {A : Around} {E : Value → Shared → Prop} {s : Shared}
end
end HT
namespace L2
open PySem PySem.Spec PyProof.Rows
/-- t[::-1] -/
noncomputable def tRev (te : TE) : TE := fun σ H Q => te σ H fun x H1 => ∃ (a : Addr) (xs : List V), x = .ref a ∧ H1 a = some (.tup xs) ∧ ∀ q, H1 q = none → Q (.ref q) (upd H1 q (.tup xs.reverse))
end L2

set_option Elab.async false
set_option linter.all false
set_option maxRecDepth 100000
namespace L2
open PySem PySem.Spec PyProof.Rows
/-! ### things of any kind -/
inductive Th where
  | non
  | bl (b : Bool)
  | int (i : Int)
  | str (s : Str)
  | tup (ts : List Th)
  | lst
  | dct
mutual
inductive ThAt (H : Hp) : V → Th → Prop
  | non : ThAt H .non .non
  | bl (b : Bool) : ThAt H (.bl b) (.bl b)
  | int (i : Int) : ThAt H (.int i) (.int i)
  | str (s : Str) : ThAt H (.str s) (.str s)
  | tup {p : Addr} {vs : List V} {ts : List Th} : H p = some (.tup vs) → ThsAt H vs ts → ThAt H (.ref p) (.tup ts)
  | lst {p : Addr} {vs : List V} : H p = some (.lst vs) → ThAt H (.ref p) .lst
  | dct {p : Addr} {kvs : List (Key × V)} : H p = some (.dK kvs) → ThAt H (.ref p) .dct
inductive ThsAt (H : Hp) : List V → List Th → Prop
  | nil : ThsAt H [] []
  | cons {v : V} {t : Th} {vs : List V} {ts : List Th} : ThAt H v t → ThsAt H vs ts → ThsAt H (v :: vs) (t :: ts)
end
/-- the kinds stay -/
structure KS (H H' : Hp) : Prop where
  t : ∀ q xs, H q = some (.tup xs) → H' q = some (.tup xs)
  l : ∀ q xs, H q = some (.lst xs) → ∃ ys, H' q = some (.lst ys)
  d : ∀ q xs, H q = some (.dK xs) → ∃ ys, H' q = some (.dK ys)
section
variable {H H' H'' : Hp} {a : Addr}
theorem KS.refl : KS H H := ⟨fun _ _ e => e, fun _ _ e => ⟨_, e⟩, fun _ _ e => ⟨_, e⟩⟩
theorem KS.same (k : Same H H') : KS H H' := ⟨fun _ _ e => k _ _ e, fun _ _ e => ⟨_, k _ _ e⟩, fun _ _ e => ⟨_, k _ _ e⟩⟩
theorem KS.trans (x : KS H H') (y : KS H' H'') : KS H H'' := ⟨fun q xs e => y.t _ _ (x.t _ _ e), fun q xs e => let ⟨ys, e'⟩ := x.l _ _ e; y.l _ _ e', fun q xs e => let ⟨ys, e'⟩ := x.d _ _ e; y.d _ _ e'⟩
theorem KS.new {o : HO} (h : H a = none) : KS H (upd H a o) := KS.same (Same.new (Same.refl H) h)
theorem KS.lst {xs ys : List V} (h : H a = some (.lst xs)) : KS H (upd H a (.lst ys)) :=
  ⟨fun q zs e => by rw [upd_ne (ne_of e h (by intro z; cases z))]; exact e, fun q zs e => by
    by_cases hq : q = a
    · subst hq
      exact ⟨_, upd_same⟩
    · exact ⟨_, by rw [upd_ne hq]; exact e⟩, fun q zs e => ⟨_, by rw [upd_ne (ne_of e h (by intro z; cases z))]; exact e⟩⟩
mutual
theorem ThAt.ks (k : KS H H') {v : V} {t : Th} : ThAt H v t → ThAt H' v t
  | .non => .non
  | .bl b => .bl b
  | .int i => .int i
  | .str s => .str s
  | .tup h hs => .tup (k.t _ _ h) (ThsAt.ks k hs)
  | .lst h => let ⟨_, h'⟩ := k.l _ _ h; .lst h'
  | .dct h => let ⟨_, h'⟩ := k.d _ _ h; .dct h'
theorem ThsAt.ks (k : KS H H') {vs : List V} {ts : List Th} : ThsAt H vs ts → ThsAt H' vs ts
  | .nil => .nil
  | .cons h hs => .cons (ThAt.ks k h) (ThsAt.ks k hs)
end
theorem ThsAt.len : ∀ {vs : List V} {ts : List Th}, ThsAt H vs ts → vs.length = ts.length
  | [], [], _ => rfl
  | v :: vs, t :: ts, .cons _ h => by rw [List.length_cons, List.length_cons, ThsAt.len h]
theorem ThsAt.at : ∀ {vs : List V} {ts : List Th}, ThsAt H vs ts → ∀ {i : Nat} {t : Th}, ts[i]? = some t → ∃ v, vs[i]? = some v ∧ ThAt H v t
  | v :: vs, t :: ts, .cons h hs, 0, u, e => ⟨v, rfl, by
    have : t = u := by simpa using e
    exact this ▸ h⟩
  | v :: vs, t :: ts, .cons h hs, i + 1, u, e => by
    obtain ⟨w, h1, h2⟩ := ThsAt.at hs (i := i) (t := u) (by simpa using e)
    exact ⟨w, by simpa using h1, h2⟩
  | [], [], .nil, i, u, e => by simp at e
theorem ThsAt.app : ∀ {vs ws : List V} {ts us : List Th}, ThsAt H vs ts → ThsAt H ws us → ThsAt H (vs ++ ws) (ts ++ us)
  | [], _, [], _, .nil, h => h
  | _ :: _, _, _ :: _, _, .cons a b, h => .cons a (ThsAt.app b h)
theorem ThsAt.take : ∀ (n : Nat) {vs : List V} {ts : List Th}, ThsAt H vs ts → ThsAt H (vs.take n) (ts.take n)
  | 0, _, _, _ => by simpa using ThsAt.nil
  | n + 1, [], [], .nil => .nil
  | n + 1, _ :: _, _ :: _, .cons a b => .cons a (ThsAt.take n b)
theorem ThsAt.drop : ∀ (n : Nat) {vs : List V} {ts : List Th}, ThsAt H vs ts → ThsAt H (vs.drop n) (ts.drop n)
  | 0, _, _, h => h
  | n + 1, [], [], .nil => .nil
  | n + 1, _ :: _, _ :: _, .cons a b => ThsAt.drop n b
end
noncomputable def cutT (ts : List Th) (lo hi : Option Int) : List Th := (ts.drop (HT.sIx ts.length 0 lo)).take (HT.sIx ts.length ts.length hi - HT.sIx ts.length 0 lo)
/-- the kinds -/
noncomputable def Th.tn : Th → String
  | .non => "NoneType"
  | .bl _ => "bool"
  | .int _ => "int"
  | .str _ => "str"
  | .tup _ => "tuple"
  | .lst => "list"
  | .dct => "dict"
theorem ThAt.ty {K : PySem.W.Frag} {H : Hp} {v : V} {t : Th} (h : ThAt H v t) : TyOf K H v (.type t.tn) := by
  cases h with
  | non => exact .non
  | bl b => exact .bl b
  | int i => exact .int i
  | str s => exact .str s
  | tup h _ => exact .tup h
  | lst h => exact .lst h
  | dct h => exact .dK h
noncomputable def Th.isI : Th → Bool
  | .bl _ => true
  | .int _ => true
  | _ => false
noncomputable def Th.isB : Th → Bool
  | .bl _ => true
  | _ => false
noncomputable def Th.isT : Th → Bool
  | .tup _ => true
  | _ => false
noncomputable def Th.isS : Th → Bool
  | .str _ => true
  | _ => false
noncomputable def Th.isL : Th → Bool
  | .lst => true
  | _ => false
noncomputable def rIsTh (n : String) (f : Th → Bool) : List V → Hp → VK → Prop := fun xs H Q => ∃ v t, xs = [v, .ty n] ∧ ThAt H v t ∧ Q (.bl (f t)) H
section
variable {X : Cx} {k : Nat}
/-- x not in a tuple of words -/
noncomputable def Th.inW (ws : List Str) : Th → Bool
  | .str s => ws.any fun a => a == s
  | _ => false
noncomputable def eqT : Th → Value → Bool
  | .str s, .str a _ => a == s
  | _, _ => false
noncomputable def rNotW (K : PySem.W.Frag) (ws : List Str) : R2 := fun x y H Q => ∃ a t, y = .ref a ∧ SqT K H a (ws.map V.str) ∧ ThAt H x t ∧ Q (.bl (!t.inW ws)) H
end
/-- a tuple that a module holds -/
noncomputable def GTup (K : PySem.W.Frag) (mg : Str → Option Value) (x : Str) (vs : List V) : Prop := ∃ (a : Addr) (o : Obj) (its : Array Value) (n : Nat), mg x = some (.ref a) ∧ K.lookup a = some o ∧ o.cls = .type "tuple" ∧ o.data = .seq its n ∧ its.size ≤ sizeLine ∧ Vals vs its.toList
theorem GTup.sq {K : PySem.W.Frag} {mg : Str → Option Value} {x : Str} {vs : List V} (g : GTup K mg x vs) : ∃ a, mg x = some (.ref a) ∧ ∀ H, SqT K H a vs := by
  obtain ⟨a, o, its, n, h1, h2, h3, h4, h5, h6⟩ := g
  exact ⟨a, h1, fun H => .inr ⟨o, its, n, h2, h3, h4, h5, h6⟩⟩
/-- its name, its items -/
noncomputable def tGT (K : PySem.W.Frag) (vs : List V) : TE := fun _ H Q => ∀ a, SqT K H a vs → Q (.ref a) H
theorem pe_gt {X : Cx} {x : Str} {vs : List V} {pos : Pos} (g : GTup X.K X.mg x vs) (hg : Gl X x := by rfl) (hd : (x == ("__debug__" : Str)) = false := by decide) : PE X (.Name x pos) (tGT X.K vs) := by
  obtain ⟨a, h1, h2⟩ := g.sq
  exact fun pins s σ H Q I h => pe_glob hg h1 (v := .ref a) rfl hd pins s σ H Q I (h a (h2 H))
end L2

set_option Elab.async false
set_option linter.all false
set_option maxRecDepth 100000
namespace L2
open PySem PySem.Spec PyProof.Rows Builtin Builtin.Str
/-! ### texts: split, join, startswith, str of an int, int of a text -/
theorem vals_texts : ∀ (l : List (Str × Tok)), Vals ((l.map (·.1)).map V.str) (strValues l)
  | [] => .nil
  | p :: l => .cons ⟨p.2, rfl⟩ (vals_texts l)
theorem texts_of : ∀ {xs : List Str} {us : List Value}, Vals (xs.map V.str) us → ∃ l : List (Str × Tok), us = strValues l ∧ l.map (·.1) = xs
  | [], _, .nil => ⟨[], rfl, rfl⟩
  | x :: xs, _, .cons r1 r2 => by
    obtain ⟨t, rfl⟩ := r1
    obtain ⟨l, rfl, e⟩ := texts_of r2
    exact ⟨(x, t) :: l, rfl, by rw [List.map_cons, e]⟩
section
variable {X : Cx}
/-- a.split(b) -/
noncomputable def rSplit : V → List V → Hp → VK → Prop := fun x vs H Q => ∃ a b, x = .str a ∧ vs = [.str b] ∧ (b.length == 0) = false ∧ a.length ≤ 1000 ∧ ∀ l, H l = none → Q (.ref l) (upd H l (.lst ((Txt.split a b).map V.str)))
theorem mt_split : MtM X "str.split" rSplit := by
  intro pins s σ H x vs v us Q I rx rv h
  obtain ⟨a, b, rfl, rfl, hb, ha, q⟩ := h
  obtain ⟨t, rfl⟩ := rx
  obtain ⟨w, rfl, rw⟩ := rv.one
  obtain ⟨u, rfl⟩ := rw
  have hx : a.length ≤ sizeLine := by rw [sizeLine_eq]; omega
  have hl : (Txt.split a b).length ≤ sizeLine := by
    have := PyProof.Rows.split_le a b
    rw [sizeLine_eq]; omega
  have fin : ∀ (l : List (Str × Tok)) (k : Nat), l.map (·.1) = Txt.split a b → EP X pins σ Q (.ref s.heap.objs.size) { s with heap := s.heap.push { cls := .type "list", data := .seq (strValues l).toArray }, toks := k } := fun l k e => by
    have hv := vals_texts l
    rw [e] at hv
    exact ⟨.ref _, _, I.lnew (t' := k) hv (by rw [List.length_map]; exact hl), rfl, q _ I.fresh⟩
  cases h1 : (decide (a.length < b.length) || decide (Builtin.Str.strKind a < Builtin.Str.strKind b))
  · cases hf : (occurrences a b 0 a.length (a.length + 1)).isEmpty
    · have e : Txt.split a b = partsBetween a (occurrences a b 0 a.length (a.length + 1)) b.length := (if_neg (ne_true_of_eq_false h1)).trans (if_neg (ne_true_of_eq_false hf))
      refine call_meets F.slot_str_split (typeIs_str _ _ _) F.entry_str_split (F.args_str_split_2 _ _) (meets_str_split_sep a b t u h1 hb hf hx (by rw [← e]; exact hl)) ?_
      rw [strsFrom_eq]
      exact fin _ _ ((numbered_texts _ _).trans e.symm)
    · refine call_meets F.slot_str_split (typeIs_str _ _ _) F.entry_str_split (F.args_str_split_2 _ _) (meets_str_split_not_found a b t u h1 hb hf) ?_
      exact fin [(a, t)] _ ((if_neg (ne_true_of_eq_false h1)).trans (if_pos hf)).symm
  · refine call_meets F.slot_str_split (typeIs_str _ _ _) F.entry_str_split (F.args_str_split_2 _ _) (meets_str_split_cannot_occur a b t u h1) ?_
    exact fin [(a, t)] _ (if_pos h1).symm
/-- b.join(list of texts) -/
noncomputable def rJoin : V → List V → Hp → VK → Prop := fun x vs H Q => ∃ b p xs, x = .str b ∧ vs = [.ref p] ∧ H p = some (.lst (xs.map V.str)) ∧ JoinOk b xs = true ∧ (Txt.join b xs).length ≤ sizeLine ∧ Q (.str (Txt.join b xs)) H
theorem mt_join : MtM X "str.join" rJoin := by
  intro pins s σ H x vs v us Q I rx rv h
  obtain ⟨b, p, xs, rfl, rfl, hp, hj, hz, q⟩ := h
  obtain ⟨t, rfl⟩ := rx
  obtain ⟨w, rfl, rw⟩ := rv.one
  cases rw
  obtain ⟨its, n, r, e, z⟩ := I.lst hp
  obtain ⟨l, rfl, rfl⟩ := texts_of r
  have hj' : tooLong ((l.map (·.1)).toArray.foldl (· + ·.length + b.length) 0) = false := by
    unfold JoinOk at hj
    simpa using hj
  refine call_meets F.slot_str_join (typeIs_str _ _ _) F.entry_str_join (F.args_str_join_2 _ _) (meets_str_join_list b t p l hj') ⟨⟨_, e, rfl, _, rfl⟩, ?_⟩
  match l, hz, q with
  | [], hz, q => exact ⟨hz, ⟨.str _, H, I.tok _, ⟨_, rfl⟩, q⟩⟩
  | [c], hz, q => exact ⟨.str _, H, I, ⟨_, rfl⟩, q⟩
  | c :: d :: l, hz, q => exact ⟨hz, ⟨.str _, H, I.tok _, ⟨_, rfl⟩, q⟩⟩
/-- a.startswith(b) -/
noncomputable def rStarts : V → List V → Hp → VK → Prop := fun x vs H Q => ∃ a b, x = .str a ∧ vs = [.str b] ∧ Q (.bl (Txt.startswith a b)) H
/-- int(text) -/
theorem call_intS : CallR X (.type "int") (fun xs H Q => ∃ (a : Str) (i : Int), xs = [.str a] ∧ PySem.intText? a = some i ∧ a.length ≤ 640 ∧ Q (.int i) H) := by
  intro pins s σ H xs us Q I r h
  obtain ⟨a, i, rfl, hn, hl, q⟩ := h
  obtain ⟨u, rfl, t, rfl⟩ := vals1 r
  exact PySem.W.KIN.call_text hn hl ⟨.int i, H, I.tok _, ⟨_, rfl⟩, q⟩
end
end L2

set_option Elab.async false
set_option linter.all false
namespace L2
open PySem
noncomputable def jn (c : Nat) : List (List Nat) → List Nat
  | [] => []
  | [w] => w
  | w :: v :: r => w ++ c :: jn c (v :: r)
theorem join_list (c : Nat) : ∀ (ws : List Str), (Str.join ⟨#[c]⟩ ws).cps.toList = jn c (ws.map fun w => w.cps.toList)
  | [] => rfl
  | [w] => rfl
  | w :: v :: r => by
    have ih := join_list c (v :: r)
    show ((w ++ (⟨#[c]⟩ : Str) ++ Str.join ⟨#[c]⟩ (v :: r)).cps).toList = w.cps.toList ++ c :: jn c ((v :: r).map fun w => w.cps.toList)
    rw [← ih]
    show ((w.cps ++ #[c]) ++ (Str.join ⟨#[c]⟩ (v :: r)).cps).toList = _
    simp
theorem split_ne (x : Str) (c : Nat) : Txt.split x ⟨#[c]⟩ ≠ [] := fun e => by
  have := PyProof.Rows.split_pos x ⟨#[c]⟩
  rw [e] at this
  exact absurd this (by decide)
end L2

set_option Elab.async false
set_option linter.all false
set_option maxRecDepth 100000
/-! texts, walked sign by sign -/
namespace L2
open PySem PyProof.Rows
noncomputable def sg (x : Str) : List Str := x.cps.toList.map fun c => ⟨#[c]⟩
theorem sg_len (x : Str) : (sg x).length = x.cps.size := by unfold sg; rw [List.length_map, Array.length_toList]
theorem sg_at {x : Str} {i : Nat} {c : Nat} (h : x.cps[i]? = some c) : (sg x)[i]? = some ⟨#[c]⟩ := by
  unfold sg
  rw [List.getElem?_map, Array.getElem?_toList, h]
  rfl
noncomputable def Its (x : Str) : It := ⟨fun i _ => i < x.cps.size, fun i H v H' => H' = H ∧ ∃ y, (sg x)[i]? = some y ∧ v = .str y, fun i _ => x.cps.size ≤ i⟩
section
variable {P : Program} {w : World} {K : PySem.W.Frag} {tg : Expr}
theorem turn_sa (x : Str) (t : Tok) (it : Addr) : Turn P w K tg (Its x) [it] it (fun i h => h.IsStrIter it "str_ascii_iterator" x t i) where
  mem := by simp
  obj := fun i h st b hb => by
    obtain rfl : b = it := by simpa using hb
    obtain ⟨o, e, c, d⟩ := st
    exact ⟨o, e, fun v z => by rw [d] at z; cases z⟩
  keep := fun i h h' st k => let ⟨o, e, c, d⟩ := st; ⟨o, k it (by simp) o e, c, d⟩
  item := by
    intro X hP hw hK hc i pins s σ H E I hf st hg
    subst hP hw hK
    obtain ⟨cp, hx⟩ : ∃ cp, x.cps[i]? = some cp := ⟨x.cps[i]'hg, Array.getElem?_eq_getElem hg⟩
    obtain ⟨f0, f1, f2, f3, f4, f5⟩ := hf it (by simp)
    refine wpAny_pyNext_ascii_item st hx fun h1 st1 sb => ?_
    have I1 : Inv X pins σ H { s with heap := h1, toks := s.toks + 1 } := I.turned (t' := s.toks + 1) (fun b o hb e => (sb.2 b hb).trans e) f0 f1 f3 f4 f5
    obtain ⟨o, e, c, d⟩ := id st1
    exact ⟨_, rfl, go_of (s := { s with heap := h1, toks := s.toks + 1 }) e c d (by decide) ⟨.str ⟨#[cp]⟩, H, I1, ⟨_, rfl⟩, ⟨rfl, _, sg_at hx, rfl⟩, st1, fun b hb => (hf b hb).1⟩⟩
  done := by
    intro X hP hw hK hc i pins s σ H E I hf st hg
    subst hP hw hK
    obtain ⟨f0, f1, f2, f3, f4, f5⟩ := hf it (by simp)
    exact wpAny_pyNext_ascii_end (I.ok.hd hc) st (by simp; exact hg) fun h1 eb => ⟨rfl, I.turned (t' := s.toks) (fun b o hb e => eb b o hb e) f0 f1 f3 f4 f5⟩
  self := fun _ _ _ _ _ st h => wpAny_pyIter_striter_ascii st h
theorem turn_sw (x : Str) (t : Tok) (it : Addr) : Turn P w K tg (Its x) [it] it (fun i h => h.IsStrIter it "str_iterator" x t i) where
  mem := by simp
  obj := fun i h st b hb => by
    obtain rfl : b = it := by simpa using hb
    obtain ⟨o, e, c, d⟩ := st
    exact ⟨o, e, fun v z => by rw [d] at z; cases z⟩
  keep := fun i h h' st k => let ⟨o, e, c, d⟩ := st; ⟨o, k it (by simp) o e, c, d⟩
  item := by
    intro X hP hw hK hc i pins s σ H E I hf st hg
    subst hP hw hK
    obtain ⟨cp, hx⟩ : ∃ cp, x.cps[i]? = some cp := ⟨x.cps[i]'hg, Array.getElem?_eq_getElem hg⟩
    obtain ⟨f0, f1, f2, f3, f4, f5⟩ := hf it (by simp)
    refine wpAny_pyNext_wide_item st hx fun h1 st1 sb => ?_
    have I1 : Inv X pins σ H { s with heap := h1, toks := s.toks + 1 } := I.turned (t' := s.toks + 1) (fun b o hb e => (sb.2 b hb).trans e) f0 f1 f3 f4 f5
    obtain ⟨o, e, c, d⟩ := id st1
    exact ⟨_, rfl, go_of (s := { s with heap := h1, toks := s.toks + 1 }) e c d (by decide) ⟨.str ⟨#[cp]⟩, H, I1, ⟨_, rfl⟩, ⟨rfl, _, sg_at hx, rfl⟩, st1, fun b hb => (hf b hb).1⟩⟩
  done := by
    intro X hP hw hK hc i pins s σ H E I hf st hg
    subst hP hw hK
    obtain ⟨f0, f1, f2, f3, f4, f5⟩ := hf it (by simp)
    exact wpAny_pyNext_wide_end (I.ok.hd hc) st (by simp; exact hg) fun h1 eb => ⟨rfl, I.turned (t' := s.toks) (fun b o hb e => eb b o hb e) f0 f1 f3 f4 f5⟩
  self := fun _ _ _ _ _ st h => wpAny_pyIter_striter_wide st h
end
section
variable {X : Cx} {tg : Expr}
noncomputable def iTx (te : TE) : TI := fun σ H R => te σ H fun v H1 => ∃ x, v = .str x ∧ R (Its x) H1
theorem pi_tx {l : Expr} {tl : TE} (hl : PE X l tl) : PI X tg l (iTx tl) := by
  intro pins s σ H R I h
  refine thn (hl pins s σ H _ I h) fun v s1 ⟨x, H1, I1, r1, q1⟩ => ?_
  obtain ⟨y, rfl, q⟩ := q1
  obtain ⟨t, rfl⟩ := r1
  have new : ∀ b, b ∈ [s1.heap.objs.size] → FpOk X pins H1 b := fun b hb => by
    obtain rfl : b = s1.heap.objs.size := by simpa using hb
    exact I1.fpOk (Nat.le_refl _) (I1.hok.fresh (Nat.le_refl _))
  cases ha : y.cps.all (· < 128) with
  | true =>
    refine wpAny_pyIter_ascii ha ?_
    exact ⟨s1.heap.objs.size, [s1.heap.objs.size], _, _, H1, rfl, I1.kept (t' := s1.toks) fun b o e => Heap.get?_push_of_some _ e, turn_sa y t _, ⟨_, Heap.get?_push_size _ rfl, rfl, rfl⟩, new, q⟩
  | false =>
    refine wpAny_pyIter_wide ha ?_
    exact ⟨s1.heap.objs.size, [s1.heap.objs.size], _, _, H1, rfl, I1.kept (t' := s1.toks) fun b o e => Heap.get?_push_of_some _ e, turn_sw y t _, ⟨_, Heap.get?_push_size _ rfl, rfl, rfl⟩, new, q⟩
end
theorem w_compX {te : TE} {n : Nat} {ix : List Nat} {g : TG} {tc : TT} {te' : TE} {σ : St} {H : Hp} {Q : VK} (h : te σ H fun v H1 => ∃ x, v = .str x ∧ ∀ D, H1 D = none → CGo (Its x) D g tc te' Q (List.replicate n none ++ sub ix σ) H1) : tComp (iTx te) n ix g tc te' σ H Q := h
theorem cgo_tx {D : Addr} {tc : TT} {te : TE} {Q : VK} {ρ : St} {H : Hp} {x : Str} (Pv : Nat → List V → Hp → Prop) (h0 : Pv 0 [] (upd H D (.lst [])))
    (hs : ∀ i y ys H', (sg x)[i]? = some y → Pv i ys H' → H' D = some (.lst ys) → ∀ (R : V → Hp → Prop) (S : Hp → Prop), (∀ z H4, H4 D = some (.lst ys) → ys.length < sizeLine → Pv (i + 1) (ys ++ [z]) (upd H4 D (.lst (ys ++ [z]))) → R z H4) → (∀ H3, H3 D = some (.lst ys) → Pv (i + 1) ys H3 → S H3) →
      tc (some (.str y) :: ρ) H' fun b H3 => if b = true then te (some (.str y) :: ρ) H3 R else S H3)
    (hd : ∀ ys H', Pv (sg x).length ys H' → H' D = some (.lst ys) → Q (.ref D) H') : CGo (Its x) D (gName 0) tc te Q (none :: ρ) H := by
  have hl := sg_len x
  refine ⟨fun i m τ ys H' => m = x.cps.size - i ∧ i ≤ x.cps.size ∧ (∃ tv, τ = tv :: ρ) ∧ Pv i ys H' ∧ H' D = some (.lst ys), ⟨x.cps.size, by omega, Nat.zero_le _, ⟨_, rfl⟩, h0, upd_same⟩, ?_⟩
  rintro i m τ ys H' ⟨rfl, hi, ⟨tv, rfl⟩, hp, hD⟩
  refine ⟨hD, ?_⟩
  by_cases hlt : i < x.cps.size
  · refine .inr ⟨hlt, ?_⟩
    rintro v H2 ⟨rfl, y, hy, rfl⟩
    refine hs i y ys _ hy hp hD _ _ (fun z H4 e4 hz p4 => ?_) (fun H3 e3 p3 => ?_)
    · exact ⟨e4, hz, x.cps.size - (i + 1), by omega, rfl, by omega, ⟨_, rfl⟩, p4, upd_same⟩
    · exact ⟨x.cps.size - (i + 1), by omega, rfl, by omega, ⟨_, rfl⟩, p3, e3⟩
  · have e : i = (sg x).length := by omega
    subst e
    exact .inl ⟨by show x.cps.size ≤ _; omega, hd ys H' hp hD⟩
end L2

set_option Elab.async false
set_option linter.all false
set_option maxRecDepth 100000
namespace PySem.W
open PySem PySem.Calls PyProof.Rows
/-- the sort by known answers -/
noncomputable def KasT.eval {α : Type} (lt : Nat → Nat → Bool) : KasT α → α
  | .ret a => a
  | .ask i j k => (k (lt i j)).eval lt
/-- what it asks on that way lies below n -/
noncomputable def KasT.okFor {α : Type} (lt : Nat → Nat → Bool) (n : Nat) : KasT α → Bool
  | .ret _ => true
  | .ask i j k => decide (i < n) && (decide (j < n) && (k (lt i j)).okFor lt n)
/-- rows of numbers, one below the other -/
noncomputable def lexI (fin : Bool) : List Int → List Int → Bool
  | x :: xs, y :: ys => if x = y then lexI fin xs ys else decide (x < y)
  | _, _ => fin
inductive Nums : List Value → List Int → Prop
  | nil : Nums [] []
  | cons {i : Int} {t : Tok} {us : List Value} {ns : List Int} : Nums us ns → Nums (.int i t :: us) (i :: ns)
theorem Nums.len : ∀ {us : List Value} {ns : List Int}, Nums us ns → us.length = ns.length
  | _, _, .nil => rfl
  | _, _, .cons h => by rw [List.length_cons, List.length_cons, Nums.len h]
section
variable {prog : Program} {w : World} {A : Around} {E : Value → Shared → Prop} {s : Shared}
end
end PySem.W

set_option Elab.async false
set_option linter.all false
set_option maxRecDepth 100000
namespace PySem
open Sem (wp)
open AutoSeq1 (wpAny_loadPart')
section
variable {prog : Program} {w : World} {A : Around} {E : Value → Shared → Prop} {s : Shared}
end
end PySem
namespace L2
open PySem PySem.Spec PyProof.Rows
section
variable {X : Cx} {k : Nat}
/-- tuple(range(n)) of a range that stands -/
noncomputable def rTupR : List V → Hp → VK → Prop := fun xs H Q => ∃ (p : Addr) (n : Nat), xs = [.ref p] ∧ H p = some (.rng 0 (n : Int)) ∧ n ≤ 1000 ∧ ∀ l, H l = none → Q (.ref l) (upd H l (.tup ((List.range n).map fun (i : Nat) => V.int (i : Int))))
/-- tuple of a text: its signs -/
noncomputable def rTupS : List V → Hp → VK → Prop := fun xs H Q => ∃ (x : Str), xs = [.str x] ∧ x.cps.size ≤ 1000 ∧ ∀ l, H l = none → Q (.ref l) (upd H l (.tup (x.cps.toList.map fun c => V.str ⟨#[c]⟩)))
/-- rows of numbers, one by one -/
noncomputable def RowsAt (H : Hp) : List Addr → List (List Int) → Prop
  | [], [] => True
  | a :: as, ks :: kss => H a = some (.tup (ks.map V.int)) ∧ RowsAt H as kss
  | _, _ => False
theorem RowsAt.tk {H H' : Hp} (k : ∀ q xs, H q = some (.tup xs) → H' q = some (.tup xs)) : ∀ {as : List Addr} {kss : List (List Int)}, RowsAt H as kss → RowsAt H' as kss
  | [], [], _ => trivial
  | a :: as, ks :: kss, h => ⟨k _ _ h.1, RowsAt.tk k h.2⟩
  | [], _ :: _, h => h.elim
  | _ :: _, [], h => h.elim
theorem RowsAt.len {H : Hp} : ∀ {as : List Addr} {kss : List (List Int)}, RowsAt H as kss → as.length = kss.length
  | [], [], _ => rfl
  | a :: as, ks :: kss, h => by rw [List.length_cons, List.length_cons, RowsAt.len h.2]
  | [], _ :: _, h => h.elim
  | _ :: _, [], h => h.elim
theorem RowsAt.at {H : Hp} : ∀ {as : List Addr} {kss : List (List Int)}, RowsAt H as kss → ∀ {i : Nat} {a : Addr}, as[i]? = some a → ∃ ks, kss[i]? = some ks ∧ H a = some (.tup (ks.map V.int))
  | a :: as, ks :: kss, h, 0, b, e => ⟨ks, rfl, by
    have : a = b := by simpa using e
    exact this ▸ h.1⟩
  | a :: as, ks :: kss, h, i + 1, b, e => by
    obtain ⟨k', h1, h2⟩ := RowsAt.at h.2 (i := i) (a := b) (by simpa using e)
    exact ⟨k', by simpa using h1, h2⟩
  | [], [], _, i, b, e => by simp at e
  | [], _ :: _, h, _, _, _ => h.elim
  | _ :: _, [], h, _, _, _ => h.elim
theorem RowsAt.app {H : Hp} : ∀ {as bs : List Addr} {ks ls : List (List Int)}, RowsAt H as ks → RowsAt H bs ls → RowsAt H (as ++ bs) (ks ++ ls)
  | [], _, [], _, _, h => h
  | a :: as, _, k :: ks, _, h, h' => ⟨h.1, RowsAt.app h.2 h'⟩
  | [], _, _ :: _, _, h, _ => h.elim
  | _ :: _, _, [], _, h, _ => h.elim
noncomputable def ltK (keys : List (List Int)) : Nat → Nat → Bool := fun i j => PySem.W.lexI (decide ((keys.getD i []).length < (keys.getD j []).length)) (keys.getD i []) (keys.getD j [])
noncomputable def permK (keys : List (List Int)) : List Nat := ((PySem.W.kas_sort keys.length).eval (ltK keys)).toList
theorem Vals.getD {xs : List V} {us : List Value} (r : Vals xs us) (i : Nat) : RelV (xs.getD i .non) (us.getD i .none) := by
  induction r generalizing i with
  | nil => rfl
  | cons h _ ih =>
    cases i with
    | zero => simpa using h
    | succ i => simpa using ih i
/-- sorted(xs), xs a list of rows of numbers -/
noncomputable def rSorted : List V → Hp → VK → Prop := fun xs H Q => ∃ (l : Addr) (as : List Addr) (keys : List (List Int)), xs = [.ref l] ∧ H l = some (.lst (as.map V.ref)) ∧ RowsAt H as keys ∧ (∀ ks ∈ keys, ks ≠ []) ∧ 2 ≤ keys.length ∧ keys.length < 64 ∧ (PySem.W.kas_sort keys.length).okFor (ltK keys) keys.length = true ∧ (permK keys).length = keys.length ∧
  ∀ D, H D = none → Q (.ref D) (upd H D (.lst ((permK keys).map fun i => (as.map V.ref).getD i .non)))
end
end L2

set_option Elab.async false
set_option linter.all false
set_option maxRecDepth 100000
namespace L2
open PySem PySem.Spec PyProof.Rows
section
variable {X : Cx}
/-- x[a:b] of a text -/
noncomputable def rSlS : V → Option Int → Option Int → Hp → VK → Prop := fun x lo hi H Q => ∃ z, x = .str z ∧ z.length ≤ 1000 ∧ Q (.str (Txt.slice z lo hi)) H
end
end L2

set_option Elab.async false
set_option linter.all false
set_option maxRecDepth 100000
namespace L2
open PySem PySem.Spec PyProof.Rows
/-! ### an exception on its way -/
/-- the exception's object at a: its class, its dict; its traceback (where there is one) at T, fl: the frame in which it is in flight; all of it is made at lo or later, and untracked -/
structure Fly (lo : Nat) (h : Heap) (H : Hp) (a : Addr) (T : Option Addr) (C : Value) (d : Option Addr) (fl : Value) : Prop where
  at_ : ∃ (vs : Array Value) (sl : Array (Option Value)), h.get? a = some ⟨C, d, .fields vs, sl⟩ ∧
    (match T with
      | none => vs[1]? = some .none
      | some t => vs[1]? = some (.ref t) ∧ t ≠ a ∧ ∃ oT ts, h.get? t = some oT ∧ oT.data = .fields ts ∧ ts[3]? = some fl)
  lo : ∀ b ∈ a :: T.toList, lo ≤ b ∧ H b = none
theorem Fly.mono {lo lo' : Nat} {h : Heap} {H : Hp} {a : Addr} {T : Option Addr} {C : Value} {d : Option Addr} {fl : Value} (f : Fly lo h H a T C d fl) (hl : lo' ≤ lo) : Fly lo' h H a T C d fl :=
  ⟨f.at_, fun b hb => ⟨Nat.le_trans hl (f.lo b hb).1, (f.lo b hb).2⟩⟩
/-- what is on its way is a record -/
theorem Fly.rcd {lo : Nat} {h : Heap} {H : Hp} {a : Addr} {T : Option Addr} {C : Value} {d : Option Addr} {fl : Value} (f : Fly lo h H a T C d fl) : ∀ b ∈ a :: T.toList, ∃ o vs, h.get? b = some o ∧ o.data = .fields vs := by
  obtain ⟨vs, sl, ha, hT⟩ := f.at_
  intro b hb
  rcases List.mem_cons.mp hb with e | hb
  · rw [e]; exact ⟨_, vs, ha, rfl⟩
  · cases T with
    | none => cases hb
    | some t =>
      obtain ⟨_, _, oT, ts, h1, h2, _⟩ := hT
      rcases List.mem_singleton.mp hb with rfl
      exact ⟨oT, ts, h1, h2⟩
/-- all that is tracked stays, where only records that are not tracked and slots of frames change -/
theorem hok_un {P : Program} {w : World} {fs ch : List Addr} {H : Hp} {h h' : Heap} (ok : HOk P w H h) (k : ∀ b o, h.get? b = some o → b ∉ fs → b ∉ ch → h'.get? b = some o) (hf : ∀ b ∈ fs, H b = none) (hc : ∀ b ∈ ch, H b = none) : HOk P w H h' := fun a o e => by
  have st : ∀ b u, H b = some u → ∀ ob, h.get? b = some ob → h'.get? b = some ob := fun b u hb ob q => k b ob q (fun z => by rw [hf b z] at hb; cases hb) fun z => by rw [hc b z] at hb; cases hb
  refine (ok a o e).stay (fun b u hb q => ?_) (fun _ q => q) fun _ _ q => q
  rcases hb with rfl | hb
  · exact st _ _ e _ q
  · exact st _ _ hb _ q
theorem un_of {fs ch : List Addr} {H : Hp} {h h' : Heap} (k : ∀ b o, h.get? b = some o → b ∉ fs → b ∉ ch → h'.get? b = some o) (sl : ∀ b o, h.get? b = some o → b ∉ ch → ∃ z, h'.get? b = some { o with slots := z }) : Un fs ch H H h h' where
  keep := fun b o q _ hb hx => k b o q hb hx
  slot := fun b o q _ _ hx => sl b o q hx
  free := fun b o _ n _ => n
  there := fun b o q hx => let ⟨_, e⟩ := sl b o q hx; ⟨_, e⟩
  tups := fun _ _ q => q
  frzs := fun _ _ _ q => q
  tbls := fun b ps e => ⟨#[], by rw [e]; simp⟩
section
variable {M : Model} {A : Around} {E : Value → Shared → Prop} {s : Shared} {base : Heap} {env : Env} {outer : List Env} {L a : Addr} {T : Option Addr} {C : Value} {d : Option Addr} {H : Hp} {lo : Nat} {fl : Value} {Q : Unit → Shared → Prop}
/-- a new entry of the traceback -/
theorem entry_x {oe : Obj} {vs : Array Value} {head : Value} {hadNext : Bool} (hfr : A.frames = some (env :: outer)) (hl : s.heap.FunFrames base (env :: outer)) (hf : env.frame = some L)
    (he : s.heap.get? a = some oe) (hd : oe.data = .fields vs) (hsz : 1 < vs.size)
    (h : ∀ h' T', s.heap.objs.size ≤ T' → T' ≠ a → h'.get? a = some { oe with data := .fields (vs.setIfInBounds 1 (.ref T')) } → (∃ oT ts, h'.get? T' = some oT ∧ oT.data = .fields ts ∧ ts[3]? = some (rawInt L)) →
      (∀ b o, s.heap.get? b = some o → b ∉ frs (env :: outer) → b ≠ a → h'.get? b = some o) → (∀ b o, s.heap.get? b = some o → b ≠ a → ∃ z, h'.get? b = some { o with slots := z }) → Q () { s with heap := h' }) :
    wpAny M A (do let x ← frameOf env; let pl ← entryPlaceOf L hadNext; let b ← EntryCells.newEntry head x .none (rawInt L) .none pl; setField (.ref a) 1 b) Q E s := by
  have hene : a ∉ (env :: outer).filterMap (·.frame) := fun hm => by
    obtain ⟨_, o, ho, hnf⟩ := hl.mem hm
    rw [he] at ho; injection ho with ho; subst ho; exact hnf vs hd
  refine wpAny_bind (wpAny_frameOf_fun hfr hl hf fun h₁ hs₁ => ?_)
  refine wpAny_bind (wpAny_entryPlaceOf fun pl hpl => ?_)
  unfold EntryCells.newEntry newFields
  refine wpAny_bind (wpAny_newObj_type ?_ (hpl.sizeOk5 _ _ _ _ _))
  have he₁ : h₁.get? a = some oe := (hs₁.2.1 a hene).trans he
  have he₂ := Heap.get?_push_of_some (h := h₁) { cls := .type "traceback", dict := none, data := .fields ([head, .ref L, .none, rawInt L, .none] ++ (if pl.isEmpty then List.replicate 6 Value.none else pl)).toArray } he₁
  refine wpAny_setField he₂ hd hsz ?_
  have hTe : h₁.objs.size ≠ a := Nat.ne_of_gt (Heap.lt_size he₁)
  have hd₃ := Obj.data_mapFields hd (·.setIfInBounds 1 (Value.ref h₁.objs.size))
  have he₃ := Heap.get?_update_self (Obj.mapFields (·.setIfInBounds 1 (Value.ref h₁.objs.size))) he₂ (Obj.isFreed_of_fields hd₃)
  have hT₃ := (Heap.get?_update_other (h₁.push { cls := .type "traceback", dict := none, data := .fields ([head, .ref L, .none, rawInt L, .none] ++ (if pl.isEmpty then List.replicate 6 Value.none else pl)).toArray })
    (Obj.mapFields (·.setIfInBounds 1 (Value.ref h₁.objs.size))) (Ne.symm hTe)).trans (Heap.get?_push_size h₁ rfl)
  have keep : ∀ b o, b ≠ a → h₁.get? b = some o →
      ((h₁.push { cls := .type "traceback", dict := none, data := .fields ([head, .ref L, .none, rawInt L, .none] ++ (if pl.isEmpty then List.replicate 6 Value.none else pl)).toArray }).update a (Obj.mapFields (·.setIfInBounds 1 (Value.ref h₁.objs.size)))).get? b = some o :=
    fun b o hbe hb => by
      rw [Heap.get?_update_other _ _ (Ne.symm hbe)]
      exact Heap.get?_push_of_some _ hb
  have hmf : Obj.mapFields (·.setIfInBounds 1 (Value.ref h₁.objs.size)) oe = { oe with data := .fields (vs.setIfInBounds 1 (.ref h₁.objs.size)) } := by
    obtain ⟨oc, od, odt, osl⟩ := oe
    have : odt = .fields vs := hd
    subst this
    rfl
  refine h _ h₁.objs.size (Nat.le_of_eq hs₁.1.symm) hTe (by rw [← hmf]; exact he₃) ⟨_, _, hT₃, rfl, ?_⟩ (fun b o hb hnf hne => keep b o hne ((hs₁.2.1 b hnf).trans hb)) fun b o hb hne => ?_
  · first | (simp; done) | (rcases hpl with rfl | ⟨_, _, _, _, _, _, _, rfl⟩ <;> simp)
  · obtain ⟨z, hz⟩ := hs₁.2.2 b o hb
    exact ⟨z, keep b _ hne hz⟩
/-- the frame is noted in the traceback -/
theorem note_x (hfr : A.frames = some (env :: outer)) (hl : s.heap.FunFrames base (env :: outer)) (hf : env.frame = some L) (F : Fly lo s.heap H a T C d .none) (hlo : lo ≤ s.heap.objs.size) (hH : ∀ b, s.heap.objs.size ≤ b → H b = none)
    (h : ∀ h' T', Fly lo h' H a (some T') C d (rawInt L) → s.heap.objs.size ≤ T' → (∀ b o, s.heap.get? b = some o → b ∉ frs (env :: outer) → b ∉ a :: T.toList → h'.get? b = some o) →
      (∀ b o, s.heap.get? b = some o → b ∉ a :: T.toList → ∃ z, h'.get? b = some { o with slots := z }) → Q () { s with heap := h' }) :
    wpAny M A (noteFrame (.ref a) env) Q E s := by
  obtain ⟨⟨vs, sl, ha, hT⟩, hlow⟩ := F
  unfold noteFrame
  simp only [hf]
  cases T with
  | none =>
    refine wpAny_bind (wpAny_field ha rfl hT ?_)
    rw [if_neg (by decide)]
    refine entry_x hfr hl hf ha rfl (Array.getElem?_eq_some_iff.mp hT).1 fun h' T' hs hne he htb k1 k2 => ?_
    obtain ⟨oT, ts, t1, t2, t3⟩ := htb
    refine h h' T' ⟨⟨_, sl, he, by simp [(Array.getElem?_eq_some_iff.mp hT).1], hne, oT, ts, t1, t2, t3⟩, fun b hb => ?_⟩ hs (fun b o hb hn hc => k1 b o hb hn fun z => hc (by simp [z])) fun b o hb hc => k2 b o hb fun z => hc (by simp [z])
    rcases List.mem_cons.mp hb with e | hb
    · rw [e]; exact hlow a List.mem_cons_self
    · rcases List.mem_singleton.mp hb with rfl
      exact ⟨Nat.le_trans hlo hs, hH _ hs⟩
  | some t =>
    obtain ⟨h1, hta, oT, ts, g1, g2, g3⟩ := hT
    refine wpAny_bind (wpAny_field ha rfl h1 ?_)
    rw [if_pos (show (Value.ref t != Value.none) = true from by simp)]
    refine wpAny_bind (wpAny_field g1 g2 g3 ?_)
    rw [if_neg (show ¬ ((Value.none == rawInt L) = true) from by simp [rawInt])]
    refine wpAny_bind (wpAny_setField g1 g2 (Array.getElem?_eq_some_iff.mp g3).1 ?_)
    have other : ∀ b, b ≠ t → (s.heap.update t (Obj.mapFields (·.setIfInBounds 3 Value.none))).get? b = s.heap.get? b := fun b hb => Heap.get?_update_other _ _ (Ne.symm hb)
    have noRecord : ∀ b o, s.heap.get? b = some o → (∀ vs, o.data ≠ .fields vs) → b ≠ t := fun b o hb hnf q => by
      rw [q, g1] at hb; injection hb with hb; subst hb; exact hnf ts g2
    have szu : (s.heap.update t (Obj.mapFields (·.setIfInBounds 3 Value.none))).objs.size = s.heap.objs.size := Heap.size_after_update ..
    refine entry_x (s := { s with heap := s.heap.update t (Obj.mapFields (·.setIfInBounds 3 Value.none)) }) hfr (hl.of_keeps fun b o hb hnf => ⟨o, (other b (noRecord b o hb hnf)).trans hb, rfl⟩) hf ((other a (Ne.symm hta)).trans ha) rfl (Array.getElem?_eq_some_iff.mp h1).1 fun h' T' hs hne he htb k1 k2 => ?_
    have hs' : s.heap.objs.size ≤ T' := by
      have hs : (s.heap.update t (Obj.mapFields (·.setIfInBounds 3 Value.none))).objs.size ≤ T' := hs
      rw [szu] at hs; exact hs
    obtain ⟨oT', ts', t1, t2, t3⟩ := htb
    refine h h' T' ⟨⟨_, sl, he, by simp [(Array.getElem?_eq_some_iff.mp h1).1], hne, oT', ts', t1, t2, t3⟩, fun b hb => ?_⟩ hs' (fun b o hb hn hc => k1 b o ((other b fun z => hc (by simp [z])).trans hb) hn fun z => hc (by simp [z])) fun b o hb hc => k2 b o ((other b fun z => hc (by simp [z])).trans hb) fun z => hc (by simp [z])
    rcases List.mem_cons.mp hb with e | hb
    · rw [e]; exact hlow a List.mem_cons_self
    · rcases List.mem_singleton.mp hb with rfl
      exact ⟨Nat.le_trans hlo hs', hH _ hs'⟩
/-- no longer in flight -/
theorem land_x {t : Addr} (F : Fly lo s.heap H a (some t) C d fl)
    (h : ∀ h', Fly lo h' H a (some t) C d .none → (∀ b o, s.heap.get? b = some o → b ≠ t → h'.get? b = some o) → Q () { s with heap := h' }) : wpAny M A (setFlight (.ref a) none) Q E s := by
  obtain ⟨⟨vs, sl, ha, h1, hta, oT, ts, g1, g2, g3⟩, hlow⟩ := F
  have hsz3 : 3 < ts.size := (Array.getElem?_eq_some_iff.mp g3).1
  have other : ∀ b, b ≠ t → (s.heap.update t (Obj.mapFields (·.setIfInBounds 3 ((none : Option Addr).elim Value.none fun f => rawInt f)))).get? b = s.heap.get? b :=
    fun b hb => Heap.get?_update_other _ _ (Ne.symm hb)
  unfold setFlight
  refine wpAny_bind (wpAny_field ha rfl h1 ?_)
  rw [if_pos (show (Value.ref t != Value.none) = true from by simp)]
  refine wpAny_setField g1 g2 hsz3 (h _ ⟨⟨vs, sl, (other a (Ne.symm hta)).trans ha, h1, hta, _, _, Heap.get?_update_self _ g1 (Obj.isFreed_of_fields (Obj.data_mapFields g2 _)), Obj.data_mapFields g2 _, by simp [hsz3]⟩, hlow⟩ fun b o hb hn => (other b hn).trans hb)
end
end L2

set_option Elab.async false
set_option linter.all false
set_option maxRecDepth 100000
namespace L2
open PySem PySem.Spec PyProof.Rows
/-! ### how an exception lies behind a call -/
noncomputable def CXE (P : Program) (w : World) : CXT := fun outer H s E e s' => ∃ (a : Addr) (T : Option Addr) (C : Value) (d : Option Addr) (H' : Hp), e = .ref a ∧ s'.os = s.os ∧ AllBare s'.gens ∧ Un (frs outer) [] H H' s.heap s'.heap ∧
  HOk P w H' s'.heap ∧ Fly s.heap.objs.size s'.heap H' a T C d .none ∧ E C d H'
/-- an exception that is wanted lands: EX tells what is wanted, by the values of the names -/
noncomputable def Lands (X : Cx) (EX : St → XK) : Prop := ∀ (pins : List (Addr × Obj)) (σ : St) (H : Hp) (s : Shared) (a : Addr) (T : Option Addr) (C : Value) (d : Option Addr), Inv X pins σ H s → Fly X.s₀.heap.objs.size s.heap H a T C d .none →
  (∀ p ∈ X.pn, p.1 ∉ a :: T.toList) → EX σ C d H → X.xe (.ref a) s
theorem Un.more {fs : List Addr} {H H' : Hp} {h h' h'' : Heap} (u : Un fs [] H H' h h') (k : ∀ b o, b < h.objs.size → h'.get? b = some o → b ∉ fs → h''.get? b = some o) (sl : ∀ b o, b < h.objs.size → h'.get? b = some o → ∃ z, h''.get? b = some { o with slots := z }) : Un fs [] H H' h h'' where
  keep := fun b o q n hb hx => k b o (Heap.lt_size q) (u.keep b o q n hb hx) hb
  slot := fun b o q n hb hx => by
    obtain ⟨z, e⟩ := u.slot b o q n hb hx
    obtain ⟨z', e'⟩ := sl b _ (Heap.lt_size q) e
    exact ⟨z', e'⟩
  free := u.free
  there := fun b o q hx => by
    obtain ⟨o', e⟩ := u.there b o q hx
    obtain ⟨z, e'⟩ := sl b _ (Heap.lt_size q) e
    exact ⟨_, e'⟩
  tups := u.tups
  frzs := u.frzs
  tbls := u.tbls
/-- out of a call -/
theorem Lands.passes {X : Cx} {EX : St → XK} (L : Lands X EX) {pins : List (Addr × Obj)} {σ : St} {H : Hp} {s s' : Shared} {e : Value} (I : Inv X pins σ H s) (h : CXE X.prog X.w X.stack H s (EX σ) e s') : X.xe e s' := by
  obtain ⟨a, T, C, d, H', rfl, os, bare, un, hok, F, hE⟩ := h
  have I' : Inv X pins σ H' s' := I.call' (ch := []) os un hok bare fun b hb => nomatch hb
  refine L pins σ H' s' a T C d I' (F.mono I.sz) (fun p hp hc => ?_) hE
  have q := (I.pin p (List.mem_append_left _ hp)).1
  exact absurd (Nat.lt_of_lt_of_le (Heap.lt_size q) (F.lo _ hc).1) (Nat.lt_irrefl _)
/-! ### calls of defs that may raise -/
noncomputable def tCallX (sp : Sp) (EX : St → XK) (t : TA) : TE := fun σ H Q => t σ H fun vs H1 => sp vs H1 Q (EX σ)
section
variable {X : Cx} {EX : St → XK} {k j : Nat} {f : Addr} {fd : FuncData} {ps : List Str} {sp : Sp} {x : Str} {p pos : Pos} {e : Expr} {es : List Expr} {t : TA}
theorem run_fnX {pins : List (Addr × Obj)} {σ : St} {H : Hp} {s : Shared} {Q : VK} {us : List Value} {vs : List V} (F : FnOk X.prog X.w X.K X.mg X.base (CXE X.prog X.w) k f fd ps sp) (hr : Room k X.A) (hb : Binds X.K fd ps []) (hx : Lands X EX)
    (I : Inv X pins σ H s) (r : Vals vs us) (h : sp vs H Q (EX σ)) : wpAny (model X.prog X.w) X.A (call (.ref f) us) (EP X pins σ Q) X.xe s := by
  have hl : us.length = ps.length := by rw [← r.length]; exact F.len _ _ _ _ h
  have hb' := hb s us I.kIn (by rw [List.append_nil]; exact hl)
  rw [List.append_nil] at hb'
  refine wpAny_call (codeAny_mono (F.run X.A X.stack s H ⟨us, []⟩ us vs Q (EX σ) hr I.env0 hb' r h) fun r s' hq => ?_)
  cases r with
  | error e => exact hx.passes I hq
  | ok fl =>
    cases fl with
    | ret u => exact I.after hq
    | next => exact False.elim hq
    | brk => exact False.elim hq
    | cont => exact False.elim hq
/-- a def that may raise -/
noncomputable def HasX (P : Program) (w : World) (K : PySem.W.Frag) (mg : Str → Option Value) (base : Heap) (k : Nat) (x : Str) (ps : List Str) (sp : Sp) : Prop :=
  ∃ (f : Addr) (fd : FuncData), FnOk P w K mg base (CXE P w) k f fd ps sp ∧ mg x = some (.ref f) ∧ PySem.W.keepIn K (.ref f) = true ∧ Binds K fd ps []
theorem pe_fX (h : HasX X.prog X.w X.K X.mg X.base k x ps sp) (L : Lands X EX) (hr : Room j X.A) (hkj : k ≤ j) (ha : PA X (e :: es) t) (hg : Gl X x := by rfl) (h1 : isStar e = false := by rfl) (h2 : es.all (fun e => !isStar e) = true := by rfl)
    (hdb : (x == ("__debug__" : Str)) = false := by decide) : PE X (.Call (.Name x p) (e :: es) [] pos) (tCallX sp EX t) := by
  obtain ⟨f, fd, F, hm, hk, hb⟩ := h
  intro pins s σ H Q I h
  refine wpAny_Call_Name_kw (ld_glob I hg hm ?_ hdb)
  refine PySem.W.callWith_K (h₀ := X.base) I.ok.mod.kin hk (thn (ha pos pins s σ H _ I h) fun us s1 ⟨vs, H1, I1, r, q⟩ => ⟨I1.kIn, ?_⟩) (star1 h1) (star_any h2)
  exact run_fnX F (hr.mono hkj) hb L I1 r q
/-- called where it does not raise -/
theorem FnOk.calm {P : Program} {w : World} {K : PySem.W.Frag} {mg : Str → Option Value} {base : Heap} (F : FnOk P w K mg base (CXE P w) k f fd ps sp) : FnOk P w K mg base CX0 k f fd ps (fun vs H Q _ => sp vs H Q E0) := by
  refine ⟨fun vs H Q E h => F.len vs H Q E0 h, fun A outer s H args us vs Q E hr he hb hv hs => codeAny_mono (F.run A outer s H args us vs Q E0 hr he hb hv hs) fun r s' hq => ?_⟩
  cases r with
  | error e =>
    obtain ⟨_, _, _, _, _, _, _, _, _, _, _, h⟩ := hq
    exact False.elim h
  | ok fl => cases fl <;> exact hq
theorem HasX.calm {P : Program} {w : World} {K : PySem.W.Frag} {mg : Str → Option Value} {base : Heap} (h : HasX P w K mg base k x ps sp) : Has P w K mg base k x ps (fun vs H Q _ => sp vs H Q E0) := by
  obtain ⟨f, fd, F, hm, hk, hb⟩ := h
  exact ⟨f, fd, F.calm, hm, hk, hb⟩
end
end L2

set_option Elab.async false
set_option linter.all false
set_option maxRecDepth 100000
namespace L2
open PySem PySem.Spec PyProof.Rows
open Builtin Builtin.ObjectAttr
/-! ### own exception classes over ValueError -/
noncomputable abbrev bmV : List Value := [.type "ValueError", .type "Exception", .type "BaseException", .type "object"]
inductive OverV : List Value → Prop
  | base : OverV bmV
  | own (a : Addr) {l : List Value} : OverV l → OverV (.ref a :: l)
theorem OverV.has {l : List Value} (h : OverV l) {X : String} {b : Bool} (hb : bmV.contains (.type X) = b) : l.contains (.type X) = b := by
  induction h with
  | base => exact hb
  | own a _ ih => rw [List.contains_cons, ih]; rfl
theorem OverV.passes {l : List Value} (h : OverV l) (self : Value) : refuseLoop self "__setattr__" l = pure () := by
  induction h with
  | base => exact PySem.F.store_ValueError.passes self
  | own a _ ih => rw [refuseLoop_ref]; exact ih
structure XC (K : PySem.W.Frag) (C : Addr) (bm : List Value) : Prop where
  at_ : ∃ (nm q : Str) (N : Addr) (bs : List Value) (sn : List Str) (sub : List Value) (ab : Bool) (col : Option Bool) (dd : Option Addr) (k0 k1 k2 k3 k5 : Option Value),
    K.lookup C = some (excClassObj nm q C N bs bm true sn sub ab col dd k0 k1 k2 k3 k5 "ValueError.__new__")
  ov : OverV bm
/-- its attributes are stored and read as those of any exception -/
structure XA (K : PySem.W.Frag) (C : Addr) : Prop where
  bm : ∃ bm, XC K C bm
  ga : PySem.W.findIn K (.ref C) "__getattribute__" = some (some (.builtin "BaseException.__getattribute__"))
  gt : PySem.W.findIn K (.ref C) "__getattr__" = some none
  sa : PySem.W.findIn K (.ref C) "__setattr__" = some (some (.builtin "object.__setattr__"))
  cl : PySem.W.findIn K (.ref C) "__class__" = some (some (.builtin "object.__class__"))
  sg : PySem.W.specialIn K (.builtin "object.__class__") "__get__" = some (some (.builtin "getset_descriptor.__get__"))
  tk : PySem.W.takesIn K (.builtin "object.__class__") = some true
end L2
namespace PySem
open Sem (wp)
open Builtin Builtin.ObjectAttr
open L2 (OverV)
section
variable {prog : Program} {w : World} {A : Around} {E : Value → Shared → Prop} {h : Heap} {g : Array GenState} {d : Drawn} {t : Nat} {os : OsState}
variable {nm q : Str} {C N : Addr} {bs bm : List Value} {sn : List Str} {sub : List Value} {ab : Bool} {col : Option Bool} {dd : Option Addr} {k0 k1 k2 k3 k5 : Option Value}
theorem check_new_x {M : Model} (T : OverV bm) {rest : List Value} {Q : Unit → Shared → Prop} (hC : h.get? C = some (excClassObj nm q C N bs bm true sn sub ab col dd k0 k1 k2 k3 k5 "ValueError.__new__"))
    (hq : Q () ⟨h, g, d, t, os⟩) : wpAny M A (checkBuiltinCall "ValueError.__new__" ⟨.ref C :: rest, []⟩) Q E ⟨h, g, d, t, os⟩ := by
  have F := PySem.F.excBase_ValueError
  have hcont : (Value.ref C :: bm).contains (.type "ValueError") = true := by rw [List.contains_cons, T.has F.hasB, Bool.or_true]
  have hstar := F.noStar
  simp only [checkBuiltinCall, F.newKind, F.newSplit, F.newRow]
  repeat (first | refine wpAny_loadPart_at hC ?_ | (refine wpAny_isSubtype_exc hC ?_; rw [hcont]) | refine wpAny_staticBase_exc hC ?_ | refine wpAny_madeBy_exc hC ?_ | simp only [bne_self_eq_false, Bool.false_eq_true, if_false] | wp_step)
  exact hq
theorem exc_new_x (T : OverV bm) {rest : List Value} {R : Result → Shared → Prop} (hC : h.get? C = some (excClassObj nm q C N bs bm true sn sub ab col dd k0 k1 k2 k3 k5 "ValueError.__new__"))
    (hq : R (.ok (.ret (.ref (h.objs.size + 1)))) ⟨(h.push { cls := .type "tuple", data := .seq rest.toArray }).push
      { cls := .ref C, data := .fields #[.ref h.objs.size, .none, .none, .none, .bool false, .none] }, g, d, t, os⟩) (hrest : rest.length ≤ sizeLine) :
    codeAny (model prog w) A (.builtin "ValueError.__new__" ⟨.ref C :: rest, []⟩) R ⟨h, g, d, t, os⟩ := by
  have F := PySem.F.excBase_ValueError
  have hends := F.ends
  have hcB : (Value.ref C :: bm).contains (.type "ValueError") = true := by rw [List.contains_cons, T.has F.hasB, Bool.or_true]
  have hcA : (Value.ref C :: bm).contains (.type "AttributeError") = false := by rw [List.contains_cons, T.has F.noAttr]; rfl
  have hcN : (Value.ref C :: bm).contains (.type "NameError") = false := by rw [List.contains_cons, T.has F.noName]; rfl
  refine codeAny_builtinAt F.entry ?_
  unfold Builtin.«BaseException.__new__»
  refine wpAt_bind ?_
  show wpAt _ _ _ (stack >>= _) _ _ _
  refine wpAt_bind (wpAt_stack fun p below => wpAt_of_wpAny ?_)
  wp_walk
  refine wpAt_of_wpAny ?_
  rw [F.owner]
  repeat (first | with_reducible refine wpAny_madeHere_exc F.canon hC ?_ | with_reducible refine wpAny_loadPart_at hC ?_ | (with_reducible refine wpAny_isSubtype_exc hC ?_; first | rw [hcB] | rw [hcA] | rw [hcN]) | wp_step)
  show R _ _
  rw [Heap.size_push]
  exact hq
/-- what is wanted of the end of a call -/
noncomputable abbrev EndX (prog : Program) (w : World) (A : Around) (R : Result → Shared → Prop) (fin : Fin) (s' : Shared) : Prop := match fin with
  | .done f => R (.ok f) s'
  | .again c' => c'.quiet = true ∧ codeAny (model prog w) A c' R s'
theorem type_call_x (T : OverV bm) {rest : List Value} {fI : Addr} {Q : Fin → Shared → Prop} (hC : h.get? C = some (excClassObj nm q C N bs bm true sn sub ab col dd k0 k1 k2 k3 k5 "ValueError.__new__"))
    (hi : PySem.W.Looks (model prog w) h (typeLookup (.ref C) "__init__") (some (.ref fI))) (hf : ∀ self, PySem.W.Looks (model prog w) h (bindSpecial (.ref fI) self) (.ref fI, [self])) (hrest : rest.length ≤ sizeLine)
    (hq : wpAny (model prog w) A (call (.ref fI) (.ref (h.objs.size + 1) :: rest)) (fun r s' => r = .none ∧ Q (.done (.ret (.ref (h.objs.size + 1)))) s') E
      ⟨(h.push { cls := .type "tuple", data := .seq rest.toArray }).push { cls := .ref C, data := .fields #[.ref h.objs.size, .none, .none, .none, .bool false, .none] }, g, d, t, os⟩) :
    wpAny (model prog w) A (Builtin.«type.__call__» ⟨.ref C :: rest, []⟩) Q E ⟨h, g, d, t, os⟩ := by
  have F := PySem.F.excBase_ValueError
  repeat (first | with_reducible refine wpAny_loadPart_at hC ?_ | with_reducible refine wpAny_madeBy_exc hC ?_ | wp_step)
  refine codeAny_call_builtin_code (Code.quiet_builtin _ F.quiet) (check_new_x T hC ?_)
  refine exc_new_x T hC ?_ hrest
  show wpAny _ _ _ _ _ _
  have hC₁ := Heap.get?_push_of_some { cls := .ref C, data := .fields #[.ref h.objs.size, .none, .none, .none, .bool false, .none] }
    (Heap.get?_push_of_some { cls := .type "tuple", data := .seq rest.toArray } hC)
  have k : ∀ b o, h.get? b = some o → ((h.push { cls := .type "tuple", data := .seq rest.toArray }).push { cls := .ref C, data := .fields #[.ref h.objs.size, .none, .none, .none, .bool false, .none] }).get? b = some o := fun b o e => Heap.get?_push_of_some _ (Heap.get?_push_of_some _ e)
  have hget : ((h.push { cls := .type "tuple", data := .seq rest.toArray }).push
      { cls := .ref C, data := .fields #[.ref h.objs.size, .none, .none, .none, .bool false, .none] }).get? (h.objs.size + 1) = some
      { cls := .ref C, data := .fields #[.ref h.objs.size, .none, .none, .none, .bool false, .none] } := by heap_get
  have hcC : (Value.ref C :: bm).contains (.ref C) = true := by simp
  have i1 := hi.keeps k
  have b1 := (hf (.ref (h.objs.size + 1))).keeps k
  unfold isInstance
  repeat (first | with_reducible refine wpAny_loadPart_at hget ?_ | (with_reducible refine wpAny_isSubtype_exc hC₁ ?_; rw [hcC]) | wp_step)
  show wpAny _ _ (typeLookup (.ref C) _) _ _ _
  refine i1.at ?_
  refine wpAny_holding (wpAny_bind (b1.at ?_))
  refine wpAny_bind (wpAny_mono hq (fun r s' z => ?_) fun _ _ x => x)
  obtain ⟨rfl, z⟩ := z
  wp_walk
  exact z
/-- C(..): the arguments' tuple at the heap's end, the exception behind it; then its __init__ -/
theorem make_x (T : OverV bm) {rest : List Value} {fI : Addr} {Q : Value → Shared → Prop} (hC : h.get? C = some (excClassObj nm q C N bs bm true sn sub ab col dd k0 k1 k2 k3 k5 "ValueError.__new__"))
    (hi : PySem.W.Looks (model prog w) h (typeLookup (.ref C) "__init__") (some (.ref fI))) (hf : ∀ self, PySem.W.Looks (model prog w) h (bindSpecial (.ref fI) self) (.ref fI, [self])) (hrest : rest.length ≤ sizeLine)
    (hq : wpAny (model prog w) (A.under (.builtin "type.__call__" ⟨.ref C :: rest, []⟩)) (call (.ref fI) (.ref (h.objs.size + 1) :: rest)) (fun r s' => r = .none ∧ Q (.ref (h.objs.size + 1)) s') E
      ⟨(h.push { cls := .type "tuple", data := .seq rest.toArray }).push { cls := .ref C, data := .fields #[.ref h.objs.size, .none, .none, .none, .bool false, .none] }, g, d, t, os⟩) :
    wpAny (model prog w) A (call (.ref C) rest) Q E ⟨h, g, d, t, os⟩ := by
  have f1 := tc_lookup
  have f2 := tc_bind (.ref C)
  have hT : (⟨h, g, d, t, os⟩ : Shared).TypeIs (.ref C) "type" := ⟨_, hC, rfl⟩
  refine wpAny_call (codeAny_of_tree ?_)
  show wpAny _ _ (callAny (.ref C) _) _ _ _
  repeat (any_goals (first | assumption | with_reducible refine wpAny_loadPart_at hC ?_ | wp_step))
  refine ⟨rfl, ?_⟩
  refine codeAny_call_builtin_at (Code.quiet_builtin _ (by decide +kernel)) entry_typeCall (wpAny_check_type_call_sub hC (type_call_x T hC hi hf hrest ?_))
  exact hq
end
end PySem

set_option Elab.async false
set_option linter.all false
set_option maxRecDepth 100000
namespace PySem
open Sem (wp)
open Builtin Builtin.ObjectAttr
open L2 (OverV XC XA bmV)
section
variable {prog : Program} {w : World} {A : Around} {E : Value → Shared → Prop} {h : Heap} {g : Array GenState} {d : Drawn} {t : Nat} {os : OsState}
variable {nm q : Str} {C N x : Addr} {bs bm : List Value} {sn : List Str} {sub : List Value} {ab : Bool} {col : Option Bool} {dd : Option Addr} {k0 k1 k2 k3 k5 : Option Value}
  {mA : Str → Option Value} {name : Str} {v : Value}
theorem store_entry_x {tk : Tok} {Q : Fin → Shared → Prop} {ns : List Str} (T : OverV bm)
    (hC : h.get? C = some (excClassObj nm q C N bs bm true sn sub ab col dd k0 k1 k2 k3 k5 "ValueError.__new__")) (hna : PySem.W.Looks (model prog w) h (typeLookup (.ref C) name) none) (hxC : x ≠ C) (I : h.Inst x C mA)
    (hq : ∀ h' tk', h'.Inst x C (fun y => if y = name then some v else mA y) →
      (∀ b o, b ≠ x → (∀ o₀ dx, h.get? x = some o₀ → o₀.dict = some dx → b ≠ dx) → h.get? b = some o → h'.get? b = some o) →
      (∀ o₀, h.get? x = some o₀ → ∃ o₁, h'.get? x = some o₁ ∧ o₁.cls = o₀.cls ∧ o₁.data = o₀.data ∧ o₁.slots = o₀.slots ∧ (∀ dx, o₀.dict = some dx → o₁.dict = some dx) ∧ (o₀.dict = none → o₁.dict = some h.objs.size)) → Q (.done (.ret .none)) ⟨h', g, d, tk', os⟩) (hw : Within mA ns) (hsz : ns.length ≤ sizeLine) :
    wpAny (model prog w) A (Builtin.«object.__setattr__» ⟨[.ref x, .str name tk, v], []⟩) Q E ⟨h, g, d, t, os⟩ := by
  obtain ⟨o, hx, hc, hnc, hd⟩ := I
  have hpass := T.passes (.ref x)
  unfold Builtin.«object.__setattr__»
  repeat (first | rw [refuse_eq] | (rw [refuseLoop_ref, hpass]) | (with_reducible refine wpAny_loadPart_at hx ?_; rw [hc]) | with_reducible refine wpAny_mroOf_exc hC ?_ | with_reducible refine hna.at ?_ | wp_step)
  rcases hd with ⟨hdn, hmA⟩ | ⟨dx, hdx, hne, hns⟩
  · rw [hdn, if_neg (by simp [typeHasDict])]
    split
    · rename_i hcd
      cases hcd
    split
    · rename_i c hcd
      exact absurd hcd (hnc c)
    · have hx₁ : (h.push { cls := .type "dict", data := .dict #[] }).get? x = some o := Heap.get?_push_of_some _ hx
      have hxs : x ≠ h.objs.size := Nat.ne_of_lt (Heap.lt_size hx)
      refine wpAny_bind (wpAny_alloc' ?_)
      refine wpAny_bind (wpAny_update' hx₁ ?_)
      refine wpAny_pure ?_
      have hgd : ((h.push { cls := .type "dict", data := .dict #[] }).update x fun o => { cls := o.cls, dict := some h.objs.size, data := o.data, slots := o.slots }).get? h.objs.size
          = some { cls := .type "dict", data := .dict #[] } :=
        (Heap.get?_update_ne _ _ _ _ hxs.symm).trans (Heap.get?_push_at rfl rfl)
      have hnd : ((h.push { cls := .type "dict", data := .dict #[] }).update x fun o => { cls := o.cls, dict := some h.objs.size, data := o.data, slots := o.slots }).Ns h.objs.size (fun _ => none) :=
        ⟨_, #[], _, hgd, rfl, fun e he => absurd he (by simp), fun _ => rfl⟩
      show wpAny _ _ (storeInDict h.objs.size (.str name tk) name v) _ _ _
      unfold storeInDict newKeyGuard
      refine wpAny_bind (wpAny_pure (wpAny_bind (wpAny_nsSet1 (Heap.Ns1.of_empty hnd) fun h' hn' hs => ?_)))
      obtain ⟨oD, esD, epD, hoD, hdD, hcD⟩ := hn'.count (Within.cons name v Within.nil)
      refine wpAny_bind (wpAny_lookBehind hoD (by rw [hdD]; exact pastItsLine_dict (Nat.le_trans hcD (by rw [List.length_cons, List.length_nil, sizeLine_eq]; omega))) ?_)
      wp_walk
      have hx' : h'.get? x = some { cls := o.cls, dict := some h.objs.size, data := o.data, slots := o.slots } := ?_
      refine hq h' _ ⟨{ cls := o.cls, dict := some h.objs.size, data := o.data, slots := o.slots }, hx', hc, hnc, .inr ⟨h.objs.size, rfl, hxs.symm, ?_⟩⟩ (fun b ob hbx _ hb => ?_)
        (fun o₀ h₀ => by obtain rfl : o = o₀ := Option.some.inj (hx.symm.trans h₀); exact ⟨_, hx', rfl, rfl, rfl, fun dx e => (by rw [hdn] at e; cases e), fun _ => rfl⟩)
      · obtain ⟨o', es, ep, e1, e2, e3, eu, e4⟩ := hn'
        exact ⟨o', es, ep, e1, e2, e3, eu, fun y => by rw [e4 y]; by_cases hy : y = name <;> simp [hy, hmA]⟩
      · exact (hs.2 b (Nat.ne_of_lt (Heap.lt_size hb))).trans ((Heap.get?_update_ne _ _ _ _ hbx).trans (Heap.get?_push_of_some _ hb))
      · refine (hs.2 x hxs).trans (Heap.get?_update_self _ hx₁ ?_)
        have hfr := (Heap.get?_some_iff.mp hx).2
        obtain ⟨oc, od, odt, osl⟩ := o
        cases odt <;> first | rfl | exact hfr
  · rw [hdx]
    refine wpAny_pure ?_
    show wpAny _ _ (storeInDict dx (.str name tk) name v) _ _ _
    unfold storeInDict newKeyGuard
    refine wpAny_bind (wpAny_pure (wpAny_bind (wpAny_nsSet1 hns fun h' hn' hs => ?_)))
    obtain ⟨oD, esD, epD, hoD, hdD, hcD⟩ := hn'.count (Within.cons name v hw)
    refine wpAny_bind (wpAny_lookBehind hoD (by rw [hdD]; exact pastItsLine_dict (Nat.le_trans hcD (by rw [List.length_cons]; omega))) ?_)
    wp_walk
    refine hq h' _ ⟨o, (hs.2 x hne.symm).trans hx, hc, hnc, .inr ⟨dx, hdx, hne, hn'⟩⟩ (fun b ob _ hbd hb => ?_)
      (fun o₀ h₀ => ⟨o₀, (hs.2 x hne.symm).trans h₀, rfl, rfl, rfl, fun _ e => e, fun e => by obtain rfl : o = o₀ := Option.some.inj (hx.symm.trans h₀); rw [hdx] at e; cases e⟩)
    exact (hs.2 b (hbd o dx hx hdx)).trans hb
theorem check_sa_x {M : Model} {o : Obj} {nameV : Value} {Q : Unit → Shared → Prop} (T : OverV bm)
    (hC : h.get? C = some (excClassObj nm q C N bs bm true sn sub ab col dd k0 k1 k2 k3 k5 "ValueError.__new__")) (hx : h.get? x = some o) (hc : o.cls = .ref C) (hq : Q () ⟨h, g, d, t, os⟩) :
    wpAny M A (checkBuiltinCall "object.__setattr__" ⟨[.ref x, nameV, v], []⟩) Q E ⟨h, g, d, t, os⟩ := by
  have SF := PySem.F.store_ValueError
  have hcB : (Value.ref C :: bm).contains (.type "object") = true := by rw [List.contains_cons, T.has SF.hasOwner, Bool.or_true]
  have ha := SF.args (.ref x) nameV v
  simp only [checkBuiltinCall, SF.kind, SF.split]
  refine wpAny_bind ?_
  · unfold isInstance
    repeat (first | (with_reducible refine wpAny_loadPart_at hx ?_; rw [hc]) | (with_reducible refine wpAny_isSubtype_exc hC ?_; rw [hcB]) | wp_step)
    exact hq
theorem store_x {Q : Unit → Shared → Prop} {ns : List Str} (T : OverV bm)
    (hC : h.get? C = some (excClassObj nm q C N bs bm true sn sub ab col dd k0 k1 k2 k3 k5 "ValueError.__new__")) (hsa : PySem.W.Looks (model prog w) h (typeLookup (.ref C) "__setattr__") (some (.builtin "object.__setattr__")))
    (hna : PySem.W.Looks (model prog w) h (typeLookup (.ref C) name) none) (hxC : x ≠ C) (I : h.Inst x C mA)
    (hq : ∀ h' tk', h'.Inst x C (fun y => if y = name then some v else mA y) →
      (∀ b o, b ≠ x → (∀ o₀ dx, h.get? x = some o₀ → o₀.dict = some dx → b ≠ dx) → h.get? b = some o → h'.get? b = some o) →
      (∀ o₀, h.get? x = some o₀ → ∃ o₁, h'.get? x = some o₁ ∧ o₁.cls = o₀.cls ∧ o₁.data = o₀.data ∧ o₁.slots = o₀.slots ∧ (∀ dx, o₀.dict = some dx → o₁.dict = some dx) ∧ (o₀.dict = none → o₁.dict = some h.objs.size)) → Q () ⟨h', g, d, tk', os⟩) (hw : Within mA ns) (hsz : ns.length ≤ sizeLine) :
    wpAny (model prog w) A (setAttr (.ref x) name v) Q E ⟨h, g, d, t, os⟩ := by
  obtain ⟨o, hx, hc, _⟩ := id I
  have SF := PySem.F.store_ValueError
  have f3 := SF.slot.bind (.ref x)
  unfold setAttr callSpecial? specialOf
  repeat (any_goals (first | assumption | (with_reducible refine wpAny_loadPart_at hx ?_; rw [hc]) | with_reducible refine hsa.at ?_ | wp_step))
  refine codeAny_call_builtin SF.slot.plain SF.entry (check_sa_x T hC hx hc (store_entry_x T hC hna hxC I (fun h' tk' I' hk hsame => ?_) hw hsz))
  repeat (any_goals (first | assumption | wp_step))
  exact hq h' tk' I' hk hsame
end
section
variable {prog : Program} {w : World} {A : Around} {E : Value → Shared → Prop} {h : Heap} {g : Array GenState} {d : Drawn} {t : Nat} {os : OsState} {K : PySem.W.Frag}
variable {nm q : Str} {C N x : Addr} {bs bm : List Value} {sn : List Str} {sub : List Value} {ab : Bool} {col : Option Bool} {dd : Option Addr} {k0 k1 k2 k3 k5 : Option Value}
  {name : Str} {v : Value} {ox : Obj} {od : Option Obj}
theorem check_ga_x {M : Model} {nameV : Value} {Q : Unit → Shared → Prop} (T : OverV bm) (hC : h.get? C = some (excClassObj nm q C N bs bm true sn sub ab col dd k0 k1 k2 k3 k5 "ValueError.__new__"))
    (hx : h.get? x = some ox) (hc : ox.cls = .ref C) (hq : Q () ⟨h, g, d, t, os⟩) : wpAny M A (checkBuiltinCall "BaseException.__getattribute__" ⟨[.ref x, nameV], []⟩) Q E ⟨h, g, d, t, os⟩ := by
  have hk : builtinKind "BaseException.__getattribute__" = some .slot := by decide +kernel
  have hsplit : splitId "BaseException.__getattribute__" = some ("BaseException", "__getattribute__") := by decide +kernel
  have hcB : (Value.ref C :: bm).contains (.type "BaseException") = true := by rw [List.contains_cons, T.has (b := true) (by decide +kernel)]; rfl
  have ha := F.args_bexc_ga (.ref x) nameV
  simp only [checkBuiltinCall, hk, hsplit]
  refine wpAny_bind ?_
  · unfold isInstance
    repeat (first | (with_reducible refine wpAny_loadPart_at hx ?_; rw [hc]) | (with_reducible refine wpAny_isSubtype_exc hC ?_; rw [hcB]) | wp_step)
    exact hq
theorem load_x {expr : Bool} {Q : Value → Shared → Prop} (T : OverV bm) (hC : h.get? C = some (excClassObj nm q C N bs bm true sn sub ab col dd k0 k1 k2 k3 k5 "ValueError.__new__")) (X : K.In h)
    (hga : PySem.W.findIn K (.ref C) "__getattribute__" = some (some (.builtin "BaseException.__getattribute__"))) (hgt : PySem.W.findIn K (.ref C) "__getattr__" = some none)
    (I : PySem.W.InstAt h x ox C od) (hf : PySem.W.findObj K C od name = some (.value v)) (hh : PySem.W.handedIn v = true) (hq : Q v ⟨h, g, d, t + 1, os⟩) :
    wpAny (model prog w) A (getAttr (.ref x) name expr) Q E ⟨h, g, d, t, os⟩ := by
  have FB := PySem.F.attrBase_ValueError
  have f3 := FB.ga.bind (.ref x)
  have hx0 : (expr && onTheHeap (Value.builtin "BaseException.__getattribute__")) = false := by cases expr <;> rfl
  have hx2 : (Value.builtin "BaseException.__getattribute__" == Value.builtin "object.__getattribute__") = false := by decide +kernel
  have hx1 : (onTheHeap (Value.ref C) && Value.builtin "BaseException.__getattribute__" == Value.builtin "object.__getattribute__") = false := by rw [hx2]; rfl
  have L0 := I.type (M := model prog w)
  have L1 := PySem.W.looks_findIn (M := model prog w) X hga
  have L2 := PySem.W.looks_findIn (M := model prog w) X hgt
  have L3 := PySem.W.looks_find (M := model prog w) X I hf
  unfold getAttr getAttrBy
  refine wpAny_bind (wpAny_mkText (wpAny_holding (wpAny_bind (L0.at (wpAny_bind (L1.at ?_))))))
  dsimp only
  rw [hx1, if_neg (by decide)]
  unfold getAttrByItsOwn
  have ho : hookBefore (.ref C) = typeLookup (.ref C) "__getattr__" := rfl
  rw [ho]
  refine wpAny_bind (L2.at (wpAny_bind (wpAny_attempt (wpAny_holding ?_))))
  unfold callGetattribute
  rw [hx0, if_neg (by decide)]
  unfold boundAndCalled
  rw [f3]
  refine wpAny_bind (wpAny_pure ?_)
  refine wpAny_call (codeAny_call_builtin FB.ga.plain F.entry_bexc_ga (check_ga_x T hC I.at_ I.cls ?_))
  unfold Builtin.«object.__getattribute__»
  repeat (first | with_reducible refine L0.at ?_ | with_reducible refine L3.at ?_ | wp_step)
  show wpAny _ _ (handedOut v) _ _ _
  rw [PySem.W.handedOut_of hh]
  exact wpAny_pure hq
end
end PySem

set_option Elab.async false
set_option linter.all false
set_option maxRecDepth 100000
namespace L2
open PySem PySem.Spec PyProof.Rows
/-! ### exceptions in the abstract heap -/
noncomputable def XObj (a C : Addr) (d : Option Addr) (vs : Array Value) : HO := .ext fun h => ∃ sl, h.get? a = some ⟨.ref C, d, .fields vs, sl⟩
noncomputable def XDct (dx : Addr) (fs : List (Str × V)) : HO := .ext fun h => ∃ mA, h.Ns1 dx mA ∧ (∀ f, RelO (fs.lookup f) (mA f)) ∧ PySem.Within mA (fs.map (·.1))
section
variable {P : Program} {w : World} {H : Hp} {h : Heap} {a C dx : Addr} {d : Option Addr} {vs : Array Value} {fs : List (Str × V)}
theorem xobj_get (ok : HOk P w H h) (e : H a = some (XObj a C d vs)) : ∃ sl, h.get? a = some ⟨.ref C, d, .fields vs, sl⟩ := (ok a _ e).1
theorem xdct_get (ok : HOk P w H h) (e : H dx = some (XDct dx fs)) : ∃ mA, h.Ns1 dx mA ∧ (∀ f, RelO (fs.lookup f) (mA f)) ∧ PySem.Within mA (fs.map (·.1)) := (ok dx _ e).1
theorem xobj_ok {sl : Array (Option Value)} (e : h.get? a = some ⟨.ref C, d, .fields vs, sl⟩) : ObjOk P w H h a (XObj a C d vs) := ⟨⟨sl, e⟩, ⟨_, e⟩, fun h1 h2 ⟨z, q⟩ k => ⟨z, k _ q⟩⟩
theorem xdct_ok {mA : Str → Option Value} (n : h.Ns1 dx mA) (r : ∀ f, RelO (fs.lookup f) (mA f)) (wi : PySem.Within mA (fs.map (·.1))) : ObjOk P w H h dx (XDct dx fs) := by
  refine ⟨⟨mA, n, r, wi⟩, ?_, fun h1 h2 ⟨m, ⟨o, es, ep, e, c⟩, r, wi⟩ k => ⟨m, ⟨o, es, ep, k _ e, c⟩, r, wi⟩⟩
  obtain ⟨o, _, _, e, _⟩ := n
  exact ⟨o, e⟩
end
section
variable {X : Cx} {pins : List (Addr × Obj)} {σ : St} {H : Hp} {s : Shared} {h' : Heap}
theorem Inv.two {a dx : Addr} {o o' : HO} {φ : Heap → Prop} {t' : Nat} (I : Inv X pins σ H s) (mu : H a = some (.ext φ)) (hdx : s.heap.objs.size ≤ dx) (k : ∀ b u, b ≠ a → s.heap.get? b = some u → h'.get? b = some u) (ha : ∃ u, h'.get? a = some u)
    (n1 : ObjOk X.prog X.w (upd (upd H dx o) a o') h' dx o) (n2 : ObjOk X.prog X.w (upd (upd H dx o) a o') h' a o') : Inv X pins σ (upd (upd H dx o) a o') { s with heap := h', toks := t' } := by
  have hn : H dx = none := I.hok.fresh hdx
  have up : ∀ b, b ≠ a → b ≠ dx → upd (upd H dx o) a o' b = H b := fun b h1 h2 => by rw [upd_ne h1, upd_ne h2]
  have nea : ∀ b u, H b = some u → (∀ φ, u ≠ .ext φ) → b ≠ a ∧ b ≠ dx := fun b u e hu => ⟨fun z => by rw [z, mu] at e; exact hu φ (Option.some.inj e).symm, ne_of_none e hn⟩
  refine I.un ⟨fun b ob e n _ _ => k b ob (fun z => by rw [z, mu] at n; cases n) e, fun b ob e n _ _ => ⟨ob.slots, k b ob (fun z => by rw [z, mu] at n; cases n) e⟩, fun b ob e n _ => ?_, fun b ob e _ => ?_, fun b xs e => ?_, fun b ob u e => ?_, fun b ps e => ⟨#[], ?_⟩⟩ fun b u e => ?_
  · rw [up b (fun z => by rw [z, mu] at n; cases n) fun z => absurd (Nat.lt_of_lt_of_le (Heap.lt_size e) (z ▸ hdx)) (Nat.lt_irrefl _)]; exact n
  · by_cases q : b = a
    · rw [q]; exact ha
    · exact ⟨ob, k b ob q e⟩
  · have q := nea b _ e (fun _ z => by cases z); rw [up b q.1 q.2]; exact e
  · have q := nea b _ e (fun _ z => by cases z); rw [up b q.1 q.2]; exact e
  · have q := nea b _ e (fun _ z => by cases z); rw [up b q.1 q.2, e]; simp
  · by_cases q : b = a
    · rw [q, upd_same] at e; cases e; rw [q]; exact n2
    · by_cases q2 : b = dx
      · rw [q2] at q; rw [q2, upd_ne q, upd_same] at e; cases e; rw [q2]; exact n1
      · rw [up b q q2] at e
        refine (I.hok b u e).stay (fun c v hc z => k c v (fun y => ?_) z) (fun c z => ?_) fun c xs z => ?_
        · rcases hc with hc | hc
          · exact q (hc ▸ y)
          · rw [y, mu] at hc; cases hc
        · have q := nea c _ z (fun _ z => by cases z); rw [up c q.1 q.2]; exact z
        · have q := nea c _ z (fun _ z => by cases z); rw [up c q.1 q.2]; exact z
theorem Inv.inst {a C : Addr} {d : Option Addr} {vs : Array Value} {bm : List Value} (I : Inv X pins σ H s) (e : H a = some (XObj a C d vs)) (xc : XC X.K C bm) : a ≠ C := by
  obtain ⟨nm, q, N, bs, sn, sub, ab, col, dd, k0, k1, k2, k3, k5, hl⟩ := xc.at_
  have hC := I.kIn _ _ hl
  obtain ⟨sl, ha⟩ := xobj_get I.hok e
  rintro rfl
  rw [hC] at ha
  cases ha
/-- behind a store -/
noncomputable def XSt (H : Hp) (a C : Addr) (d : Option Addr) (vs : Array Value) (f : Str) (y : V) (G : Hp → Prop) : Prop := match d with
  | none => ∀ dx, H dx = none → dx ≠ a → G (upd (upd H dx (XDct dx [(f, y)])) a (XObj a C (some dx) vs))
  | some dx => ∃ fs, H dx = some (XDct dx fs) ∧ fs.length < 100 ∧ G (upd H dx (XDct dx (putF f y fs)))
/-- o.f = e, o an exception -/
theorem setattr_x {A : Around} {E : Value → Shared → Prop} {a C : Addr} {d : Option Addr} {vs : Array Value} {f : Str} {y : V} {u : Value} {Q : Unit → Shared → Prop} (I : Inv X pins σ H s) (e : H a = some (XObj a C d vs)) (xa : XA X.K C) (n : NoAttr X.K C f) (ry : RelV y u)
    (h : XSt H a C d vs f y fun H' => ∀ s', Inv X pins σ H' s' → Q () s') : wpAny (model X.prog X.w) A (setAttr (.ref a) f u) Q E s := by
  obtain ⟨bm, xc⟩ := xa.bm
  have hne := I.inst e xc
  obtain ⟨nm, q, N, bs, sn, sub, ab, col, dd, k0, k1, k2, k3, k5, hl⟩ := xc.at_
  obtain ⟨sl, ha⟩ := xobj_get I.hok e
  have K := I.kIn
  have L1 := PySem.W.looks_findIn (M := model X.prog X.w) K xa.sa
  have L2 := PySem.W.looks_findIn (M := model X.prog X.w) K (show PySem.W.findIn X.K (.ref C) f = some none from n)
  have hC := K _ _ hl
  obtain ⟨hh, g, dr, t, os⟩ := s
  cases d with
  | none =>
    refine store_x (mA := fun _ => none) (ns := []) xc.ov hC L1 L2 hne ⟨_, ha, rfl, fun c z => (by cases z), .inl ⟨rfl, fun _ => rfl⟩⟩ (fun h' tk' inst k same => ?_) PySem.Within.nil (by decide)
    obtain ⟨o1, e1, c1, d1, s1, _, d2⟩ := same _ ha
    have d2 := d2 rfl
    obtain ⟨o2, e2, _, _, z⟩ := inst
    rw [e1] at e2; cases e2
    have hd : hh.objs.size ≠ a := Nat.ne_of_gt (Heap.lt_size ha)
    refine h hh.objs.size (I.hok.fresh (Nat.le_refl _)) hd _ (I.two (t' := tk') (h' := h') e (Nat.le_refl _) (fun b u hb z => k b u hb (fun o₀ dx h0 hdx => by rw [ha] at h0; cases h0; cases hdx) z) ⟨_, e1⟩ ?_ ?_)
    · rcases z with ⟨z, _⟩ | ⟨d3, z, _, ns⟩
      · rw [d2] at z; cases z
      · rw [d2] at z; cases z
        refine xdct_ok ns (fun g => ?_) fun g hg => ?_
        · show RelO (List.lookup g [(f, y)]) (if g = f then some u else none)
          by_cases q : g = f
          · have hb : (g == f) = true := beq_iff_eq.mpr q
            simp only [List.lookup, hb, if_pos q]; exact ry
          · have hb : (g == f) = false := beq_eq_false_iff_ne.mpr q
            simp only [List.lookup, hb, if_neg q]; exact True.intro
        · by_cases q : g = f
          · rw [q]; simp
          · exact absurd (if_neg q) hg
    · obtain ⟨oc, od, odt, osl⟩ := o1
      dsimp only at c1 d1 s1 d2
      rw [c1, d1, s1, d2] at e1
      exact xobj_ok e1
  | some dx =>
    obtain ⟨fs, ed, hl', h⟩ := h
    obtain ⟨mA, n1, r, wi⟩ := xdct_get I.hok ed
    have hda : dx ≠ a := fun z => by
      obtain ⟨o, es, ep, e1, e2, _⟩ := n1
      rw [z, ha] at e1; cases e1; cases e2
    refine store_x (mA := mA) (ns := fs.map (·.1)) xc.ov hC L1 L2 hne ⟨_, ha, rfl, fun c z => (by cases z), .inr ⟨dx, rfl, hda, n1⟩⟩ (fun h' tk' inst k same => ?_) wi (by rw [List.length_map, sizeLine_eq]; omega)
    obtain ⟨o1, e1, c1, d1, s1, d2, _⟩ := same _ ha
    have d2 := d2 dx rfl
    obtain ⟨o2, e2, _, _, z⟩ := inst
    rw [e1] at e2; cases e2
    obtain ⟨oc, od, odt, osl⟩ := o1
    dsimp only at c1 d1 s1 d2
    rw [c1, d1, s1, d2] at e1
    have ns : h'.Ns1 dx (fun y => if y = f then some u else mA y) := by
      rcases z with ⟨z, _⟩ | ⟨d3, z, _, ns⟩
      · have z : od = none := z
        rw [d2] at z; cases z
      · have z : od = some d3 := z
        rw [d2] at z; cases z; exact ns
    refine h _ (I.write (x := dx) (e := dx) (t' := tk') (h' := h') (by rw [ed]; exact True.intro) (.inl rfl) (fun b u hb z => ?_) (by obtain ⟨o, _, _, e, _⟩ := ns; exact ⟨o, e⟩) (xdct_ok ns (fun g => ?_) fun g hg => ?_))
    · by_cases q : b = a
      · rw [q] at z ⊢
        have z : hh.get? a = some u := z
        rw [ha] at z; cases z; exact e1
      · exact k b u q (fun o₀ dx' h0 hdx => by rw [ha] at h0; cases h0; cases hdx; exact hb) z
    · show RelO ((putF f y fs).lookup g) (if g = f then some u else mA g)
      rw [lookup_putF]
      by_cases q : g = f
      · rw [if_pos q, if_pos q]; exact ry
      · rw [if_neg q, if_neg q]; exact r g
    · by_cases q : g = f
      · rw [q]; exact (keys_putF f y fs).1
      · refine (keys_putF f y fs).2 g (wi g fun z => hg ?_)
        show (if g = f then some u else mA g) = none
        rw [if_neg q]; exact z
/-- e.f, e an exception -/
theorem getattr_x {A : Around} {E : Value → Shared → Prop} {a C dx : Addr} {vs : Array Value} {fs : List (Str × V)} {f : Str} {v : V} {b : Bool} {Q : Value → Shared → Prop} (I : Inv X pins σ H s) (e : H a = some (XObj a C (some dx) vs)) (ed : H dx = some (XDct dx fs)) (xa : XA X.K C) (n : NoAttr X.K C f)
    (l : fs.lookup f = some v) (h : ∀ u s', Inv X pins σ H s' → RelV v u → Q u s') : wpAny (model X.prog X.w) A (getAttr (.ref a) f b) Q E s := by
  obtain ⟨bm, xc⟩ := xa.bm
  obtain ⟨nm, q, N, bs, sn, sub, ab, col, dd, k0, k1, k2, k3, k5, hl⟩ := xc.at_
  obtain ⟨sl, ha⟩ := xobj_get I.hok e
  obtain ⟨mA, n1, r, wi⟩ := xdct_get I.hok ed
  obtain ⟨u, hu, ru⟩ := RelO.some_of (v := v) (o := mA f) (by rw [← l]; exact r f)
  obtain ⟨od, J, hlk⟩ := lookIn_ns n1
  have K := I.kIn
  have hC := K _ _ hl
  have hh : PySem.W.hasDictIn X.K C = true := by
    unfold PySem.W.hasDictIn PySem.W.clsIn
    rw [hl]; rfl
  obtain ⟨hp, g, dr, t, os⟩ := s
  exact load_x (ox := ⟨.ref C, some dx, .fields vs, sl⟩) (od := some od) xc.ov hC K xa.ga xa.gt ⟨ha, rfl, rfl, J⟩ (PySem.W.findObj_own hh n rfl (by rw [hlk, hu])) (handed_of ru) (h u _ (I.tok _) ru)
end
/-! ### fields of exceptions -/
noncomputable def sXf (K : PySem.W.Frag) (ta tv : TE) (f : Str) : TS := fun D σ H => tv σ H fun y H1 => ta σ H1 fun x H2 => ∃ (a C : Addr) (d : Option Addr) (vs : Array Value), x = .ref a ∧ H2 a = some (XObj a C d vs) ∧ XA K C ∧ NoAttr K C f ∧ XSt H2 a C d vs f y (D.nx σ)
noncomputable def tXf (K : PySem.W.Frag) (ta : TE) (f : Str) : TE := fun σ H Q => ta σ H fun x H1 => ∃ (a C dx : Addr) (vs : Array Value) (fs : List (Str × V)) (v : V), x = .ref a ∧ H1 a = some (XObj a C (some dx) vs) ∧ H1 dx = some (XDct dx fs) ∧ XA K C ∧ NoAttr K C f ∧ fs.lookup f = some v ∧ Q v H1
section
variable {X : Cx} {e o value : Expr} {ta tv : TE} {f : Str} {pos pos' : Pos}
theorem pe_xf (he : PE X e ta) (hb : attributeBase e f X.env (eval e X.env) = eval e X.env := by rfl) : PE X (.Attribute e f pos) (tXf X.K ta f) := by
  intro pins s σ H Q I h
  refine attr_of hb (thn (he pins s σ H _ I h) fun u s1 ⟨x, H1, I1, rx, a, C, dx, vs, fs, v, ex, ea, ed, c, n, l, q⟩ => ?_)
  subst ex
  obtain rfl : u = Value.ref a := rx
  exact getattr_x I1 ea ed c n l fun u' s2 I2 ru => ⟨v, H1, I2, ru, q⟩
theorem ps_xf (ha : PE X o ta) (hv : PE X value tv) (hs : swapsWith value (some (.Attribute o f pos')) pos.line X.env = pure false := by rfl) : PS X (.Assign [.Attribute o f pos'] value pos) (sXf X.K ta tv f) := by
  intro pins s σ H D I h
  refine plainObj_wpAny_Assign_Attribute (thn (hv pins s σ H _ I h) fun u s1 ⟨y, H1, I1, ry, q⟩ => thn (ha pins s1 σ H1 _ I1 q) fun ov s2 ⟨x, H2, I2, rx, a, C, d, vs, ex, ea, c, n, q2⟩ => ?_) hs
  subst ex
  obtain rfl : ov = Value.ref a := rx
  refine setattr_x I2 ea c n ry ?_
  cases d with
  | none => exact fun dx h1 h2 s3 I3 => ⟨σ, _, I3, q2 dx h1 h2⟩
  | some dx =>
    obtain ⟨fs, h1, h2, q2⟩ := q2
    exact ⟨fs, h1, h2, fun s3 I3 => ⟨σ, _, I3, q2⟩⟩
end
end L2

set_option Elab.async false
set_option linter.all false
set_option maxRecDepth 100000
namespace PySem
open Sem (wp)
open L2 (OverV)
section
variable {M : Model} {A : Around} {E : Value → Shared → Prop} {env : Env}
variable {nm q : Str} {C N : Addr} {bs bm : List Value} {sn : List Str} {sub : List Value} {ab : Bool} {col : Option Bool} {dd : Option Addr} {k0 k1 k2 k3 k5 : Option Value}
theorem raise_made_x {s : Shared} {x : Sem Value} {Q : Flow → Shared → Prop} (T : OverV bm) (hh : A.handled = none)
    (h : wpAny M A x (fun v s₁ => ∃ e vs d sl, v = .ref e ∧ s₁.heap.get? C = some (excClassObj nm q C N bs bm true sn sub ab col dd k0 k1 k2 k3 k5 "ValueError.__new__") ∧
      s₁.heap.get? e = some ⟨.ref C, d, .fields vs, sl⟩ ∧ vs[1]? = some .none ∧ E (.ref e) s₁) E s) :
    wpAny M A (raiseStmt env (some x) none) Q E s := by
  have hcB : (Value.ref C :: bm).contains (.type "BaseException") = true := by rw [List.contains_cons, T.has (b := true) (by decide +kernel), Bool.or_true]
  unfold raiseStmt
  refine wpAny_bind (wpAny_mono h (fun v s₁ h₁ => ?_) fun _ _ x => x)
  obtain ⟨e, vs, d, sl, rfl, hC, he, h1, hE⟩ := h₁
  obtain ⟨hp, g, dr, tk, os⟩ := s₁
  unfold setFlight
  repeat (first | with_reducible refine wpAny_loadPart_at he ?_ | with_reducible refine wpAny_loadPart_at hC ?_ | (with_reducible refine wpAny_isSubtype_exc hC ?_; rw [hcB]) | with_reducible refine wpAny_field he rfl h1 ?_ | wp_step)
  exact wpAny_raiseNew_none hh hE
end
end PySem
namespace L2
open PySem PySem.Spec PyProof.Rows
/-! ### an exception is made and raised -/
noncomputable def unt (H : Hp) (a : Addr) : Hp := fun b => if b = a then none else H b
theorem unt_same {H : Hp} {a : Addr} : unt H a a = none := if_pos rfl
theorem unt_ne {H : Hp} {a b : Addr} (h : b ≠ a) : unt H a b = H b := if_neg h
structure XMk (K : PySem.W.Frag) (C f : Addr) : Prop where
  init : PySem.W.findIn K (.ref C) "__init__" = some (some (.ref f))
  fn : PySem.W.isFn K (.ref f) = true
  kp : PySem.W.keepIn K (.ref C) = true
  xa : XA K C
section
variable {X : Cx} {pins : List (Addr × Obj)} {σ : St} {H : Hp} {s : Shared}
theorem Inv.drop {a : Addr} {φ : Heap → Prop} (I : Inv X pins σ H s) (e : H a = some (.ext φ)) : Inv X pins σ (unt H a) s := by
  have nea : ∀ b u, H b = some u → (∀ φ, u ≠ .ext φ) → b ≠ a := fun b u h hu z => by rw [z, e] at h; exact hu φ (Option.some.inj h).symm
  have nn : ∀ b, H b = none → unt H a b = none := fun b h => by
    by_cases q : b = a
    · rw [q]; exact unt_same
    · rw [unt_ne q]; exact h
  refine ⟨I.ok, I.os, I.bare, ⟨I.base.keep, I.base.slot, fun b o q n hx => nn b (I.base.free b o q n hx), I.base.there, fun b xs q => ?_, fun b o u q => ?_, fun b ps q => ?_⟩, I.loc, I.cell, nn _ I.free, fun x c q => nn _ (I.freeC x c q), fun p hp => ?_, fun b u q => ?_, I.len⟩
  · have z := I.base.tups b xs q; rw [unt_ne (nea b _ z fun _ y => by cases y)]; exact z
  · have z := I.base.frzs b o u q; rw [unt_ne (nea b _ z fun _ y => by cases y)]; exact z
  · obtain ⟨m, z⟩ := I.base.tbls b ps q; exact ⟨m, by rw [unt_ne (nea b _ z fun _ y => by cases y)]; exact z⟩
  · obtain ⟨p1, p2, p3⟩ := I.pin p hp; exact ⟨p1, nn _ p2, p3⟩
  · by_cases z : b = a
    · rw [z, unt_same] at q; cases q
    · rw [unt_ne z] at q
      refine (I.hok b u q).stay (fun c v _ y => y) (fun c y => ?_) fun c xs y => ?_
      · rw [unt_ne (nea c _ y fun _ w => by cases w)]; exact y
      · rw [unt_ne (nea c _ y fun _ w => by cases w)]; exact y
theorem run_makeX {C f : Addr} {k : Nat} {fd : FuncData} {ps : List Str} {sp : Sp} {us : List Value} {vs : List V} {Q : Addr → Array Value → Hp → Prop} (M : XMk X.K C f) (F : FnOk X.prog X.w X.K X.mg X.base CX0 k f fd ps sp) (hr : Room (k + 1) X.A) (hb : Binds X.K fd ps [])
    (I : Inv X pins σ H s) (r : Vals vs us) (hl : vs.length ≤ 1000) (h : ∀ a v0, H a = none → sp (.ref a :: vs) (upd H a (XObj a C none v0)) (fun v H2 => v = .non ∧ Q a v0 H2) E0) :
    wpAny (model X.prog X.w) X.A (call (.ref C) us) (fun u s' => ∃ a v0 H2, u = .ref a ∧ s.heap.objs.size ≤ a ∧ v0[1]? = some Value.none ∧ Inv X pins σ H2 s' ∧ Q a v0 H2) X.xe s := by
  obtain ⟨bm, xc⟩ := M.xa.bm
  obtain ⟨nm, q, N, bs, sn, sub, ab, col, dd, k0, k1, k2, k3, k5, hlk⟩ := xc.at_
  have hC := I.kIn _ _ hlk
  have I2 : Inv X pins σ (upd H (s.heap.objs.size + 1) (XObj (s.heap.objs.size + 1) C none #[.ref s.heap.objs.size, .none, .none, .none, .bool false, .none]))
      { s with heap := (s.heap.push { cls := .type "tuple", data := .seq us.toArray }).push { cls := .ref C, data := .fields #[.ref s.heap.objs.size, .none, .none, .none, .bool false, .none] } } := by
    refine I.laid (t' := s.toks) (fun b u e => Heap.get?_push_of_some _ (Heap.get?_push_of_some _ e)) (Nat.le_succ _) (xobj_ok (sl := #[]) ?_)
    have := Heap.get?_push_size (s.heap.push { cls := .type "tuple", data := .seq us.toArray }) (o := { cls := .ref C, data := .fields #[.ref s.heap.objs.size, .none, .none, .none, .bool false, .none] }) rfl
    rwa [Heap.size_push] at this
  have hq := h (s.heap.objs.size + 1) #[.ref s.heap.objs.size, .none, .none, .none, .bool false, .none] (I.hok.fresh (Nat.le_succ _))
  have r2 : Vals (V.ref (s.heap.objs.size + 1) :: vs) (Value.ref (s.heap.objs.size + 1) :: us) := .cons rfl r
  have hlp : (Value.ref (s.heap.objs.size + 1) :: us).length = ps.length := by rw [← r2.length]; exact F.len _ _ _ _ hq
  have hb' := hb _ (Value.ref (s.heap.objs.size + 1) :: us) I2.kIn (by rw [List.append_nil]; exact hlp)
  rw [List.append_nil] at hb'
  have L1 := PySem.W.looks_findIn (M := model X.prog X.w) I.kIn M.init
  have L2 : ∀ self, PySem.W.Looks (model X.prog X.w) s.heap (bindSpecial (.ref f) self) (.ref f, [self]) := fun self => PySem.W.bind_fn I.kIn self (beq_iff_eq.mp M.fn)
  have hlu : us.length ≤ sizeLine := by rw [← r.length, sizeLine_eq]; omega
  obtain ⟨hh, g, dr, t, os⟩ := s
  refine make_x xc.ov hC L1 L2 hlu (wpAny_call (codeAny_mono (F.run _ X.stack _ _ ⟨Value.ref (hh.objs.size + 1) :: us, []⟩ (Value.ref (hh.objs.size + 1) :: us) _ _ E0 (hr.make C us []) (I2.env0.make C us []) hb' r2 hq) fun r s' hq' => ?_))
  cases r with
  | error e => exact False.elim hq'
  | ok fl =>
    cases fl with
    | ret u =>
      obtain ⟨v, H', I3, rv, ev, q3⟩ := I2.after hq'
      subst ev
      exact ⟨rv, _, _, H', rfl, Nat.le_succ _, rfl, I3, q3⟩
    | next => exact False.elim hq'
    | brk => exact False.elim hq'
    | cont => exact False.elim hq'
end
noncomputable def tRaise (C : Addr) (sp : Sp) (EX : St → XK) (t : TA) : TS := fun _ σ H => t σ H fun vs H1 => vs.length ≤ 1000 ∧ ∀ a v0, H1 a = none →
  sp (.ref a :: vs) (upd H1 a (XObj a C none v0)) (fun v H2 => v = .non ∧ ∃ d, H2 a = some (XObj a C d v0) ∧ EX σ (.ref C) d (unt H2 a)) E0
/-- a class that may be raised: its __init__ -/
noncomputable def HasC (P : Program) (w : World) (K : PySem.W.Frag) (mg : Str → Option Value) (base : Heap) (k : Nat) (x : Str) (C : Addr) (ps : List Str) (sp : Sp) : Prop :=
  ∃ (f : Addr) (fd : FuncData), XMk K C f ∧ FnOk P w K mg base CX0 k f fd ps sp ∧ mg x = some (.ref C) ∧ Binds K fd ps []
theorem ps_raise {X : Cx} {EX : St → XK} {k j : Nat} {C : Addr} {ps : List Str} {sp : Sp} {x : Str} {p cpos pos : Pos} {e : Expr} {es : List Expr} {t : TA} (h : HasC X.prog X.w X.K X.mg X.base k x C ps sp) (L : Lands X EX) (hc : X.calm = true) (hr : Room j X.A) (hkj : k + 1 ≤ j)
    (ha : PA X (e :: es) t) (hg : Gl X x := by rfl) (h1 : isStar e = false := by rfl) (h2 : es.all (fun e => !isStar e) = true := by rfl) (hdb : (x == ("__debug__" : Str)) = false := by decide) :
    PS X (.Raise (some (.Call (.Name x p) (e :: es) [] cpos)) none pos) (tRaise C sp EX t) := by
  obtain ⟨f, fd, M, F, hm, hb⟩ := h
  obtain ⟨bm, xc⟩ := M.xa.bm
  obtain ⟨nm, q, N, bs, sn, sub, ab, col, dd, k0, k1, k2, k3, k5, hlk⟩ := xc.at_
  intro pins s σ H D I h
  rw [arm_exec_Raise]
  refine wpAny_bind (wpAny_standAt (raise_made_x (C := C) (nm := nm) (q := q) (N := N) (bs := bs) (sn := sn) (sub := sub) (ab := ab) (col := col) (dd := dd) (k0 := k0) (k1 := k1) (k2 := k2) (k3 := k3) (k5 := k5) xc.ov (I.ok.hd hc) ?_))
  refine wpAny_bind (wpAny_mono (wpAny_Call_Name_kw (ld_glob I hg hm ?_ hdb)) (fun v s₃ h₃ => wpAny_bind (wpAny_standAt (wpAny_pure h₃))) fun _ _ x => x)
  refine PySem.W.callWith_K (h₀ := X.base) I.ok.mod.kin M.kp (thn (ha cpos pins s σ H _ I h) fun us s1 ⟨vs, H1, I1, r, hl, q⟩ => ⟨I1.kIn, ?_⟩) (star1 h1) (star_any h2)
  refine thn (run_makeX M F (hr.mono hkj) hb I1 r hl q) fun u s2 ⟨a, v0, H2, eu, hlo, hv, I2, d, ea, hE⟩ => ?_
  subst eu
  obtain ⟨sl, hget⟩ := xobj_get I2.hok ea
  have I3 := I2.drop ea
  refine ⟨a, v0, d, sl, rfl, I2.kIn _ _ hlk, hget, hv, ?_⟩
  refine L pins σ _ _ a none (.ref C) d I3 ⟨⟨v0, sl, hget, hv⟩, fun b hb => ?_⟩ (fun p hp hc => ?_) hE
  · rcases List.mem_singleton.mp hb with rfl
    exact ⟨Nat.le_trans I1.sz hlo, unt_same⟩
  · rcases List.mem_singleton.mp hc with e
    have z := (I2.pin p (List.mem_append_left _ hp)).2.1
    rw [e, ea] at z; cases z
/-! ### the promise of an __init__ that keeps its fields -/
noncomputable def spXi (K : PySem.W.Frag) (fs : List Str) : Sp := fun vs H Q _ => ∃ (a C : Addr) (v0 : Array Value) (us : List V), vs = .ref a :: us ∧ us.length = fs.length ∧ H a = some (XObj a C none v0) ∧ XA K C ∧ (∀ f ∈ fs, NoAttr K C f) ∧
  ∀ dx, H dx = none → dx ≠ a → Q .non (upd (upd H dx (XDct dx (fs.zip us))) a (XObj a C (some dx) v0))
theorem upd_swap {H : Hp} {a b : Addr} {o1 o2 o3 : HO} (h : b ≠ a) : upd (upd (upd H b o1) a o2) b o3 = upd (upd H b o3) a o2 := by
  funext c
  by_cases q1 : c = a
  · rw [q1, upd_ne (Ne.symm h), upd_same, upd_same]
  · by_cases q2 : c = b
    · rw [q2, upd_same, upd_ne h, upd_same]
    · rw [upd_ne q2, upd_ne q1, upd_ne q2, upd_ne q1, upd_ne q2]
theorem unt_upd {H : Hp} {a b : Addr} {o1 o2 o3 : HO} (h : b ≠ a) (hn : H a = none) : unt (upd (upd (upd H a o1) b o2) a o3) a = upd H b o2 := by
  funext c
  by_cases q1 : c = a
  · rw [q1, unt_same, upd_ne (Ne.symm h), hn]
  · rw [unt_ne q1, upd_ne q1]
    by_cases q2 : c = b
    · rw [q2, upd_same, upd_same]
    · rw [upd_ne q2, upd_ne q2, upd_ne q1]
/-- raised: what is wanted of the exception, its fields in its dict -/
theorem w_raise {K : PySem.W.Frag} {C : Addr} {fs : List Str} {EX : St → XK} {t : TA} {D : Ends} {σ : St} {H : Hp} (xa : XA K C) (hn : ∀ f ∈ fs, NoAttr K C f)
    (h : t σ H fun vs H1 => vs.length = fs.length ∧ fs.length ≤ 2 ∧ ∀ dx, H1 dx = none → EX σ (.ref C) (some dx) (upd H1 dx (XDct dx (fs.zip vs)))) (hm : ∀ (Q Q' : List V → Hp → Prop), (∀ vs H1, Q vs H1 → Q' vs H1) → t σ H Q → t σ H Q') : tRaise C (spXi K fs) EX t D σ H := by
  refine hm _ _ (fun vs H1 hq => ?_) h
  obtain ⟨hl, h2, hq⟩ := hq
  refine ⟨by omega, fun a v0 ha => ⟨a, C, v0, vs, rfl, hl, upd_same, xa, hn, fun dx hd hne => ⟨rfl, some dx, upd_same, ?_⟩⟩⟩
  rw [unt_upd hne ha]
  refine hq dx ?_
  rw [upd_ne hne] at hd
  exact hd
end L2

set_option Elab.async false
set_option linter.all false
set_option maxRecDepth 100000
namespace PySem
open Sem (wp)
open L2 (OverV)
theorem excMatches_x {M : Model} {A : Around} {E : Value → Shared → Prop} {nm q nm' q' : Str} {C N D N' : Addr} {bs bm bs' bm' : List Value} {sn sn' : List Str} {sub sub' : List Value} {ab ab' : Bool} {col col' : Option Bool} {dd dd' : Option Addr} {k0 k1 k2 k3 k5 k0' k1' k2' k3' k5' : Option Value}
    {h : Heap} {g : Array GenState} {d : Drawn} {t : Nat} {os : OsState} {e : Addr} {oe : Obj} {Q : Bool → Shared → Prop} (TD : OverV bm')
    (hC : h.get? C = some (excClassObj nm q C N bs bm true sn sub ab col dd k0 k1 k2 k3 k5 "ValueError.__new__")) (hD : h.get? D = some (excClassObj nm' q' D N' bs' bm' true sn' sub' ab' col' dd' k0' k1' k2' k3' k5' "ValueError.__new__"))
    (he : h.get? e = some oe) (hcls : oe.cls = .ref C) (hin : (Value.ref C :: bm).contains (.ref D) = true) (hq : Q true ⟨h, g, d, t, os⟩) : wpAny M A (excMatches (.ref e) (.ref D)) Q E ⟨h, g, d, t, os⟩ := by
  have hcB : (Value.ref D :: bm').contains (.type "BaseException") = true := by rw [List.contains_cons, TD.has (b := true) (by decide +kernel), Bool.or_true]
  have f := tc_notTuple
  unfold excMatches
  repeat (first | (with_reducible refine wpAny_loadPart_at he ?_; rw [hcls]) | with_reducible refine wpAny_loadPart_at hD ?_ | (with_reducible refine wpAny_isSubtype_exc hD ?_; rw [hcB]) | (with_reducible refine wpAny_isSubtype_exc hC ?_; rw [hin]) | wp_step)
  exact hq
end PySem
namespace L2
open PySem PySem.Spec PyProof.Rows
/-! ### try, except -/
noncomputable abbrev Cx.tr (X : Cx) (pn : List (Addr × Obj)) (xe : Value → Shared → Prop) : Cx := { X with pn := pn, xe := xe }
noncomputable abbrev Cx.hdl (X : Cx) (a : Addr) : Cx := { X with A := X.A.mark (some (.ref a)), calm := false, xe := fun _ _ => False }
section
variable {X : Cx} {pins q : List (Addr × Obj)} {σ : St} {H : Hp} {s : Shared} {xe : Value → Shared → Prop}
theorem Cx.Ok.tr (ok : X.Ok) (pn : List (Addr × Obj)) (xe : Value → Shared → Prop) : (X.tr pn xe).Ok :=
  ⟨ok.mod, ok.kind, ok.glob, ok.blt, ok.above, ok.inj, ok.has, ok.cab, ok.hd, ok.frames, ok.stk, ok.exf, ok.bs, ok.bsz, ok.noex, ok.exfs, ok.funs, ok.frf⟩
theorem Cx.Ok.untr {pn : List (Addr × Obj)} (ok : (X.tr pn xe).Ok) : X.Ok :=
  ⟨ok.mod, ok.kind, ok.glob, ok.blt, ok.above, ok.inj, ok.has, ok.cab, ok.hd, ok.frames, ok.stk, ok.exf, ok.bs, ok.bsz, ok.noex, ok.exfs, ok.funs, ok.frf⟩
theorem Cx.Ok.hdl (ok : X.Ok) (a : Addr) : (X.hdl a).Ok :=
  ⟨ok.mod, ok.kind, ok.glob, ok.blt, ok.above, ok.inj, ok.has, ok.cab, fun z => (nomatch z), ok.frames, ok.stk, ok.exf, ok.bs, ok.bsz, ok.noex, ok.exfs, ok.funs, ok.frf⟩
theorem Inv.tr (I : Inv X pins σ H s) (xe : Value → Shared → Prop) : Inv (X.tr (X.pn ++ pins) xe) [] σ H s := ⟨I.ok.tr _ _, I.os, I.bare, I.base, I.loc, I.cell, I.free, I.freeC, fun p hp => I.pin p (by rw [List.append_nil] at hp; exact hp), I.hok, I.len⟩
theorem Inv.untr (I : Inv (X.tr (X.pn ++ pins) xe) q σ H s) : Inv X pins σ H s := ⟨I.ok.untr, I.os, I.bare, I.base, I.loc, I.cell, I.free, I.freeC, fun p hp => I.pin p (List.mem_append_left _ hp), I.hok, I.len⟩
theorem Inv.hdl (I : Inv X pins σ H s) (a : Addr) : Inv (X.hdl a) pins σ H s := ⟨I.ok.hdl a, I.os, I.bare, I.base, I.loc, I.cell, I.free, I.freeC, I.pin, I.hok, I.len⟩
theorem Inv.unhdl {a : Addr} (ok : X.Ok) (I : Inv (X.hdl a) pins σ H s) : Inv X pins σ H s := ⟨ok, I.os, I.bare, I.base, I.loc, I.cell, I.free, I.freeC, I.pin, I.hok, I.len⟩
theorem SP.untr {D : Ends} {f : Flow} (h : SP (X.tr (X.pn ++ pins) xe) q D f s) : SP X pins D f s := by
  cases f with
  | next => obtain ⟨σ', H', I, q⟩ := h; exact ⟨σ', H', I.untr, q⟩
  | brk => obtain ⟨σ', H', I, q⟩ := h; exact ⟨σ', H', I.untr, q⟩
  | cont => obtain ⟨σ', H', I, q⟩ := h; exact ⟨σ', H', I.untr, q⟩
  | ret u => obtain ⟨v, σ', H', I, r, q⟩ := h; exact ⟨v, σ', H', I.untr, r, q⟩
/-- what is on its way is no frame, no cell, no pin -/
theorem Inv.away {lo : Nat} {a : Addr} {T : Option Addr} {C fl : Value} {d : Option Addr} (I : Inv X pins σ H s) (F : Fly lo s.heap H a T C d fl) (hlo : X.s₀.heap.objs.size ≤ lo) (hp : ∀ p ∈ X.pn ++ pins, p.1 ∉ a :: T.toList) :
    ∀ b ∈ a :: T.toList, (b ∈ X.ex ∨ X.s₀.heap.objs.size ≤ b) ∧ b ≠ X.env.locals ∧ (∀ x c, X.env.cells.lookup x = some c → c ≠ b) ∧ ∀ p ∈ X.pn ++ pins, p.1 ≠ b := fun b hb => by
  obtain ⟨o, vs, e, hd⟩ := F.rcd b hb
  refine ⟨.inr (Nat.le_trans hlo (F.lo b hb).1), fun z => ?_, fun x c hc z => ?_, fun p hp' z => hp p hp' (z ▸ hb)⟩
  · obtain ⟨m, ⟨o', _, _, e', d', _⟩, _⟩ := I.loc
    rw [z] at e; rw [e'] at e; cases e; rw [d'] at hd; cases hd
  · obtain ⟨v, o', e', d'⟩ := I.cell x c hc
    rw [z, e] at e'; cases e'; rw [hd] at d'; cases d'
theorem Inv.newer {t : Addr} (I : Inv X pins σ H s) (ht : s.heap.objs.size ≤ t) : ∀ b ∈ [t], (b ∈ X.ex ∨ X.s₀.heap.objs.size ≤ b) ∧ b ≠ X.env.locals ∧ (∀ x c, X.env.cells.lookup x = some c → c ≠ b) ∧ ∀ p ∈ X.pn ++ pins, p.1 ≠ b := fun b hb => by
  rcases List.mem_singleton.mp hb with rfl
  have lt : ∀ c o, s.heap.get? c = some o → c ≠ b := fun c o e z => absurd (Nat.lt_of_lt_of_le (Heap.lt_size e) (z ▸ ht)) (Nat.lt_irrefl _)
  refine ⟨.inr (Nat.le_trans I.sz ht), fun z => ?_, fun x c hc => ?_, fun p hp => lt _ _ (I.pin p hp).1⟩
  · exact absurd (Nat.lt_of_lt_of_le I.lt (z ▸ ht)) (Nat.lt_irrefl _)
  · obtain ⟨v, o, e, _⟩ := I.cell x c hc
    exact lt c o e
/-- an object that is there gets tracked -/
theorem Inv.track {a : Addr} {o : HO} {ob : Obj} {vs : Array Value} (I : Inv X pins σ H s) (hn : H a = none) (e : s.heap.get? a = some ob) (hd : ob.data = .fields vs)
    (hch : (a ∈ X.ex ∨ X.s₀.heap.objs.size ≤ a) ∧ a ≠ X.env.locals ∧ (∀ x c, X.env.cells.lookup x = some c → c ≠ a) ∧ ∀ p ∈ X.pn ++ pins, p.1 ≠ a) (hx : a ∉ X.ex) (new : ObjOk X.prog X.w (upd H a o) s.heap a o) : Inv X pins σ (upd H a o) s := by
  have hlo : X.s₀.heap.objs.size ≤ a := hch.1.elim (fun z => absurd z hx) id
  have up : ∀ b, b ≠ a → upd H a o b = H b := fun b h => upd_ne h
  refine ⟨I.ok, I.os, I.bare, ⟨I.base.keep, I.base.slot, fun b ob q n hx => ?_, I.base.there, fun b xs q => ?_, fun b o u q => ?_, fun b ps q => ?_⟩, I.loc, I.cell, ?_, fun x c q => ?_, fun p hp => ?_, fun b u q => ?_, I.len⟩
  · rw [up b fun z => absurd (Nat.lt_of_lt_of_le (Heap.lt_size q) (z ▸ hlo)) (Nat.lt_irrefl _)]; exact I.base.free b ob q n hx
  · have z := I.base.tups b xs q; rw [up b (ne_of_none z hn)]; exact z
  · have z := I.base.frzs b o u q; rw [up b (ne_of_none z hn)]; exact z
  · obtain ⟨m, z⟩ := I.base.tbls b ps q; exact ⟨m, by rw [up b (ne_of_none z hn)]; exact z⟩
  · rw [up _ (Ne.symm hch.2.1)]; exact I.free
  · rw [up _ (hch.2.2.1 x c q)]; exact I.freeC x c q
  · obtain ⟨p1, p2, p3⟩ := I.pin p hp; exact ⟨p1, by rw [up _ (hch.2.2.2 p hp)]; exact p2, p3⟩
  · by_cases z : b = a
    · rw [z, upd_same] at q; cases q; rw [z]; exact new
    · rw [up b z] at q
      refine (I.hok b u q).stay (fun c v _ y => y) (fun c y => ?_) fun c xs y => ?_
      · rw [up c (ne_of_none y hn)]; exact y
      · rw [up c (ne_of_none y hn)]; exact y
/-- behind the suite the name goes -/
theorem goes_x {M : Model} {A : Around} {E : Value → Shared → Prop} {i : Nat} {n : Str} {pos : Pos} {Q : Unit → Shared → Prop} (I : Inv X pins σ H s) (hN : X.N.Nodup) (hi : X.N[i]? = some n) (hk : X.env.scope.names.lookup n = some .local)
    (h : ∀ s', Inv X pins (σ.set i none) H s' → Q () s') : wpAny M A (do bindName X.env n .none; unbindBehindTheSuite X.env n pos) Q E s := by
  have hcls : (X.env.scope.kind == .class || (X.env.scope.kind == .module && X.env.locals != X.env.globals)) = false := by rw [I.ok.kind]; rfl
  have hl : X.env.kindOf n = some .local := hk
  have hiσ : i < σ.length := by rw [I.len]; exact (List.getElem?_eq_some_iff.mp hi).1
  refine wpAny_bind (wpAny_bindName (store_ok (v := V.non) I hN hi (.inl hk) rfl (fun s1 I1 => ?_) (.inr hk)))
  obtain ⟨m, hn, hlo⟩ := id I1.loc
  obtain ⟨u, _, lk⟩ := hlo i n V.non hi (List.getElem?_set_self hiσ) (.inl hk)
  have hmn : m n = some u := by
    rcases lk with ⟨_, e⟩ | ⟨z, _⟩
    · exact e
    · rcases z with z | z <;> (rw [hl] at z; cases z)
  unfold unbindBehindTheSuite
  refine wpAny_onRaise ?_
  unfold unbindName
  refine wpAny_bind (wpAny_point (wpAny_bind ?_))
  unfold deleteName
  simp only [hl, hcls]
  rw [if_neg (by decide)]
  refine wpAny_bind (wpAny_nsDel_keeps hn fun h2 v hn2 hs => ?_)
  rw [hmn]
  simp only [if_true, Option.isSome_some, Bool.not_true, Bool.false_eq_true, if_false]
  refine wpAny_pure (wpAny_point (h _ ?_))
  have cne := I1.cne
  have tracked : HOk X.prog X.w H h2 := fun b ob e => by
    refine (I1.hok b ob e).stay (fun c w' hc q => (hs.2 c ?_).trans q) (fun _ q => q) fun _ _ q => q
    rintro rfl
    rcases hc with rfl | hc
    · rw [I1.free] at e; cases e
    · rw [I1.free] at hc; cases hc
  refine ⟨I1.ok, I1.os, I1.bare, ⟨fun b o e n hb hx => ?_, fun b o e n hb hx => ?_, I1.base.free, fun b o e hx => ?_, I1.base.tups, I1.base.frzs, I1.base.tbls⟩, ⟨_, hn2, fun j y v' e1 e2 e3 => ?_⟩, fun y c e => ?_, I1.free, I1.freeC, fun p hp => ?_, tracked, by simpa using I.len⟩
  · exact (hs.2 b (Nat.ne_of_lt (Nat.lt_of_lt_of_le (Heap.lt_size e) I1.ok.above))).trans (I1.base.keep b o e n hb hx)
  · obtain ⟨sl, e1⟩ := I1.base.slot b o e n hb hx
    exact ⟨sl, (hs.2 b (Nat.ne_of_lt (Nat.lt_of_lt_of_le (Heap.lt_size e) I1.ok.above))).trans e1⟩
  · obtain ⟨o', e1⟩ := I1.base.there b o e hx
    exact ⟨o', (hs.2 b (Nat.ne_of_lt (Nat.lt_of_lt_of_le (Heap.lt_size e) I1.ok.above))).trans e1⟩
  · by_cases hj : j = i
    · subst hj
      rw [List.getElem?_set_self hiσ] at e2
      cases e2
    · rw [List.getElem?_set_ne (Ne.symm hj)] at e2
      obtain ⟨u', r', q⟩ := hlo j y v' e1 (by rw [List.getElem?_set_ne (Ne.symm hj)]; exact e2) e3
      refine ⟨u', r', ?_⟩
      rcases q with ⟨k, e⟩ | ⟨k, c, e, z⟩
      · refine .inl ⟨k, ?_⟩
        have : y ≠ n := fun e => hj (nodup_ix hN e1 (e ▸ hi))
        simp [this, e]
      · exact .inr ⟨k, c, e, z.sameBut hs (cne y c e)⟩
  · obtain ⟨w', z⟩ := I1.cell y c e
    exact ⟨w', z.sameBut hs (cne y c e)⟩
  · obtain ⟨e, n, ne, nf, d⟩ := I1.pin p hp
    exact ⟨(hs.2 p.1 ne).trans e, n, ne, nf, d⟩
end
noncomputable def unE (i : Nat) (D : Ends) : Ends := { nx := fun σ H => D.nx (σ.set i none) H, rt := D.rt, bk := fun σ H => D.bk (σ.set i none) H, ct := fun σ H => D.ct (σ.set i none) H }
/-- try: body, except D as (slot i): suite; what comes out of the body is a D -/
noncomputable def tTry (K : PySem.W.Frag) (D : Addr) (i : Nat) (tb : (St → XK) → TS) (ts : TS) : TS := fun Dn σ H => tb (fun σ' C d H' => ∃ (c : Addr) (bm : List Value), C = .ref c ∧ XC K c bm ∧ (Value.ref c :: bm).contains (.ref D) = true ∧
  ∀ a vs, H' a = none → ts (unE i Dn) (σ'.set i (some (.ref a))) (upd H' a (XObj a c d vs))) Dn σ H
theorem ps_try {X : Cx} {D : Addr} {bmD : List Value} {x n : Str} {i : Nat} {body suite : List Stmt} {b₀ : Stmt} {tb : (St → XK) → TS} {ts : TS} {np hpos pos : Pos} (M : Nm X.N X.env.scope) (hst : X.stack = X.env :: X.outer) (hfr : X.env.frame = some X.env.locals) (hex : X.ex = [])
    (hm : X.mg x = some (.ref D)) (xd : XC X.K D bmD) (hi : X.N[i]? = some n) (hk : X.env.scope.names.lookup n = some .local)
    (hb : ∀ pn xe EX, PassesOwn (model X.prog X.w) X.A X.env xe → Lands (X.tr pn xe) EX → PSs (X.tr pn xe) body (tb EX)) (hs : ∀ a, PSs (X.hdl a) (b₀ :: suite) ts) (hg : Gl X x := by rfl) (hdb : (x == ("__debug__" : Str)) = false := by decide) :
    PS X (.Try body [.ExceptHandler (some (.Name x np)) (some n) (b₀ :: suite) hpos] [] [] pos) (tTry X.K D i tb ts) := by
  intro pins s σ H Dn I h
  refine wpAny_Try_except ?_
  have hL : ∀ EX : St → XK, (∀ σ' C d H', EX σ' C d H' → ∃ (c : Addr) (bm : List Value), C = .ref c ∧ XC X.K c bm ∧ (Value.ref c :: bm).contains (.ref D) = true ∧ ∀ a vs, H' a = none → ts (unE i Dn) (σ'.set i (some (.ref a))) (upd H' a (XObj a c d vs))) →
      Lands (X.tr (X.pn ++ pins) fun e s' => wpAny (model X.prog X.w) X.A (noteFrame e X.env) (fun _ s2 => wpAny (model X.prog X.w) X.A (setFlight e none) (fun _ s3 => wpAny (model X.prog X.w) X.A (handleBy e X.env [.ExceptHandler (some (.Name x np)) (some n) (b₀ :: suite) hpos]) (SP X pins Dn) X.xe s3) X.xe s2) X.xe s') EX := by
    intro EX hEX pins' σ' H' s' a T C d I1 F hp hE
    obtain ⟨c, bm, rfl, xc, hin, hts⟩ := hEX _ _ _ _ hE
    have I2 : Inv X pins σ' H' s' := I1.untr
    have hstk : s'.heap.FunFrames X.base (X.env :: X.outer) := by rw [← hst]; exact I2.stack
    have hfrs : ∀ b ∈ frs (X.env :: X.outer), H' b = none := by rw [← hst]; exact I2.stkFree
    show wpAny (model X.prog X.w) X.A (noteFrame (.ref a) X.env) _ X.xe s'
    refine note_x (by rw [I2.ok.frames, hst]) hstk hfr F I2.sz (fun b hb => I2.hok.fresh hb) fun h1 T1 F1 hT1 k1 k2 => ?_
    have aw := I2.away F (Nat.le_refl _) hp
    have I3 : Inv X pins σ' H' { s' with heap := h1 } := I2.call (g' := s'.gens) (d' := s'.drawn) (t' := s'.toks) (ch := a :: T.toList) (by rw [hst]; exact un_of k1 k2) (hok_un I2.hok k1 hfrs fun b hb => (F.lo b hb).2) I2.bare aw
    refine land_x (s := { s' with heap := h1 }) F1 fun h2 F2 k3 => ?_
    have nw := I2.newer hT1
    have I4 : Inv X pins σ' H' { s' with heap := h2 } := Inv.call (s := { s' with heap := h1 }) (h' := h2) (g' := s'.gens) (d' := s'.drawn) (t' := s'.toks) (ch := [T1]) I3 (un_of (h := h1) (fun b o q _ hc => k3 b o q fun z => hc (by simp [z])) fun b o q hc => ⟨o.slots, k3 b o q fun z => hc (by simp [z])⟩)
      (hok_un (h := h1) (fs := []) (ch := [T1]) I3.hok (fun b o q _ hc => k3 b o q fun z => hc (by simp [z])) (fun b hb => nomatch hb) fun b hb => by rcases List.mem_singleton.mp hb with rfl; exact I2.hok.fresh hT1) I2.bare nw
    obtain ⟨vs, sl, hget, _⟩ := F2.at_
    obtain ⟨nm, q, N, bs, sn, sub, ab, col, dd, k0, k1', k2', k3', k5, hlk⟩ := xc.at_
    obtain ⟨nm', q', N', bs', sn', sub', ab', col', dd', k0', k1'', k2'', k3'', k5', hlk'⟩ := xd.at_
    refine wpAny_handleBy_cons (codeAny_handlers_test (ld_glob (X := X.hdl a) (I4.hdl a) hg hm ?_ hdb)) (by intro z; cases z)
    refine excMatches_x xd.ov (I4.kIn _ _ hlk) (I4.kIn _ _ hlk') hget rfl hin ?_
    refine codeAny_handlers_suite_as ?_
    refine land_x (s := { s' with heap := h2 }) F2 fun h5 F5 k5' => ?_
    have I5 : Inv X pins σ' H' { s' with heap := h5 } := Inv.call (s := { s' with heap := h2 }) (h' := h5) (g' := s'.gens) (d' := s'.drawn) (t' := s'.toks) (ch := [T1]) I4 (un_of (h := h2) (fun b o q _ hc => k5' b o q fun z => hc (by simp [z])) fun b o q hc => ⟨o.slots, k5' b o q fun z => hc (by simp [z])⟩)
      (hok_un (h := h2) (fs := []) (ch := [T1]) I4.hok (fun b o q _ hc => k5' b o q fun z => hc (by simp [z])) (fun b hb => nomatch hb) fun b hb => by rcases List.mem_singleton.mp hb with rfl; exact I2.hok.fresh hT1) I2.bare nw
    obtain ⟨vs5, sl5, hget5, _⟩ := F5.at_
    have I6 : Inv X pins σ' (upd H' a (XObj a c d vs5)) { s' with heap := h5 } := I5.track (F.lo a List.mem_cons_self).2 hget5 rfl (aw a List.mem_cons_self) (by rw [hex]; exact fun z => nomatch z) (xobj_ok hget5)
    refine store_ok (X := X.hdl a) (v := V.ref a) (I6.hdl a) M.nd hi (.inl hk) rfl (fun s7 I7 => ?_) (.inr hk)
    have ok := I.ok
    refine wpAny_mono (hs a pins s7 _ _ _ I7 (hts a vs5 (F.lo a List.mem_cons_self).2)) (fun f s8 z => ?_) fun _ _ z => False.elim z
    cases f with
    | next =>
      obtain ⟨σ8, H8, I8, z⟩ := z
      exact goes_x (I8.unhdl ok) M.nd hi hk fun s9 I9 => ⟨_, H8, I9, z⟩
    | brk =>
      obtain ⟨σ8, H8, I8, z⟩ := z
      exact goes_x (I8.unhdl ok) M.nd hi hk fun s9 I9 => ⟨_, H8, I9, z⟩
    | cont =>
      obtain ⟨σ8, H8, I8, z⟩ := z
      exact goes_x (I8.unhdl ok) M.nd hi hk fun s9 I9 => ⟨_, H8, I9, z⟩
    | ret u =>
      obtain ⟨v, σ8, H8, I8, r, z⟩ := z
      exact goes_x (I8.unhdl ok) M.nd hi hk fun s9 I9 => ⟨v, _, H8, I9, r, z⟩
  refine wpAny_mono (hb (X.pn ++ pins) _ _ PassesOwn.looking (hL _ fun _ _ _ _ z => z) [] s σ H Dn (I.tr _) h) (fun f s1 z => ?_) fun _ _ z => z
  cases f with
  | next => exact wpAny_execs_nil z.untr
  | brk => exact z.untr
  | cont => exact z.untr
  | ret u => exact z.untr
end L2

set_option Elab.async false
set_option linter.all false
set_option maxRecDepth 100000
namespace PySem
open Sem (wp)
open Builtin Builtin.ObjectAttr
open L2 (OverV XC XA bmV)
section
variable {prog : Program} {w : World} {A : Around} {E : Value → Shared → Prop} {h : Heap} {g : Array GenState} {d : Drawn} {t : Nat} {os : OsState} {K : PySem.W.Frag}
variable {nm q : Str} {C N x : Addr} {bs bm : List Value} {sn : List Str} {sub : List Value} {ab : Bool} {col : Option Bool} {dd : Option Addr} {k0 k1 k2 k3 k5 : Option Value}
  {ox : Obj} {od : Option Obj}
theorem class_get_x {R : Result → Shared → Prop} (T : OverV bm) (hC : h.get? C = some (excClassObj nm q C N bs bm true sn sub ab col dd k0 k1 k2 k3 k5 "ValueError.__new__")) (hx : h.get? x = some ox) (hc : ox.cls = .ref C) (hq : R (.ok (.ret (.ref C))) ⟨h, g, d, t, os⟩) :
    codeAny (model prog w) A (.call (.builtin "getset_descriptor.__get__") ⟨[.builtin "object.__class__", .ref x, .ref C], []⟩) R ⟨h, g, d, t, os⟩ := by
  have hT5 : (⟨h, g, d, t, os⟩ : Shared).TypeIs (.builtin "object.__class__") "getset_descriptor" := F.typeOf_object_class
  have hcB : (Value.ref C :: bm).contains (.type (".".intercalate ("object.__class__".cutAt '.').dropLast)) = true := by
    rw [F.owner_object_class, List.contains_cons, T.has (b := true) (by decide +kernel)]; rfl
  refine codeAny_call_builtin F.slot_gs_get.plain F.entry_gs_get (F.slot_gs_get.check _ _ _ _ _ _ _ _ hT5 (F.args_gs_get _ _ _) ?_)
  repeat (any_goals (first | assumption | (with_reducible refine wpAny_loadPart_at hx ?_; rw [hc]) | (with_reducible refine wpAny_isSubtype_exc hC ?_; rw [hcB]) | wp_step))
  refine ⟨Code.quiet_builtin _ (by decide +kernel), codeAny_builtin F.entry_object_class ?_⟩
  repeat (any_goals (first | assumption | (with_reducible refine wpAny_loadPart_at hx ?_; rw [hc]) | wp_step))
theorem class_attr_x {Q : Option Value → Shared → Prop} (T : OverV bm) (hC : h.get? C = some (excClassObj nm q C N bs bm true sn sub ab col dd k0 k1 k2 k3 k5 "ValueError.__new__")) (X : K.In h)
    (hga : PySem.W.findIn K (.ref C) "__getattribute__" = some (some (.builtin "BaseException.__getattribute__"))) (hgt : PySem.W.findIn K (.ref C) "__getattr__" = some none)
    (I : PySem.W.InstAt h x ox C od) (hf : PySem.W.findObj K C od "__class__" = some (.bind (.builtin "getset_descriptor.__get__") (.builtin "object.__class__"))) (hq : Q (some (.ref C)) ⟨h, g, d, t + 1, os⟩) :
    wpAny (model prog w) A (getAttr? (.ref x) "__class__") Q E ⟨h, g, d, t, os⟩ := by
  have FB := PySem.F.attrBase_ValueError
  have f3 := FB.ga.bind (.ref x)
  have hx0 : (false && onTheHeap (Value.builtin "BaseException.__getattribute__")) = false := rfl
  have hx2 : (Value.builtin "BaseException.__getattribute__" == Value.builtin "object.__getattribute__") = false := by decide +kernel
  have hx1 : (onTheHeap (Value.ref C) && Value.builtin "BaseException.__getattribute__" == Value.builtin "object.__getattribute__") = false := by rw [hx2]; rfl
  have L0 := I.type (M := model prog w)
  have L1 := PySem.W.looks_findIn (M := model prog w) X hga
  have L2 := PySem.W.looks_findIn (M := model prog w) X hgt
  have L3 := PySem.W.looks_find (M := model prog w) X I hf
  unfold getAttr? getAttrBy? getAttrBy
  refine wpAny_bind (wpAny_mkText (wpAny_bind (wpAny_attempt (wpAny_holding (wpAny_bind (L0.at (wpAny_bind (L1.at ?_))))))))
  dsimp only
  rw [hx1, if_neg (by decide)]
  unfold getAttrByItsOwn
  have ho : hookBefore (.ref C) = typeLookup (.ref C) "__getattr__" := rfl
  rw [ho]
  refine wpAny_bind (L2.at (wpAny_bind (wpAny_attempt (wpAny_holding ?_))))
  unfold callGetattribute
  rw [hx0, if_neg (by decide)]
  unfold boundAndCalled
  rw [f3]
  refine wpAny_bind (wpAny_pure ?_)
  refine wpAny_call (codeAny_call_builtin FB.ga.plain F.entry_bexc_ga (check_ga_x T hC I.at_ I.cls ?_))
  unfold Builtin.«object.__getattribute__»
  repeat (first | with_reducible refine L0.at ?_ | with_reducible refine L3.at ?_ | wp_step)
  refine class_get_x T hC I.at_ I.cls ?_
  repeat (any_goals (first | assumption | wp_step))
end
end PySem

set_option Elab.async false
set_option linter.all false
set_option maxRecDepth 100000
namespace L2
open PySem PySem.Spec PyProof.Rows
/-! ### isinstance of an exception -/
theorem XC.cls {K : PySem.W.Frag} {C : Addr} {bm : List Value} (x : XC K C bm) : ∃ cd, PySem.W.clsIn K C = some cd ∧ cd.mro = .ref C :: bm ∧ PySem.W.typeIn K (.ref C) = some (.type "type") := by
  obtain ⟨nm, q, N, bs, sn, sub, ab, col, dd, k0, k1, k2, k3, k5, hl⟩ := x.at_
  refine ⟨{ name := nm, bases := bs, mro := .ref C :: bm, ns := N, qualname := q, hasDict := true, slotNames := sn, subclasses := sub, abstract := ab, collection := col, hasDel := false }, ?_, rfl, ?_⟩
  · unfold PySem.W.clsIn
    rw [hl]
  · unfold PySem.W.typeIn
    simp only [hl]
    rfl
theorem XC.mro {K : PySem.W.Frag} {C : Addr} {bm : List Value} (x : XC K C bm) (v : Value) : PySem.W.mroIn K C v = some ((Value.ref C :: bm).contains v) := by
  obtain ⟨cd, h1, h2, _⟩ := x.cls
  unfold PySem.W.mroIn
  rw [h1, Option.bind_some, h2, if_neg (by simp)]
theorem kit_xx {K : PySem.W.Frag} {C c : Addr} {bm bm' : List Value} (x : XC K C bm) (y : XC K c bm') : PySem.W.kitOne K (.ref C) (.ref c) = some ((Value.ref C :: bm).contains (.ref c)) := by
  obtain ⟨cd, h1, h2, h3⟩ := y.cls
  unfold PySem.W.kitOne
  by_cases q : (Value.ref C == Value.ref c) = true
  · rw [if_pos q, List.contains_cons]
    have : (Value.ref c == Value.ref C) = true := by rw [beq_iff_eq] at q ⊢; exact q.symm
    rw [this]; rfl
  · rw [if_neg q]
    unfold PySem.W.kitCls
    dsimp only
    rw [h1, h3, if_pos (by simp)]
    exact x.mro _
theorem kit_xv {K : PySem.W.Frag} {C : Addr} {bm : List Value} (x : XC K C bm) : PySem.W.kitOne K (.ref C) (.type "ValueError") = some true := by
  unfold PySem.W.kitOne
  rw [if_neg (by intro q; cases beq_iff_eq.mp q)]
  unfold PySem.W.kitCls
  dsimp only
  rw [if_pos (by decide +kernel)]
  show PySem.W.mroIn K C _ = _
  rw [x.mro, List.contains_cons, x.ov.has (b := true) (by decide +kernel), Bool.or_true]
theorem kitx_x {K : PySem.W.Frag} {C a : Addr} (xa : XA K C) : PySem.W.KitX K (.ref a) (.ref C) (fun h => ∃ ox od, PySem.W.InstAt h a ox C (some od)) := by
  obtain ⟨bm, xc⟩ := xa.bm
  obtain ⟨nm, q, N, bs, sn, sub, ab, col, dd, k0, k1, k2, k3, k5, hl⟩ := xc.at_
  obtain ⟨cd, h1, h2, h3⟩ := xc.cls
  refine ⟨fun M h X ⟨ox, od, I⟩ => I.type, fun M h X _ => ?_, fun h tp dd' its n sl X htp => ?_, fun {prog w A E Q s} X ⟨ox, od, I⟩ k => ?_⟩
  · intro A' Q' E' s' k z
    unfold isType loadHead
    exact wpAny_bind (wpAny_loadPart (k _ _ (X _ _ hl)) (wpAny_pure z))
  · refine Bool.eq_false_iff.mpr fun z => ?_
    have e : C = tp := Value.ref.inj (beq_iff_eq.mp z)
    subst e
    have z := (X _ _ hl).symm.trans htp
    have z2 := congrArg (fun o => Option.map Obj.cls o) z
    simp [excClassObj] at z2
  · obtain ⟨hp, g, d, t, os⟩ := s
    exact class_attr_x xc.ov (X _ _ hl) X xa.ga xa.gt I (PySem.W.findObj_data (by rw [h1]; rfl) xa.cl xa.sg xa.tk) k
section
variable {X : Cx} {pins : List (Addr × Obj)} {σ : St} {H : Hp} {s : Shared}
theorem Inv.instAt {a C dx : Addr} {vs : Array Value} {fs : List (Str × V)} (I : Inv X pins σ H s) (e : H a = some (XObj a C (some dx) vs)) (ed : H dx = some (XDct dx fs)) : ∃ ox od, PySem.W.InstAt s.heap a ox C (some od) := by
  obtain ⟨sl, ha⟩ := xobj_get I.hok e
  obtain ⟨mA, ⟨o, _, _, ho, _⟩, _⟩ := xdct_get I.hok ed
  exact ⟨_, o, ha, rfl, rfl, ho⟩
end
/-- isinstance(e, C), isinstance(e, ValueError) -/
noncomputable def rIsX (K : PySem.W.Frag) : List V → Hp → VK → Prop := fun xs H Q => ∃ (a C dx : Addr) (vs : Array Value) (fs : List (Str × V)) (c : V) (b : Bool), xs = [.ref a, c] ∧ H a = some (XObj a C (some dx) vs) ∧ H dx = some (XDct dx fs) ∧ XA K C ∧
  (∀ u, RelV c u → PySem.W.kitOne K (.ref C) u = some b) ∧ Q (.bl b) H
/-- isinstance(e, (C, ..)) -/
noncomputable def rIsXT (K : PySem.W.Frag) : List V → Hp → VK → Prop := fun xs H Q => ∃ (a C dx p : Addr) (vs : Array Value) (fs : List (Str × V)) (cs : List V) (b : Bool), xs = [.ref a, .ref p] ∧ H a = some (XObj a C (some dx) vs) ∧ H dx = some (XDct dx fs) ∧ XA K C ∧
  H p = some (.tup cs) ∧ (∀ us, Vals cs us → PySem.W.kitAny K (.ref C) us = some b) ∧ Q (.bl b) H
theorem call_isX {X : Cx} : CallR X (.builtin "isinstance") (rIsX X.K) := by
  intro pins s σ H xs us Q I r h
  obtain ⟨a, C, dx, vs, fs, c, b, rfl, ea, ed, xa, hk, q⟩ := h
  cases r with
  | cons r1 r2 =>
    obtain ⟨u, rfl, ru⟩ := Vals.one r2
    cases r1
    have hp := I.instAt ea ed
    exact PySem.W.kia_one (kitx_x xa) I.kIn hp (hk u ru) (fun z => nomatch z) fun tk => ⟨.bl b, H, I.kept (t' := tk) fun _ _ e => e, rfl, q⟩
theorem w_isX {K : PySem.W.Frag} {H : Hp} {Q : VK} {a C dx : Addr} {vs : Array Value} {fs : List (Str × V)} {c : V} {b : Bool} (ea : H a = some (XObj a C (some dx) vs)) (ed : H dx = some (XDct dx fs)) (xa : XA K C) (hk : ∀ u, RelV c u → PySem.W.kitOne K (.ref C) u = some b) (q : Q (.bl b) H) :
    rIsX K [.ref a, c] H Q := ⟨a, C, dx, vs, fs, c, b, rfl, ea, ed, xa, hk, q⟩
/-- a class by its name -/
theorem pe_cls {X : Cx} {x : Str} {pos : Pos} {C : Addr} (hm : X.mg x = some (.ref C)) (hg : Gl X x := by rfl) (hd : (x == ("__debug__" : Str)) = false := by decide) : PE X (.Name x pos) (tC (.ref C)) :=
  fun pins s σ H Q I h => ld_glob I hg hm ⟨.ref C, H, I, rfl, h⟩ hd
/-- repr of an int, in an except suite too -/
noncomputable def rReprI : List V → Hp → VK → Prop := fun xs H Q => ∃ i, xs = [.int i] ∧ (PyData.int i).showable = true ∧ Q (.str (PyData.int i).shown) H
end L2

set_option Elab.async false
set_option linter.all false
set_option maxRecDepth 100000
namespace L2
open PySem PySem.Spec PyProof.Rows
/-! ### steps of readings -/
theorem w_callX {sp : Sp} {EX : St → XK} {t : TA} {σ : St} {H : Hp} {Q : VK} (h : t σ H fun vs H1 => sp vs H1 Q (EX σ)) : tCallX sp EX t σ H Q := h
theorem w_try {K : PySem.W.Frag} {D : Addr} {i : Nat} {tb : (St → XK) → TS} {ts : TS} {Dn : Ends} {σ : St} {H : Hp} (h : tb (fun σ' C d H' => ∃ (c : Addr) (bm : List Value), C = .ref c ∧ XC K c bm ∧ (Value.ref c :: bm).contains (.ref D) = true ∧
  ∀ a vs, H' a = none → ts (unE i Dn) (σ'.set i (some (.ref a))) (upd H' a (XObj a c d vs))) Dn σ H) : tTry K D i tb ts Dn σ H := h
theorem w_unE {i : Nat} {D : Ends} {σ : St} {H : Hp} (h : D.nx (σ.set i none) H) : (unE i D).nx σ H := h
theorem w_xf {K : PySem.W.Frag} {ta : TE} {f : Str} {σ : St} {H : Hp} {Q : VK} (h : ta σ H fun x H1 => ∃ (a C dx : Addr) (vs : Array Value) (fs : List (Str × V)) (v : V), x = .ref a ∧ H1 a = some (XObj a C (some dx) vs) ∧ H1 dx = some (XDct dx fs) ∧ XA K C ∧ NoAttr K C f ∧ fs.lookup f = some v ∧ Q v H1) : tXf K ta f σ H Q := h
theorem w_sxf {K : PySem.W.Frag} {ta tv : TE} {f : Str} {D : Ends} {σ : St} {H : Hp} (h : tv σ H fun y H1 => ta σ H1 fun x H2 => ∃ (a C : Addr) (d : Option Addr) (vs : Array Value), x = .ref a ∧ H2 a = some (XObj a C d vs) ∧ XA K C ∧ NoAttr K C f ∧ XSt H2 a C d vs f y (D.nx σ)) : sXf K ta tv f D σ H := h
/-! ### the rules where the context is a block's or a suite's -/
theorem isX_K {X : Cx} {K : PySem.W.Frag} (h : X.K = K) : CallR X (.builtin "isinstance") (rIsX K) := h ▸ call_isX
theorem pe_xfK {X : Cx} {K : PySem.W.Frag} {e : Expr} {ta : TE} {f : Str} {pos : Pos} (h : X.K = K) (he : PE X e ta) (hb : attributeBase e f X.env (eval e X.env) = eval e X.env := by rfl) : PE X (.Attribute e f pos) (tXf K ta f) := h ▸ pe_xf he hb
/-! ### own classes: where their defs stand -/
noncomputable def methOf (s : Stmt) (i : Nat) : Stmt := match s with
  | .ClassDef _ _ _ body _ _ _ _ _ _ _ => body.getD i (.Pass ⟨0, 0, 0, 0⟩)
  | _ => .Pass ⟨0, 0, 0, 0⟩
/-- an exception of a class, its fields in its dict, behind an except -/
theorem XObj.ne {a C : Addr} {d : Option Addr} {vs : Array Value} {H : Hp} {b : Addr} (e : H a = some (XObj a C d vs)) (h : H b = none) : a ≠ b := ne_of_none e h
/-- the nine classes -/
structure XUni (K : PySem.W.Frag) (mg : Str → Option Value) (D : Addr) (cs : List (Str × Addr)) : Prop where
  base : XC K D bmV
  mD : mg "DropError" = some (.ref D)
  cls : ∀ c ∈ cs, mg c.1 = some (.ref c.2) ∧ XC K c.2 (.ref D :: bmV) ∧ XA K c.2
  nd : (D :: cs.map (·.2)).Nodup
theorem contains_D {D c : Addr} : (Value.ref c :: .ref D :: bmV).contains (.ref D) = true := by simp
end L2

set_option Elab.async false
set_option linter.all false
set_option maxRecDepth 100000
namespace L2
open PySem PySem.Spec PyProof.Rows
/-! ### a def that a name holds is called -/
noncomputable def tCallV (P : Program) (w : World) (K : PySem.W.Frag) (mg : Str → Option Value) (base : Heap) (j i : Nat) (EX : St → XK) (t : TA) : TE := fun σ H Q => ∃ (f : Addr) (fd : FuncData) (k : Nat) (ps : List Str) (sp : Sp), σ[i]? = some (some (.ref f)) ∧ k ≤ j ∧
  FnOk P w K mg base (CXE P w) k f fd ps sp ∧ PySem.W.keepIn K (.ref f) = true ∧ Binds K fd ps [] ∧ t σ H fun vs H1 => sp vs H1 Q (EX σ)
/-! ### enumerate of a tuple or of a list -/
noncomputable def iEn2 (K : PySem.W.Frag) (ta : TA) : TI := fun σ H R => iEnu K ta σ H R ∨ iEnl K ta σ H R
/-- a tuple or a list -/
noncomputable def SqA (H : Hp) (a : Addr) (xs : List V) : Prop := H a = some (.tup xs) ∨ H a = some (.lst xs)
theorem SqA.same {H H' : Hp} {a : Addr} {xs : List V} (k : Same H H') (h : SqA H a xs) : SqA H' a xs := h.elim (fun z => .inl (k _ _ z)) fun z => .inr (k _ _ z)
end L2

set_option Elab.async false
set_option linter.all false
set_option maxRecDepth 100000
namespace PySem
open Sem (wp)
open L2 (OverV bmV)
section
variable {prog : Program} {w : World} {A : Around} {E : Value → Shared → Prop} {h : Heap} {g : Array GenState} {d : Drawn} {t : Nat} {os : OsState}
variable {nm q : Str} {C N : Addr} {bs : List Value} {sn : List Str} {sub : List Value} {ab : Bool} {col : Option Bool} {dd : Option Addr} {k0 k1 k2 k3 k5 : Option Value}
/-- what is made stands behind all that was there -/
noncomputable abbrev MadeB (h : Heap) (C : Addr) (Q : Value → Heap → Prop) : Prop := ∀ h' tt, (∀ b o, h.get? b = some o → h'.get? b = some o) → h'.get? (h.objs.size + 1) = some { cls := .ref C, data := .fields #[.ref tt, .none, .none, .none, .bool false, .none] } → Q (.ref (h.objs.size + 1)) h'
end
end PySem
namespace L2
open PySem PySem.Spec PyProof.Rows
/-! ### defs that are called in an except suite -/
structure FnOkH (P : Program) (w : World) (K : PySem.W.Frag) (mg : Str → Option Value) (base : Heap) (k : Nat) (f : Addr) (fd : FuncData) (ps : List Str) (sp : Sp) : Prop where
  len : ∀ vs H Q E, sp vs H Q E → vs.length = ps.length
  run : ∀ (A : Around) (a : Addr) (outer : List Env) (s : Shared) (H : Hp) (args : Args) (us : List Value) (vs : List V) (Q : VK), Room k A → Env0 P w K mg base A outer s H → BindsTo s fd args (ps.zip us) → Vals vs us → sp vs H Q E0 →
    codeAny (model P w) (A.mark (some (.ref a))) (.call (.ref f) args) (CR CX0 outer P w H s Q E0) s
noncomputable def HasH (P : Program) (w : World) (K : PySem.W.Frag) (mg : Str → Option Value) (base : Heap) (k : Nat) (x : Str) (ps : List Str) (sp : Sp) : Prop :=
  ∃ (f : Addr) (fd : FuncData), FnOkH P w K mg base k f fd ps sp ∧ mg x = some (.ref f) ∧ PySem.W.keepIn K (.ref f) = true ∧ Binds K fd ps []
noncomputable def tCallH (sp : Sp) (t : TA) : TE := fun σ H Q => t σ H fun vs H1 => sp vs H1 Q E0
section
variable {X : Cx} {k j : Nat} {f a : Addr} {fd : FuncData} {ps : List Str} {sp : Sp} {x : Str} {p pos : Pos} {e : Expr} {es : List Expr} {t : TA}
end
/-! ### isinstance of an exception, with fields or without -/
noncomputable def XAt (H : Hp) (a C : Addr) (d : Option Addr) : Prop := (∃ vs, H a = some (XObj a C d vs)) ∧ (d = none ∨ ∃ dx fs, d = some dx ∧ H dx = some (XDct dx fs))
theorem XAt.same {H H' : Hp} {a C : Addr} {d : Option Addr} (k : Same H H') (h : XAt H a C d) : XAt H' a C d := ⟨let ⟨vs, e⟩ := h.1; ⟨vs, k _ _ e⟩, h.2.elim .inl fun ⟨dx, fs, e, z⟩ => .inr ⟨dx, fs, e, k _ _ z⟩⟩
noncomputable def rIsY (K : PySem.W.Frag) : List V → Hp → VK → Prop := fun xs H Q => ∃ (a C : Addr) (d : Option Addr) (c : V) (b : Bool), xs = [.ref a, c] ∧ XAt H a C d ∧ XA K C ∧ (∀ u, RelV c u → PySem.W.kitOne K (.ref C) u = some b) ∧ Q (.bl b) H
/-! ### an own class without an own __init__ is raised -/
structure XBase (K : PySem.W.Frag) (C : Addr) : Prop where
  at_ : ∃ (nm q : Str) (N : Addr) (bs : List Value) (sn : List Str) (sub : List Value) (ab : Bool) (col : Option Bool) (dd : Option Addr) (k0 k1 k2 k3 k5 : Option Value),
    K.lookup C = some (excClassObj nm q C N bs bmV true sn sub ab col dd k0 k1 k2 k3 k5 "ValueError.__new__")
  fi : PySem.W.findIn K (.ref C) "__init__" = some (some (.builtin "ValueError.__init__"))
  kp : PySem.W.keepIn K (.ref C) = true
noncomputable def tRaiseB (C : Addr) (EX : St → XK) (t : TA) : TS := fun _ σ H => t σ H fun vs H1 => vs.length ≤ 1000 ∧ EX σ (.ref C) none H1
end L2

set_option Elab.async false
set_option linter.all false
set_option maxRecDepth 100000
namespace L2
open PySem PySem.Spec PyProof.Rows
section
variable {X : Cx} {k : Nat}
/-- t != (), t == (), whatever stands in t -/
noncomputable def rNeT : R2 := fun x y H Q => ∃ (a z : Addr) (xs : List V), x = .ref a ∧ y = .ref z ∧ H a = some (.tup xs) ∧ H z = some (.tup []) ∧ Q (.bl (!xs.isEmpty)) H
end
end L2

set_option Elab.async false
set_option linter.all false
set_option maxRecDepth 100000
/-! set(t), t a tuple of ints and texts; how many are in it -/
namespace L2
open PySem PySem.Spec PyProof.Rows
noncomputable def hasK (ks : List Key) (k : Key) : Bool := ks.any fun a => decide (a = k)
noncomputable def metK (val : Nat → Key) : Nat → List Key
  | 0 => []
  | i + 1 => if hasK (metK val i) (val i) = true then metK val i else metK val i ++ [val i]
section
variable {pr : Program} {wo : World} {Ar : Around} {R : Result → Shared → Prop} {I : Addr} {fp wr : List Addr} {G : Array GenState → Array GenState → Prop} {n : Nat} {P : Nat → Value → Prop} {St : Nat → Shared → Prop}
end
section
variable {pr : Program} {wo : World} {Ar : Around} {E : Value → Shared → Prop} {s : Shared}
noncomputable abbrev eS (led : Bool) : Obj := { cls := .type "set", dict := none, data := .set #[] 0 (.fresh 0 0 led) }
end
/-- set(t), t of ints and texts: a new thing that has so many -/
noncomputable def SetK (P : Program) (w : World) (a : Addr) (n : Nat) : HO := .ext fun h => ∃ S, h.SetOf (mixKind P w) a S n
noncomputable def keyV : V → Bool
  | .int _ => true
  | .str _ => true
  | _ => false
noncomputable def toK : V → Key
  | .int i => .inl i
  | .str x => .inr x
  | _ => .inl 0
noncomputable def rSetT (X : Cx) : List V → Hp → VK → Prop := fun xs H Q => ∃ (p : Addr) (ys : List V), xs = [.ref p] ∧ H p = some (.tup ys) ∧ ys.all keyV = true ∧ ys.length ≤ 100 ∧ ∀ q, H q = none → Q (.ref q) (upd H q (SetK X.prog X.w q (metK (fun i => (ys.map toK).getD i (.inl 0)) ys.length).length))
noncomputable def rLenK (X : Cx) : List V → Hp → VK → Prop := fun xs H Q => ∃ (p : Addr) (n : Nat), xs = [.ref p] ∧ H p = some (SetK X.prog X.w p n) ∧ n ≤ 100 ∧ Q (.int (n : Int)) H
end L2

set_option Elab.async false
set_option linter.all false
set_option maxRecDepth 100000
namespace L2
open PySem
/-- names of the language that the program leaves alone -/
structure Bl (mg : Str → Option Value) : Prop where
  len : mg "len" = none
  range : mg "range" = none
  tuple : mg "tuple" = none
  int : mg "int" = none
  bool : mg "bool" = none
  list : mg "list" = none
  str : mg "str" = none
  all : mg "all" = none
  any : mg "any" = none
  isi : mg "isinstance" = none
  repr : mg "repr" = none
  zip : mg "zip" = none
  min : mg "min" = none
  max : mg "max" = none
  sum : mg "sum" = none
  enu : mg "enumerate" = none
  sorted : mg "sorted" = none
  set : mg "set" = none
  dict : mg "dict" = none
  abs : mg "abs" = none
noncomputable def Kn (mg : Str → Option Value) (x : Str) (i : Int) : Prop := ∃ t, mg x = some (Value.int i t)
noncomputable def KnS (mg : Str → Option Value) (x : Str) (a : Str) : Prop := ∃ t, mg x = some (Value.str a t)
theorem pe_k {X : Cx} {x : Str} {i : Int} {pos : Pos} (h : Kn X.mg x i) (hg : Gl X x := by rfl) (hd : (x == ("__debug__" : Str)) = false := by decide) : PE X (.Name x pos) (tC (.int i)) := by
  obtain ⟨t, e⟩ := h
  exact pe_glob hg e ⟨t, rfl⟩ hd
theorem pe_ks {X : Cx} {x a : Str} {pos : Pos} (h : KnS X.mg x a) (hg : Gl X x := by rfl) (hd : (x == ("__debug__" : Str)) = false := by decide) : PE X (.Name x pos) (tC (.str a)) := by
  obtain ⟨t, e⟩ := h
  exact pe_glob hg e ⟨t, rfl⟩ hd
/-- range(a, b) that is gone through -/
theorem pi_r2 {X : Cx} {a b tg : Expr} {ta : TA} {p pos : Pos} (hm : X.mg "range" = none) (ha : PA X [a, b] ta) (hg : Gl X "range" := by rfl) (h : isStar a = false := by rfl) (h' : isStar b = false := by rfl) : PI X tg (.Call (.Name "range" p) [a, b] [] pos) (iRng2 ta) := pi_range2 hg hm ha (by rw [star1 h, star1 h']; rfl) (by rw [star1 h']; rfl)
theorem w_forR2 {ta : TA} {g : TG} {tb : TS} {D : Ends} {σ : St} {H : Hp} (h : ta σ H fun vs H1 => ∃ i j : Int, vs = [.int i, .int j] ∧ (-(2 ^ 62) ≤ i ∧ i < 2 ^ 62 ∧ -(2 ^ 62) ≤ j ∧ j < 2 ^ 62) ∧ ForJ (Itr i (j - i).toNat) g tb D σ H1) : tFor (iRng2 ta) g tb D σ H := h
theorem w_gt {K : PySem.W.Frag} {vs : List V} {σ : St} {H : Hp} {Q : VK} (h : ∀ a, SqT K H a vs → Q (.ref a) H) : tGT K vs σ H Q := h
theorem w_orV {ta tb : TE} {σ : St} {H : Hp} {Q : VK} (h : ta σ H fun x H1 => ∃ c, x = .bl c ∧ if c = true then Q (.bl true) H1 else tb σ H1 Q) : tOrV ta tb σ H Q := h
theorem w_andV {ta tb : TE} {σ : St} {H : Hp} {Q : VK} (h : ta σ H fun x H1 => ∃ c, x = .bl c ∧ if c = true then tb σ H1 Q else Q (.bl false) H1) : tAndV ta tb σ H Q := h
theorem at0 {v : V} {xs : List V} : atI (v :: xs) 0 = some v := atI_nat (show (v :: xs)[0]? = some v from rfl)
theorem iteNN {c A B : Prop} [Decidable c] (hc : ¬ c) (h : A) : if (!decide c) = true then A else B := by rw [decide_eq_false hc]; exact iteT h
theorem iteP {c A B : Prop} [Decidable c] (hc : c) (h : A) : if decide c = true then A else B := by rw [decide_eq_true hc]; exact iteT h
theorem iteQ {c A B : Prop} [Decidable c] (hc : ¬ c) (h : B) : if decide c = true then A else B := by rw [decide_eq_false hc]; exact iteF h
end L2

set_option Elab.async false
set_option linter.all false
set_option maxRecDepth 100000
namespace L2
open PySem PySem.Spec PyProof.Rows Builtin Builtin.Str
section
variable {X : Cx}
/-- b.join(tuple of texts) -/
noncomputable def rJoinT : V → List V → Hp → VK → Prop := fun x vs H Q => ∃ b p xs, x = .str b ∧ vs = [.ref p] ∧ (H p = some (.tup (xs.map V.str)) ∨ ∃ o, H p = some (.frz o (.tup (xs.map V.str)))) ∧ JoinOk b xs = true ∧ (Txt.join b xs).length ≤ sizeLine ∧ Q (.str (Txt.join b xs)) H
/-- ws.index(b), ws a list of texts -/
noncomputable def rIndexS : V → List V → Hp → VK → Prop := fun x vs H Q => ∃ (l : Addr) (ws : List Str) (b : Str) (k : Nat), x = .ref l ∧ vs = [.str b] ∧ H l = some (.lst (ws.map V.str)) ∧ ws[k]? = some b ∧ (∀ i y, i < k → ws[i]? = some y → y ≠ b) ∧ Q (.int (k : Int)) H
noncomputable def isT (b : Str) : Value → Bool
  | .str a _ => decide (a = b)
  | _ => false
theorem mt_indexL : MtM X "list.index" rIndexS := by
  intro pins s σ H x vs v us Q I rx rv h
  obtain ⟨l, ws, b, k, rfl, rfl, hH, hk, hno, q⟩ := h
  cases rx
  obtain ⟨u, rfl, ru⟩ := rv.one
  obtain ⟨t, rfl⟩ := ru
  obtain ⟨z, its, n, r, hl, e⟩ := I.lstM hH
  have hl' : ws.length = its.length := by simpa using hl
  have hkl : k < ws.length := (List.getElem?_eq_some_iff.mp hk).1
  have zl : ws.length ≤ sizeLine := by simpa using z
  have at' : ∀ m (hm : m < its.length), ∃ tt, its[m] = .str (ws[m]'(by omega)) tt := fun m hm => by
    obtain ⟨w', ew, rw'⟩ := r.get (show (ws.map V.str)[m]? = some (V.str (ws[m]'(by omega))) by simp [show m < ws.length by omega])
    rw [List.getElem?_eq_getElem hm] at ew
    rw [Option.some.inj ew]
    exact rw'
  refine call_meets F.slot_list_index ⟨_, e, rfl⟩ F.entry_list_index (F.args_list_index_2 _ _)
    (SeqAt.list_indexAt l its.toArray n none #[] (.str b t) (isT b) k (by rw [List.size_toArray]; omega) ?_ ?_ (fun m hm hmk => ?_)) ⟨e, fun y hy => ?_, ?_⟩
  · have := sizeLine_eq
    omega
  · obtain ⟨tt, ee⟩ := at' k (by omega)
    rw [List.getElem_toArray, ee]
    show decide (ws[k] = b) = true
    rw [List.getElem?_eq_getElem hkl] at hk
    exact decide_eq_true (Option.some.inj hk)
  · rw [List.size_toArray] at hm
    obtain ⟨tt, ee⟩ := at' m hm
    rw [List.getElem_toArray, ee]
    exact decide_eq_false (hno m _ hmk (List.getElem?_eq_getElem (by omega)))
  · obtain ⟨m, hm, rfl⟩ := Array.mem_iff_getElem.mp hy
    rw [List.size_toArray] at hm
    obtain ⟨tt, ee⟩ := at' m hm
    rw [List.getElem_toArray, ee]
    have := eqAt_V (A := X.A.in1) (s := s) (y := .str (ws[m]'(by omega))) (x := .str b) ⟨tt, rfl⟩ ⟨t, rfl⟩ rfl rfl
    exact this
  · exact ⟨.int k, H, I.tok _, ⟨_, rfl⟩, q⟩
end
/-! ### range(a, b, 2) -/
noncomputable def Itrs (lo c : Int) (n : Nat) : It := ⟨fun i _ => i < n, fun i H x H' => H' = H ∧ x = .int (lo + i * c), fun i _ => n ≤ i⟩
theorem turn_rangeS {P : Program} {w : World} {K : PySem.W.Frag} {tg : Expr} (it : Addr) (lo c : Int) (n : Nat) : Turn P w K tg (Itrs lo c n) [it] it (fun i h => IsRangeIter h it (lo + (i : Nat) * c) ((n : Int) - (i : Nat)) c) where
  mem := by simp
  obj := fun i h st b hb => by
    have e : b = it := by simpa using hb
    subst e
    exact ⟨_, st, fun v z => by
      have z' : Data.fields _ = Data.cell v := z
      cases z'⟩
  keep := fun i h h' st k => k it (by simp) _ st
  item := by
    intro X hP hw hK hc i pins s σ H E I hf st hg
    subst hP hw hK
    obtain ⟨f0, f1, f2, f3, f4, f5⟩ := hf it (by simp)
    have W := Walks.range (prog := X.prog) (w := X.w) (I.ok.hd hc) it lo c n
    refine W.item i s _ _ hg st fun v h' tk hv st' kk => ?_
    obtain ⟨t, rfl⟩ := hv
    have I1 : Inv X pins σ H { s with heap := h', toks := tk } := I.turned (fun b o hb e => kk b o (by simpa using hb) e) f0 f1 f3 f4 f5
    exact ⟨_, rfl, go_of (s := { s with heap := h', toks := tk }) (n := "range_iterator") st' rfl rfl (by decide) ⟨.int (lo + i * c), H, I1, ⟨t, rfl⟩, ⟨rfl, rfl⟩, st', fun b hb => (hf b hb).1⟩⟩
  done := by
    intro X hP hw hK hc i pins s σ H E I hf st hg
    subst hP hw hK
    obtain ⟨f0, f1, f2, f3, f4, f5⟩ := hf it (by simp)
    exact wpAny_pyNext_range_end (I.ok.hd hc) st (by have : n ≤ i := hg; omega) fun h' eb => ⟨rfl, I.turned (t' := s.toks) (fun b o hb e => eb b o hb e) f0 f1 f3 f4 f5⟩
  self := fun _ _ _ _ _ st h => wpAny_pyIter_rangeiter st h
theorem size_two (a b : Int) : Builtin.Range.rangeSize a b 2 = if a < b then (b - a + 1) / 2 else 0 := by
  unfold Builtin.Range.rangeSize
  simp only [show (2 : Int) > 0 by decide, if_true]
  split <;> omega
theorem small_two {a b : Int} (ha : 0 ≤ a) (ha' : a < 2 ^ 40) (hb : 0 ≤ b) (hb' : b < 2 ^ 40) : Builtin.Range.small a b 2 = true := by
  unfold Builtin.Range.small
  rw [size_two]
  simp only [Builtin.Range.rangeFitsLong, Bool.and_eq_true, Bool.or_eq_true, decide_eq_true_eq, beq_iff_eq, show (2 : Int) > 0 by decide, if_true]
  split <;> omega
noncomputable def iRng3 (ta : TA) : TI := fun σ H R => ta σ H fun vs H1 => ∃ i j : Int, vs = [.int i, .int j, .int 2] ∧ (0 ≤ i ∧ i < 2 ^ 40 ∧ 0 ≤ j ∧ j < 2 ^ 40) ∧ R (Itrs i 2 ((j - i + 1) / 2).toNat) H1
section
variable {X : Cx} {tg : Expr}
theorem range_it2 {pins : List (Addr × Obj)} {σ : St} {H : Hp} {s : Shared} {R : It → Hp → Prop} {E : Value → Shared → Prop} {lo hi : Int} {t u v : Tok} {tk : Nat} (I : Inv X pins σ H s) (h1 : 0 ≤ lo) (h2 : lo < 2 ^ 40) (h3 : 0 ≤ hi) (h4 : hi < 2 ^ 40)
    (q : R (Itrs lo 2 ((hi - lo + 1) / 2).toNat) H) : wpAny (model X.prog X.w) X.A (pyIter (.ref s.heap.objs.size)) (PIE X pins σ tg R) E { s with heap := s.heap.push { cls := .type "range", data := .fields #[.int lo t, .int hi u, .int 2 v] }, toks := tk } := by
  refine wpAny_pyIter_range (IsRange.new ..) (small_two h1 h2 h3 h4) ?_
  have I1 : Inv X pins σ H { s with heap := s.heap.push { cls := .type "range", data := .fields #[.int lo t, .int hi u, .int 2 v] }, toks := tk } := I.kept fun b o e => Heap.get?_push_of_some _ e
  refine ⟨(s.heap.push { cls := .type "range", data := .fields #[.int lo t, .int hi u, .int 2 v] }).objs.size, [(s.heap.push { cls := .type "range", data := .fields #[.int lo t, .int hi u, .int 2 v] }).objs.size], _, _, H, rfl,
    I1.kept (t' := tk) fun b o e => Heap.get?_push_of_some _ e, turn_rangeS _ lo 2 ((hi - lo + 1) / 2).toNat, ?_, fun b hb => ?_, q⟩
  · have e1 : lo + ((0 : Nat) : Int) * 2 = lo := by simp
    have e2 : (((((hi - lo + 1) / 2).toNat : Nat) : Int)) - ((0 : Nat) : Int) = Builtin.Range.rangeSize lo hi 2 := by rw [size_two]; split <;> omega
    show IsRangeIter _ _ (lo + ((0 : Nat) : Int) * 2) (((((hi - lo + 1) / 2).toNat : Nat) : Int) - ((0 : Nat) : Int)) 2
    rw [e1, e2]
    exact Heap.get?_push_size _ rfl
  · have e : b = (s.heap.push { cls := .type "range", data := .fields #[.int lo t, .int hi u, .int 2 v] }).objs.size := by simpa using hb
    subst e
    exact I1.fpOk (Nat.le_refl _) (I1.hok.fresh (Nat.le_refl _))
theorem pi_r3 {a b c : Expr} {ta : TA} {p pos : Pos} (hm : X.mg "range" = none) (ha : PA X [a, b, c] ta) (hg : Gl X "range" := by rfl) (h : isStar a = false := by rfl) (h' : isStar b = false := by rfl) (h'' : isStar c = false := by rfl) :
    PI X tg (.Call (.Name "range" p) [a, b, c] [] pos) (iRng3 ta) := by
  intro pins s σ H R I h0
  refine Call_ (ld_blt I hg hm boot_range (PyProof.Rows.callWith_type1 (thn (ha pos pins s σ H _ I h0) fun us s1 ⟨vs, H1, I1, r1, q1⟩ => ?_) (by rw [star1 h]) (star_any (by simp [h', h'']))))
  obtain ⟨i, j, e, ⟨q1, q2, q3, q4⟩, q⟩ := q1
  subst e
  cases r1 with
  | cons r rr =>
    cases rr with
    | cons r' rr =>
      cases rr with
      | cons r'' rr =>
        cases rr
        obtain ⟨t, rfl⟩ := r
        obtain ⟨t', rfl⟩ := r'
        obtain ⟨t'', rfl⟩ := r''
        exact call_range_3 (by decide) (range_it2 I1 q1 q2 q3 q4 q) (Or.inl (PyProof.noPylong_small (by omega)))
theorem w_forR3 {ta : TA} {g : TG} {tb : TS} {D : Ends} {σ : St} {H : Hp} (h : ta σ H fun vs H1 => ∃ i j : Int, vs = [.int i, .int j, .int 2] ∧ (0 ≤ i ∧ i < 2 ^ 40 ∧ 0 ≤ j ∧ j < 2 ^ 40) ∧ ForJ (Itrs i 2 ((j - i + 1) / 2).toNat) g tb D σ H1) : tFor (iRng3 ta) g tb D σ H := h
end
theorem for_rangeS {lo c : Int} {n : Nat} {g : TG} {tb : TS} {D : Ends} {σ : St} {H : Hp} (Pv : Nat → St → Hp → Prop) (h0 : Pv 0 σ H)
    (hs : ∀ i σ H, i < n → Pv i σ H → g (.int (lo + i * c)) σ H fun σ2 H2 => tb { D with nx := Pv (i + 1), ct := Pv (i + 1), bk := D.nx } σ2 H2) (hd : ∀ σ H, Pv n σ H → D.nx σ H) : ForJ (Itrs lo c n) g tb D σ H := by
  refine ⟨fun i m σ H => m = n - i ∧ i ≤ n ∧ Pv i σ H, ⟨n, by simp, Nat.zero_le _, h0⟩, ?_⟩
  rintro i m σ H ⟨rfl, hi, p⟩
  by_cases hlt : i < n
  · refine .inr ⟨hlt, Pv (i + 1), fun σ' H' p' => ⟨n - (i + 1), by omega, rfl, hlt, p'⟩, fun x H' y => ?_⟩
    obtain ⟨e, y⟩ := y
    subst e y
    exact hs i σ _ hlt p
  · have e : i = n := by omega
    subst e
    exact .inl ⟨Nat.le_refl _, hd σ H p⟩
theorem eqV_str {a b : Str} : eqV (.str a) (.str b) = decide (a = b) := by
  show _ = _
  unfold eqV
  rfl
theorem inV_strs (x : Str) : ∀ (ws : List Str), inV (.str x) (ws.map V.str) = decide (x ∈ ws)
  | [] => rfl
  | w :: ws => by
    show (eqV (.str w) (.str x) || inV (.str x) (ws.map V.str)) = _
    rw [inV_strs x ws, eqV_str]
    by_cases h : w = x
    · subst h; simp
    · have h' : ¬ x = w := fun e => h e.symm
      simp [h, h']
theorem flat_strs (ws : List Str) : (ws.map V.str).all flatV = true := by
  rw [List.all_map]
  exact List.all_eq_true.mpr fun _ _ => rfl
end L2

set_option Elab.async false
set_option linter.all false
set_option maxRecDepth 100000
/-! texts of pots: numbers, names, lines of words, sides of rules -/
namespace PT
open PySem L2 G2
noncomputable def fT (i : Int) : Str := Str.ofString (toString i)
noncomputable def inF (y : Str) : Bool := !(Builtin.Str.occurrences "0123456789" y 0 (Str.length "0123456789") 1).isEmpty
noncomputable def figB (x : Str) : Bool := decide (x.length ≤ 10) && (sg x).all inF && (match x.cps.toList with | [] => false | c :: _ => decide (x = "0") || !decide ((⟨#[c]⟩ : Str) = "0"))
noncomputable def inL (y : Str) : Bool := !(Builtin.Str.occurrences "abcdefghijklmnopqrstuvwxyz" y 0 (Str.length "abcdefghijklmnopqrstuvwxyz") 1).isEmpty
noncomputable def noNames : List Str := ["sorts", "begin", "in", "out", "rule", "to"]
noncomputable def nameB (x : Str) : Bool := decide (1 ≤ x.length) && decide (x.length ≤ 8) && !decide (x ∈ noNames) && (sg x).all inL && x.cps.toList.all fun c => decide (97 ≤ c) && decide (c ≤ 122)
noncomputable def cntB (i : Int) : Bool := figB (fT i) && decide ((fT i).length ≤ 2) && decide (PySem.intText? (fT i) = some i) && (fT i).cps.toList.all (fun c => decide (48 ≤ c) && decide (c ≤ 57)) && decide (i.natAbs.log2 < 1920)
structure Cnt (i : Int) : Prop where
  fig : figB (fT i) = true
  l2 : (fT i).length ≤ 2
  rd : PySem.intText? (fT i) = some i
  ch : ∀ c ∈ (fT i).cps.toList, 48 ≤ c ∧ c ≤ 57
  lg : i.natAbs.log2 < 1920
/-- a word of a line -/
structure Wd (w : Str) : Prop where
  l : w.length ≤ 8
  ch : ∀ c ∈ w.cps.toList, 33 ≤ c ∧ c ≤ 127
theorem Wd.cnt {i : Int} (h : Cnt i) : Wd (fT i) := ⟨Nat.le_trans h.l2 (by decide), fun c hc => by have := h.ch c hc; omega⟩
structure Nme (x : Str) : Prop where
  b : nameB x = true
  l1 : 1 ≤ x.length
  l8 : x.length ≤ 8
  no : x ∉ noNames
  al : (sg x).all inL = true
  ch : ∀ c ∈ x.cps.toList, 97 ≤ c ∧ c ≤ 122
theorem nme_ok {x : Str} (h : nameB x = true) : Nme x := by
  have h' := h
  unfold nameB at h'
  simp only [Bool.and_eq_true, decide_eq_true_eq, List.all_eq_true, Bool.not_eq_true', decide_eq_false_iff_not] at h'
  obtain ⟨⟨⟨⟨a, b⟩, c⟩, d⟩, e⟩ := h'
  exact ⟨h, a, b, c, List.all_eq_true.mpr d, e⟩
theorem Wd.name {x : Str} (h : nameB x = true) : Wd x := ⟨(nme_ok h).l8, fun c hc => by have := (nme_ok h).ch c hc; omega⟩
noncomputable def wdB (w : Str) : Bool := decide (w.length ≤ 8) && w.cps.toList.all fun c => decide (33 ≤ c) && decide (c ≤ 127)
theorem Wd.of {w : Str} (h : wdB w = true) : Wd w := by
  unfold wdB at h
  simp only [Bool.and_eq_true, decide_eq_true_eq, List.all_eq_true] at h
  exact ⟨h.1, h.2⟩
theorem Wd.nb {w : Str} (h : Wd w) : 32 ∉ w.cps.toList := fun z => by have := h.ch 32 z; omega
/-- a line of words -/
noncomputable def ln (ws : List Str) : Str := Txt.join ⟨#[32]⟩ ws
theorem blank_is : (" " : Str) = ⟨#[32]⟩ := by decide +kernel
/-! ### sides of rules -/
noncomputable def prs : Nat → List Int → List (Nat × Int)
  | _, [] => []
  | k, c :: cs => if 0 < c then (k, c) :: prs (k + 1) cs else prs (k + 1) cs
noncomputable def fill (cs : List Int) (ps : List (Nat × Int)) : List Int := ps.foldl (fun a p => a.set p.1 p.2) cs
/-- the words of a side -/
noncomputable def sdW (nm : List Str) (ps : List (Nat × Int)) : List Str := ps.flatMap fun p => [fT p.2, nm.getD p.1 ""]
noncomputable def sideW (nm : List Str) (cs : List Int) : List Str := sdW nm (prs 0 cs)
/-- a side: so many counts from 0 to 9 -/
structure Sd (m : Nat) (cs : List Int) : Prop where
  l : cs.length = m
  b : ∀ c ∈ cs, 0 ≤ c ∧ c ≤ 9
theorem getD_mem {nm : List Str} {k : Nat} (h : k < nm.length) : nm.getD k "" ∈ nm := by
  rw [List.getD_eq_getElem?_getD, List.getElem?_eq_getElem h]
  exact List.getElem_mem h
/-! ### pots -/
structure PD where
  nm : List Str
  rl : List (List Int × List Int)
  ins : List Int
  beg : List Int
  ans : Int
structure PD.ok (d : PD) (m : Nat) : Prop where
  nl : d.nm.length = m
  nd : d.nm.Nodup
  nb : ∀ x ∈ d.nm, nameB x = true
  m0 : 0 < m
  m8 : m ≤ 8
  r8 : d.rl.length ≤ 8
  rs : ∀ r ∈ d.rl, Sd m r.1 ∧ Sd m r.2 ∧ (∃ x ∈ r.1, 0 < x) ∧ r.1 ≠ r.2
  hi : ∀ i ∈ d.ins, 0 ≤ i ∧ i < m
  i3 : d.ins.length ≤ 3
  inn : d.ins.Nodup
  bl : d.beg.length = m
  hb : ∀ b ∈ d.beg, 0 ≤ b ∧ b ≤ 99
  ha : 0 ≤ d.ans ∧ d.ans < m
noncomputable def nmI (nm : List Str) (i : Int) : Str := nm.getD i.toNat ""
noncomputable def ruW (nm : List Str) (r : List Int × List Int) : List Str := ("rule" : Str) :: (sideW nm r.1 ++ ("to" : Str) :: sideW nm r.2)
/-- the words of a pot's lines -/
noncomputable def ptW (d : PD) : List (List Str) := [("sorts" : Str) :: d.nm, ("begin" : Str) :: d.beg.map fT, ("in" : Str) :: d.ins.map (nmI d.nm), [("out" : Str), nmI d.nm d.ans]] ++ d.rl.map (ruW d.nm)
noncomputable def ptL (d : PD) : List Str := (ptW d).map ln
/-! ### as data -/
noncomputable def ruD (r : List Int × List Int) : PyData := .tuple [.tuple (r.1.map .int), .tuple (r.2.map .int)]
noncomputable def ptD (d : PD) : PyData := .tuple [.tuple (d.nm.map .str), .tuple (d.rl.map ruD), .tuple (d.ins.map .int), .tuple (d.beg.map .int), .int d.ans]
noncomputable def liD (ls : List Str) : PyData := .list (ls.map .str)
theorem rdStrs {H : Hp} : ∀ (ws : List Str), RdVs H (ws.map V.str) (ws.map PyData.str)
  | [] => .nil
  | w :: ws => .cons (.str w) (rdStrs ws)
end PT

set_option Elab.async false
set_option linter.all false
set_option maxRecDepth 100000
namespace L2
open PySem PySem.Spec PyProof.Rows
section
variable {X : Cx}
/-- tuple(xs), xs a list: a tuple that is known as an object (so that its methods may be called) -/
noncomputable def rTupF (K : PySem.W.Frag) : List V → Hp → VK → Prop := fun xs H Q => ∃ p ys, xs = [.ref p] ∧ SqL K H p ys ∧ ∀ l o, H l = none → o.dict = none → o.cls = .type "tuple" → Q (.ref l) (upd H l (.frz o (.tup ys)))
theorem call_tupleF : CallR X (.type "tuple") (rTupF X.K) := by
  intro pins s σ H xs us Q I r h
  obtain ⟨p, ys, rfl, hq, q⟩ := h
  obtain ⟨u, rfl, rx⟩ := r.one
  cases rx
  obtain ⟨its, r', pl, hz⟩ := I.list hq
  have hlen := r'.length
  refine call_tuple_list pl.isList (fun h' kp => ?_) (by simp only [List.size_toArray] <;> omega)
  have I1 : Inv X pins σ H { s with heap := h' } := I.kept (t' := s.toks) kp
  have g : (h'.push { cls := .type "tuple", data := .seq its.toArray }).get? h'.objs.size = some { cls := .type "tuple", data := .seq its.toArray } := Heap.get?_push_size _ rfl
  have I2 : Inv X pins σ (upd H h'.objs.size (.frz { cls := .type "tuple", data := .seq its.toArray } (.tup ys))) { s with heap := h'.push { cls := .type "tuple", data := .seq its.toArray } } :=
    I1.laid (t' := s.toks) (fun b o e => Heap.get?_push_of_some _ e) (Nat.le_refl _) ⟨g, hz, its, r', ⟨_, g, rfl, _, rfl⟩⟩
  exact ⟨.ref h'.objs.size, _, I2, rfl, q _ _ (I1.hok.fresh (Nat.le_refl _)) rfl rfl⟩
end
section
variable {prog : Program} {w : World} {A : Around} {E : Value → Shared → Prop} {s : Shared}
theorem tup_index {l : Addr} {o : Obj} {items : Array Value} {n : Nat} {x : Value} {e : Nat → Bool} {j : Nat} {Q : Value → Shared → Prop} (ho : s.heap.get? l = some o) (hd : o.data = .seq items n) (hj : j < items.size) (hit : e j = true) (hno : ∀ m, m < j → e m = false)
    (he : ∀ i (hi : i < items.size), SeqAt.EqAt A s items[i] x (e i)) (h : Q (.int j s.toks) { s with toks := s.toks + 1 }) :
    wpAny (model prog w) A (Builtin.«tuple.index» ⟨[.ref l, x], []⟩) (fun f s' => ∃ v, f = .done (.ret v) ∧ Q v s') E s := by
  unfold Builtin.«tuple.index»
  refine wpAny_bind (wpAny_of_eq (a := (Value.ref l, [x])) rfl ?_)
  dsimp only
  unfold PySem.Builtin.Tuple.tupleItemsOf
  refine wpAny_bind (wpAny_bind (wpAny_seqItems ho hd (wpAny_pure ?_)))
  refine wpAny_bind (wpAny_pure (wpAny_bind (wpAny_pure ?_))); refine wpAny_bind ?_; rw [Std.Legacy.Range.forIn_eq_forIn_range']
  simp only [Std.Legacy.Range.size, Nat.sub_zero, Nat.add_sub_cancel, Nat.div_one, Nat.min_self]
  have go : ∀ (k i : Nat), i + k = j → wpAny (model prog w) A
      (forIn (List.range' i (items.size - i)) ((none : Option PySem.Fin), ()) fun (i : Nat) _ => match items[i]? with
        | some y => do
          let b ← eqBool y x
          if b = true then do
            let rr ← retInt (i : Int)
            pure (ForInStep.done (some rr, ()))
          else pure (ForInStep.yield (none, ()))
        | _ => pure (ForInStep.yield (none, ())))
      (fun a s' => a.1 = some (.done (.ret (.int j s.toks))) ∧ s' = { s with toks := s.toks + 1 }) E s := by
    intro k
    induction k with
    | zero =>
      intro i hi
      have e : i = j := by omega
      subst e
      rw [show items.size - i = (items.size - (i + 1)) + 1 by omega, List.range'_succ, List.forIn_cons]
      simp only [Array.getElem?_eq_getElem hj]
      refine wpAny_bind (wpAny_bind (he _ hj prog w _ _ ?_))
      rw [hit]
      simp only [if_true]
      exact wpAny_bind (wpAny_bind (wpAny_mkInt (wpAny_pure (wpAny_pure (wpAny_pure ⟨rfl, rfl⟩)))))
    | succ k ih =>
      intro i hi
      have hlt : i < items.size := Nat.lt_of_le_of_lt (by omega : i ≤ j) hj
      rw [show items.size - i = (items.size - (i + 1)) + 1 by omega, List.range'_succ, List.forIn_cons]
      simp only [Array.getElem?_eq_getElem hlt]; refine wpAny_bind (wpAny_bind (he _ hlt prog w _ _ ?_))
      rw [hno i (by omega)]
      simp only [Bool.false_eq_true, if_false]; exact wpAny_pure (ih (i + 1) (by omega))
  refine wpAny_mono (go j 0 (by omega)) (fun a s' ⟨h1, h2⟩ => ?_) fun _ _ z => z
  subst h2
  rw [h1]
  exact wpAny_pure ⟨_, rfl, h⟩
end

/-- a tuple that is known as an object -/
noncomputable def TupF (H : Hp) (l : Addr) (ys : List V) : Prop := ∃ o, H l = some (.frz o (.tup ys)) ∧ o.dict = none ∧ o.cls = .type "tuple"
theorem TupF.sq {K : PySem.W.Frag} {H : Hp} {l : Addr} {ys : List V} (t : TupF H l ys) : SqT K H l ys := let ⟨o, e, _⟩ := t; .inl (.inr ⟨o, e⟩)
section
variable {X : Cx} {o e : Expr} {to : TE} {ta : TA} {apos cpos : Pos}
/-- t.index(e), t a known tuple of flat items: the first place where it stands -/
noncomputable def tIndex (to : TE) (ta : TA) : TE := fun σ H Q => to σ H fun x H1 => (∃ l ys, x = .ref l ∧ TupF H1 l ys) ∧ ta σ H1 fun vs H2 => ∃ (l : Addr) (ys : List V) (v : V) (k : Nat) (hk : k < ys.length), vs = [v] ∧ x = .ref l ∧ TupF H2 l ys ∧ flatV v = true ∧ (∀ y ∈ ys, flatV y = true) ∧
  eqV ys[k] v = true ∧ (∀ i (hi : i < ys.length), i < k → eqV ys[i] v = false) ∧ Q (.int (k : Int)) H2
theorem pe_index (ho : PE X o to) (ha : PA X [e] ta) (hbase : attributeBase o "index" X.env (eval o X.env) = eval o X.env := by rfl)
    (hfew : ((backTo cpos (starEach [e] X.env)).all (fun x => !x.1) && (backToKw cpos (keywordEach [] X.env)).all (fun x => x.1.isSome) && decide ([e].length + ([] : List Keyword).length + (if ([] : List Keyword).isEmpty then 0 else 1) < 30)) = true := by rfl)
    (hline : (apos.endLine == cpos.line) = true := by rfl) (hst : isStar e = false := by rfl) : PE X (.Call (.Attribute o "index" apos) [e] [] cpos) (tIndex to ta) := by
  intro pins s σ H Q I h
  refine wpAny_Call_method_late hbase hfew hline rfl (thn (ho pins s σ H _ I h) fun v s1 ⟨x, H1, I1, r1, ⟨l, ys, ex, ob, e1, hd, hc⟩, q1⟩ => ?_)
  subst ex
  obtain rfl : v = Value.ref l := r1
  obtain ⟨g1, _⟩ := I1.hok l _ e1
  refine ⟨"tuple", "tuple.index", PySem.F.plainAttrs_tuple, PySem.F.slot_tuple_index, PySem.F.type_tuple_index, ⟨ob, g1, hc⟩, fun a ea => ?_, ?_⟩
  · cases ea
    exact ⟨ob, g1, hd⟩
  have hA := ha cpos pins s1 σ H1 _ I1 q1
  rw [star1 hst] at hA ⊢
  refine Calls.callWith_builtin (by rfl) (Calls.evalArgs_plain ?_)
  refine thn hA fun us s2 ⟨vs, H2, I2, r2, q2⟩ => ?_
  obtain ⟨l', zs, v, k, hk, rfl, el, ⟨ob2, e2, hd2, hc2⟩, fv, fz, hit, hno, q⟩ := q2
  cases el
  obtain ⟨u, rfl, ru⟩ := r2.one
  obtain ⟨g2, z2, its, rv, ot, et, ct, n, dt⟩ := I2.hok l _ e2
  have hl := rv.length
  have eqs : ∀ i (h1 : i < zs.length) (h2 : i < its.length), RelV zs[i] its[i] := fun i h1 h2 => by
    obtain ⟨w', ew, rw'⟩ := rv.get (show zs[i]? = some zs[i] by simp [h1])
    rw [List.getElem?_eq_getElem h2] at ew
    rw [Option.some.inj ew]
    exact rw'
  have hT : s2.TypeIs (.ref l) "tuple" := ⟨ot, et, ct⟩
  refine wpAny_call_entry PySem.F.slot_tuple_index hT PySem.F.entry_tuple_index (tup_index (e := fun i => eqV (zs.getD i .non) v) (j := k) et dt (by simp; omega) ?_ (fun i hi => ?_) (fun i hi => ?_) ⟨.int k, H2, I2.tok _, ⟨_, rfl⟩, q⟩) (PySem.F.args_tuple_index_2 _ _)
  · show eqV (zs.getD k .non) v = true
    rw [List.getD_eq_getElem?_getD, List.getElem?_eq_getElem hk]
    exact hit
  · show eqV (zs.getD i .non) v = false
    rw [List.getD_eq_getElem?_getD, List.getElem?_eq_getElem (show i < zs.length by omega)]
    exact hno i (by omega) hi
  · have hi2 : i < its.length := by simpa using hi
    have hi1 : i < zs.length := by omega
    have q := eqAt_V (A := X.A.in1) (s := s2) (eqs i hi1 hi2) ru (fz _ (List.getElem_mem hi1)) fv
    show SeqAt.EqAt _ _ its.toArray[i] u (eqV (zs.getD i .non) v)
    rw [List.getD_eq_getElem?_getD, List.getElem?_eq_getElem hi1]
    simpa using q
end
end L2

set_option Elab.async false
set_option linter.all false
set_option maxRecDepth 100000
namespace L2
open PySem
theorem TupF.same {H H' : Hp} {l : Addr} {ys : List V} (t : TupF H l ys) (k : Same H H') : TupF H' l ys := let ⟨o, e, a, b⟩ := t; ⟨o, k _ _ e, a, b⟩
end L2
namespace PT
open PySem L2 G2
/-- where the parts of a pot and of a rule stand -/
structure KP (mg : Str → Option Value) : Prop where
  sorts : Kn mg "SORTS" 0
  rules : Kn mg "RULES" 1
  inputs : Kn mg "INPUTS" 2
  begin : Kn mg "BEGIN" 3
  answer : Kn mg "ANSWER" 4
  takes : Kn mg "TAKES" 0
  gives : Kn mg "GIVES" 1
/-- what the reader of pots finds in its module -/
structure KR (K : PySem.W.Frag) (mg : Str → Option Value) : Prop where
  fig : KnS mg "FIGURES" "0123456789"
  lets : KnS mg "LETTERS" "abcdefghijklmnopqrstuvwxyz"
  no : GTup K mg "NO_NAMES" (noNames.map V.str)
  mlet : Kn mg "MOST_LETTERS" 8
  msor : Kn mg "MOST_SORTS" 8
  mbeg : Kn mg "MOST_BEGIN" 99
  minp : Kn mg "MOST_INPUTS" 3
  mrul : Kn mg "MOST_RULES" 8
  mdro : Kn mg "MOST_DROPS" 9
  mfig : Kn mg "MOST_FIGURES" 2
  l0 : Kn mg "SORTS_LINE" 0
  l1 : Kn mg "BEGIN_LINE" 1
  l2 : Kn mg "IN_LINE" 2
  l3 : Kn mg "OUT_LINE" 3
  l4 : Kn mg "FIRST_RULE" 4
theorem w_index {to : TE} {ta : TA} {σ : St} {H : Hp} {Q : VK} (h : to σ H fun x H1 => (∃ l ys, x = .ref l ∧ TupF H1 l ys) ∧ ta σ H1 fun vs H2 => ∃ (l : Addr) (ys : List V) (v : V) (k : Nat) (hk : k < ys.length), vs = [v] ∧ x = .ref l ∧ TupF H2 l ys ∧ flatV v = true ∧ (∀ y ∈ ys, flatV y = true) ∧
    eqV ys[k] v = true ∧ (∀ i (hi : i < ys.length), i < k → eqV ys[i] v = false) ∧ Q (.int (k : Int)) H2) : tIndex to ta σ H Q := h
theorem flat_mem (nm : List Str) : ∀ y ∈ nm.map V.str, flatV y = true := fun y hy => by
  obtain ⟨x, _, rfl⟩ := List.mem_map.mp hy
  rfl
theorem eqV_int {a b : Int} : eqV (.int a) (.int b) = decide (a = b) := by
  unfold eqV
  rfl
theorem inV_ints (x : Int) : ∀ (ws : List Int), inV (.int x) (ws.map V.int) = decide (x ∈ ws)
  | [] => rfl
  | w :: ws => by
    show (eqV (.int w) (.int x) || inV (.int x) (ws.map V.int)) = _
    rw [inV_ints x ws, eqV_int]
    by_cases h : w = x
    · subst h; simp
    · have h' : ¬ x = w := fun e => h e.symm
      simp [h, h']
theorem flat_ints (ws : List Int) : (ws.map V.int).all flatV = true := by
  rw [List.all_map]
  exact List.all_eq_true.mpr fun _ _ => rfl
/-! ### pots in the heap -/
noncomputable def RlD (H : Hp) (r : Addr) (x : List Int × List Int) : Prop := ∃ a b, H r = some (.tup [.ref a, .ref b]) ∧ H a = some (.tup (x.1.map V.int)) ∧ H b = some (.tup (x.2.map V.int))
theorem RlD.same {H H' : Hp} {r : Addr} {x : List Int × List Int} (h : RlD H r x) (k : Same H H') : RlD H' r x := let ⟨a, b, h1, h2, h3⟩ := h; ⟨a, b, k _ _ h1, k _ _ h2, k _ _ h3⟩
noncomputable def RlsD (H : Hp) : List Addr → List (List Int × List Int) → Prop
  | [], [] => True
  | r :: rs, x :: xs => RlD H r x ∧ RlsD H rs xs
  | _, _ => False
theorem RlsD.same {H H' : Hp} (k : Same H H') : ∀ {rs : List Addr} {xs : List (List Int × List Int)}, RlsD H rs xs → RlsD H' rs xs
  | [], [], _ => trivial
  | _ :: _, _ :: _, ⟨a, b⟩ => ⟨a.same k, RlsD.same k b⟩
  | [], _ :: _, h => h.elim
  | _ :: _, [], h => h.elim
theorem RlsD.len {H : Hp} : ∀ {rs : List Addr} {xs : List (List Int × List Int)}, RlsD H rs xs → rs.length = xs.length
  | [], [], _ => rfl
  | _ :: _, _ :: _, ⟨_, b⟩ => by rw [List.length_cons, List.length_cons, RlsD.len b]
  | [], _ :: _, h => h.elim
  | _ :: _, [], h => h.elim
theorem RlsD.get {H : Hp} : ∀ {rs : List Addr} {xs : List (List Int × List Int)} {i : Nat} {r : Addr}, RlsD H rs xs → rs[i]? = some r → ∃ x, xs[i]? = some x ∧ RlD H r x
  | r' :: _, x :: _, 0, r, ⟨a, _⟩, e => by cases e; exact ⟨x, rfl, a⟩
  | _ :: _, _ :: _, i + 1, r, ⟨_, b⟩, e => RlsD.get (i := i) b e
  | [], _, _, _, _, e => nomatch e
  | _ :: _, [], _, _, h, _ => h.elim
theorem RlsD.snoc {H : Hp} : ∀ {rs : List Addr} {xs : List (List Int × List Int)} {r : Addr} {x : List Int × List Int}, RlsD H rs xs → RlD H r x → RlsD H (rs ++ [r]) (xs ++ [x])
  | [], [], _, _, _, h => ⟨h, trivial⟩
  | _ :: _, _ :: _, _, _, ⟨a, b⟩, h => ⟨a, RlsD.snoc b h⟩
  | [], _ :: _, _, _, h, _ => h.elim
  | _ :: _, [], _, _, h, _ => h.elim
theorem RlsD.rd {H : Hp} : ∀ {rs : List Addr} {xs : List (List Int × List Int)}, RlsD H rs xs → RdVs H (rs.map V.ref) (xs.map ruD)
  | [], [], _ => .nil
  | _ :: _, _ :: _, ⟨⟨_, _, h1, h2, h3⟩, b⟩ => .cons (.tup h1 (.cons (.tup h2 (rdInts _)) (.cons (.tup h3 (rdInts _)) .nil))) (RlsD.rd b)
  | [], _ :: _, h => h.elim
  | _ :: _, [], h => h.elim
theorem RlD.off {H : Hp} {D r : Addr} {ys : List V} {o : HO} {x : List Int × List Int} (hD : H D = some (.lst ys)) (h : RlD H r x) : RlD (upd H D o) r x := by
  obtain ⟨a, b, h1, h2, h3⟩ := h
  have ne : ∀ {q : Addr} {zs : List V}, H q = some (.tup zs) → q ≠ D := fun e z => by rw [z, hD] at e; cases e
  exact ⟨a, b, by rw [upd_ne (ne h1)]; exact h1, by rw [upd_ne (ne h2)]; exact h2, by rw [upd_ne (ne h3)]; exact h3⟩
theorem RlsD.off {H : Hp} {D : Addr} {ys : List V} {o : HO} (hD : H D = some (.lst ys)) : ∀ {rs : List Addr} {xs : List (List Int × List Int)}, RlsD H rs xs → RlsD (upd H D o) rs xs
  | [], [], _ => trivial
  | _ :: _, _ :: _, ⟨a, b⟩ => ⟨a.off hD, RlsD.off hD b⟩
  | [], _ :: _, h => h.elim
  | _ :: _, [], h => h.elim
/-- a pot; fz: its sorts as a known object -/
structure PotF (fz : Bool) (H : Hp) (p : Addr) (d : PD) : Prop where
  ex : ∃ (ps pr pin pb : Addr) (rs : List Addr), H p = some (.tup [.ref ps, .ref pr, .ref pin, .ref pb, .int d.ans]) ∧ (if fz = true then TupF H ps (d.nm.map V.str) else H ps = some (.tup (d.nm.map V.str))) ∧ H pr = some (.tup (rs.map V.ref)) ∧ RlsD H rs d.rl ∧
    H pin = some (.tup (d.ins.map V.int)) ∧ H pb = some (.tup (d.beg.map V.int))
theorem PotF.same {fz : Bool} {H H' : Hp} {p : Addr} {d : PD} (h : PotF fz H p d) (k : Same H H') : PotF fz H' p d := by
  obtain ⟨ps, pr, pin, pb, rs, h1, h2, h3, h4, h5, h6⟩ := h.ex
  refine ⟨ps, pr, pin, pb, rs, k _ _ h1, ?_, k _ _ h3, h4.same k, k _ _ h5, k _ _ h6⟩
  cases fz
  · exact k _ _ h2
  · exact TupF.same h2 k
theorem PotF.rd {fz : Bool} {H : Hp} {p : Addr} {d : PD} (h : PotF fz H p d) : RdV H (.ref p) (ptD d) := by
  obtain ⟨ps, pr, pin, pb, rs, h1, h2, h3, h4, h5, h6⟩ := h.ex
  refine .tup h1 (.cons ?_ (.cons (.tup h3 h4.rd) (.cons (.tup h5 (rdInts _)) (.cons (.tup h6 (rdInts _)) (.cons (.int _) .nil)))))
  cases fz
  · exact .tup h2 (rdStrs _)
  · obtain ⟨o, e, _⟩ := h2
    exact .ftup e (rdStrs _)
/-- tuples stay -/
noncomputable def Tst (H H' : Hp) : Prop := ∀ q xs, H q = some (.tup xs) → H' q = some (.tup xs)
theorem Tst.lst {H : Hp} {D : Addr} {ys : List V} {o : HO} (hD : H D = some (.lst ys)) : Tst H (upd H D o) := fun q xs e => by
  rw [upd_ne fun z => by rw [z, hD] at e; cases e]
  exact e
theorem lay_strs : ∀ {ws : List Str}, (∀ w ∈ ws, ∀ c ∈ w.cps.toList, c < 128) → PyData.canLayAll0 (ws.map PyData.str) = true
  | [], _ => rfl
  | w :: ws, h => by
    show (PyData.canLay0 (.str w) && PyData.canLayAll0 (ws.map PyData.str)) = true
    rw [lay_strs fun w hw => h w (List.mem_cons_of_mem _ hw), Bool.and_true]
    show PyData.strOk w = true
    unfold PyData.strOk
    rw [Array.all_eq_true']
    intro c hc
    have := h w List.mem_cons_self c (Array.mem_toList_iff.mpr hc)
    exact decide_eq_true (Nat.lt_trans this (by decide))
theorem depth_strs : ∀ ws : List Str, PyData.depthAll (ws.map PyData.str) = 0
  | [] => rfl
  | w :: ws => by
    show max (PyData.depth (.str w)) (PyData.depthAll (ws.map PyData.str)) = 0
    rw [depth_strs ws]
    rfl
end PT

set_option Elab.async false
set_option linter.all false
set_option maxRecDepth 100000
namespace L2
open PySem PySem.Spec PyProof.Rows

/-! ### an exception on its way through a comprehension -/
section
variable {M : Model} {A : Around} {E : Value → Shared → Prop} {s : Shared} {base : Heap} {env : Env} {outer : List Env} {L a : Addr} {T : Option Addr} {C : Value} {d : Option Addr} {H : Hp} {lo : Nat} {fl : Value} {Q : Unit → Shared → Prop}
/-- the frame is noted, wherever it is in flight -/
theorem note_any (hfr : A.frames = some (env :: outer)) (hl : s.heap.FunFrames base (env :: outer)) (hf : env.frame = some L) (F : Fly lo s.heap H a T C d fl) (hlo : lo ≤ s.heap.objs.size) (hH : ∀ b, s.heap.objs.size ≤ b → H b = none)
    (h : ∀ h' T' fl', Fly lo h' H a (some T') C d fl' → (T' ∈ a :: T.toList ∨ s.heap.objs.size ≤ T') → (∀ b o, s.heap.get? b = some o → b ∉ frs (env :: outer) → b ∉ a :: T.toList → h'.get? b = some o) →
      (∀ b o, s.heap.get? b = some o → b ∉ a :: T.toList → ∃ z, h'.get? b = some { o with slots := z }) → Q () { s with heap := h' }) :
    wpAny M A (noteFrame (.ref a) env) Q E s := by
  cases T with
  | none => exact note_x hfr hl hf (⟨F.at_, F.lo⟩ : Fly lo s.heap H a none C d .none) hlo hH fun h' T' F' hT' k1 k2 => h h' T' _ F' (.inr hT') k1 k2
  | some t =>
    have F0 := F
    obtain ⟨⟨vs, sl, ha, hT⟩, hlow⟩ := F
    unfold noteFrame
    simp only [hf]
    obtain ⟨h1, hta, oT, ts, g1, g2, g3⟩ := hT
    refine wpAny_bind (wpAny_field ha rfl h1 ?_)
    rw [if_pos (show (Value.ref t != Value.none) = true from by simp)]
    refine wpAny_bind (wpAny_field g1 g2 g3 ?_)
    by_cases hq : (fl == rawInt L) = true
    · rw [if_pos hq]
      exact wpAny_pure (h s.heap t fl F0 (.inl (by simp)) (fun b o hb _ _ => hb) fun b o hb _ => ⟨o.slots, hb⟩)
    rw [if_neg hq]
    refine wpAny_bind (wpAny_setField g1 g2 (Array.getElem?_eq_some_iff.mp g3).1 ?_)
    have other : ∀ b, b ≠ t → (s.heap.update t (Obj.mapFields (·.setIfInBounds 3 Value.none))).get? b = s.heap.get? b := fun b hb => Heap.get?_update_other _ _ (Ne.symm hb)
    have noRecord : ∀ b o, s.heap.get? b = some o → (∀ vs, o.data ≠ .fields vs) → b ≠ t := fun b o hb hnf q => by
      rw [q, g1] at hb; injection hb with hb; subst hb; exact hnf ts g2
    have szu : (s.heap.update t (Obj.mapFields (·.setIfInBounds 3 Value.none))).objs.size = s.heap.objs.size := Heap.size_after_update ..
    refine entry_x (s := { s with heap := s.heap.update t (Obj.mapFields (·.setIfInBounds 3 Value.none)) }) hfr (hl.of_keeps fun b o hb hnf => ⟨o, (other b (noRecord b o hb hnf)).trans hb, rfl⟩) hf ((other a (Ne.symm hta)).trans ha) rfl (Array.getElem?_eq_some_iff.mp h1).1 fun h' T' hs hne he htb k1 k2 => ?_
    have hs' : s.heap.objs.size ≤ T' := by
      have hs : (s.heap.update t (Obj.mapFields (·.setIfInBounds 3 Value.none))).objs.size ≤ T' := hs
      rw [szu] at hs; exact hs
    obtain ⟨oT', ts', t1, t2, t3⟩ := htb
    refine h h' T' _ ⟨⟨_, sl, he, by simp [(Array.getElem?_eq_some_iff.mp h1).1], hne, oT', ts', t1, t2, t3⟩, fun b hb => ?_⟩ (.inr hs') (fun b o hb hn hc => k1 b o ((other b fun z => hc (by simp [z])).trans hb) hn fun z => hc (by simp [z])) fun b o hb hc => k2 b o ((other b fun z => hc (by simp [z])).trans hb) fun z => hc (by simp [z])
    rcases List.mem_cons.mp hb with e | hb
    · rw [e]; exact hlow a List.mem_cons_self
    · rcases List.mem_singleton.mp hb with rfl
      exact ⟨Nat.le_trans hlo hs', hH _ hs'⟩
/-- in flight, in any frame or none -/
theorem land_any {t : Addr} {fr : Option Addr} (F : Fly lo s.heap H a (some t) C d fl)
    (h : ∀ h' fl', Fly lo h' H a (some t) C d fl' → (∀ b o, s.heap.get? b = some o → b ≠ t → h'.get? b = some o) → Q () { s with heap := h' }) : wpAny M A (setFlight (.ref a) fr) Q E s := by
  obtain ⟨⟨vs, sl, ha, h1, hta, oT, ts, g1, g2, g3⟩, hlow⟩ := F
  have hsz3 : 3 < ts.size := (Array.getElem?_eq_some_iff.mp g3).1
  have other : ∀ b, b ≠ t → (s.heap.update t (Obj.mapFields (·.setIfInBounds 3 (fr.elim Value.none fun f => rawInt f)))).get? b = s.heap.get? b :=
    fun b hb => Heap.get?_update_other _ _ (Ne.symm hb)
  unfold setFlight
  refine wpAny_bind (wpAny_field ha rfl h1 ?_)
  rw [if_pos (show (Value.ref t != Value.none) = true from by simp)]
  refine wpAny_setField g1 g2 hsz3 (h _ (fr.elim Value.none fun f => rawInt f) ⟨⟨vs, sl, (other a (Ne.symm hta)).trans ha, h1, hta, _, _, Heap.get?_update_self _ g1 (Obj.isFreed_of_fields (Obj.data_mapFields g2 _)), Obj.data_mapFields g2 _, by simp [hsz3]⟩, hlow⟩ fun b o hb hn => (other b hn).trans hb)
/-- it goes on -/
theorem pass_any {α : Type} {t : Addr} {what : String} {env : Env} {Q : α → Shared → Prop} (F : Fly lo s.heap H a (some t) C d fl)
    (h : ∀ h' fl', Fly lo h' H a (some t) C d fl' → (∀ b o, s.heap.get? b = some o → b ≠ t → h'.get? b = some o) → E (.ref a) { s with heap := h' }) : wpAny M A (PySem.passOn what (.ref a) env : Sem α) Q E s := by
  have F0 := F
  obtain ⟨⟨vs, sl, ha, h1, hta, oT, ts, g1, g2, g3⟩, hlow⟩ := F
  unfold PySem.passOn
  refine wpAny_bind (wpAny_field ha rfl h1 ?_)
  rw [if_neg (show ¬ ((Value.ref t == Value.none) = true) from by simp)]
  refine wpAny_bind (land_any F0 fun h' fl' F' k => ?_)
  exact wpAny_throw (h h' fl' F' k)
theorem Fly.keeps {h h' : Heap} (F : Fly lo h H a T C d fl) (k : ∀ b ∈ a :: T.toList, ∀ o, h.get? b = some o → h'.get? b = some o) : Fly lo h' H a T C d fl := by
  obtain ⟨⟨vs, sl, ha, hT⟩, hlow⟩ := F
  refine ⟨⟨vs, sl, k a List.mem_cons_self _ ha, ?_⟩, hlow⟩
  cases T with
  | none => exact hT
  | some t =>
    obtain ⟨h1, hta, oT, ts, g1, g2, g3⟩ := hT
    exact ⟨h1, hta, oT, ts, k t (by simp) _ g1, g2, g3⟩
end
/-- an exception that is wanted lands, wherever it is in flight -/
noncomputable def LandsF (X : Cx) (EX : St → XK) : Prop := ∀ (pins : List (Addr × Obj)) (σ : St) (H : Hp) (s : Shared) (a : Addr) (T : Option Addr) (C : Value) (d : Option Addr) (fl : Value), Inv X pins σ H s → Fly X.s₀.heap.objs.size s.heap H a T C d fl →
  (∀ p ∈ X.pn, p.1 ∉ a :: T.toList) → EX σ C d H → X.xe (.ref a) s
theorem LandsF.lands {X : Cx} {EX : St → XK} (L : LandsF X EX) : Lands X EX := fun pins σ H s a T C d I F hp hE => L pins σ H s a T C d _ I F hp hE
/-- out of a def -/
theorem landsF_cx {P : Program} {w : World} {K : PySem.W.Frag} {mg : Str → Option Value} {base : Heap} {N : List Str} {qual : Str} {scope : Scope} {f : Addr} {cd : Value} {A : Around} {outer : List Env} {s : Shared} {H : Hp} {E : XK} :
    LandsF (cxOf (CXE P w) P w K mg base N qual scope f cd A outer s H E) (fun _ => E) := by
  intro pins σ H' s' a T C d fl I F hp hE
  show wpAny (model P w) (A.deeper (envOfC qual scope s.heap.objs.size f cd)) (leaving (envOfC qual scope s.heap.objs.size f cd) (.ref a)) (fun _ s'' => CXE P w outer H s E (.ref a) s'') (fun e' s'' => CXE P w outer H s E e' s'') s'
  unfold leaving
  have hstk := I.stack
  have hfr := I.stkFree
  refine wpAny_bind (note_any I.ok.frames hstk rfl F I.sz (fun b hb => I.hok.fresh hb) fun h1 T1 fl1 F1 hT1 k1 k2 => ?_)
  refine land_x (s := { s' with heap := h1 }) F1 fun h2 F2 k3 => ?_
  have low : ∀ b, b < s.heap.objs.size → b ∉ a :: T.toList := fun b hb z => absurd (Nat.lt_of_lt_of_le hb (F.lo b z).1) (Nat.lt_irrefl _)
  have hsz : s.heap.objs.size ≤ s'.heap.objs.size := I.sz
  have nT1 : ∀ b, b < s.heap.objs.size → b ≠ T1 := fun b hb z => by
    rcases hT1 with q | q
    · exact low b hb (z ▸ q)
    · exact absurd (Nat.lt_of_lt_of_le (Nat.lt_of_lt_of_le (z ▸ hb) hsz) q) (Nat.lt_irrefl _)
  refine ⟨a, some T1, C, d, H', rfl, I.os, I.bare, Un.more I.base (fun b o hb q hn => ?_) (fun b o hb q => ?_), ?_, F2, hE⟩
  · refine k3 b o (k1 b o q (fun z => ?_) (low b hb)) (nT1 b hb)
    rcases List.mem_cons.mp z with z | z
    · exact absurd (Nat.lt_of_lt_of_le hb (Nat.le_trans I.ok.above (Nat.le_of_eq z.symm))) (Nat.lt_irrefl _)
    · exact hn z
  · obtain ⟨z, e⟩ := k2 b o q (low b hb)
    exact ⟨z, k3 b _ e (nT1 b hb)⟩
  · refine hok_un (fs := frs (envOfC qual scope s.heap.objs.size f cd :: outer)) (ch := T1 :: (a :: T.toList)) I.hok (fun b o q hn hc => ?_) hfr fun b hb => ?_
    · exact k3 b o (k1 b o q hn fun z => hc (List.mem_cons_of_mem _ z)) fun z => hc (by simp [z])
    · rcases List.mem_cons.mp hb with e | hb
      · rw [e]; exact (F1.lo T1 (by simp)).2
      · exact (F.lo b hb).2
/-- THE RULE for a def that may raise, also within a comprehension -/
theorem Fun.okXF {P : Program} {w : World} {K : PySem.W.Frag} {mg : Str → Option Value} {base : Heap} {x qual : Str} {st : Stmt} {f : Addr} {fd : FuncData} {N ps : List Str} {k : Nat} {sp : Sp} (F : Fun K x qual st f fd) (S : FnScope N ps (defScope st)) (len : ∀ vs H Q E, sp vs H Q E → vs.length = ps.length)
    (hbody : ∀ (cdv : Value) (A : Around) (outer : List Env) (s : Shared) (H : Hp) (vs : List V) (Q : VK) (E : XK), Room k (A.deeper (envOfC qual (defScope st) s.heap.objs.size f cdv)) → sp vs H Q E →
      LandsF (cxOf (CXE P w) P w K mg base N qual (defScope st) f cdv A outer s H E) (fun _ => E) →
      ∃ t, PSs (cxOf (CXE P w) P w K mg base N qual (defScope st) f cdv A outer s H E) (defBody st) t ∧ t { nx := fun _ H' => Q .non H', rt := Q } (start N vs) H) : FnOk P w K mg base (CXE P w) (k + 1) f fd ps sp := by
  obtain ⟨oc, od, kV, doc, pm, an, cdv, ct, osl, rfl, lk, hcd⟩ := F.ex
  refine fn_of lk hcd S len fun A outer s H vs Q E hr hsp => ?_
  exact hbody cdv A outer s H vs Q E hr hsp landsF_cx
/-- out of a comprehension's block -/
theorem lands_block {X : Cx} {EX : St → XK} {use : Option (Value → Sem Unit)} {Qx : Value → Shared → Prop} {acc : Value} {N : List Str} {sc : Scope} {cl : List (Str × Addr)} {fp : List Addr} {s3 : Shared} {H3 : Hp} {pins : List (Addr × Obj)} {σ : St}
    (L : LandsF X EX) (hst : X.stack = X.env :: X.outer) (hfr : X.env.frame = some X.env.locals) (I3 : Inv X pins σ H3 s3)
    (hf3 : ∀ b ∈ fp, (b ∈ X.ex ∨ X.s₀.heap.objs.size ≤ b) ∧ b ≠ X.env.locals ∧ (∀ x c, X.env.cells.lookup x = some c → c ≠ b) ∧ ∀ p ∈ X.pn ++ pins, p.1 ≠ b) :
    LandsF (cxC X N sc cl s3.heap.objs.size fp s3 H3 (notedBy (model X.prog X.w) X.A (compEnvC sc cl s3.heap.objs.size X.env) fun e s' => compPost (model X.prog X.w) X.A X.xe use Qx acc s3.heap.objs.size (.error e) s')) (fun _ => EX σ) := by
  intro pins' τ H' s' a T C d fl I1 F hp hE
  have J : Inv X pins σ H' s' := I3.call' (ch := fp) I1.os I1.base I1.hok I1.bare hf3
  have F' : Fly X.s₀.heap.objs.size s'.heap H' a T C d fl := F.mono I3.sz
  have hps : ∀ p ∈ X.pn ++ pins, p.1 ∉ a :: T.toList := fun p hp z => absurd (Nat.lt_of_lt_of_le (Heap.lt_size (I3.pin p hp).1) (F.lo _ z).1) (Nat.lt_irrefl _)
  have hstk : s'.heap.FunFrames X.base (X.env :: X.outer) := by rw [← hst]; exact J.stack
  have hfrs : ∀ b ∈ frs (X.env :: X.outer), H' b = none := by rw [← hst]; exact J.stkFree
  have aw := J.away F' (Nat.le_refl _) hps
  have I0 : Inv (cxC X N sc cl s3.heap.objs.size fp s3 H3 (notedBy (model X.prog X.w) X.A (compEnvC sc cl s3.heap.objs.size X.env) fun e s' => compPost (model X.prog X.w) X.A X.xe use Qx acc s3.heap.objs.size (.error e) s')) [] τ H' s' :=
    ⟨I1.ok, I1.os, I1.bare, I1.base, I1.loc, I1.cell, I1.free, I1.freeC, fun p hp => absurd (show p ∈ ([] : List (Addr × Obj)) from hp) (by simp), I1.hok, I1.len⟩
  have awC : ∀ b ∈ a :: T.toList, b ≠ s3.heap.objs.size := fun b hb => (I0.away F (Nat.le_refl _) (fun p hp => absurd (show p ∈ ([] : List (Addr × Obj)) from hp) (by simp)) b hb).2.1
  have ltC : s3.heap.objs.size < s'.heap.objs.size := I1.lt
  have Cfr : s3.heap.objs.size ∉ frs (X.env :: X.outer) := fun z => by
    rw [← hst] at z
    obtain ⟨_, o, ho, _⟩ := I3.stack.mem z
    exact absurd (Heap.lt_size ho) (Nat.lt_irrefl _)
  show wpAny (model X.prog X.w) X.A (noteFrame (.ref a) X.env) (fun _ s2 => compPost (model X.prog X.w) X.A X.xe use Qx acc s3.heap.objs.size (.error (.ref a)) s2) (fun e s2 => compPost (model X.prog X.w) X.A X.xe use Qx acc s3.heap.objs.size (.error e) s2) s'
  refine note_any (by rw [J.ok.frames, hst]) hstk hfr F' J.sz (fun b hb => J.hok.fresh hb) fun h1 T1 fl1 F1 hT1 k1 k2 => ?_
  have J1 : Inv X pins σ H' { s' with heap := h1 } := J.call (g' := s'.gens) (d' := s'.drawn) (t' := s'.toks) (ch := a :: T.toList) (by rw [hst]; exact un_of k1 k2) (hok_un J.hok k1 hfrs fun b hb => (F.lo b hb).2) J.bare aw
  have T1C : T1 ≠ s3.heap.objs.size := by
    rcases hT1 with q | q
    · exact awC _ q
    · exact fun z => absurd (Nat.lt_of_lt_of_le ltC (z ▸ q)) (Nat.lt_irrefl _)
  have nw : ∀ b ∈ [T1], (b ∈ X.ex ∨ X.s₀.heap.objs.size ≤ b) ∧ b ≠ X.env.locals ∧ (∀ x c, X.env.cells.lookup x = some c → c ≠ b) ∧ ∀ p ∈ X.pn ++ pins, p.1 ≠ b := by
    rcases hT1 with q | q
    · intro b hb
      rcases List.mem_singleton.mp hb with rfl
      exact aw _ q
    · exact J.newer q
  obtain ⟨m, ⟨o, es, ep, ho, r⟩, _⟩ := I1.loc
  have hN : h1.Ns s3.heap.objs.size m := ⟨o, es, ep, k1 _ o ho Cfr fun z => awC _ z rfl, r⟩
  have hC4 : ∀ x c, X.env.cells.lookup x = some c → c ≠ s3.heap.objs.size := fun x c e z => by
    obtain ⟨v, o, ho, _⟩ := I3.cell x c e
    exact absurd (Heap.lt_size ho) (by rw [z]; exact Nat.lt_irrefl _)
  have hC5 : ∀ p ∈ X.pn ++ pins, p.1 ≠ s3.heap.objs.size := fun p hp z => absurd (Heap.lt_size (I3.pin p hp).1) (by rw [z]; exact Nat.lt_irrefl _)
  have main : ∃ m, h1.Ns s3.heap.objs.size m ∧ ∀ h', Heap.SameBut s3.heap.objs.size h1 h' → ∀ cenv : Env, cenv.locals = s3.heap.objs.size → wpAny (model X.prog X.w) X.A (PySem.passOn "comprehension.variables-let-go" (.ref a) cenv : Sem Value) (fun _ _ => False) X.xe { s' with heap := h' } := by
    refine ⟨m, hN, fun h' hs' cenv _ => ?_⟩
    have J2 : Inv X pins σ H' { s' with heap := h' } := Inv.turned (s := { s' with heap := h1 }) (t' := s'.toks) J1 (fun b o hb e => (hs'.2 b hb).trans e) I1.free (Nat.ne_of_gt I3.lt) (.inr I3.sz) hC4 hC5
    have F2 : Fly X.s₀.heap.objs.size h' H' a (some T1) C d fl1 := F1.keeps fun b hb o e => (hs'.2 b (by
      rcases List.mem_cons.mp hb with z | z
      · rw [z]; exact awC a List.mem_cons_self
      · rw [List.mem_singleton.mp z]; exact T1C)).trans e
    refine pass_any (s := { s' with heap := h' }) F2 fun h2 fl2 F3 k3 => ?_
    have J3 : Inv X pins σ H' { s' with heap := h2 } := Inv.call (s := { s' with heap := h' }) (h' := h2) (g' := s'.gens) (d' := s'.drawn) (t' := s'.toks) (ch := [T1]) J2 (un_of (h := h') (fun b o q _ hc => k3 b o q fun z => hc (by simp [z])) fun b o q hc => ⟨o.slots, k3 b o q fun z => hc (by simp [z])⟩)
      (hok_un (h := h') (fs := []) (ch := [T1]) J2.hok (fun b o q _ hc => k3 b o q fun z => hc (by simp [z])) (fun b hb => nomatch hb) fun b hb => by rcases List.mem_singleton.mp hb with rfl; exact (F1.lo _ (by simp)).2) J.bare nw
    refine L pins σ H' _ a (some T1) C d fl2 J3 F3 (fun p hp z => ?_) hE
    rcases List.mem_cons.mp z with z | z
    · exact (aw a List.mem_cons_self).2.2.2 p (List.mem_append_left _ hp) z
    · exact (nw T1 (by simp)).2.2.2 p (List.mem_append_left _ hp) (List.mem_singleton.mp z)
  cases use <;> exact main
noncomputable def tCompX (wi : TI) (n : Nat) (ix : List Nat) (g : TG) (tc : (St → XK) → TT) (te : (St → XK) → TE) (EX : St → XK) : TE := fun σ H Q => wi σ H fun J H1 => ∀ D, H1 D = none → CGo J D g (tc fun _ => EX σ) (te fun _ => EX σ) Q (List.replicate n none ++ sub ix σ) H1
theorem comp_blockX {EX : St → XK} {use : Option (Value → Sem Unit)} {Qx : Value → Shared → Prop} {X : Cx} {pins : List (Addr × Obj)} {σ : St} {H : Hp} {s : Shared} {sc : Scope} {TN F : List Str} {ix : List Nat} {elt tg iter : Expr} {ifs : List Expr} {pos : Pos} {g : TG} {tc : (St → XK) → TT} {te : (St → XK) → TE} {J : It} {fp : List Addr} {it : Addr} {tn : Nat → Heap → Prop} {Q : VK}
    (L : LandsF X EX) (hst : X.stack = X.env :: X.outer) (hfr : X.env.frame = some X.env.locals)
    (S : CScope X.env.scope sc TN F) (hix : ix.map (fun i => X.N[i]?) = F.map some) (hc : X.calm = true) (I : Inv X pins σ H s) (T : Turn X.prog X.w X.K tg J fp it tn) (st : tn 0 s.heap) (hf : ∀ b ∈ fp, FpOk X pins H b)
    (hg : ∀ cl C fp s3 H3 xe, PG (cxC X (TN ++ F) sc cl C fp s3 H3 xe) tg g) (ht : ∀ EX cl C fp s3 H3 xe, LandsF (cxC X (TN ++ F) sc cl C fp s3 H3 xe) EX → PTs (cxC X (TN ++ F) sc cl C fp s3 H3 xe) ifs (tc EX)) (he : ∀ EX cl C fp s3 H3 xe, LandsF (cxC X (TN ++ F) sc cl C fp s3 H3 xe) EX → PE (cxC X (TN ++ F) sc cl C fp s3 H3 xe) elt (te EX))
    (hW : ∀ D, H D = none → CGo J D g (tc fun _ => EX σ) (te fun _ => EX σ) Q (List.replicate TN.length none ++ sub ix σ) H)
    (fin : ∀ D C H' s', Inv X pins σ H' s' → (∃ m, s'.heap.Ns C m) → H' C = none → C ≠ X.env.locals → X.s₀.heap.objs.size ≤ C → (∀ x c, X.env.cells.lookup x = some c → c ≠ C) → (∀ p ∈ X.pn ++ pins, p.1 ≠ C) → Q (.ref D) H' → compPost (model X.prog X.w) X.A X.xe use Qx (.ref D) C (.ok .next) s') :
    wpAny (model X.prog X.w) X.A (newList []) (fun acc s₃ => wpAny (model X.prog X.w) X.A (newFunctionEnv sc X.env.globals (cloF X.env sc.names []) [] X.env.qual none .none (some X.env)) (fun cenv s₄ =>
      codeAny (model X.prog X.w) X.A (.compStart (.ListComp elt [⟨tg, iter, ifs, 0⟩] sc pos) 0 (.ref it) acc { cenv with scope := relabel sc X.env }) (compPost (model X.prog X.w) X.A X.xe use Qx acc cenv.locals) s₄) X.xe s₃) X.xe s := by
  have hfo : ∀ b ∈ fp, ∃ o, s.heap.get? b = some o := fun b hb => let ⟨o, e, _⟩ := T.obj 0 _ st b hb; ⟨o, e⟩
  refine wpAny_newObj_type ?_
  obtain ⟨W, ⟨m0, w0⟩, go⟩ := hW s.heap.objs.size I.fresh
  have I3 : Inv X pins σ (upd H s.heap.objs.size (.lst [])) { s with heap := s.heap.push { cls := .type "list", data := .seq ([] : List Value).toArray } } := I.lnew (its := []) (ys := []) (t' := s.toks) .nil (Nat.zero_le _)
  generalize hs3 : ({ s with heap := s.heap.push { cls := .type "list", data := .seq ([] : List Value).toArray } } : Shared) = s3 at I3
  have hk3 : ∀ b o, s.heap.get? b = some o → s3.heap.get? b = some o := fun b o e => by
    rw [← hs3]
    exact Heap.get?_push_of_some _ e
  have hf3 : ∀ b ∈ fp, FpOk X pins (upd H s.heap.objs.size (.lst [])) b := fun b hb => by
    obtain ⟨o, e⟩ := hfo b hb
    exact ⟨by rw [upd_ne (Nat.ne_of_lt (Heap.lt_size e))]; exact (hf b hb).1, (hf b hb).2⟩
  have st3 : tn 0 s3.heap := T.keep 0 _ _ st fun b hb o e => hk3 b o e
  show wpAny _ _ _ _ _ s3
  refine wpAny_newFunctionEnv S.nocell (by intro y hy; simp at hy) (fun h4 hn4 hsb => ?_) S.kind
  have hk4 : ∀ b o, s3.heap.get? b = some o → h4.get? b = some o := fun b o e => (hsb.2 b (Nat.ne_of_lt (Heap.lt_size e))).trans (Heap.get?_push_of_some _ e)
  generalize hR : compPost (model X.prog X.w) X.A X.xe use Qx (.ref s.heap.objs.size) s3.heap.objs.size = R
  have loop : ∀ s4 : Shared, s4 = { s3 with heap := h4, toks := s3.toks + ([] : List (Str × Value)).length } →
      codeAny (model X.prog X.w) X.A (.compLoop (.ListComp elt [⟨tg, iter, ifs, 0⟩] sc pos) 0 (.ref it) (.ref s.heap.objs.size) (compEnvC sc (cloF X.env sc.names []) s3.heap.objs.size X.env)) R s4 := by
    rintro s4 rfl
    let X' : Cx := cxC X (TN ++ F) sc (cloF X.env sc.names []) s3.heap.objs.size fp s3 (upd H s.heap.objs.size (.lst [])) (notedBy (model X.prog X.w) X.A (compEnvC sc (cloF X.env sc.names []) s3.heap.objs.size X.env) fun e s' => R (.error e) s')
    have I4 : Inv X' [] (List.replicate TN.length none ++ sub ix σ) (upd H s.heap.objs.size (.lst [])) { s3 with heap := h4, toks := s3.toks + ([] : List (Str × Value)).length } :=
      inv_comp S hix I3 hf3 (fun b hb => let ⟨o, e⟩ := hfo b hb; ⟨o, hk3 b o e⟩) hk4 hn4
    have LX : LandsF X' (fun _ => EX σ) := by
      have := lands_block (X := X) (use := use) (Qx := Qx) (acc := .ref s.heap.objs.size) (N := TN ++ F) (sc := sc) (cl := cloF X.env sc.names []) L hst hfr I3 fun b hb => ⟨(hf3 b hb).2.2.2.1, (hf3 b hb).2.1, (hf3 b hb).2.2.2.2.1, (hf3 b hb).2.2.2.2.2⟩
      rw [hR] at this
      exact this
    have fpx : ∀ {H' : Hp}, (∀ b ∈ fp, H' b = none) → ∀ b ∈ fp, FpOk X' [] H' b := fun {H'} hn b hb => by
      refine ⟨hn b hb, (I4.ok.exf b hb).1, fun z => I4.ok.exfs b hb z, .inl hb, fun x c e => (I4.ok.exf b hb).2 x c e, fun p hp => absurd (show p ∈ ([] : List (Addr × Obj)) from hp) (by simp)⟩
    refine comp_loop (fun n s' => ∃ i τ ys H', Inv X' [] τ H' s' ∧ tn i s'.heap ∧ (∀ b ∈ fp, H' b = none) ∧ W i n τ ys H') ?_ m0 ⟨0, _, [], _, I4, T.keep 0 _ _ st3 fun b hb o e => hk4 b o e, fun b hb => (hf3 b hb).1, w0⟩
    rintro n s5 ⟨i, τ, ys, H5, I5, st5, fr5, w5⟩
    obtain ⟨hD, hgo⟩ := go i n τ ys H5 w5
    rcases hgo with ⟨stop, q⟩ | ⟨hgo, step⟩
    · refine thn (T.done X' rfl rfl rfl hc i [] s5 τ H5 X'.xe I5 (fpx fr5) st5 stop) fun r s6 ⟨hr, I6⟩ => ?_
      subst hr
      show R (.ok .next) s6
      rw [← hR]
      have J6 : Inv X pins σ H5 s6 := I3.call' (ch := fp) I6.os I6.base I6.hok I6.bare fun b hb => ⟨(hf3 b hb).2.2.2.1, (hf3 b hb).2.1, (hf3 b hb).2.2.2.2.1, (hf3 b hb).2.2.2.2.2⟩
      refine fin s.heap.objs.size s3.heap.objs.size H5 s6 J6 (let ⟨m, hn, _⟩ := I6.loc; ⟨m, hn⟩) I6.free (Nat.ne_of_gt I3.lt) I3.sz (fun x c e z => ?_) (fun p hp z => ?_) q
      · obtain ⟨v, o, ho, _⟩ := I3.cell x c e
        exact absurd (Heap.lt_size ho) (by rw [z]; exact Nat.lt_irrefl _)
      · exact absurd (Heap.lt_size (I3.pin p hp).1) (by rw [z]; exact Nat.lt_irrefl _)
    · refine thn (T.item X' rfl rfl rfl hc i [] s5 τ H5 X'.xe I5 (fpx fr5) st5 hgo) fun r s6 ⟨u, hr, h6⟩ => ?_
      subst hr
      refine thn h6 fun _ s7 ⟨v, H7, I7, r7, y7, st7, fr7⟩ => ?_
      have I7' := I7.pinned (fpx fr7) (T.obj _ _ st7)
      refine thn (hg _ _ _ _ _ _ _ s7 τ H7 v u _ I7' r7 (step v H7 y7)) fun _ s8 ⟨τ8, H8, I8, q8⟩ => ?_
      refine thn (ht _ _ _ _ _ _ _ LX _ s8 τ8 H8 _ I8 q8) fun ok s9 ⟨H9, I9, q9⟩ => ?_
      have again : ∀ {ys' : List V} {H' : Hp} {s' : Shared}, Inv X' ([] ++ pinsAt fp s7.heap) τ8 H' s' → (∃ m', m' < n ∧ W (i + 1) m' τ8 ys' H') → ∃ m, m < n ∧ ∃ i τ ys H'', Inv X' [] τ H'' s' ∧ tn i s'.heap ∧ (∀ b ∈ fp, H'' b = none) ∧ W i m τ ys H'' := fun {ys' H' s'} I' ⟨m', hm, w'⟩ => by
        refine ⟨m', hm, i + 1, τ8, ys', H', I'.unpinned, T.keep _ _ _ st7 fun b hb o e => (I'.pin (b, o) (List.mem_append_right _ (List.mem_append_right _ (mem_pinsAt hb e)))).1, fun b hb => ?_, w'⟩
        obtain ⟨o, e, d⟩ := T.obj _ _ st7 b hb
        exact (I'.pin (b, o) (List.mem_append_right _ (List.mem_append_right _ (mem_pinsAt hb e)))).2.1
      cases ok with
      | false =>
        exact again I9 q9
      | true =>
        refine thn (he _ _ _ _ _ _ _ LX _ s9 τ8 H9 _ I9 q9) fun x s10 ⟨y, H10, I10, r10, hD10, hz10, q10⟩ => ?_
        exact append_ok (X := X') I10 hD10 hz10 r10 fun s11 I11 => again I11 q10
  subst hR
  exact codeAny_compStart_list (loop _ rfl) (T.self X.A 0 _ _ _ (T.keep 0 _ _ st3 fun b hb o e => hk4 b o e) (loop _ rfl))

section
variable {X : Cx} {sc : Scope} {TN F : List Str} {ix : List Nat} {elt tg iter : Expr} {ifs : List Expr} {pos : Pos} {g : TG} {tc : (St → XK) → TT} {te : (St → XK) → TE} {wi : TI}
/-- [elt for tg in iter ..] -/
theorem pe_compX {EX : St → XK} (L : LandsF X EX) (hst : X.stack = X.env :: X.outer) (hfr : X.env.frame = some X.env.locals) (S : CScope X.env.scope sc TN F) (hix : ix.map (fun i => X.N[i]?) = F.map some) (hc : X.calm = true) (hi : PI X tg iter wi)
    (hg : ∀ cl C fp s3 H3 xe, PG (cxC X (TN ++ F) sc cl C fp s3 H3 xe) tg g) (ht : ∀ EX cl C fp s3 H3 xe, LandsF (cxC X (TN ++ F) sc cl C fp s3 H3 xe) EX → PTs (cxC X (TN ++ F) sc cl C fp s3 H3 xe) ifs (tc EX)) (he : ∀ EX cl C fp s3 H3 xe, LandsF (cxC X (TN ++ F) sc cl C fp s3 H3 xe) EX → PE (cxC X (TN ++ F) sc cl C fp s3 H3 xe) elt (te EX))
    (hs : ∀ x, foldedSetIterable iter X.env x = pure x := by intro _; rfl) : PE X (.ListComp elt [⟨tg, iter, ifs, 0⟩] sc pos) (tCompX wi TN.length ix g tc te EX) := by
  intro pins s σ H Q I h
  rw [eval_ListComp]
  refine wpAny_comprehension_free (use := none) rfl hs (closure_of S I) S.kind S.names (thn (hi pins s σ H _ I h) fun v s1 h1 => thn h1 fun itv s2 h2 => ?_)
  obtain ⟨it, fp, tn, J, H2, e, I2, T, st2, f2, q2⟩ := h2
  subst e
  refine comp_blockX (use := none) (Qx := (EP X pins σ Q)) L hst hfr S hix hc I2 T st2 f2 hg ht he q2 fun D C H' s' I' hn hC1 hC2 hC3 hC4 hC5 q => ?_
  obtain ⟨m, hn⟩ := hn
  exact ⟨m, hn, fun h' hs' => ⟨.ref D, H', I'.turned (t' := s'.toks) (fun b o hb e => (hs'.2 b hb).trans e) hC1 hC2 (.inr hC3) hC4 hC5, rfl, q⟩⟩
end
end L2

set_option Elab.async false
set_option linter.all false
set_option maxRecDepth 100000
namespace L2
open PySem PySem.Spec PyProof.Rows
/-- xs[i] within xs[i] op= e, a list, from the front -/
noncomputable def rGetL : V → V → Hp → VK → Prop := fun o i H Q => ∃ (p : Addr) (xs : List V) (j : Nat) (v : V), o = .ref p ∧ i = .int (j : Int) ∧ H p = some (.lst xs) ∧ xs[j]? = some v ∧ Q v H
section
variable {X : Cx} {e st : Expr} {te ts : TE} {pos p2 : Pos}
/-- xs[::-1], xs a list: a new list -/
noncomputable def tRevL (K : PySem.W.Frag) (te : TE) (ts : TO) : TE := fun σ H Q => te σ H fun x H1 => ts σ H1 fun k H2 => k = some (-1) ∧ ∃ a xs, x = .ref a ∧ SqL K H2 a xs ∧ ∀ p, H2 p = none → Q (.ref p) (upd H2 p (.lst xs.reverse))
end
theorem SqT.sm {K : PySem.W.Frag} {H H' : Hp} {a : Addr} {xs : List V} (e : Same H H') (h : SqT K H a xs) : SqT K H' a xs := by
  rcases h with (h | ⟨o, h⟩) | h
  · exact .inl (.inl (e _ _ h))
  · exact .inl (.inr ⟨o, e _ _ h⟩)
  · exact .inr h
theorem SqL.sm {K : PySem.W.Frag} {H H' : Hp} {a : Addr} {xs : List V} (e : Same H H') (h : SqL K H a xs) : SqL K H' a xs := by
  rcases h with (h | ⟨o, h⟩) | h
  · exact .inl (.inl (e _ _ h))
  · exact .inl (.inr ⟨o, e _ _ h⟩)
  · exact .inr h
section
variable {D : Addr} {te : TE} {Q : VK} {ρ : St} {H : Hp}
end
end L2

set_option Elab.async false
set_option linter.all false
set_option maxRecDepth 100000
namespace L2
open PySem PySem.Spec PyProof.Rows Builtin Builtin.Str
section
variable {X : Cx}
/-- a text so many times -/
noncomputable def repS (x : Str) (n : Nat) : Str := ⟨(List.replicate n x.cps).foldl (· ++ ·) #[]⟩
noncomputable def rRepS : R2 := fun x y H Q => ∃ (a : Str) (n : Nat), x = .str a ∧ y = .int (n : Int) ∧ n ≤ 100 ∧ a.length ≤ 100 ∧ 0 < a.length ∧ (repS a n).length ≤ sizeLine ∧ Q (.str (repS a n)) H
/-- list(text) -/
noncomputable def rListS : List V → Hp → VK → Prop := fun xs H Q => ∃ (x : Str), xs = [.str x] ∧ x.cps.size ≤ 1000 ∧ ∀ l, H l = none → Q (.ref l) (upd H l (.lst ((sg x).map V.str)))
end
end L2

set_option Elab.async false
set_option linter.all false
set_option maxRecDepth 100000
namespace PT
open PySem L2 G2
theorem inF1 (c : Nat) : inF ⟨#[c]⟩ = decide (48 ≤ c ∧ c ≤ 57) := by
  have h := StrLaws.found_one "0123456789" c
  have e : (Str.ofString "0123456789").cps.toList = [48, 49, 50, 51, 52, 53, 54, 55, 56, 57] := by decide +kernel
  rw [e] at h
  unfold inF
  rw [show Str.length "0123456789" = (Str.ofString "0123456789").length from rfl, h]
  by_cases hc : 48 ≤ c ∧ c ≤ 57
  · rw [decide_eq_true hc]
    apply decide_eq_true
    have : c = 48 ∨ c = 49 ∨ c = 50 ∨ c = 51 ∨ c = 52 ∨ c = 53 ∨ c = 54 ∨ c = 55 ∨ c = 56 ∨ c = 57 := by omega
    simp
    omega
  · rw [decide_eq_false hc]
    apply decide_eq_false
    intro z
    simp at z
    omega
noncomputable def hdS (x : Str) : Str := match x.cps.toList with | c :: _ => ⟨#[c]⟩ | [] => ""
noncomputable def figP (x : Str) : Bool := !decide (x = "") && ((sg x).all inF && (decide (x = "0") || !decide (hdS x = "0")))
noncomputable def okB (x : Str) (i : Int) : Bool := decide (x = fT i) && decide (PySem.intText? x = some i)
theorem one_ok : ∀ a < 10, okB ⟨#[48 + a]⟩ (a : Int) = true := by decide +kernel
theorem two_ok : ∀ a < 10, ∀ b < 10, a ≠ 0 → okB ⟨#[48 + a, 48 + b]⟩ ((10 * a + b : Nat) : Int) = true := by decide +kernel
theorem three_ok : ∀ a < 10, ∀ b < 10, ∀ c < 10, a ≠ 0 → okB ⟨#[48 + a, 48 + b, 48 + c]⟩ ((100 * a + 10 * b + c : Nat) : Int) = true := by decide +kernel
theorem all_inF {x : Str} (h : (sg x).all inF = true) : ∀ c ∈ x.cps.toList, 48 ≤ c ∧ c ≤ 57 := fun c hc => by
  have := List.all_eq_true.mp h ⟨#[c]⟩ (List.mem_map.mpr ⟨c, hc, rfl⟩)
  rw [inF1] at this
  exact of_decide_eq_true this
theorem okB_of {x : Str} {i : Int} (h : okB x i = true) : x = fT i ∧ PySem.intText? x = some i := by
  unfold okB at h
  simpa using h
theorem hd_zero {a : Nat} {r : List Nat} {x : Str} (e : x.cps.toList = a :: r) : (hdS x = "0") ↔ a = 48 := by
  unfold hdS
  rw [e]
  constructor
  · intro h
    have := congrArg (fun y : Str => y.cps.toList) h
    have e0 : (Str.ofString "0").cps.toList = [48] := by decide +kernel
    have this : [a] = [48] := this.trans e0
    simpa using this
  · intro h
    subst h
    show (⟨#[48]⟩ : Str) = "0"
    decide +kernel
theorem of_list {x : Str} {l : List Nat} (e : x.cps.toList = l) : x = ⟨l.toArray⟩ := Str.ext' (Array.toList_inj.mp (by rw [e]))
/-- figures without a 0 ahead write a number -/
theorem digs_val {l : List Nat} {x : Str} (e : x.cps.toList = l) (hl : l.length ≤ 3) (h1 : l ≠ []) (hd : ∀ c ∈ l, 48 ≤ c ∧ c ≤ 57) (h0 : l = [48] ∨ l.head? ≠ some 48) : ∃ n : Nat, x = fT (n : Int) ∧ PySem.intText? x = some (n : Int) ∧ n < 1000 ∧ (l.length = 1 ∨ 10 ≤ n) ∧ (l.length ≤ 2 ↔ n < 100) := by
  match l, hl, h1 with
  | [a], _, _ =>
    have ha := hd a (by simp)
    obtain ⟨e1, e2⟩ := okB_of (one_ok (a - 48) (by omega))
    rw [show 48 + (a - 48) = a by omega] at e1 e2
    have ex : x = ⟨#[a]⟩ := of_list e
    exact ⟨a - 48, by rw [ex]; exact e1, by rw [ex]; exact e2, by omega, .inl rfl, by simp; omega⟩
  | [a, b], _, _ =>
    have ha := hd a (by simp)
    have hb := hd b (by simp)
    have hz : a ≠ 48 := by
      rcases h0 with h | h
      · simp at h
      · intro z; exact h (by rw [z]; rfl)
    obtain ⟨e1, e2⟩ := okB_of (two_ok (a - 48) (by omega) (b - 48) (by omega) (by omega))
    rw [show 48 + (a - 48) = a by omega, show 48 + (b - 48) = b by omega] at e1 e2
    have ex : x = ⟨#[a, b]⟩ := of_list e
    exact ⟨_, by rw [ex]; exact e1, by rw [ex]; exact e2, by omega, .inr (by omega), by simp; omega⟩
  | [a, b, c], _, _ =>
    have ha := hd a (by simp)
    have hb := hd b (by simp)
    have hc := hd c (by simp)
    have hz : a ≠ 48 := by
      rcases h0 with h | h
      · simp at h
      · intro z; exact h (by rw [z]; rfl)
    obtain ⟨e1, e2⟩ := okB_of (three_ok (a - 48) (by omega) (b - 48) (by omega) (c - 48) (by omega) (by omega))
    rw [show 48 + (a - 48) = a by omega, show 48 + (b - 48) = b by omega, show 48 + (c - 48) = c by omega] at e1 e2
    have ex : x = ⟨#[a, b, c]⟩ := of_list e
    exact ⟨_, by rw [ex]; exact e1, by rw [ex]; exact e2, by omega, .inr (by omega), by simp; omega⟩
theorem figP_digs {x : Str} {l : List Nat} (e : x.cps.toList = l) (h : figP x = true) : l ≠ [] ∧ (∀ c ∈ l, 48 ≤ c ∧ c ≤ 57) ∧ (l = [48] ∨ l.head? ≠ some 48) := by
  unfold figP at h
  simp only [Bool.and_eq_true, Bool.not_eq_true', decide_eq_false_iff_not, Bool.or_eq_true, decide_eq_true_eq] at h
  obtain ⟨h1, h2, h3⟩ := h
  have hne : l ≠ [] := fun z => h1 (by rw [of_list (e.trans z)]; rfl)
  refine ⟨hne, by rw [← e]; exact all_inF h2, ?_⟩
  match l, hne with
  | a :: r, _ =>
    rcases h3 with h3 | h3
    · left
      have e0 : (Str.ofString "0").cps.toList = [48] := by decide +kernel
      rw [h3] at e
      exact e.symm.trans e0
    · right
      intro z
      have : a = 48 := by simpa using z
      exact h3 ((hd_zero e).mpr this)

/-! ### the reading of a pot's lines -/
noncomputable abbrev Bad := Nat × Nat
noncomputable def spl (x : Str) : List Str := Txt.split x " "
theorem spl_ne (x : Str) : spl x ≠ [] := by unfold spl; rw [blank_is]; exact split_ne x 32
noncomputable def nameP (x : Str) : Bool := decide (1 ≤ x.length) && (decide (x.length ≤ 8) && (!decide (x ∈ noNames) && (sg x).all inL))
noncomputable def val (x : Str) : Int := (PySem.intText? x).getD 0
noncomputable def num1 (x : Str) (lo hi : Int) : Option Int := if figP x = true ∧ x.length ≤ 2 ∧ lo ≤ val x ∧ val x ≤ hi then some (val x) else none
theorem fig_val {x : Str} (h : figP x = true) (hl : x.length ≤ 2) : PySem.intText? x = some (val x) ∧ 0 ≤ val x ∧ val x ≤ 99 := by
  obtain ⟨d1, d2, d3⟩ := figP_digs rfl h
  have hl' : x.cps.toList.length ≤ 2 := by rw [Array.length_toList]; exact hl
  obtain ⟨n, _, e2, n1, _, n3⟩ := digs_val rfl (by omega) d1 d2 d3
  have ev : val x = (n : Int) := by unfold val; rw [e2]; rfl
  rw [ev, e2]
  have := n3.mp hl'
  exact ⟨rfl, by omega, by omega⟩
/-- the first place -/
noncomputable def plc (x : Str) : List Str → Option Nat
  | [] => none
  | y :: r => if y = x then some 0 else (plc x r).map (· + 1)
theorem plc_some {x : Str} : ∀ {ws : List Str} {k : Nat}, plc x ws = some k → ws[k]? = some x ∧ ∀ (j : Nat) (y : Str), j < k → ws[j]? = some y → y ≠ x
  | [], _, h => by cases h
  | y :: r, k, h => by
    unfold plc at h
    by_cases e : y = x
    · rw [if_pos e] at h
      cases h
      exact ⟨by rw [e]; rfl, fun j y hj => absurd hj (Nat.not_lt_zero _)⟩
    · rw [if_neg e] at h
      cases hp : plc x r with
      | none => rw [hp] at h; cases h
      | some k' =>
        rw [hp] at h
        cases h
        obtain ⟨h1, h2⟩ := plc_some hp
        refine ⟨h1, fun j z hj hz => ?_⟩
        cases j with
        | zero => cases hz; exact e
        | succ j => exact h2 j z (by have hj : j + 1 < k' + 1 := hj; omega) hz
theorem plc_none {x : Str} : ∀ {ws : List Str}, plc x ws = none → x ∉ ws
  | [], _ => by simp
  | y :: r, h => by
    unfold plc at h
    by_cases e : y = x
    · rw [if_pos e] at h; cases h
    · rw [if_neg e] at h
      cases hp : plc x r with
      | some k' => rw [hp] at h; cases h
      | none => simp only [List.mem_cons, not_or]; exact ⟨fun z => e z.symm, plc_none hp⟩
theorem plc_in {x : Str} {ws : List Str} {k : Nat} (h : plc x ws = some k) : x ∈ ws := List.mem_of_getElem? (plc_some h).1
theorem plc_lt {x : Str} {ws : List Str} {k : Nat} (h : plc x ws = some k) : k < ws.length := (List.getElem?_eq_some_iff.mp (plc_some h).1).1
/-- where a name stands, for t.index -/
theorem nm_first {nm : List Str} {k : Nat} {x : Str} (h : plc x nm = some k) : ∃ hk' : k < (nm.map V.str).length, eqV (nm.map V.str)[k] (.str x) = true ∧ ∀ i (hi : i < (nm.map V.str).length), i < k → eqV (nm.map V.str)[i] (.str x) = false := by
  obtain ⟨h0, h3⟩ := plc_some h
  obtain ⟨h1, h2⟩ := List.getElem?_eq_some_iff.mp h0
  refine ⟨by rw [List.length_map]; exact h1, ?_, fun i hi hik => ?_⟩
  · rw [List.getElem_map, h2, eqV_str]
    exact decide_eq_true rfl
  · have hi' : i < nm.length := by simpa using hi
    rw [List.getElem_map, eqV_str]
    exact decide_eq_false (h3 i _ hik (List.getElem?_eq_getElem hi'))
noncomputable def rW (W : List (List Str)) (i : Nat) (f : Str) : Except Bad (List Str) := match W[i]? with
  | none => .error (i, 0)
  | some ws => if ws.head? = some f then .ok ws else .error (i, 0)
noncomputable def rNum (ws : List Str) (z i : Nat) (lo hi : Int) : Except Bad Int := match num1 (ws.getD i "") lo hi with
  | some n => .ok n
  | none => .error (z, i)
noncomputable def rSort (ws : List Str) (z i : Nat) (nm : List Str) : Except Bad Nat := match plc (ws.getD i "") nm with
  | some q => .ok q
  | none => .error (z, i)
noncomputable def rNm : List Str → Nat → List Str → Except Bad (List Str)
  | [], _, acc => .ok acc
  | x :: r, i, acc => if acc.length = 8 ∨ nameP x = false ∨ x ∈ acc then .error (0, i) else rNm r (i + 1) (acc ++ [x])
noncomputable def rSorts (W : List (List Str)) : Except Bad (List Str) := match rW W 0 "sorts" with
  | .error b => .error b
  | .ok ws => match rNm ws.tail 1 [] with
    | .error b => .error b
    | .ok nm => if nm.length = 0 then .error (0, ws.length) else .ok nm
/-- n more words from i on -/
noncomputable def rBg (ws : List Str) (m : Nat) : Nat → Nat → List Int → Except Bad (List Int)
  | 0, _, acc => .ok acc
  | n + 1, i, acc => if acc.length = m then .error (1, i) else match rNum ws 1 i 0 99 with
    | .error b => .error b
    | .ok c => rBg ws m n (i + 1) (acc ++ [c])
noncomputable def rBegin (W : List (List Str)) (nm : List Str) : Except Bad (List Int) := match rW W 1 "begin" with
  | .error b => .error b
  | .ok ws => match rBg ws nm.length (ws.length - 1) 1 [] with
    | .error b => .error b
    | .ok cs => if cs.length < nm.length then .error (1, ws.length) else .ok cs
noncomputable def rIn (ws nm : List Str) : Nat → Nat → List Int → Except Bad (List Int)
  | 0, _, acc => .ok acc
  | n + 1, i, acc => match rSort ws 2 i nm with
    | .error b => .error b
    | .ok q => if acc.length = 3 ∨ (q : Int) ∈ acc then .error (2, i) else rIn ws nm n (i + 1) (acc ++ [(q : Int)])
noncomputable def rInputs (W : List (List Str)) (nm : List Str) : Except Bad (List Int) := match rW W 2 "in" with
  | .error b => .error b
  | .ok ws => rIn ws nm (ws.length - 1) 1 []
noncomputable def rAnswer (W : List (List Str)) (nm : List Str) : Except Bad Nat := match rW W 3 "out" with
  | .error b => .error b
  | .ok ws => if ws.length = 1 then .error (3, 1) else match rSort ws 3 1 nm with
    | .error b => .error b
    | .ok q => if 2 < ws.length then .error (3, 2) else .ok q
/-- n more pairs from i on, to the end e -/
noncomputable def rSd (ws nm : List Str) (z e : Nat) : Nat → Nat → Int → List Int → Except Bad (List Int)
  | 0, _, _, cs => .ok cs
  | n + 1, i, la, cs => match rNum ws z i 1 9 with
    | .error b => .error b
    | .ok c => if i + 1 = e then .error (z, e) else match rSort ws z (i + 1) nm with
      | .error b => .error b
      | .ok q => if (q : Int) ≤ la then .error (z, i + 1) else rSd ws nm z e n (i + 2) q (cs.set q c)
noncomputable def rSide (ws nm : List Str) (z a e : Nat) : Except Bad (List Int) := rSd ws nm z e ((e + 1 - a) / 2) a (-1) (List.replicate nm.length 0)
noncomputable def mid (ws : List Str) : Nat := (plc "to" ws).getD ws.length
noncomputable def rRule (W : List (List Str)) (z : Nat) (nm : List Str) : Except Bad (List Int × List Int) := match rW W z "rule" with
  | .error b => .error b
  | .ok ws => if 12 ≤ z then .error (z, 0) else match rSide ws nm z 1 (mid ws) with
    | .error b => .error b
    | .ok tk => if mid ws = 1 ∨ mid ws = ws.length then .error (z, mid ws) else match rSide ws nm z (mid ws + 1) ws.length with
      | .error b => .error b
      | .ok gv => if tk = gv then .error (z, ws.length) else .ok (tk, gv)
noncomputable def rRs (W : List (List Str)) (nm : List Str) : Nat → Nat → List (List Int × List Int) → Except Bad (List (List Int × List Int))
  | 0, _, acc => .ok acc
  | n + 1, z, acc => match rRule W z nm with
    | .error b => .error b
    | .ok r => rRs W nm n (z + 1) (acc ++ [r])
noncomputable def rPot (W : List (List Str)) : Except Bad PD := match rSorts W with
  | .error b => .error b
  | .ok nm => match rBegin W nm with
    | .error b => .error b
    | .ok bg => match rInputs W nm with
      | .error b => .error b
      | .ok ins => match rAnswer W nm with
        | .error b => .error b
        | .ok a => match rRs W nm (W.length - 4) 4 [] with
          | .error b => .error b
          | .ok rl => .ok ⟨nm, rl, ins, bg, (a : Int)⟩
/-- what is asked of a reading: g of what is read, or what lies behind the refusal -/
noncomputable def Res {α : Type} (r : Except Bad α) (g : α → Prop) (b : Bad → Prop) : Prop := match r with
  | .ok a => g a
  | .error e => b e
theorem res_of {α : Type} {r : Except Bad α} {g : α → Prop} {b : Bad → Prop} (h1 : ∀ a, r = .ok a → g a) (h2 : ∀ e, r = .error e → b e) : Res r g b := by
  cases r with
  | ok a => exact h1 a rfl
  | error e => exact h2 e rfl
theorem Res.ok {α : Type} {r : Except Bad α} {g : α → Prop} {b : Bad → Prop} {a : α} (h : Res r g b) (e : r = .ok a) : g a := by rw [e] at h; exact h
theorem Res.bad {α : Type} {r : Except Bad α} {g : α → Prop} {b : Bad → Prop} {e' : Bad} (h : Res r g b) (e : r = .error e') : b e' := by rw [e] at h; exact h
noncomputable def Bd (cA : Addr) (H : Hp) (E : XK) (b : Bad) : Prop := ∀ dx H', Same H H' → H' dx = none → E (.ref cA) (some dx) (upd H' dx (XDct dx [("line", .int (b.1 : Int)), ("word", .int (b.2 : Int))]))
theorem Bd.up {cA : Addr} {H H1 : Hp} {E : XK} {b : Bad} (h : Bd cA H E b) (k : Same H H1) : Bd cA H1 E b := fun dx H' k' hd => h dx H' (k.trans k') hd
theorem rW_ok {W : List (List Str)} {i : Nat} {f : Str} {ws : List Str} (h : rW W i f = .ok ws) : W[i]? = some ws ∧ ∃ r, ws = f :: r := by
  unfold rW at h
  cases hw : W[i]? with
  | none => rw [hw] at h; cases h
  | some us =>
    rw [hw] at h
    have h : (if us.head? = some f then Except.ok us else .error (i, 0) : Except Bad (List Str)) = .ok ws := h
    by_cases q : us.head? = some f
    · rw [if_pos q] at h
      cases h
      cases ws with
      | nil => cases q
      | cons a r => cases q; exact ⟨rfl, r, rfl⟩
    · rw [if_neg q] at h; cases h
theorem rNm_len {r : List Str} {i : Nat} {acc nm : List Str} (h : rNm r i acc = .ok nm) (hl : acc.length ≤ 8) : nm.length ≤ 8 := by
  induction r generalizing i acc with
  | nil => cases h; exact hl
  | cons x r ih =>
    unfold rNm at h
    by_cases q : acc.length = 8 ∨ nameP x = false ∨ x ∈ acc
    · rw [if_pos q] at h; cases h
    · rw [if_neg q] at h
      refine ih h ?_
      have : acc.length ≠ 8 := fun z => q (.inl z)
      rw [List.length_append, List.length_singleton]; omega
theorem rSorts_len {W : List (List Str)} {nm : List Str} (h : rSorts W = .ok nm) : nm.length ≤ 8 := by
  unfold rSorts at h
  cases h1 : rW W 0 "sorts" with
  | error b => rw [h1] at h; cases h
  | ok ws =>
    rw [h1] at h
    dsimp only at h
    cases h2 : rNm ws.tail 1 [] with
    | error b => rw [h2] at h; cases h
    | ok us =>
      rw [h2] at h
      dsimp only at h
      by_cases q : us.length = 0
      · rw [if_pos q] at h; cases h
      · rw [if_neg q] at h
        cases h
        exact rNm_len h2 (Nat.zero_le _)

theorem rBg_step {ws : List Str} {m n i : Nat} {acc : List Int} : rBg ws m (n + 1) i acc = if acc.length = m then .error (1, i) else match rNum ws 1 i 0 99 with | .error b => .error b | .ok c => rBg ws m n (i + 1) (acc ++ [c]) := rfl
theorem rIn_step {ws nm : List Str} {n i : Nat} {acc : List Int} : rIn ws nm (n + 1) i acc = match rSort ws 2 i nm with | .error b => .error b | .ok q => if acc.length = 3 ∨ (q : Int) ∈ acc then .error (2, i) else rIn ws nm n (i + 1) (acc ++ [(q : Int)]) := rfl
theorem rSd_step {ws nm : List Str} {z e n i : Nat} {la : Int} {cs : List Int} : rSd ws nm z e (n + 1) i la cs = match rNum ws z i 1 9 with | .error b => .error b | .ok c => if i + 1 = e then .error (z, e) else match rSort ws z (i + 1) nm with | .error b => .error b | .ok q => if (q : Int) ≤ la then .error (z, i + 1) else rSd ws nm z e n (i + 2) q (cs.set q c) := rfl
theorem rRs_step {W : List (List Str)} {nm : List Str} {n z : Nat} {acc : List (List Int × List Int)} : rRs W nm (n + 1) z acc = match rRule W z nm with | .error b => .error b | .ok r => rRs W nm n (z + 1) (acc ++ [r]) := rfl
theorem rSort_lt {ws nm : List Str} {z i q : Nat} (h : rSort ws z i nm = .ok q) : q < nm.length := by
  unfold rSort at h
  cases hp : plc (ws.getD i "") nm with
  | none => rw [hp] at h; cases h
  | some k => rw [hp] at h; cases h; exact plc_lt hp
theorem split_lens (x : Str) : ((Txt.split x " ").map fun w => w.length + 1).sum = x.length + 1 := by
  have hj : ∀ (ls : List (List Nat)), ls ≠ [] → (jn 32 ls).length + 1 = (ls.map fun l => l.length + 1).sum := by
    intro ls
    induction ls with
    | nil => intro h; exact absurd rfl h
    | cons a r ih =>
      intro _
      cases r with
      | nil => simp [jn]
      | cons b r =>
        have := ih (List.cons_ne_nil _ _)
        show (a ++ 32 :: jn 32 (b :: r)).length + 1 = _
        rw [List.length_append, List.length_cons, List.map_cons, List.sum_cons]
        omega
  rw [blank_is]
  have e := StrLaws.join_split x ⟨#[32]⟩
  have e2 := hj ((Txt.split x ⟨#[32]⟩).map fun w => w.cps.toList) (by rw [Ne, List.map_eq_nil_iff]; exact split_ne x 32)
  rw [← join_list, e, Array.length_toList, List.map_map] at e2
  rw [show x.length = x.cps.size from rfl, e2]
  congr 1
theorem sum_mem {ws : List Str} {w : Str} (h : w ∈ ws) : w.length + 1 ≤ (ws.map fun w => w.length + 1).sum := by
  induction ws with
  | nil => cases h
  | cons a r ih =>
    rw [List.map_cons, List.sum_cons]
    rcases List.mem_cons.mp h with rfl | h
    · omega
    · have := ih h; omega
theorem sum_len (ws : List Str) : ws.length ≤ (ws.map fun w => w.length + 1).sum := by
  induction ws with
  | nil => exact Nat.le_refl _
  | cons a r ih => rw [List.map_cons, List.sum_cons, List.length_cons]; omega

theorem rW_all {ls : List Str} (hx : ∀ x ∈ ls, x.length ≤ 1000) {i : Nat} {f : Str} {ws : List Str} (h : rW (ls.map spl) i f = .ok ws) : (∀ w ∈ ws, w.length ≤ 1000) ∧ ws.length ≤ 1001 ∧ ∃ r, ws = f :: r := by
  obtain ⟨h1, r, hr⟩ := rW_ok h
  rw [List.getElem?_map] at h1
  cases e : ls[i]? with
  | none => rw [e] at h1; cases h1
  | some x =>
    rw [e] at h1
    have h1 : spl x = ws := Option.some.inj h1
    have hl := hx x (List.mem_of_getElem? e)
    have s := split_lens x
    rw [show Txt.split x " " = ws from h1] at s
    refine ⟨fun w hw => ?_, ?_, r, hr⟩
    · have := sum_mem hw
      omega
    · have := sum_len ws
      omega
end PT

set_option Elab.async false
set_option linter.all false
set_option maxRecDepth 100000
namespace K05
open PySem L2 G2 PT
local macro_rules | `(tactic| walk_at "v") => `(tactic| repeat (with_reducible first
  | refine w_seq ?_ | refine w_asg ?_ | refine w_gname ?_ | refine w_op ?_ | refine w_var rfl ?_ | refine w_c ?_ | refine w_rI0 ?_ | refine w_ifs ?_ | refine w_ife ?_ | refine w_test ?_ | refine w_tb ?_ | refine w_bl ?_ | refine w_not ?_ | refine w_ret ?_ | refine w_retN ?_
  | refine w_nil ?_ | refine w_cons ?_ | refine w_lst ?_ | refine w_tup ?_ | refine w_cb ?_ | refine w_call ?_ | refine w_gsub ?_ | refine w_and ?_ | refine w_or ?_ | refine w_next ?_ | refine w_all ?_ | refine w_vals ?_ | refine w_compR ?_ | refine w_compT ?_ | refine w_forR ?_ | refine w_forT ?_ | refine w_forL ?_ | refine w_drop ?_ | refine w_bm ?_ | refine w_compZ ?_ | refine w_compL ?_ | refine w_chain ?_ | refine w_sl ?_ | refine w_nopart ?_ | refine w_part ?_ | refine w_unI ?_ | refine iteT ?_ | refine iteF ?_))
theorem w_compR2X {ta : TA} {n : Nat} {ix : List Nat} {g : TG} {tc : (St → XK) → TT} {te : (St → XK) → TE} {EX : St → XK} {σ : St} {H : Hp} {Q : VK} (h : ta σ H fun vs H1 => ∃ i j : Int, vs = [.int i, .int j] ∧ (-(2 ^ 62) ≤ i ∧ i < 2 ^ 62 ∧ -(2 ^ 62) ≤ j ∧ j < 2 ^ 62) ∧ ∀ D, H1 D = none → CGo (Itr i (j - i).toNat) D g (tc fun _ => EX σ) (te fun _ => EX σ) Q (List.replicate n none ++ sub ix σ) H1) : tCompX (iRng2 ta) n ix g tc te EX σ H Q := h
noncomputable abbrev sFig : Stmt := top 5
noncomputable abbrev nFig : List Str := ["word"]
theorem nmFig : Nm nFig (defScope sFig) := ⟨by decide +kernel, by decide +kernel⟩
theorem scFig : FnScope nFig ["word"] (defScope sFig) := ⟨rfl, rfl, rfl, by decide +kernel, rfl, by decide +kernel, by decide +kernel⟩
noncomputable def qFiga (s : Stmt) : Scope := match s with
  | .If (.BoolOp _ [_, (.UnaryOp _ (.Call _ [(.ListComp _ _ sc _)] _ _) _)] _) _ _ _ => sc
  | _ => { kind := .function, names := [], isGenerator := false, isCoroutine := false }
noncomputable abbrev cFiga : Scope := qFiga ((defBody sFig).getD 0 (.Pass ⟨0, 0, 0, 0⟩))
theorem bsFiga : BScope (defScope sFig) cFiga ["sign"] [] ["FIGURES"] := { okind := by decide +kernel, kind := by decide +kernel, nocell := by decide +kernel, names := by decide +kernel, fr := by decide +kernel, ff := by decide +kernel, nd := by decide +kernel, vis := by decide +kernel, loc := by decide +kernel, gl := by decide +kernel }
noncomputable def spFig : Sp := fun vs H Q _ => ∃ x : Str, vs = [.str x] ∧ x.length ≤ 1000 ∧ ∀ H', Same H H' → Q (.bl (figP x)) H'
section
variable {P : Program} {w : World} {K : PySem.W.Frag} {mg : Str → Option Value} {base : Heap}
set_option maxHeartbeats 4000000 in
theorem ok_Fig {f : Addr} {fd : FuncData} (B : Bl mg) (C : KR K mg) (F : Fun K "is_figures" "is_figures" sFig f fd) : FnOk P w K mg base CX0 1 f fd ["word"] spFig := by
  refine F.ok scFig (fun vs H Q E h => ?_) (fun cdv A outer s H vs Q E hr h => ?_)
  · obtain ⟨x, rfl, _⟩ := h
    rfl
  · obtain ⟨x, rfl, hl, k⟩ := h
    refine' ⟨_, ?hb, ?rd⟩
    case' hb => skip
    case' hb => refine' pss_cons ?g1 ?g2
    case' g2 => refine' pss_one ?g3
    case' g1 => refine' ps_if ?g4 ?g5 pss_nil
    case' g4 => refine' PW.pt ?g7
    case' g7 => refine' pw_or (pt_cmpR op_eq (pvd nmFig 0) pe_str (nomark _)) ?g8
    case' g8 => refine' pw_or1 ?g9
    case' g9 => refine' pt_not ?g10
    case' g10 => refine' pt_val ?g11
    case' g11 => refine' pe_cB (call_all rfl) B.all PyProof.Rows.boot_all ?g12
    case' g12 => refine' pa_1 ?g13
    case' g13 => refine' pe_comp (ix := []) bsFiga.toCScope rfl rfl ?g14 ?g15 ?g16 ?g17
    case g14 => exact pi_tx (pvd nmFig 0)
    case g15 => exact fun _ _ _ _ _ _ => pgb bsFiga 0
    case g16 => exact fun _ _ _ _ _ _ => pts_nil
    case g17 => exact fun _ _ _ _ _ _ => pe_cmpR op_in_str (pvb bsFiga 0) (pe_ks C.fig (bsFiga.g 0)) (by with_unfolding_all rfl)
    case' g5 => refine' pss_one ?g18
    case g18 => exact ps_ret pe_bl
    case g3 => exact ps_ret (pe_or (pe_cmpR op_eq (pvd nmFig 0) pe_str (nomark _)) (pe_one (pe_cmpR op_ne (pe_ix ix_str (pvd nmFig 0) pe_int (fun _ _ => rfl)) pe_str (nomark _))))
    case rd =>
      walk_at "v"
      refine ⟨rfl, ?_⟩
      walk_at "v"
      refine iteD (fun z => ?_) (fun z => ?_)
      · have z := V.str.inj z
        walk_at "v"
        have e : figP x = false := by rw [z]; decide +kernel
        rw [← e]
        exact k _ (Same.refl _)
      have hne : x ≠ "" := fun e => z (by rw [e])
      walk_at "v"
      refine w_compX ?_
      walk_at "v"
      refine ⟨x, rfl, fun D hD => ?_⟩
      have hgl : (sg x).length ≤ 1000 := by rw [sg_len]; exact hl
      refine cgo_tx (ρ := []) (fun i ys H' => ys = (((sg x).take i).map inF).map V.bl ∧ Same H H') ⟨rfl, Same.new (Same.refl H) hD⟩ ?_ ?_
      · rintro i y ys H' hy ⟨rfl, K'⟩ hDy R S kR _
        walk_at "v"
        refine ⟨y, _, rfl, rfl, ?_⟩
        refine kR _ _ hDy (by rw [List.length_map, List.length_map, List.length_take]; exact small1000 (by omega)) ⟨?_, K'.put hD⟩
        rw [List.take_add_one, hy, List.map_append, List.map_append]
        rfl
      rintro ys H1 ⟨rfl, K1⟩ e1
      rw [List.take_of_length_le (by omega)] at e1
      walk_at "v"
      refine ⟨D, (sg x).map inF, rfl, e1, ?_⟩
      rw [show ((sg x).map inF).all id = (sg x).all inF by rw [List.all_map]; rfl]
      walk_at "v"
      cases ha : (sg x).all inF with
      | false =>
        refine iteT ?_
        walk_at "v"
        have e : figP x = false := by unfold figP; rw [ha, Bool.false_and, Bool.and_false]
        rw [← e]
        exact k _ K1
      | true =>
        refine iteF ?_
        walk_at "v"
        refine w_orV ?_
        walk_at "v"
        refine ⟨rfl, ?_⟩
        refine ⟨_, rfl, ?_⟩
        refine iteD (fun z => ?_) (fun z => ?_)
        · have z := V.str.inj z
          have e : figP x = true := by rw [z]; decide +kernel
          rw [← e]
          exact k _ K1
        · have z' : ¬ x = "0" := fun e => z (by rw [e])
          match hc : x.cps.toList with
          | [] => exact absurd (of_list hc) hne
          | c :: cs =>
            walk_at "v"
            refine ⟨x, 0, c, rfl, rfl, Nat.le_of_lt (small1000 hl), (by rw [hc]; exact atI_nat (show (c :: cs)[0]? = some c from rfl)), ?_⟩
            walk_at "v"
            refine ⟨rfl, ?_⟩
            have e : figP x = !decide (V.str (⟨#[c]⟩ : Str) = V.str "0") := by
              unfold figP hdS
              rw [hc, ha, decide_eq_false hne, decide_eq_false z']
              show (true && (true && (false || !decide ((⟨#[c]⟩ : Str) = "0")))) = _
              by_cases q : (⟨#[c]⟩ : Str) = "0"
              · rw [decide_eq_true q, q, decide_eq_true rfl]; rfl
              · rw [decide_eq_false q, decide_eq_false (fun w => q (V.str.inj w))]; rfl
            rw [← e]
            exact k _ K1
end
noncomputable abbrev sNam : Stmt := top 15
noncomputable abbrev nNam : List Str := ["thing"]
theorem nmNam : Nm nNam (defScope sNam) := ⟨by decide +kernel, by decide +kernel⟩
theorem scNam : FnScope nNam ["thing"] (defScope sNam) := ⟨rfl, rfl, rfl, by decide +kernel, rfl, by decide +kernel, by decide +kernel⟩
noncomputable def qNama (s : Stmt) : Scope := match s with
  | .Return (some (.BoolOp _ [_, (.Call _ [(.ListComp _ _ sc _)] _ _)] _)) _ => sc
  | _ => { kind := .function, names := [], isGenerator := false, isCoroutine := false }
noncomputable abbrev cNama : Scope := qNama ((defBody sNam).getD 1 (.Pass ⟨0, 0, 0, 0⟩))
theorem bsNama : BScope (defScope sNam) cNama ["sign"] [] ["LETTERS"] := { okind := by decide +kernel, kind := by decide +kernel, nocell := by decide +kernel, names := by decide +kernel, fr := by decide +kernel, ff := by decide +kernel, nd := by decide +kernel, vis := by decide +kernel, loc := by decide +kernel, gl := by decide +kernel }
noncomputable def spNam : Sp := fun vs H Q _ => ∃ x : Str, vs = [.str x] ∧ x.length ≤ 1000 ∧ ∀ H', Same H H' → Q (.bl (nameP x)) H'
section
variable {P : Program} {w : World} {K : PySem.W.Frag} {mg : Str → Option Value} {base : Heap}
set_option maxHeartbeats 4000000 in
theorem ok_Nam {f : Addr} {fd : FuncData} (B : Bl mg) (C : KR K mg) (F : Fun K "is_name" "is_name" sNam f fd) : FnOk P w K mg base CX0 1 f fd ["thing"] spNam := by
  refine F.ok scNam (fun vs H Q E h => ?_) (fun cdv A outer s H vs Q E hr h => ?_)
  · obtain ⟨x, rfl, _⟩ := h
    rfl
  · obtain ⟨x, rfl, hl, k⟩ := h
    refine' ⟨_, ?hb, ?rd⟩
    case' hb => skip
    case' hb => refine' pss_cons ?g1 ?g2
    case' g2 => refine' pss_one ?g3
    case' g1 => refine' ps_if ?g4 ?g5 pss_nil
    case g4 => exact PW.pt (pw_or (pt_not (pt_val (pe_cB call_isI B.isi PyProof.Rows.boot_isinstance (pa_2 (pvd nmNam 0) (pe_bltn (v := .ty "str") rfl B.str PyProof.Rows.boot_str rfl))))) (pw_or1 (pt_not (pt_chain op_le op_le pe_int (pe_cB call_len_str B.len PySem.boot_len (pa_1 (pvd nmNam 0))) (pe_k C.mlet)))))
    case' g5 => refine' pss_one ?g7
    case g7 => exact ps_ret pe_bl
    case' g3 => refine' ps_ret ?g8
    case' g8 => refine' pe_and (pe_cmpR op_notIn_seq (pvd nmNam 0) (pe_gt C.no) (by with_unfolding_all rfl)) ?g9
    case' g9 => refine' pe_one ?g10
    case' g10 => refine' pe_cB (call_all rfl) B.all PyProof.Rows.boot_all ?g11
    case' g11 => refine' pa_1 ?g12
    case' g12 => refine' pe_comp (ix := []) bsNama.toCScope rfl rfl ?g13 ?g14 ?g15 ?g16
    case g13 => exact pi_tx (pvd nmNam 0)
    case g14 => exact fun _ _ _ _ _ _ => pgb bsNama 0
    case g15 => exact fun _ _ _ _ _ _ => pts_nil
    case g16 => exact fun _ _ _ _ _ _ => pe_cmpR op_in_str (pvb bsNama 0) (pe_ks C.lets (bsNama.g 0)) (by with_unfolding_all rfl)
    case rd =>
      walk_at "v"
      refine ⟨_, "str", _, true, rfl, .str _, rfl, ?_⟩
      walk_at "v"
      refine iteF ?_
      walk_at "v"
      refine ⟨_, rfl, Nat.le_of_lt (small1000 hl), ?_⟩
      walk_at "v"
      by_cases l1 : 1 ≤ x.length
      case neg =>
        refine iteQ (by omega) ?_
        walk_at "v"
        refine iteT ?_
        walk_at "v"
        have e : nameP x = false := by unfold nameP; rw [decide_eq_false l1, Bool.false_and]
        rw [← e]
        exact k _ (Same.refl _)
      refine iteP (by omega) ?_
      walk_at "v"
      by_cases l8 : x.length ≤ 8
      case neg =>
        refine iteNN (by omega) ?_
        walk_at "v"
        have e : nameP x = false := by unfold nameP; rw [decide_eq_false l8, Bool.false_and, Bool.and_false]
        rw [← e]
        exact k _ (Same.refl _)
      refine iteNS (by omega) ?_
      walk_at "v"
      refine w_andV ?_
      walk_at "v"
      refine w_gt fun aw hw => ?_
      refine ⟨aw, _, rfl, .inr hw, rfl, flat_strs _, ?_⟩
      refine ⟨_, rfl, ?_⟩
      rw [inV_strs]
      by_cases no : x ∈ noNames
      · rw [decide_eq_true no]
        refine iteF ?_
        have e : nameP x = false := by unfold nameP; rw [decide_eq_true no]; simp
        rw [← e]
        exact k _ (Same.refl _)
      rw [decide_eq_false no]
      refine iteT ?_
      walk_at "v"
      refine w_compX ?_
      walk_at "v"
      refine ⟨x, rfl, fun D hD => ?_⟩
      have hgl : (sg x).length ≤ 1000 := by rw [sg_len]; exact hl
      refine cgo_tx (ρ := []) (fun i ys H' => ys = (((sg x).take i).map inL).map V.bl ∧ Same H H') ⟨rfl, Same.new (Same.refl H) hD⟩ ?_ ?_
      · rintro i y ys H' hy ⟨rfl, K'⟩ hDy R S kR _
        walk_at "v"
        refine ⟨y, _, rfl, rfl, ?_⟩
        refine kR _ _ hDy (by rw [List.length_map, List.length_map, List.length_take]; exact small1000 (by omega)) ⟨?_, K'.put hD⟩
        rw [List.take_add_one, hy, List.map_append, List.map_append]
        rfl
      rintro ys H1 ⟨rfl, K1⟩ e1
      rw [List.take_of_length_le (by omega)] at e1
      walk_at "v"
      refine ⟨D, (sg x).map inL, rfl, e1, ?_⟩
      rw [show ((sg x).map inL).all id = (sg x).all inL by rw [List.all_map]; rfl]
      have e : nameP x = (sg x).all inL := by unfold nameP; rw [decide_eq_true l1, decide_eq_true l8, decide_eq_false no]; simp
      rw [← e]
      exact k _ K1
end
noncomputable abbrev sWof : Stmt := top 24
noncomputable abbrev nWof : List Str := ["lines", "line", "first", "words"]
theorem nmWof : Nm nWof (defScope sWof) := ⟨by decide +kernel, by decide +kernel⟩
theorem scWof : FnScope nWof ["lines", "line", "first"] (defScope sWof) := ⟨rfl, rfl, rfl, by decide +kernel, rfl, by decide +kernel, by decide +kernel⟩
noncomputable def spWof (cA : Addr) : Sp := fun vs H Q E => ∃ (l : Addr) (ls : List Str) (i : Nat) (f : Str), vs = [.ref l, .int (i : Int), .str f] ∧ H l = some (.lst (ls.map V.str)) ∧ (∀ x ∈ ls, x.length ≤ 1000) ∧ ls.length ≤ 100 ∧ Res (rW (ls.map spl) i f) (fun ws => ∀ p H', Same H H' → H p = none → H' p = some (.lst (ws.map V.str)) → Q (.ref p) H') (Bd cA H E)
section
variable {P : Program} {w : World} {K : PySem.W.Frag} {mg : Str → Option Value} {base : Heap}
set_option maxHeartbeats 4000000 in
theorem ok_Wof {f : Addr} {fd : FuncData} (B : Bl mg) (C : KR K mg) {cA : Addr} (N : HasC P w K mg base 1 "NoPot" cA ["self", "line", "word"] (spXi K ["line", "word"])) (xa : XA K cA) (hna : ∀ f ∈ (["line", "word"] : List Str), NoAttr K cA f) (F : Fun K "words_of" "words_of" sWof f fd) : FnOk P w K mg base (CXE P w) 3 f fd ["lines", "line", "first"] (spWof cA) := by
  refine F.okXF scWof (fun vs H Q E h => ?_) (fun cdv A outer s H vs Q E hr h LF => ?_)
  · obtain ⟨l, ls, i, f, rfl, _⟩ := h
    rfl
  · obtain ⟨l, ls, i, f, rfl, hl, hx, h100, k⟩ := h
    have L := LF.lands
    refine' ⟨_, ?hb, ?rd⟩
    case' hb => skip
    case' hb => refine' pss_cons ?g1 ?g2
    case' g2 => refine' pss_cons ?g3 ?g4
    case' g4 => refine' pss_cons ?g5 ?g6
    case' g6 => refine' pss_one ?g7
    case' g1 => refine' ps_if ?g8 ?g9 pss_nil
    case g8 => exact pt_cmpR op_ge (pvd nmWof 1) (pe_cB call_len_seq B.len PySem.boot_len (pa_1 (pvd nmWof 0))) (nomark _)
    case' g9 => refine' pss_one ?g11
    case g11 => exact ps_raise N L rfl hr (by decide) (pa_2 (pvd nmWof 1) pe_int)
    case g3 => exact ps_setD nmWof 3 (pe_bm PySem.F.plainAttrs_str PySem.F.slot_str_split PySem.F.type_str_split mt_split (pe_ix ix_d (pvd nmWof 0) (pvd nmWof 1) (fun _ _ => rfl)) (pa_1 pe_str))
    case' g5 => refine' ps_if ?g12 ?g13 pss_nil
    case g12 => exact pt_cmpR op_ne (pe_ix ix_d (pvd nmWof 3) pe_int (fun _ _ => rfl)) (pvd nmWof 2) (nomark _)
    case' g13 => refine' pss_one ?g15
    case g15 => exact ps_raise N L rfl hr (by decide) (pa_2 (pvd nmWof 1) pe_int)
    case g7 => exact ps_ret (pvd nmWof 3)
    case rd =>
      walk_at "v"
      refine ⟨l, _, rfl, .inl (SqL.of hl), ?_⟩
      walk_at "v"
      by_cases hil : i < ls.length
      case neg =>
        refine iteP (by rw [List.length_map]; omega) ?_
        refine w_raise xa hna ?_ (fun Q1 Q2 hQ h => by first | exact hQ _ _ h | (obtain ⟨v, e, h⟩ := h; first | exact ⟨v, e, hQ _ _ h⟩ | (obtain ⟨v', e', h⟩ := h; first | exact ⟨v, e, v', e', hQ _ _ h⟩ | (obtain ⟨q1, q2, h⟩ := h; first | exact ⟨v, e, v', e', q1, q2, hQ _ _ h⟩ | (obtain ⟨q3, q4, h⟩ := h; exact ⟨v, e, v', e', q1, q2, q3, q4, hQ _ _ h⟩)))))
        walk_at "v"
        have e : rW (ls.map spl) i f = .error (i, 0) := by unfold rW; rw [List.getElem?_eq_none (by rw [List.length_map]; omega)]
        exact ⟨rfl, by decide, fun dx hd => k.bad e dx _ (Same.refl _) hd⟩
      have gi : ls[i]? = some ls[i] := List.getElem?_eq_getElem hil
      have gw : (ls.map spl)[i]? = some (spl ls[i]) := by rw [List.getElem?_map, gi]; rfl
      refine iteQ (by rw [List.length_map]; omega) ?_
      walk_at "v"
      refine w_ixL (v := .str ls[i]) hl (atI_nat (by rw [List.getElem?_map, gi]; rfl)) ?_
      walk_at "v"
      refine ⟨rfl, ?_⟩
      walk_at "v"
      refine ⟨_, _, rfl, rfl, by decide +kernel, hx _ (List.getElem_mem hil), fun p hp => ?_⟩
      have hne := spl_ne ls[i]
      rw [show Txt.split ls[i] " " = spl ls[i] from rfl]
      generalize spl ls[i] = ws at gw hne
      match ws, hne, gw with
      | w0 :: r, _, gw =>
      have K1 : Same H (upd H p (.lst ((w0 :: r).map V.str))) := Same.new (Same.refl H) hp
      have e1 : upd H p (.lst ((w0 :: r).map V.str)) p = some (.lst ((w0 :: r).map V.str)) := upd_same
      generalize upd H p (.lst ((w0 :: r).map V.str)) = H1 at K1 e1 ⊢
      walk_at "v"
      refine w_ixL (v := .str w0) e1 at0 ?_
      walk_at "v"
      refine ⟨rfl, ?_⟩
      walk_at "v"
      by_cases hf : w0 = f
      · refine iteNS (by rw [hf]) ?_
        walk_at "v"
        have e : rW (ls.map spl) i f = .ok (w0 :: r) := by unfold rW; rw [gw]; exact if_pos (by rw [hf]; rfl)
        exact k.ok e p H1 K1 hp e1
      · refine iteNN (fun z => hf (V.str.inj z)) ?_
        refine w_raise xa hna ?_ (fun Q1 Q2 hQ h => by first | exact hQ _ _ h | (obtain ⟨v, e, h⟩ := h; first | exact ⟨v, e, hQ _ _ h⟩ | (obtain ⟨v', e', h⟩ := h; first | exact ⟨v, e, v', e', hQ _ _ h⟩ | (obtain ⟨q1, q2, h⟩ := h; first | exact ⟨v, e, v', e', q1, q2, hQ _ _ h⟩ | (obtain ⟨q3, q4, h⟩ := h; exact ⟨v, e, v', e', q1, q2, q3, q4, hQ _ _ h⟩)))))
        walk_at "v"
        have e : rW (ls.map spl) i f = .error (i, 0) := by unfold rW; rw [gw]; exact if_neg (fun z => hf (Option.some.inj z))
        exact ⟨rfl, by decide, fun dx hd => k.bad e dx _ K1 hd⟩
end
noncomputable abbrev sNu : Stmt := top 32
noncomputable abbrev nNu : List Str := ["words", "line", "place", "low", "high", "word", "number"]
theorem nmNu : Nm nNu (defScope sNu) := ⟨by decide +kernel, by decide +kernel⟩
theorem scNu : FnScope nNu ["words", "line", "place", "low", "high"] (defScope sNu) := ⟨rfl, rfl, rfl, by decide +kernel, rfl, by decide +kernel, by decide +kernel⟩
noncomputable def spNu (cA : Addr) : Sp := fun vs H Q E => ∃ (l : Addr) (ws : List Str) (z i : Nat) (lo hi : Int), vs = [.ref l, .int (z : Int), .int (i : Int), .int lo, .int hi] ∧ H l = some (.lst (ws.map V.str)) ∧ i < ws.length ∧ (∀ x ∈ ws, x.length ≤ 1000) ∧ Res (rNum ws z i lo hi) (fun n => ∀ H', Same H H' → Q (.int n) H') (Bd cA H E)
section
variable {P : Program} {w : World} {K : PySem.W.Frag} {mg : Str → Option Value} {base : Heap}
set_option maxHeartbeats 4000000 in
theorem ok_Nu {f : Addr} {fd : FuncData} (B : Bl mg) (C : KR K mg) {cA : Addr} (N : HasC P w K mg base 1 "NoPot" cA ["self", "line", "word"] (spXi K ["line", "word"])) (xa : XA K cA) (hna : ∀ f ∈ (["line", "word"] : List Str), NoAttr K cA f) (G : Has P w K mg base 1 "is_figures" ["word"] spFig) (F : Fun K "read_number" "read_number" sNu f fd) : FnOk P w K mg base (CXE P w) 3 f fd ["words", "line", "place", "low", "high"] (spNu cA) := by
  refine F.okXF scNu (fun vs H Q E h => ?_) (fun cdv A outer s H vs Q E hr h LF => ?_)
  · obtain ⟨l, ws, z, i, lo, hi, rfl, _⟩ := h
    rfl
  · obtain ⟨l, ws, z, i, lo, hi, rfl, hl, hi', hx, k⟩ := h
    have L := LF.lands
    refine' ⟨_, ?hb, ?rd⟩
    case' hb => skip
    case' hb => refine' pss_cons ?g1 ?g2
    case' g2 => refine' pss_cons ?g3 ?g4
    case' g4 => refine' pss_cons ?g5 ?g6
    case' g6 => refine' pss_cons ?g7 ?g8
    case' g8 => refine' pss_one ?g9
    case g1 => exact ps_setD nmNu 5 (pe_ix ix_d (pvd nmNu 0) (pvd nmNu 2) (fun _ _ => rfl))
    case' g3 => refine' ps_if ?g10 ?g11 pss_nil
    case g10 => exact PW.pt (pw_or (pt_not (pt_val (pe_f G hr (by decide) (pa_1 (pvd nmNu 5))))) (pw_or1 (pt_cmpR op_gt (pe_cB call_len_str B.len PySem.boot_len (pa_1 (pvd nmNu 5))) (pe_k C.mfig) (nomark _))))
    case' g11 => refine' pss_one ?g13
    case g13 => exact ps_raise N L rfl hr (by decide) (pa_2 (pvd nmNu 1) (pvd nmNu 2))
    case g5 => exact ps_setD nmNu 6 (pe_cT call_intS B.int PyProof.Rows.boot_int (pa_1 (pvd nmNu 5)))
    case' g7 => refine' ps_if ?g14 ?g15 pss_nil
    case g14 => exact pt_not (pt_chain op_le op_le (pvd nmNu 3) (pvd nmNu 6) (pvd nmNu 4))
    case' g15 => refine' pss_one ?g17
    case g17 => exact ps_raise N L rfl hr (by decide) (pa_2 (pvd nmNu 1) (pvd nmNu 2))
    case g9 => exact ps_ret (pvd nmNu 6)
    case rd =>
      have gi : ws[i]? = some ws[i] := List.getElem?_eq_getElem hi'
      have gd : ws.getD i "" = ws[i] := by rw [List.getD_eq_getElem?_getD, gi]; rfl
      have hxl := hx _ (List.getElem_mem hi')
      unfold rNum at k
      rw [gd] at k
      generalize ws[i] = x at gi hxl k
      walk_at "v"
      refine w_ixL (v := .str x) hl (atI_nat (by rw [List.getElem?_map, gi]; rfl)) ?_
      walk_at "v"
      refine ⟨_, rfl, hxl, fun H1 K1 => ?_⟩
      walk_at "v"
      have bad : num1 x lo hi = none → Bd cA H E (z, i) := fun e => by rw [e] at k; exact k
      cases hf : figP x with
      | false =>
        refine iteT (iteT ?_)
        refine w_raise xa hna ?_ (fun Q1 Q2 hQ h => by first | exact hQ _ _ h | (obtain ⟨v, e, h⟩ := h; first | exact ⟨v, e, hQ _ _ h⟩ | (obtain ⟨v', e', h⟩ := h; first | exact ⟨v, e, v', e', hQ _ _ h⟩ | (obtain ⟨q1, q2, h⟩ := h; first | exact ⟨v, e, v', e', q1, q2, hQ _ _ h⟩ | (obtain ⟨q3, q4, h⟩ := h; exact ⟨v, e, v', e', q1, q2, q3, q4, hQ _ _ h⟩)))))
        walk_at "v"
        exact ⟨rfl, by decide, fun dx hd => bad (if_neg fun q => by rw [hf] at q; cases q.1) dx _ K1 hd⟩
      | true =>
      refine iteF ?_
      walk_at "v"
      refine ⟨_, rfl, Nat.le_of_lt (small1000 hxl), ?_⟩
      walk_at "v"
      by_cases h2 : x.length ≤ 2
      case neg =>
        refine iteP (by omega) ?_
        refine w_raise xa hna ?_ (fun Q1 Q2 hQ h => by first | exact hQ _ _ h | (obtain ⟨v, e, h⟩ := h; first | exact ⟨v, e, hQ _ _ h⟩ | (obtain ⟨v', e', h⟩ := h; first | exact ⟨v, e, v', e', hQ _ _ h⟩ | (obtain ⟨q1, q2, h⟩ := h; first | exact ⟨v, e, v', e', q1, q2, hQ _ _ h⟩ | (obtain ⟨q3, q4, h⟩ := h; exact ⟨v, e, v', e', q1, q2, q3, q4, hQ _ _ h⟩)))))
        walk_at "v"
        exact ⟨rfl, by decide, fun dx hd => bad (if_neg fun q => h2 q.2.1) dx _ K1 hd⟩
      obtain ⟨v1, v2, v3⟩ := fig_val hf h2
      refine iteQ (by omega) ?_
      walk_at "v"
      refine ⟨_, _, rfl, v1, Nat.le_trans h2 (by decide), ?_⟩
      walk_at "v"
      by_cases hlo : lo ≤ val x
      case neg =>
        refine iteQ hlo ?_
        walk_at "v"
        refine iteT ?_
        refine w_raise xa hna ?_ (fun Q1 Q2 hQ h => by first | exact hQ _ _ h | (obtain ⟨v, e, h⟩ := h; first | exact ⟨v, e, hQ _ _ h⟩ | (obtain ⟨v', e', h⟩ := h; first | exact ⟨v, e, v', e', hQ _ _ h⟩ | (obtain ⟨q1, q2, h⟩ := h; first | exact ⟨v, e, v', e', q1, q2, hQ _ _ h⟩ | (obtain ⟨q3, q4, h⟩ := h; exact ⟨v, e, v', e', q1, q2, q3, q4, hQ _ _ h⟩)))))
        walk_at "v"
        exact ⟨rfl, by decide, fun dx hd => bad (if_neg fun q => hlo q.2.2.1) dx _ K1 hd⟩
      refine iteP hlo ?_
      walk_at "v"
      by_cases hhi : val x ≤ hi
      case neg =>
        refine iteNN hhi ?_
        refine w_raise xa hna ?_ (fun Q1 Q2 hQ h => by first | exact hQ _ _ h | (obtain ⟨v, e, h⟩ := h; first | exact ⟨v, e, hQ _ _ h⟩ | (obtain ⟨v', e', h⟩ := h; first | exact ⟨v, e, v', e', hQ _ _ h⟩ | (obtain ⟨q1, q2, h⟩ := h; first | exact ⟨v, e, v', e', q1, q2, hQ _ _ h⟩ | (obtain ⟨q3, q4, h⟩ := h; exact ⟨v, e, v', e', q1, q2, q3, q4, hQ _ _ h⟩)))))
        walk_at "v"
        exact ⟨rfl, by decide, fun dx hd => bad (if_neg fun q => hhi q.2.2.2) dx _ K1 hd⟩
      refine iteNS hhi ?_
      walk_at "v"
      have e : num1 x lo hi = some (val x) := if_pos ⟨hf, h2, hlo, hhi⟩
      rw [e] at k
      exact k _ K1
end
noncomputable abbrev sSo : Stmt := top 31
noncomputable abbrev nSo : List Str := ["words", "line", "place", "sorts"]
theorem nmSo : Nm nSo (defScope sSo) := ⟨by decide +kernel, by decide +kernel⟩
theorem scSo : FnScope nSo ["words", "line", "place", "sorts"] (defScope sSo) := ⟨rfl, rfl, rfl, by decide +kernel, rfl, by decide +kernel, by decide +kernel⟩
noncomputable def spSo (cA : Addr) : Sp := fun vs H Q E => ∃ (l : Addr) (ws : List Str) (z i : Nat) (ps : Addr) (nm : List Str), vs = [.ref l, .int (z : Int), .int (i : Int), .ref ps] ∧ H l = some (.lst (ws.map V.str)) ∧ i < ws.length ∧ TupF H ps (nm.map V.str) ∧ Res (rSort ws z i nm) (fun q => ∀ H', Same H H' → Q (.int (q : Int)) H') (Bd cA H E)
section
variable {P : Program} {w : World} {K : PySem.W.Frag} {mg : Str → Option Value} {base : Heap}
set_option maxHeartbeats 4000000 in
theorem ok_So {f : Addr} {fd : FuncData} (B : Bl mg) (C : KR K mg) {cA : Addr} (N : HasC P w K mg base 1 "NoPot" cA ["self", "line", "word"] (spXi K ["line", "word"])) (xa : XA K cA) (hna : ∀ f ∈ (["line", "word"] : List Str), NoAttr K cA f) (F : Fun K "read_sort" "read_sort" sSo f fd) : FnOk P w K mg base (CXE P w) 3 f fd ["words", "line", "place", "sorts"] (spSo cA) := by
  refine F.okXF scSo (fun vs H Q E h => ?_) (fun cdv A outer s H vs Q E hr h LF => ?_)
  · obtain ⟨l, ws, z, i, ps, nm, rfl, _⟩ := h
    rfl
  · obtain ⟨l, ws, z, i, ps, nm, rfl, hl, hi', hp, k⟩ := h
    have L := LF.lands
    refine' ⟨_, ?hb, ?rd⟩
    case' hb => skip
    case' hb => refine' pss_cons ?g1 ?g2
    case' g2 => refine' pss_one ?g3
    case' g1 => refine' ps_if ?g4 ?g5 pss_nil
    case g4 => exact pt_cmpR op_notIn_seq (pe_ix ix_d (pvd nmSo 0) (pvd nmSo 2) (fun _ _ => rfl)) (pvd nmSo 3) (by with_unfolding_all rfl)
    case' g5 => refine' pss_one ?g7
    case g7 => exact ps_raise N L rfl hr (by decide) (pa_2 (pvd nmSo 1) (pvd nmSo 2))
    case g3 => exact ps_ret (pe_index (pvd nmSo 3) (pa_1 (pe_ix ix_d (pvd nmSo 0) (pvd nmSo 2) (fun _ _ => rfl))))
    case rd =>
      have gi : ws[i]? = some ws[i] := List.getElem?_eq_getElem hi'
      have gd : ws.getD i "" = ws[i] := by rw [List.getD_eq_getElem?_getD, gi]; rfl
      unfold rSort at k
      rw [gd] at k
      generalize ws[i] = x at gi k
      have at' : atI (ws.map V.str) (i : Int) = some (.str x) := atI_nat (by rw [List.getElem?_map, gi]; rfl)
      walk_at "v"
      refine w_ixL (v := .str x) hl at' ?_
      walk_at "v"
      refine ⟨ps, _, rfl, .inr hp.sq, rfl, flat_strs _, ?_⟩
      rw [inV_strs]
      cases hq : plc x nm with
      | none =>
        rw [decide_eq_false (plc_none hq)]
        walk_at "v"
        refine iteT ?_
        refine w_raise xa hna ?_ (fun Q1 Q2 hQ h => by first | exact hQ _ _ h | (obtain ⟨v, e, h⟩ := h; first | exact ⟨v, e, hQ _ _ h⟩ | (obtain ⟨v', e', h⟩ := h; first | exact ⟨v, e, v', e', hQ _ _ h⟩ | (obtain ⟨q1, q2, h⟩ := h; first | exact ⟨v, e, v', e', q1, q2, hQ _ _ h⟩ | (obtain ⟨q3, q4, h⟩ := h; exact ⟨v, e, v', e', q1, q2, q3, q4, hQ _ _ h⟩)))))
        walk_at "v"
        rw [hq] at k
        exact ⟨rfl, by decide, fun dx hd => k dx _ (Same.refl _) hd⟩
      | some q =>
        obtain ⟨hk, hit, hno⟩ := nm_first hq
        rw [hq] at k
        rw [decide_eq_true (plc_in hq)]
        walk_at "v"
        refine iteF ?_
        walk_at "v"
        refine w_index ?_
        walk_at "v"
        refine ⟨⟨ps, _, rfl, hp⟩, ?_⟩
        walk_at "v"
        refine w_ixL (v := .str x) hl at' ?_
        walk_at "v"
        exact ⟨ps, _, .str x, q, hk, rfl, rfl, hp, rfl, flat_mem _, hit, hno, k _ (Same.refl _)⟩
end
end K05

set_option Elab.async false
set_option linter.all false
set_option maxRecDepth 100000
namespace K05
open PySem L2 G2 PT
local macro_rules | `(tactic| walk_at "v") => `(tactic| repeat (with_reducible first
  | refine w_seq ?_ | refine w_asg ?_ | refine w_gname ?_ | refine w_op ?_ | refine w_var rfl ?_ | refine w_c ?_ | refine w_rI0 ?_ | refine w_ifs ?_ | refine w_ife ?_ | refine w_test ?_ | refine w_tb ?_ | refine w_bl ?_ | refine w_not ?_ | refine w_ret ?_ | refine w_retN ?_
  | refine w_nil ?_ | refine w_cons ?_ | refine w_lst ?_ | refine w_tup ?_ | refine w_cb ?_ | refine w_call ?_ | refine w_gsub ?_ | refine w_and ?_ | refine w_or ?_ | refine w_next ?_ | refine w_all ?_ | refine w_vals ?_ | refine w_compR ?_ | refine w_compT ?_ | refine w_forR ?_ | refine w_forT ?_ | refine w_forL ?_ | refine w_drop ?_ | refine w_bm ?_ | refine w_compZ ?_ | refine w_compL ?_ | refine w_chain ?_ | refine w_sl ?_ | refine w_nopart ?_ | refine w_part ?_ | refine w_unI ?_ | refine iteT ?_ | refine iteF ?_))
noncomputable abbrev sRs : Stmt := top 25
noncomputable abbrev nRs : List Str := ["lines", "words", "names", "place", "name"]
theorem nmRs : Nm nRs (defScope sRs) := ⟨by decide +kernel, by decide +kernel⟩
theorem scRs : FnScope nRs ["lines"] (defScope sRs) := ⟨rfl, rfl, rfl, by decide +kernel, rfl, by decide +kernel, by decide +kernel⟩
noncomputable def spRs (cA : Addr) : Sp := fun vs H Q E => ∃ (l : Addr) (ls : List Str), vs = [.ref l] ∧ H l = some (.lst (ls.map V.str)) ∧ (∀ x ∈ ls, x.length ≤ 1000) ∧ ls.length ≤ 100 ∧ Res (rSorts (ls.map spl)) (fun nm => ∀ p H', Same H H' → TupF H' p (nm.map V.str) → Q (.ref p) H') (Bd cA H E)
section
variable {P : Program} {w : World} {K : PySem.W.Frag} {mg : Str → Option Value} {base : Heap}
set_option maxHeartbeats 4000000 in
theorem ok_Rs {f : Addr} {fd : FuncData} (B : Bl mg) (C : KR K mg) {cA : Addr} (N : HasC P w K mg base 1 "NoPot" cA ["self", "line", "word"] (spXi K ["line", "word"])) (xa : XA K cA) (hna : ∀ f ∈ (["line", "word"] : List Str), NoAttr K cA f) (G : HasX P w K mg base 3 "words_of" ["lines", "line", "first"] (spWof cA)) (M : Has P w K mg base 1 "is_name" ["thing"] spNam) (F : Fun K "read_sorts" "read_sorts" sRs f fd) : FnOk P w K mg base (CXE P w) 4 f fd ["lines"] (spRs cA) := by
  refine F.okXF scRs (fun vs H Q E h => ?_) (fun cdv A outer s H vs Q E hr h LF => ?_)
  · obtain ⟨l, ls, rfl, _⟩ := h
    rfl
  · obtain ⟨l, ls, rfl, hl, hx, h100, k⟩ := h
    have L := LF.lands
    refine' ⟨_, ?hb, ?rd⟩
    case' hb => skip
    case' hb => refine' pss_cons ?g1 ?g2
    case' g2 => refine' pss_cons ?g3 ?g4
    case' g4 => refine' pss_cons ?g5 ?g6
    case' g6 => refine' pss_cons ?g7 ?g8
    case' g8 => refine' pss_one ?g9
    case g1 => exact ps_setD nmRs 1 (pe_fX G L hr (by decide) (pa_c (pvd nmRs 0) (pa_2 (pe_k C.l0) pe_str)))
    case g3 => exact ps_setD nmRs 2 (pe_lst pa_nil)
    case' g5 => refine' ps_for PassesOwn.leaving rfl ?g10 (pgd nmRs 3) ?g11
    case g10 => exact pi_r2 B.range (pa_2 pe_int (pe_cB call_len_seq B.len PySem.boot_len (pa_1 (pvd nmRs 1))))
    case' g11 => refine' pss_cons ?g12 ?g13
    case' g13 => refine' pss_cons ?g14 ?g15
    case' g15 => refine' pss_one ?g16
    case g12 => exact ps_setD nmRs 4 (pe_ix ix_d (pvd nmRs 1) (pvd nmRs 3) (fun _ _ => rfl))
    case' g14 => refine' ps_if ?g17 ?g18 pss_nil
    case g17 => exact PW.pt (pw_or (pt_cmpR op_eq (pe_cB call_len_seq B.len PySem.boot_len (pa_1 (pvd nmRs 2))) (pe_k C.msor) (nomark _)) (pw_or (pt_not (pt_val (pe_f M hr (by decide) (pa_1 (pvd nmRs 4))))) (pw_or1 (pt_cmpR op_in_seq (pvd nmRs 4) (pvd nmRs 2) (by with_unfolding_all rfl)))))
    case' g18 => refine' pss_one ?g20
    case g20 => exact ps_raise N L rfl hr (by decide) (pa_2 (pe_k C.l0) (pvd nmRs 3))
    case g16 => exact ps_expr (pe_bm PySem.F.plainAttrs_list PySem.F.slot_list_append PySem.F.type_list_append mt_append (pvd nmRs 2) (pa_1 (pvd nmRs 4)))
    case' g7 => refine' ps_if ?g21 ?g22 pss_nil
    case g21 => exact pt_cmpR op_eq (pe_cB call_len_seq B.len PySem.boot_len (pa_1 (pvd nmRs 2))) pe_int (nomark _)
    case' g22 => refine' pss_one ?g24
    case g24 => exact ps_raise N L rfl hr (by decide) (pa_2 (pe_k C.l0) (pe_cB call_len_seq B.len PySem.boot_len (pa_1 (pvd nmRs 1))))
    case g9 => exact ps_ret (pe_cT call_tupleF B.tuple PyProof.Rows.boot_tuple (pa_1 (pvd nmRs 2)))
    case rd =>
      walk_at "v"
      refine w_callX ?_
      walk_at "v"
      refine ⟨l, ls, 0, "sorts", rfl, hl, hx, h100, res_of (fun ws hw lw H1 K1 hlw e1 => ?_) (fun b hb => k.bad (by unfold rSorts; rw [hb]))⟩
      obtain ⟨hwx, hwl, r, rfl⟩ := rW_all hx hw
      unfold rSorts at k
      rw [hw] at k
      dsimp only at k
      have hrl : r.length ≤ 1000 := by rw [List.length_cons] at hwl; omega
      have k' : Res (match rNm r 1 [] with | .error b => .error b | .ok nm => if nm.length = 0 then .error (0, r.length + 1) else .ok nm : Except Bad (List Str)) (fun nm => ∀ p H', Same H H' → TupF H' p (nm.map V.str) → Q (.ref p) H') (Bd cA H E) := k
      clear k
      walk_at "v"
      refine ⟨by show 0 ≤ sizeLine; decide, fun l2 hl2 => ?_⟩
      have K2 : Same H1 (upd H1 l2 (.lst [])) := Same.new (Same.refl H1) hl2
      have e2 : upd H1 l2 (.lst []) l2 = some (.lst []) := upd_same
      have ew := K2 _ _ e1
      have n2 : H l2 = none := K1.free hl2
      have ne : lw ≠ l2 := ne_of_none e1 hl2
      have K02 := K1.trans K2
      generalize upd H1 l2 (.lst []) = H2 at K2 e2 ew K02 ⊢
      walk_at "v"
      refine w_forR2 ?_
      walk_at "v"
      refine ⟨lw, _, rfl, .inl (SqL.of ew), ?_⟩
      refine ⟨1, _, rfl, ⟨by decide, by decide, by rw [List.length_map, List.length_cons]; omega, by rw [List.length_map, List.length_cons]; omega⟩, ?_⟩
      rw [show ((((("sorts" : Str) :: r).map V.str).length : Nat) : Int) - 1 = ((r.length : Nat) : Int) by rw [List.length_map, List.length_cons]; omega, Int.toNat_natCast]
      refine for_range (n := r.length) (fun i σ H' => ∃ u3 u4 acc, σ = [some (.ref l), some (.ref lw), some (.ref l2), u3, u4] ∧ Same H H' ∧ H' lw = some (.lst ((("sorts" : Str) :: r).map V.str)) ∧ H' l2 = some (.lst ((acc : List Str).map V.str)) ∧ acc.length ≤ 8 ∧ rNm r 1 [] = rNm (r.drop i) (i + 1) acc) ⟨none, none, [], rfl, K02, ew, e2, by decide, rfl⟩ ?_ ?_
      · rintro i σ H3 hi ⟨u3, u4, acc, rfl, K3, ew3, e3, ha, hb⟩
        have gx : r[i]? = some r[i] := List.getElem?_eq_getElem hi
        have dr : r.drop i = r[i] :: r.drop (i + 1) := List.drop_eq_getElem_cons hi
        have hxl := hwx r[i] (List.mem_cons_of_mem _ (List.getElem_mem hi))
        rw [dr] at hb
        generalize r[i] = x at gx hb hxl
        have bad : (acc.length = 8 ∨ nameP x = false ∨ x ∈ acc) → Bd cA H E (0, i + 1) := fun q => k'.bad (by rw [hb]; unfold rNm; rw [if_pos q])
        walk_at "v"
        rw [show (1 + (i : Int)) = ((i + 1 : Nat) : Int) by omega]
        refine w_ixL (v := .str x) ew3 (atI_nat (j := i + 1) (by rw [List.map_cons, List.getElem?_cons_succ, List.getElem?_map, gx]; rfl)) ?_
        walk_at "v"
        refine ⟨l2, _, rfl, .inl (SqL.of e3), ?_⟩
        walk_at "v"
        refine ⟨rfl, ?_⟩
        refine ⟨_, rfl, ?_⟩
        refine iteD (fun z => ?_) (fun z8 => ?_)
        · have z := V.int.inj z
          rw [List.length_map] at z
          first | refine iteT ?_ | skip
          refine w_raise xa hna ?_ (fun Q1 Q2 hQ h => by first | exact hQ _ _ h | (obtain ⟨v, e, h⟩ := h; first | exact ⟨v, e, hQ _ _ h⟩ | (obtain ⟨v', e', h⟩ := h; first | exact ⟨v, e, v', e', hQ _ _ h⟩ | (obtain ⟨q1, q2, h⟩ := h; first | exact ⟨v, e, v', e', q1, q2, hQ _ _ h⟩ | (obtain ⟨q3, q4, h⟩ := h; exact ⟨v, e, v', e', q1, q2, q3, q4, hQ _ _ h⟩)))))
          walk_at "v"
          exact ⟨rfl, by decide, fun dx hd => bad (.inl (by omega)) dx _ K3 hd⟩
        have a8 : ¬ acc.length = 8 := fun z => z8 (by rw [List.length_map, z]; rfl)
        walk_at "v"
        refine ⟨_, rfl, hxl, fun H4 K4 => ?_⟩
        walk_at "v"
        cases hn : nameP x with
        | false =>
          refine iteT ?_
          first | refine iteT ?_ | skip
          refine w_raise xa hna ?_ (fun Q1 Q2 hQ h => by first | exact hQ _ _ h | (obtain ⟨v, e, h⟩ := h; first | exact ⟨v, e, hQ _ _ h⟩ | (obtain ⟨v', e', h⟩ := h; first | exact ⟨v, e, v', e', hQ _ _ h⟩ | (obtain ⟨q1, q2, h⟩ := h; first | exact ⟨v, e, v', e', q1, q2, hQ _ _ h⟩ | (obtain ⟨q3, q4, h⟩ := h; exact ⟨v, e, v', e', q1, q2, q3, q4, hQ _ _ h⟩)))))
          walk_at "v"
          exact ⟨rfl, by decide, fun dx hd => bad (.inr (.inl hn)) dx _ (K3.trans K4) hd⟩
        | true =>
        refine iteF ?_
        walk_at "v"
        refine ⟨l2, _, rfl, .inl (SqL.of (K4 _ _ e3)), rfl, flat_strs _, ?_⟩
        rw [inV_strs]
        by_cases hm : x ∈ acc
        · rw [decide_eq_true hm]
          walk_at "v"
          refine iteT ?_
          refine w_raise xa hna ?_ (fun Q1 Q2 hQ h => by first | exact hQ _ _ h | (obtain ⟨v, e, h⟩ := h; first | exact ⟨v, e, hQ _ _ h⟩ | (obtain ⟨v', e', h⟩ := h; first | exact ⟨v, e, v', e', hQ _ _ h⟩ | (obtain ⟨q1, q2, h⟩ := h; first | exact ⟨v, e, v', e', q1, q2, hQ _ _ h⟩ | (obtain ⟨q3, q4, h⟩ := h; exact ⟨v, e, v', e', q1, q2, q3, q4, hQ _ _ h⟩)))))
          walk_at "v"
          exact ⟨rfl, by decide, fun dx hd => bad (.inr (.inr hm)) dx _ (K3.trans K4) hd⟩
        rw [decide_eq_false hm]
        walk_at "v"
        refine iteF ?_
        walk_at "v"
        refine ⟨.inl ⟨rfl, _, SqL.of (K4 _ _ e3)⟩, ?_⟩
        walk_at "v"
        refine ⟨l2, _, _, rfl, rfl, K4 _ _ e3, by rw [List.length_map]; exact small1000 (by omega), ?_⟩
        refine ⟨_, _, acc ++ [x], rfl, (K3.trans K4).put n2, by rw [upd_ne ne]; exact K4 _ _ ew3, by rw [upd_same, List.map_append]; rfl, by rw [List.length_append, List.length_singleton]; omega, ?_⟩
        rw [hb]
        conv => lhs; unfold rNm
        rw [if_neg]
        rintro (z | z | z)
        · exact a8 z
        · rw [hn] at z; cases z
        · exact hm z
      rintro σ H3 ⟨u3, u4, acc, rfl, K3, ew3, e3, ha, hb⟩
      rw [List.drop_length] at hb
      have hb : rNm r 1 [] = .ok acc := hb
      rw [hb] at k'
      have k' : Res (if acc.length = 0 then .error (0, r.length + 1) else .ok acc : Except Bad (List Str)) (fun nm => ∀ p H', Same H H' → TupF H' p (nm.map V.str) → Q (.ref p) H') (Bd cA H E) := k'
      walk_at "v"
      refine ⟨l2, _, rfl, .inl (SqL.of e3), ?_⟩
      walk_at "v"
      refine ⟨rfl, ?_⟩
      refine ⟨_, rfl, ?_⟩
      refine iteD (fun z => ?_) (fun z => ?_)
      · have z := V.int.inj z
        rw [List.length_map] at z
        rw [if_pos (by omega)] at k'
        refine w_raise xa hna ?_ (fun Q1 Q2 hQ h => by first | exact hQ _ _ h | (obtain ⟨v, e, h⟩ := h; first | exact ⟨v, e, hQ _ _ h⟩ | (obtain ⟨v', e', h⟩ := h; first | exact ⟨v, e, v', e', hQ _ _ h⟩ | (obtain ⟨q1, q2, h⟩ := h; first | exact ⟨v, e, v', e', q1, q2, hQ _ _ h⟩ | (obtain ⟨q3, q4, h⟩ := h; exact ⟨v, e, v', e', q1, q2, q3, q4, hQ _ _ h⟩)))))
        walk_at "v"
        refine ⟨lw, _, rfl, .inl (SqL.of ew3), ?_⟩
        walk_at "v"
        rw [show (((("sorts" : Str) :: r).map V.str).length : Nat) = r.length + 1 by rw [List.length_map]; rfl]
        exact ⟨rfl, by decide, fun dx hd => k' dx _ K3 hd⟩
      · rw [if_neg (fun q => z (by rw [List.length_map, q]; rfl))] at k'
        walk_at "v"
        refine ⟨l2, _, rfl, SqL.of e3, fun p o hp h1 h2 => ?_⟩
        exact k' p _ (K3.new hp) ⟨o, upd_same, h1, h2⟩
end
noncomputable abbrev sRb : Stmt := top 26
noncomputable abbrev nRb : List Str := ["lines", "sorts", "words", "counts", "place"]
theorem nmRb : Nm nRb (defScope sRb) := ⟨by decide +kernel, by decide +kernel⟩
theorem scRb : FnScope nRb ["lines", "sorts"] (defScope sRb) := ⟨rfl, rfl, rfl, by decide +kernel, rfl, by decide +kernel, by decide +kernel⟩
noncomputable def spRb (cA : Addr) : Sp := fun vs H Q E => ∃ (l ps : Addr) (ls nm : List Str), vs = [.ref l, .ref ps] ∧ H l = some (.lst (ls.map V.str)) ∧ (∀ x ∈ ls, x.length ≤ 1000) ∧ ls.length ≤ 100 ∧ TupF H ps (nm.map V.str) ∧ nm.length ≤ 8 ∧ Res (rBegin (ls.map spl) nm) (fun cs => ∀ p H', Same H H' → H' p = some (.tup (cs.map V.int)) → Q (.ref p) H') (Bd cA H E)
section
variable {P : Program} {w : World} {K : PySem.W.Frag} {mg : Str → Option Value} {base : Heap}
set_option maxHeartbeats 4000000 in
theorem ok_Rb {f : Addr} {fd : FuncData} (B : Bl mg) (C : KR K mg) {cA : Addr} (N : HasC P w K mg base 1 "NoPot" cA ["self", "line", "word"] (spXi K ["line", "word"])) (xa : XA K cA) (hna : ∀ f ∈ (["line", "word"] : List Str), NoAttr K cA f) (G : HasX P w K mg base 3 "words_of" ["lines", "line", "first"] (spWof cA)) (M : HasX P w K mg base 3 "read_number" ["words", "line", "place", "low", "high"] (spNu cA)) (F : Fun K "read_begin" "read_begin" sRb f fd) : FnOk P w K mg base (CXE P w) 4 f fd ["lines", "sorts"] (spRb cA) := by
  refine F.okXF scRb (fun vs H Q E h => ?_) (fun cdv A outer s H vs Q E hr h LF => ?_)
  · obtain ⟨l, ps, ls, nm, rfl, _⟩ := h
    rfl
  · obtain ⟨l, ps, ls, nm, rfl, hl, hx, h100, hp, n8, k⟩ := h
    have L := LF.lands
    refine' ⟨_, ?hb, ?rd⟩
    case' hb => skip
    case' hb => refine' pss_cons ?g1 ?g2
    case' g2 => refine' pss_cons ?g3 ?g4
    case' g4 => refine' pss_cons ?g5 ?g6
    case' g6 => refine' pss_cons ?g7 ?g8
    case' g8 => refine' pss_one ?g9
    case g1 => exact ps_setD nmRb 2 (pe_fX G L hr (by decide) (pa_c (pvd nmRb 0) (pa_2 (pe_k C.l1) pe_str)))
    case g3 => exact ps_setD nmRb 3 (pe_lst pa_nil)
    case' g5 => refine' ps_for PassesOwn.leaving rfl ?g10 (pgd nmRb 4) ?g11
    case g10 => exact pi_r2 B.range (pa_2 pe_int (pe_cB call_len_seq B.len PySem.boot_len (pa_1 (pvd nmRb 2))))
    case' g11 => refine' pss_cons ?g12 ?g13
    case' g13 => refine' pss_one ?g14
    case' g12 => refine' ps_if ?g15 ?g16 pss_nil
    case g15 => exact pt_cmpR op_eq (pe_cB call_len_seq B.len PySem.boot_len (pa_1 (pvd nmRb 3))) (pe_cB call_len_seq B.len PySem.boot_len (pa_1 (pvd nmRb 1))) (nomark _)
    case' g16 => refine' pss_one ?g18
    case g18 => exact ps_raise N L rfl hr (by decide) (pa_2 (pe_k C.l1) (pvd nmRb 4))
    case g14 => exact ps_expr (pe_bm PySem.F.plainAttrs_list PySem.F.slot_list_append PySem.F.type_list_append mt_append (pvd nmRb 3) (pa_1 (pe_fX M L hr (by decide) (pa_c (pvd nmRb 2) (pa_c (pe_k C.l1) (pa_c (pvd nmRb 4) (pa_2 pe_int (pe_k C.mbeg))))))))
    case' g7 => refine' ps_if ?g19 ?g20 pss_nil
    case g19 => exact pt_cmpR op_lt (pe_cB call_len_seq B.len PySem.boot_len (pa_1 (pvd nmRb 3))) (pe_cB call_len_seq B.len PySem.boot_len (pa_1 (pvd nmRb 1))) (nomark _)
    case' g20 => refine' pss_one ?g22
    case g22 => exact ps_raise N L rfl hr (by decide) (pa_2 (pe_k C.l1) (pe_cB call_len_seq B.len PySem.boot_len (pa_1 (pvd nmRb 2))))
    case g9 => exact ps_ret (pe_cT call_tupL B.tuple PyProof.Rows.boot_tuple (pa_1 (pvd nmRb 3)))
    case rd =>
      walk_at "v"
      refine w_callX ?_
      walk_at "v"
      refine ⟨l, ls, 1, "begin", rfl, hl, hx, h100, res_of (fun ws hw lw H1 K1 hlw e1 => ?_) (fun b hb => k.bad (by unfold rBegin; rw [hb]))⟩
      obtain ⟨hwx, hwl, r, rfl⟩ := rW_all hx hw
      unfold rBegin at k
      rw [hw] at k
      dsimp only at k
      have hrl : r.length ≤ 1000 := by rw [List.length_cons] at hwl; omega
      have k' : Res (match rBg (("begin" : Str) :: r) nm.length r.length 1 [] with | .error b => .error b | .ok cs => if cs.length < nm.length then .error (1, r.length + 1) else .ok cs : Except Bad (List Int)) (fun cs => ∀ p H', Same H H' → H' p = some (.tup (cs.map V.int)) → Q (.ref p) H') (Bd cA H E) := k
      clear k
      walk_at "v"
      refine ⟨by show 0 ≤ sizeLine; decide, fun l2 hl2 => ?_⟩
      have K2 : Same H1 (upd H1 l2 (.lst [])) := Same.new (Same.refl H1) hl2
      have e2 : upd H1 l2 (.lst []) l2 = some (.lst []) := upd_same
      have ew := K2 _ _ e1
      have n2 : H l2 = none := K1.free hl2
      have ne : lw ≠ l2 := ne_of_none e1 hl2
      have K02 := K1.trans K2
      generalize upd H1 l2 (.lst []) = H2 at K2 e2 ew K02 ⊢
      walk_at "v"
      refine w_forR2 ?_
      walk_at "v"
      refine ⟨lw, _, rfl, .inl (SqL.of ew), ?_⟩
      refine ⟨1, _, rfl, ⟨by decide, by decide, by rw [List.length_map, List.length_cons]; omega, by rw [List.length_map, List.length_cons]; omega⟩, ?_⟩
      rw [show ((((("begin" : Str) :: r).map V.str).length : Nat) : Int) - 1 = ((r.length : Nat) : Int) by rw [List.length_map, List.length_cons]; omega, Int.toNat_natCast]
      refine for_range (n := r.length) (fun i σ H' => ∃ u4 acc, σ = [some (.ref l), some (.ref ps), some (.ref lw), some (.ref l2), u4] ∧ Same H H' ∧ H' lw = some (.lst ((("begin" : Str) :: r).map V.str)) ∧ H' l2 = some (.lst ((acc : List Int).map V.int)) ∧ acc.length ≤ nm.length ∧ rBg (("begin" : Str) :: r) nm.length r.length 1 [] = rBg (("begin" : Str) :: r) nm.length (r.length - i) (i + 1) acc) ⟨none, [], rfl, K02, ew, e2, Nat.zero_le _, rfl⟩ ?_ ?_
      · rintro i σ H3 hi ⟨u4, acc, rfl, K3, ew3, e3, ha, hb⟩
        rw [show r.length - i = (r.length - (i + 1)) + 1 by omega] at hb
        rw [rBg_step] at hb
        walk_at "v"
        rw [show (1 + (i : Int)) = ((i + 1 : Nat) : Int) by omega]
        refine ⟨l2, _, rfl, .inl (SqL.of e3), ?_⟩
        walk_at "v"
        refine ⟨ps, _, rfl, .inr (hp.same K3).sq, ?_⟩
        refine ⟨rfl, ?_⟩
        refine ⟨_, rfl, ?_⟩
        refine iteD (fun z => ?_) (fun z => ?_)
        · have z := V.int.inj z
          rw [List.length_map, List.length_map] at z
          rw [if_pos (by omega)] at hb
          refine w_raise xa hna ?_ (fun Q1 Q2 hQ h => by first | exact hQ _ _ h | (obtain ⟨v, e, h⟩ := h; first | exact ⟨v, e, hQ _ _ h⟩ | (obtain ⟨v', e', h⟩ := h; first | exact ⟨v, e, v', e', hQ _ _ h⟩ | (obtain ⟨q1, q2, h⟩ := h; first | exact ⟨v, e, v', e', q1, q2, hQ _ _ h⟩ | (obtain ⟨q3, q4, h⟩ := h; exact ⟨v, e, v', e', q1, q2, q3, q4, hQ _ _ h⟩)))))
          walk_at "v"
          exact ⟨rfl, by decide, fun dx hd => k'.bad (e' := (1, i + 1)) (by rw [hb]) dx _ K3 hd⟩
        have a8 : ¬ acc.length = nm.length := fun q => z (by rw [List.length_map, List.length_map, q])
        rw [if_neg a8] at hb
        walk_at "v"
        refine ⟨.inl ⟨rfl, _, SqL.of e3⟩, ?_⟩
        walk_at "v"
        refine w_callX ?_
        walk_at "v"
        refine ⟨lw, _, 1, i + 1, 0, 99, rfl, ew3, by rw [List.length_cons]; omega, hwx, res_of (fun c hc H4 K4 => ?_) (fun b hb' => (k'.bad (by rw [hb, hb'])).up K3)⟩
        rw [hc] at hb
        refine ⟨l2, _, _, rfl, rfl, K4 _ _ e3, by rw [List.length_map]; exact small1000 (by omega), ?_⟩
        refine ⟨_, acc ++ [c], rfl, (K3.trans K4).put n2, by rw [upd_ne ne]; exact K4 _ _ ew3, by rw [upd_same, List.map_append]; rfl, by rw [List.length_append, List.length_singleton]; omega, hb⟩
      rintro σ H3 ⟨u4, acc, rfl, K3, ew3, e3, ha, hb⟩
      rw [Nat.sub_self] at hb
      have hb : rBg (("begin" : Str) :: r) nm.length r.length 1 [] = .ok acc := hb
      rw [hb] at k'
      have k' : Res (if acc.length < nm.length then .error (1, r.length + 1) else .ok acc : Except Bad (List Int)) (fun cs => ∀ p H', Same H H' → H' p = some (.tup (cs.map V.int)) → Q (.ref p) H') (Bd cA H E) := k'
      walk_at "v"
      refine ⟨l2, _, rfl, .inl (SqL.of e3), ?_⟩
      walk_at "v"
      refine ⟨ps, _, rfl, .inr (hp.same K3).sq, ?_⟩
      walk_at "v"
      by_cases q : acc.length < nm.length
      · rw [if_pos q] at k'
        refine iteP (by rw [List.length_map, List.length_map]; omega) ?_
        refine w_raise xa hna ?_ (fun Q1 Q2 hQ h => by first | exact hQ _ _ h | (obtain ⟨v, e, h⟩ := h; first | exact ⟨v, e, hQ _ _ h⟩ | (obtain ⟨v', e', h⟩ := h; first | exact ⟨v, e, v', e', hQ _ _ h⟩ | (obtain ⟨q1, q2, h⟩ := h; first | exact ⟨v, e, v', e', q1, q2, hQ _ _ h⟩ | (obtain ⟨q3, q4, h⟩ := h; exact ⟨v, e, v', e', q1, q2, q3, q4, hQ _ _ h⟩)))))
        walk_at "v"
        refine ⟨lw, _, rfl, .inl (SqL.of ew3), ?_⟩
        walk_at "v"
        rw [show (((("begin" : Str) :: r).map V.str).length : Nat) = r.length + 1 by rw [List.length_map]; rfl]
        exact ⟨rfl, by decide, fun dx hd => k' dx _ K3 hd⟩
      rw [if_neg q] at k'
      refine iteQ (by rw [List.length_map, List.length_map]; omega) ?_
      walk_at "v"
      refine ⟨l2, _, rfl, e3, fun p H4 K4 e4 => ?_⟩
      exact k' p _ (K3.trans K4) e4
end
noncomputable abbrev sRi : Stmt := top 27
noncomputable abbrev nRi : List Str := ["lines", "sorts", "words", "inputs", "place", "sort"]
theorem nmRi : Nm nRi (defScope sRi) := ⟨by decide +kernel, by decide +kernel⟩
theorem scRi : FnScope nRi ["lines", "sorts"] (defScope sRi) := ⟨rfl, rfl, rfl, by decide +kernel, rfl, by decide +kernel, by decide +kernel⟩
noncomputable def spRi (cA : Addr) : Sp := fun vs H Q E => ∃ (l ps : Addr) (ls nm : List Str), vs = [.ref l, .ref ps] ∧ H l = some (.lst (ls.map V.str)) ∧ (∀ x ∈ ls, x.length ≤ 1000) ∧ ls.length ≤ 100 ∧ TupF H ps (nm.map V.str) ∧ nm.length ≤ 8 ∧ Res (rInputs (ls.map spl) nm) (fun cs => ∀ p H', Same H H' → H' p = some (.tup (cs.map V.int)) → Q (.ref p) H') (Bd cA H E)
section
variable {P : Program} {w : World} {K : PySem.W.Frag} {mg : Str → Option Value} {base : Heap}
set_option maxHeartbeats 4000000 in
theorem ok_Ri {f : Addr} {fd : FuncData} (B : Bl mg) (C : KR K mg) {cA : Addr} (N : HasC P w K mg base 1 "NoPot" cA ["self", "line", "word"] (spXi K ["line", "word"])) (xa : XA K cA) (hna : ∀ f ∈ (["line", "word"] : List Str), NoAttr K cA f) (G : HasX P w K mg base 3 "words_of" ["lines", "line", "first"] (spWof cA)) (M : HasX P w K mg base 3 "read_sort" ["words", "line", "place", "sorts"] (spSo cA)) (F : Fun K "read_inputs" "read_inputs" sRi f fd) : FnOk P w K mg base (CXE P w) 4 f fd ["lines", "sorts"] (spRi cA) := by
  refine F.okXF scRi (fun vs H Q E h => ?_) (fun cdv A outer s H vs Q E hr h LF => ?_)
  · obtain ⟨l, ps, ls, nm, rfl, _⟩ := h
    rfl
  · obtain ⟨l, ps, ls, nm, rfl, hl, hx, h100, hp, n8, k⟩ := h
    have L := LF.lands
    refine' ⟨_, ?hb, ?rd⟩
    case' hb => skip
    case' hb => refine' pss_cons ?g1 ?g2
    case' g2 => refine' pss_cons ?g3 ?g4
    case' g4 => refine' pss_cons ?g5 ?g6
    case' g6 => refine' pss_one ?g7
    case g1 => exact ps_setD nmRi 2 (pe_fX G L hr (by decide) (pa_c (pvd nmRi 0) (pa_2 (pe_k C.l2) pe_str)))
    case g3 => exact ps_setD nmRi 3 (pe_lst pa_nil)
    case' g5 => refine' ps_for PassesOwn.leaving rfl ?g8 (pgd nmRi 4) ?g9
    case g8 => exact pi_r2 B.range (pa_2 pe_int (pe_cB call_len_seq B.len PySem.boot_len (pa_1 (pvd nmRi 2))))
    case' g9 => refine' pss_cons ?g10 ?g11
    case' g11 => refine' pss_cons ?g12 ?g13
    case' g13 => refine' pss_one ?g14
    case g10 => exact ps_setD nmRi 5 (pe_fX M L hr (by decide) (pa_c (pvd nmRi 2) (pa_c (pe_k C.l2) (pa_2 (pvd nmRi 4) (pvd nmRi 1)))))
    case' g12 => refine' ps_if ?g15 ?g16 pss_nil
    case g15 => exact PW.pt (pw_or (pt_cmpR op_eq (pe_cB call_len_seq B.len PySem.boot_len (pa_1 (pvd nmRi 3))) (pe_k C.minp) (nomark _)) (pw_or1 (pt_cmpR op_in_seq (pvd nmRi 5) (pvd nmRi 3) (by with_unfolding_all rfl))))
    case' g16 => refine' pss_one ?g18
    case g18 => exact ps_raise N L rfl hr (by decide) (pa_2 (pe_k C.l2) (pvd nmRi 4))
    case g14 => exact ps_expr (pe_bm PySem.F.plainAttrs_list PySem.F.slot_list_append PySem.F.type_list_append mt_append (pvd nmRi 3) (pa_1 (pvd nmRi 5)))
    case g7 => exact ps_ret (pe_cT call_tupL B.tuple PyProof.Rows.boot_tuple (pa_1 (pvd nmRi 3)))
    case rd =>
      walk_at "v"
      refine w_callX ?_
      walk_at "v"
      refine ⟨l, ls, 2, "in", rfl, hl, hx, h100, res_of (fun ws hw lw H1 K1 hlw e1 => ?_) (fun b hb => k.bad (by unfold rInputs; rw [hb]))⟩
      obtain ⟨hwx, hwl, r, rfl⟩ := rW_all hx hw
      unfold rInputs at k
      rw [hw] at k
      dsimp only at k
      have hrl : r.length ≤ 1000 := by rw [List.length_cons] at hwl; omega
      have k' : Res (rIn (("in" : Str) :: r) nm r.length 1 []) (fun cs => ∀ p H', Same H H' → H' p = some (.tup (cs.map V.int)) → Q (.ref p) H') (Bd cA H E) := k
      clear k
      walk_at "v"
      refine ⟨by show 0 ≤ sizeLine; decide, fun l2 hl2 => ?_⟩
      have K2 : Same H1 (upd H1 l2 (.lst [])) := Same.new (Same.refl H1) hl2
      have e2 : upd H1 l2 (.lst []) l2 = some (.lst []) := upd_same
      have ew := K2 _ _ e1
      have n2 : H l2 = none := K1.free hl2
      have ne : lw ≠ l2 := ne_of_none e1 hl2
      have K02 := K1.trans K2
      generalize upd H1 l2 (.lst []) = H2 at K2 e2 ew K02 ⊢
      walk_at "v"
      refine w_forR2 ?_
      walk_at "v"
      refine ⟨lw, _, rfl, .inl (SqL.of ew), ?_⟩
      refine ⟨1, _, rfl, ⟨by decide, by decide, by rw [List.length_map, List.length_cons]; omega, by rw [List.length_map, List.length_cons]; omega⟩, ?_⟩
      rw [show ((((("in" : Str) :: r).map V.str).length : Nat) : Int) - 1 = ((r.length : Nat) : Int) by rw [List.length_map, List.length_cons]; omega, Int.toNat_natCast]
      refine for_range (n := r.length) (fun i σ H' => ∃ u4 u5 acc, σ = [some (.ref l), some (.ref ps), some (.ref lw), some (.ref l2), u4, u5] ∧ Same H H' ∧ H' lw = some (.lst ((("in" : Str) :: r).map V.str)) ∧ H' l2 = some (.lst ((acc : List Int).map V.int)) ∧ acc.length ≤ 3 ∧ rIn (("in" : Str) :: r) nm r.length 1 [] = rIn (("in" : Str) :: r) nm (r.length - i) (i + 1) acc) ⟨none, none, [], rfl, K02, ew, e2, by decide, rfl⟩ ?_ ?_
      · rintro i σ H3 hi ⟨u4, u5, acc, rfl, K3, ew3, e3, ha, hb⟩
        rw [show r.length - i = (r.length - (i + 1)) + 1 by omega] at hb
        rw [rIn_step] at hb
        walk_at "v"
        refine w_callX ?_
        walk_at "v"
        rw [show (1 + (i : Int)) = ((i + 1 : Nat) : Int) by omega]
        refine ⟨lw, _, 2, i + 1, ps, nm, rfl, ew3, by rw [List.length_cons]; omega, hp.same K3, res_of (fun q hq H4 K4 => ?_) (fun b hb' => (k'.bad (by rw [hb, hb'])).up K3)⟩
        rw [hq] at hb
        dsimp only at hb
        walk_at "v"
        refine ⟨l2, _, rfl, .inl (SqL.of (K4 _ _ e3)), ?_⟩
        walk_at "v"
        refine ⟨rfl, ?_⟩
        refine ⟨_, rfl, ?_⟩
        refine iteD (fun z => ?_) (fun z => ?_)
        · have z := V.int.inj z
          rw [List.length_map] at z
          rw [if_pos (.inl (by omega))] at hb
          first | refine iteT ?_ | skip
          refine w_raise xa hna ?_ (fun Q1 Q2 hQ h => by first | exact hQ _ _ h | (obtain ⟨v, e, h⟩ := h; first | exact ⟨v, e, hQ _ _ h⟩ | (obtain ⟨v', e', h⟩ := h; first | exact ⟨v, e, v', e', hQ _ _ h⟩ | (obtain ⟨q1, q2, h⟩ := h; first | exact ⟨v, e, v', e', q1, q2, hQ _ _ h⟩ | (obtain ⟨q3, q4, h⟩ := h; exact ⟨v, e, v', e', q1, q2, q3, q4, hQ _ _ h⟩)))))
          walk_at "v"
          exact ⟨rfl, by decide, fun dx hd => k'.bad (e' := (2, i + 1)) hb dx _ (K3.trans K4) hd⟩
        have a3 : ¬ acc.length = 3 := fun q' => z (by rw [List.length_map, q']; rfl)
        walk_at "v"
        refine ⟨l2, _, rfl, .inl (SqL.of (K4 _ _ e3)), rfl, flat_ints _, ?_⟩
        rw [inV_ints]
        by_cases hm : (q : Int) ∈ acc
        · rw [if_pos (.inr hm)] at hb
          rw [decide_eq_true hm]
          walk_at "v"
          refine iteT ?_
          refine w_raise xa hna ?_ (fun Q1 Q2 hQ h => by first | exact hQ _ _ h | (obtain ⟨v, e, h⟩ := h; first | exact ⟨v, e, hQ _ _ h⟩ | (obtain ⟨v', e', h⟩ := h; first | exact ⟨v, e, v', e', hQ _ _ h⟩ | (obtain ⟨q1, q2, h⟩ := h; first | exact ⟨v, e, v', e', q1, q2, hQ _ _ h⟩ | (obtain ⟨q3, q4, h⟩ := h; exact ⟨v, e, v', e', q1, q2, q3, q4, hQ _ _ h⟩)))))
          walk_at "v"
          exact ⟨rfl, by decide, fun dx hd => k'.bad (e' := (2, i + 1)) hb dx _ (K3.trans K4) hd⟩
        rw [if_neg (fun z => z.elim a3 hm)] at hb
        rw [decide_eq_false hm]
        walk_at "v"
        refine iteF ?_
        walk_at "v"
        refine ⟨.inl ⟨rfl, _, SqL.of (K4 _ _ e3)⟩, ?_⟩
        walk_at "v"
        refine ⟨l2, _, _, rfl, rfl, K4 _ _ e3, by rw [List.length_map]; exact small1000 (by omega), ?_⟩
        refine ⟨_, _, acc ++ [(q : Int)], rfl, (K3.trans K4).put n2, by rw [upd_ne ne]; exact K4 _ _ ew3, by rw [upd_same, List.map_append]; rfl, by rw [List.length_append, List.length_singleton]; omega, hb⟩
      rintro σ H3 ⟨u4, u5, acc, rfl, K3, ew3, e3, ha, hb⟩
      rw [Nat.sub_self] at hb
      have hb : rIn (("in" : Str) :: r) nm r.length 1 [] = .ok acc := hb
      walk_at "v"
      refine ⟨l2, _, rfl, e3, fun p H4 K4 e4 => ?_⟩
      exact k'.ok hb p _ (K3.trans K4) e4
end
noncomputable abbrev sRan : Stmt := top 28
noncomputable abbrev nRan : List Str := ["lines", "sorts", "words", "answer"]
theorem nmRan : Nm nRan (defScope sRan) := ⟨by decide +kernel, by decide +kernel⟩
theorem scRan : FnScope nRan ["lines", "sorts"] (defScope sRan) := ⟨rfl, rfl, rfl, by decide +kernel, rfl, by decide +kernel, by decide +kernel⟩
noncomputable def spRan (cA : Addr) : Sp := fun vs H Q E => ∃ (l ps : Addr) (ls nm : List Str), vs = [.ref l, .ref ps] ∧ H l = some (.lst (ls.map V.str)) ∧ (∀ x ∈ ls, x.length ≤ 1000) ∧ ls.length ≤ 100 ∧ TupF H ps (nm.map V.str) ∧ Res (rAnswer (ls.map spl) nm) (fun q => ∀ H', Same H H' → Q (.int (q : Int)) H') (Bd cA H E)
section
variable {P : Program} {w : World} {K : PySem.W.Frag} {mg : Str → Option Value} {base : Heap}
set_option maxHeartbeats 4000000 in
theorem ok_Ran {f : Addr} {fd : FuncData} (B : Bl mg) (C : KR K mg) {cA : Addr} (N : HasC P w K mg base 1 "NoPot" cA ["self", "line", "word"] (spXi K ["line", "word"])) (xa : XA K cA) (hna : ∀ f ∈ (["line", "word"] : List Str), NoAttr K cA f) (G : HasX P w K mg base 3 "words_of" ["lines", "line", "first"] (spWof cA)) (M : HasX P w K mg base 3 "read_sort" ["words", "line", "place", "sorts"] (spSo cA)) (F : Fun K "read_answer" "read_answer" sRan f fd) : FnOk P w K mg base (CXE P w) 4 f fd ["lines", "sorts"] (spRan cA) := by
  refine F.okXF scRan (fun vs H Q E h => ?_) (fun cdv A outer s H vs Q E hr h LF => ?_)
  · obtain ⟨l, ps, ls, nm, rfl, _⟩ := h
    rfl
  · obtain ⟨l, ps, ls, nm, rfl, hl, hx, h100, hp, k⟩ := h
    have L := LF.lands
    refine' ⟨_, ?hb, ?rd⟩
    case' hb => skip
    case' hb => refine' pss_cons ?g1 ?g2
    case' g2 => refine' pss_cons ?g3 ?g4
    case' g4 => refine' pss_cons ?g5 ?g6
    case' g6 => refine' pss_cons ?g7 ?g8
    case' g8 => refine' pss_one ?g9
    case g1 => exact ps_setD nmRan 2 (pe_fX G L hr (by decide) (pa_c (pvd nmRan 0) (pa_2 (pe_k C.l3) pe_str)))
    case' g3 => refine' ps_if ?g10 ?g11 pss_nil
    case g10 => exact pt_cmpR op_eq (pe_cB call_len_seq B.len PySem.boot_len (pa_1 (pvd nmRan 2))) pe_int (nomark _)
    case' g11 => refine' pss_one ?g13
    case g13 => exact ps_raise N L rfl hr (by decide) (pa_2 (pe_k C.l3) pe_int)
    case g5 => exact ps_setD nmRan 3 (pe_fX M L hr (by decide) (pa_c (pvd nmRan 2) (pa_c (pe_k C.l3) (pa_2 pe_int (pvd nmRan 1)))))
    case' g7 => refine' ps_if ?g14 ?g15 pss_nil
    case g14 => exact pt_cmpR op_gt (pe_cB call_len_seq B.len PySem.boot_len (pa_1 (pvd nmRan 2))) pe_int (nomark _)
    case' g15 => refine' pss_one ?g17
    case g17 => exact ps_raise N L rfl hr (by decide) (pa_2 (pe_k C.l3) pe_int)
    case g9 => exact ps_ret (pvd nmRan 3)
    case rd =>
      walk_at "v"
      refine w_callX ?_
      walk_at "v"
      refine ⟨l, ls, 3, "out", rfl, hl, hx, h100, res_of (fun ws hw lw H1 K1 hlw e1 => ?_) (fun b hb => k.bad (by unfold rAnswer; rw [hb]))⟩
      obtain ⟨hwx, hwl, r, rfl⟩ := rW_all hx hw
      unfold rAnswer at k
      rw [hw] at k
      dsimp only at k
      have hrl : r.length ≤ 1000 := by rw [List.length_cons] at hwl; omega
      walk_at "v"
      refine ⟨lw, _, rfl, .inl (SqL.of e1), ?_⟩
      walk_at "v"
      refine ⟨rfl, ?_⟩
      refine ⟨_, rfl, ?_⟩
      refine iteD (fun z => ?_) (fun z => ?_)
      · have z := V.int.inj z
        rw [List.length_map] at z
        rw [if_pos (by omega)] at k
        refine w_raise xa hna ?_ (fun Q1 Q2 hQ h => by first | exact hQ _ _ h | (obtain ⟨v, e, h⟩ := h; first | exact ⟨v, e, hQ _ _ h⟩ | (obtain ⟨v', e', h⟩ := h; first | exact ⟨v, e, v', e', hQ _ _ h⟩ | (obtain ⟨q1, q2, h⟩ := h; first | exact ⟨v, e, v', e', q1, q2, hQ _ _ h⟩ | (obtain ⟨q3, q4, h⟩ := h; exact ⟨v, e, v', e', q1, q2, q3, q4, hQ _ _ h⟩)))))
        walk_at "v"
        exact ⟨rfl, by decide, fun dx hd => k dx _ K1 hd⟩
      have a1 : ¬ (("out" : Str) :: r).length = 1 := fun q => z (by rw [List.length_map, q]; rfl)
      rw [if_neg a1] at k
      rw [List.length_cons] at a1
      walk_at "v"
      refine w_callX ?_
      walk_at "v"
      refine ⟨lw, _, 3, 1, ps, nm, rfl, e1, by rw [List.length_cons]; omega, hp.same K1, res_of (fun q hq H4 K4 => ?_) (fun b hb => (k.bad (by rw [hb])).up K1)⟩
      rw [hq] at k
      dsimp only at k
      walk_at "v"
      refine ⟨lw, _, rfl, .inl (SqL.of (K4 _ _ e1)), ?_⟩
      walk_at "v"
      by_cases q2 : 2 < (("out" : Str) :: r).length
      · rw [if_pos q2] at k
        refine iteP (by rw [List.length_map]; omega) ?_
        refine w_raise xa hna ?_ (fun Q1 Q2 hQ h => by first | exact hQ _ _ h | (obtain ⟨v, e, h⟩ := h; first | exact ⟨v, e, hQ _ _ h⟩ | (obtain ⟨v', e', h⟩ := h; first | exact ⟨v, e, v', e', hQ _ _ h⟩ | (obtain ⟨q1, q2, h⟩ := h; first | exact ⟨v, e, v', e', q1, q2, hQ _ _ h⟩ | (obtain ⟨q3, q4, h⟩ := h; exact ⟨v, e, v', e', q1, q2, q3, q4, hQ _ _ h⟩)))))
        walk_at "v"
        exact ⟨rfl, by decide, fun dx hd => k dx _ (K1.trans K4) hd⟩
      rw [if_neg q2] at k
      refine iteQ (by rw [List.length_map]; omega) ?_
      walk_at "v"
      exact k _ (K1.trans K4)
end
end K05

set_option Elab.async false
set_option linter.all false
set_option maxRecDepth 100000
namespace K05
open PySem L2 G2 PT
local macro_rules | `(tactic| walk_at "v") => `(tactic| repeat (with_reducible first
  | refine w_seq ?_ | refine w_asg ?_ | refine w_gname ?_ | refine w_op ?_ | refine w_var rfl ?_ | refine w_c ?_ | refine w_rI0 ?_ | refine w_ifs ?_ | refine w_ife ?_ | refine w_test ?_ | refine w_tb ?_ | refine w_bl ?_ | refine w_not ?_ | refine w_ret ?_ | refine w_retN ?_
  | refine w_nil ?_ | refine w_cons ?_ | refine w_lst ?_ | refine w_tup ?_ | refine w_cb ?_ | refine w_call ?_ | refine w_gsub ?_ | refine w_and ?_ | refine w_or ?_ | refine w_next ?_ | refine w_all ?_ | refine w_vals ?_ | refine w_compR ?_ | refine w_compT ?_ | refine w_forR ?_ | refine w_forT ?_ | refine w_forL ?_ | refine w_drop ?_ | refine w_bm ?_ | refine w_compZ ?_ | refine w_compL ?_ | refine w_chain ?_ | refine w_sl ?_ | refine w_nopart ?_ | refine w_part ?_ | refine w_unI ?_ | refine iteT ?_ | refine iteF ?_))
noncomputable abbrev sRsd : Stmt := top 30
noncomputable abbrev nRsd : List Str := ["words", "line", "start", "end", "sorts", "counts", "last", "place", "count", "sort"]
theorem nmRsd : Nm nRsd (defScope sRsd) := ⟨by decide +kernel, by decide +kernel⟩
theorem scRsd : FnScope nRsd ["words", "line", "start", "end", "sorts"] (defScope sRsd) := ⟨rfl, rfl, rfl, by decide +kernel, rfl, by decide +kernel, by decide +kernel⟩
noncomputable def qRsda (s : Stmt) : Scope := match s with
  | .Assign _ (.ListComp _ _ sc _) _ => sc
  | _ => { kind := .function, names := [], isGenerator := false, isCoroutine := false }
noncomputable abbrev cRsda : Scope := qRsda ((defBody sRsd).getD 0 (.Pass ⟨0, 0, 0, 0⟩))
theorem bsRsda : BScope (defScope sRsd) cRsda ["name"] [] [] := { okind := by decide +kernel, kind := by decide +kernel, nocell := by decide +kernel, names := by decide +kernel, fr := by decide +kernel, ff := by decide +kernel, nd := by decide +kernel, vis := by decide +kernel, loc := by decide +kernel, gl := by decide +kernel }
theorem loRsd_5 : (defScope sRsd).names.lookup ("counts" : Str) = some .local := by decide +kernel
noncomputable def spRsd (cA : Addr) : Sp := fun vs H Q E => ∃ (l ps : Addr) (z a e : Nat) (ws nm : List Str), vs = [.ref l, .int (z : Int), .int (a : Int), .int (e : Int), .ref ps] ∧ H l = some (.lst (ws.map V.str)) ∧ (∀ x ∈ ws, x.length ≤ 1000) ∧ ws.length ≤ 1001 ∧ TupF H ps (nm.map V.str) ∧ nm.length ≤ 8 ∧ e ≤ ws.length ∧ a ≤ e + 1 ∧ Res (rSide ws nm z a e) (fun cs => ∀ p H', Same H H' → H' p = some (.tup (cs.map V.int)) → Q (.ref p) H') (Bd cA H E)
section
variable {P : Program} {w : World} {K : PySem.W.Frag} {mg : Str → Option Value} {base : Heap}
set_option maxHeartbeats 4000000 in
theorem ok_Rsd {f : Addr} {fd : FuncData} (B : Bl mg) (C : KR K mg) {cA : Addr} (N : HasC P w K mg base 1 "NoPot" cA ["self", "line", "word"] (spXi K ["line", "word"])) (xa : XA K cA) (hna : ∀ f ∈ (["line", "word"] : List Str), NoAttr K cA f) (G : HasX P w K mg base 3 "read_number" ["words", "line", "place", "low", "high"] (spNu cA)) (M : HasX P w K mg base 3 "read_sort" ["words", "line", "place", "sorts"] (spSo cA)) (F : Fun K "read_side" "read_side" sRsd f fd) : FnOk P w K mg base (CXE P w) 4 f fd ["words", "line", "start", "end", "sorts"] (spRsd cA) := by
  refine F.okXF scRsd (fun vs H Q E h => ?_) (fun cdv A outer s H vs Q E hr h LF => ?_)
  · obtain ⟨l, ps, z, a, e, ws, nm, rfl, _⟩ := h
    rfl
  · obtain ⟨l, ps, z, a, e, ws, nm, rfl, hl, hwx, hwl, hp, n8, hel, hae, k⟩ := h
    have L := LF.lands
    refine' ⟨_, ?hb, ?rd⟩
    case' hb => skip
    case' hb => refine' pss_cons ?g1 ?g2
    case' g2 => refine' pss_cons ?g3 ?g4
    case' g4 => refine' pss_cons ?g5 ?g6
    case' g6 => refine' pss_one ?g7
    case' g1 => refine' ps_setC (i := 5) (ix := []) nmRsd.nd rfl loRsd_5 bsRsda.toCScope rfl rfl ?g8 ?g9 ?g10 ?g11
    case g8 => exact pi_tup (pvd nmRsd 4)
    case g9 => exact fun _ _ _ _ _ _ => pgb bsRsda 0
    case g10 => exact fun _ _ _ _ _ _ => pts_nil
    case g11 => exact fun _ _ _ _ _ _ => pe_int
    case g3 => exact ps_setD nmRsd 6 (pe_un un_neg pe_int)
    case' g5 => refine' ps_for PassesOwn.leaving rfl ?g12 (pgd nmRsd 7) ?g13
    case g12 => exact pi_r3 B.range (pa_c (pvd nmRsd 2) (pa_2 (pvd nmRsd 3) pe_int))
    case' g13 => refine' pss_cons ?g14 ?g15
    case' g15 => refine' pss_cons ?g16 ?g17
    case' g17 => refine' pss_cons ?g18 ?g19
    case' g19 => refine' pss_cons ?g20 ?g21
    case' g21 => refine' pss_cons ?g22 ?g23
    case' g23 => refine' pss_one ?g24
    case g14 => exact ps_setD nmRsd 8 (pe_fX G L hr (by decide) (pa_c (pvd nmRsd 0) (pa_c (pvd nmRsd 1) (pa_c (pvd nmRsd 7) (pa_2 pe_int (pe_k C.mdro))))))
    case' g16 => refine' ps_if ?g25 ?g26 pss_nil
    case g25 => exact pt_cmpR op_eq (pe_op op_add (pvd nmRsd 7) pe_int) (pvd nmRsd 3) (nomark _)
    case' g26 => refine' pss_one ?g28
    case g28 => exact ps_raise N L rfl hr (by decide) (pa_2 (pvd nmRsd 1) (pvd nmRsd 3))
    case g18 => exact ps_setD nmRsd 9 (pe_fX M L hr (by decide) (pa_c (pvd nmRsd 0) (pa_c (pvd nmRsd 1) (pa_2 (pe_op op_add (pvd nmRsd 7) pe_int) (pvd nmRsd 4)))))
    case' g20 => refine' ps_if ?g29 ?g30 pss_nil
    case g29 => exact pt_cmpR op_le (pvd nmRsd 9) (pvd nmRsd 6) (nomark _)
    case' g30 => refine' pss_one ?g32
    case g32 => exact ps_raise N L rfl hr (by decide) (pa_2 (pvd nmRsd 1) (pe_op op_add (pvd nmRsd 7) pe_int))
    case g22 => exact ps_asg (pvd nmRsd 8) (pg_sub (pvd nmRsd 5) (pvd nmRsd 9) set_d)
    case g24 => exact ps_setD nmRsd 6 (pvd nmRsd 9)
    case g7 => exact ps_ret (pe_cT call_tupL B.tuple PyProof.Rows.boot_tuple (pa_1 (pvd nmRsd 5)))
    case rd =>
      walk_at "v"
      refine ⟨ps, rfl, ⟨_, hp.sq⟩, fun D hD => ?_⟩
      refine cgo_tup (xs := nm.map V.str) (ρ := []) (fun i ys H' => ys = (List.replicate i (0 : Int)).map V.int ∧ Same H H') ⟨rfl, Same.new (Same.refl H) hD⟩ (fun i ys H' _ ⟨_, k'⟩ => (hp.same k').sq) ?_ ?_
      · rintro i x ys H' hx ⟨rfl, K'⟩ hDy R S kR _
        have hi : i < nm.length := by
          have := (List.getElem?_eq_some_iff.mp hx).1
          simpa using this
        walk_at "v"
        refine kR _ _ hDy (by rw [List.length_map, List.length_replicate]; exact small1000 (by omega)) ⟨?_, K'.put hD⟩
        rw [List.replicate_succ', List.map_append]
        rfl
      rintro ys H1 ⟨rfl, K1⟩ e1
      rw [List.length_map] at e1
      unfold rSide at k
      walk_at "v"
      refine ⟨_, rfl, ?_⟩
      walk_at "v"
      refine w_forR3 ?_
      walk_at "v"
      refine ⟨_, _, rfl, ⟨by omega, by omega, by omega, by omega⟩, ?_⟩
      rw [show (((e : Int) - (a : Int) + 1) / 2).toNat = (e + 1 - a) / 2 by omega]
      refine for_rangeS (n := (e + 1 - a) / 2) (fun j σ H' => ∃ (la : Int) (u7 u8 u9 : Option V) (cs : List Int), σ = [some (.ref l), some (.int (z : Int)), some (.int (a : Int)), some (.int (e : Int)), some (.ref ps), some (.ref D), some (.int la), u7, u8, u9] ∧ Same H H' ∧ H' D = some (.lst (cs.map V.int)) ∧ cs.length = nm.length ∧ rSd ws nm z e ((e + 1 - a) / 2) a (-1) (List.replicate nm.length 0) = rSd ws nm z e ((e + 1 - a) / 2 - j) (a + 2 * j) la cs) ⟨-1, none, none, none, _, rfl, K1, e1, List.length_replicate, rfl⟩ ?_ ?_
      · rintro j σ H3 hj ⟨la, u7, u8, u9, cs, rfl, K3, e3, hcs, hb⟩
        rw [show (e + 1 - a) / 2 - j = ((e + 1 - a) / 2 - (j + 1)) + 1 by omega, rSd_step] at hb
        have hpl : a + 2 * j + 1 ≤ e := by omega
        walk_at "v"
        refine w_callX ?_
        walk_at "v"
        rw [show ((a : Int) + (j : Int) * 2) = ((a + 2 * j : Nat) : Int) by omega]
        refine ⟨l, ws, z, a + 2 * j, 1, 9, rfl, K3 _ _ hl, by omega, hwx, res_of (fun c hc H4 K4 => ?_) (fun b hb' => (k.bad (by rw [hb, hb'])).up K3)⟩
        rw [hc] at hb
        dsimp only at hb
        walk_at "v"
        refine ⟨rfl, ?_⟩
        refine ⟨_, rfl, ?_⟩
        refine iteD (fun q => ?_) (fun q => ?_)
        · have q := V.int.inj q
          rw [if_pos (by omega)] at hb
          refine w_raise xa hna ?_ (fun Q1 Q2 hQ h => by first | exact hQ _ _ h | (obtain ⟨v, e, h⟩ := h; first | exact ⟨v, e, hQ _ _ h⟩ | (obtain ⟨v', e', h⟩ := h; first | exact ⟨v, e, v', e', hQ _ _ h⟩ | (obtain ⟨q1, q2, h⟩ := h; first | exact ⟨v, e, v', e', q1, q2, hQ _ _ h⟩ | (obtain ⟨q3, q4, h⟩ := h; exact ⟨v, e, v', e', q1, q2, q3, q4, hQ _ _ h⟩)))))
          walk_at "v"
          exact ⟨rfl, by decide, fun dx hd => k.bad (e' := (z, e)) hb dx _ (K3.trans K4) hd⟩
        have qn : ¬ a + 2 * j + 1 = e := fun q' => q (by rw [← q']; rfl)
        rw [if_neg qn] at hb
        walk_at "v"
        refine w_callX ?_
        walk_at "v"
        rw [show (((a + 2 * j : Nat) : Int) + 1) = ((a + 2 * j + 1 : Nat) : Int) by omega]
        refine ⟨l, ws, z, a + 2 * j + 1, ps, nm, rfl, K4 _ _ (K3 _ _ hl), by omega, hp.same (K3.trans K4), res_of (fun q hq H5 K5 => ?_) (fun b hb' => (k.bad (by rw [hb, hb'])).up (K3.trans K4))⟩
        rw [hq] at hb
        dsimp only at hb
        have hqn := rSort_lt hq
        have K35 := (K3.trans K4).trans K5
        walk_at "v"
        by_cases hla : (q : Int) ≤ la
        · rw [if_pos hla] at hb
          refine iteP hla ?_
          refine w_raise xa hna ?_ (fun Q1 Q2 hQ h => by first | exact hQ _ _ h | (obtain ⟨v, e, h⟩ := h; first | exact ⟨v, e, hQ _ _ h⟩ | (obtain ⟨v', e', h⟩ := h; first | exact ⟨v, e, v', e', hQ _ _ h⟩ | (obtain ⟨q1, q2, h⟩ := h; first | exact ⟨v, e, v', e', q1, q2, hQ _ _ h⟩ | (obtain ⟨q3, q4, h⟩ := h; exact ⟨v, e, v', e', q1, q2, q3, q4, hQ _ _ h⟩)))))
          walk_at "v"
          rw [show (((a + 2 * j : Nat) : Int) + 1) = ((a + 2 * j + 1 : Nat) : Int) by omega]
          exact ⟨rfl, by decide, fun dx hd => k.bad (e' := (z, a + 2 * j + 1)) hb dx _ K35 hd⟩
        rw [if_neg hla] at hb
        refine iteQ hla ?_
        walk_at "v"
        refine w_set (j := q) (K5 _ _ (K4 _ _ e3)) (by rw [List.length_map, hcs]; unfold ixN; rw [if_pos (by omega), if_pos (by omega)]; simp) ?_
        walk_at "v"
        refine ⟨(q : Int), _, _, _, cs.set q c, rfl, K35.put hD, by rw [upd_same, List.map_set], by rw [List.length_set]; exact hcs, ?_⟩
        rw [hb]
        rfl
      rintro σ H3 ⟨la, u7, u8, u9, cs, rfl, K3, e3, hcs, hb⟩
      rw [Nat.sub_self] at hb
      have hb : rSd ws nm z e ((e + 1 - a) / 2) a (-1) (List.replicate nm.length 0) = .ok cs := hb
      walk_at "v"
      refine ⟨D, _, rfl, e3, fun p H4 K4 e4 => ?_⟩
      exact k.ok hb p _ (K3.trans K4) e4
end
noncomputable abbrev sRr : Stmt := top 29
noncomputable abbrev nRr : List Str := ["lines", "line", "sorts", "words", "middle", "takes", "gives"]
theorem nmRr : Nm nRr (defScope sRr) := ⟨by decide +kernel, by decide +kernel⟩
theorem scRr : FnScope nRr ["lines", "line", "sorts"] (defScope sRr) := ⟨rfl, rfl, rfl, by decide +kernel, rfl, by decide +kernel, by decide +kernel⟩
noncomputable def spRr (cA : Addr) : Sp := fun vs H Q E => ∃ (l ps : Addr) (z : Nat) (ls nm : List Str), vs = [.ref l, .int (z : Int), .ref ps] ∧ H l = some (.lst (ls.map V.str)) ∧ (∀ x ∈ ls, x.length ≤ 1000) ∧ ls.length ≤ 100 ∧ TupF H ps (nm.map V.str) ∧ nm.length ≤ 8 ∧ Res (rRule (ls.map spl) z nm) (fun r => ∀ p H', Same H H' → H p = none → RlD H' p r → Q (.ref p) H') (Bd cA H E)
section
variable {P : Program} {w : World} {K : PySem.W.Frag} {mg : Str → Option Value} {base : Heap}
set_option maxHeartbeats 4000000 in
theorem ok_Rr {f : Addr} {fd : FuncData} (B : Bl mg) (C : KR K mg) {cA : Addr} (N : HasC P w K mg base 1 "NoPot" cA ["self", "line", "word"] (spXi K ["line", "word"])) (xa : XA K cA) (hna : ∀ f ∈ (["line", "word"] : List Str), NoAttr K cA f) (G : HasX P w K mg base 3 "words_of" ["lines", "line", "first"] (spWof cA)) (M : HasX P w K mg base 4 "read_side" ["words", "line", "start", "end", "sorts"] (spRsd cA)) (F : Fun K "read_rule" "read_rule" sRr f fd) : FnOk P w K mg base (CXE P w) 5 f fd ["lines", "line", "sorts"] (spRr cA) := by
  refine F.okXF scRr (fun vs H Q E h => ?_) (fun cdv A outer s H vs Q E hr h LF => ?_)
  · obtain ⟨l, ps, z, ls, nm, rfl, _⟩ := h
    rfl
  · obtain ⟨l, ps, z, ls, nm, rfl, hl, hx, h100, hp, n8, k⟩ := h
    have L := LF.lands
    refine' ⟨_, ?hb, ?rd⟩
    case' hb => skip
    case' hb => refine' pss_cons ?g1 ?g2
    case' g2 => refine' pss_cons ?g3 ?g4
    case' g4 => refine' pss_cons ?g5 ?g6
    case' g6 => refine' pss_cons ?g7 ?g8
    case' g8 => refine' pss_cons ?g9 ?g10
    case' g10 => refine' pss_cons ?g11 ?g12
    case' g12 => refine' pss_cons ?g13 ?g14
    case' g14 => refine' pss_one ?g15
    case g1 => exact ps_setD nmRr 3 (pe_fX G L hr (by decide) (pa_c (pvd nmRr 0) (pa_2 (pvd nmRr 1) pe_str)))
    case' g3 => refine' ps_if ?g16 ?g17 pss_nil
    case g16 => exact pt_cmpR op_ge (pvd nmRr 1) (pe_op op_add (pe_k C.l4) (pe_k C.mrul)) (nomark _)
    case' g17 => refine' pss_one ?g19
    case g19 => exact ps_raise N L rfl hr (by decide) (pa_2 (pvd nmRr 1) pe_int)
    case g5 => exact ps_setD nmRr 4 (pe_ifExp (pt_cmpR op_in_seq pe_str (pvd nmRr 3) (by with_unfolding_all rfl)) (pe_bm PySem.F.plainAttrs_list PySem.F.slot_list_index PySem.F.type_list_index mt_indexL (pvd nmRr 3) (pa_1 pe_str)) (pe_cB call_len_seq B.len PySem.boot_len (pa_1 (pvd nmRr 3))))
    case g7 => exact ps_setD nmRr 5 (pe_fX M L hr (by decide) (pa_c (pvd nmRr 3) (pa_c (pvd nmRr 1) (pa_c pe_int (pa_2 (pvd nmRr 4) (pvd nmRr 2))))))
    case' g9 => refine' ps_if ?g20 ?g21 pss_nil
    case g20 => exact PW.pt (pw_or (pt_cmpR op_eq (pvd nmRr 4) pe_int (nomark _)) (pw_or1 (pt_cmpR op_eq (pvd nmRr 4) (pe_cB call_len_seq B.len PySem.boot_len (pa_1 (pvd nmRr 3))) (nomark _))))
    case' g21 => refine' pss_one ?g23
    case g23 => exact ps_raise N L rfl hr (by decide) (pa_2 (pvd nmRr 1) (pvd nmRr 4))
    case g11 => exact ps_setD nmRr 6 (pe_fX M L hr (by decide) (pa_c (pvd nmRr 3) (pa_c (pvd nmRr 1) (pa_c (pe_op op_add (pvd nmRr 4) pe_int) (pa_2 (pe_cB call_len_seq B.len PySem.boot_len (pa_1 (pvd nmRr 3))) (pvd nmRr 2))))))
    case' g13 => refine' ps_if ?g24 ?g25 pss_nil
    case g24 => exact pt_cmpR (op_eqD hr) (pvd nmRr 5) (pvd nmRr 6) (nomark _)
    case' g25 => refine' pss_one ?g27
    case g27 => exact ps_raise N L rfl hr (by decide) (pa_2 (pvd nmRr 1) (pe_cB call_len_seq B.len PySem.boot_len (pa_1 (pvd nmRr 3))))
    case g15 => exact ps_ret (pe_tup (pa_2 (pvd nmRr 5) (pvd nmRr 6)))
    case rd =>
      walk_at "v"
      refine w_callX ?_
      walk_at "v"
      refine ⟨l, ls, z, "rule", rfl, hl, hx, h100, res_of (fun ws hw lw H1 K1 hlw e1 => ?_) (fun b hb => k.bad (by unfold rRule; rw [hb]))⟩
      obtain ⟨hwx, hwl, r, rfl⟩ := rW_all hx hw
      unfold rRule at k
      rw [hw] at k
      dsimp only at k
      have hrl : r.length ≤ 1000 := by rw [List.length_cons] at hwl; omega
      walk_at "v"
      by_cases h12 : 12 ≤ z
      · rw [if_pos h12] at k
        refine iteP (by omega) ?_
        refine w_raise xa hna ?_ (fun Q1 Q2 hQ h => by first | exact hQ _ _ h | (obtain ⟨v, e, h⟩ := h; first | exact ⟨v, e, hQ _ _ h⟩ | (obtain ⟨v', e', h⟩ := h; first | exact ⟨v, e, v', e', hQ _ _ h⟩ | (obtain ⟨q1, q2, h⟩ := h; first | exact ⟨v, e, v', e', q1, q2, hQ _ _ h⟩ | (obtain ⟨q3, q4, h⟩ := h; exact ⟨v, e, v', e', q1, q2, q3, q4, hQ _ _ h⟩)))))
        walk_at "v"
        exact ⟨rfl, by decide, fun dx hd => k dx _ K1 hd⟩
      rw [if_neg h12] at k
      refine iteQ (by omega) ?_
      walk_at "v"
      refine ⟨lw, _, rfl, .inl (SqL.of e1), rfl, flat_strs _, ?_⟩
      rw [inV_strs]
      cases hq : plc "to" (("rule" : Str) :: r) with
      | some M =>
        have hMl : M ≤ (("rule" : Str) :: r).length := Nat.le_of_lt (plc_lt hq)
        obtain ⟨f1, f2⟩ := plc_some hq
        have hM1 : 1 ≤ M := by
          cases M with
          | zero =>
            have : ("rule" : Str) = "to" := Option.some.inj f1
            exact absurd this (by decide +kernel)
          | succ M => omega
        have hm : mid (("rule" : Str) :: r) = M := by unfold mid; rw [hq]; rfl
        rw [hm] at k
        rw [decide_eq_true (plc_in hq)]
        walk_at "v"
        refine iteT ?_
        walk_at "v"
        refine ⟨.inl ⟨rfl, _, SqL.of e1⟩, ?_⟩
        walk_at "v"
        refine ⟨lw, _, "to", M, rfl, rfl, e1, f1, f2, ?_⟩
        walk_at "v"
        refine w_callX ?_
        walk_at "v"
        refine ⟨lw, ps, z, 1, M, ("rule" : Str) :: r, nm, rfl, e1, hwx, hwl, hp.same K1, n8, hMl, by omega, res_of (fun tk ht pa H2 K2 ea => ?_) (fun b hb => (k.bad (by rw [hb])).up K1)⟩
        rw [ht] at k
        dsimp only at k
        walk_at "v"
        refine ⟨rfl, ?_⟩
        refine ⟨_, rfl, ?_⟩
        refine iteD (fun q => ?_) (fun q1 => ?_)
        · have q := V.int.inj q
          rw [if_pos (.inl (by omega))] at k
          first | refine iteT ?_ | skip
          refine w_raise xa hna ?_ (fun Q1 Q2 hQ h => by first | exact hQ _ _ h | (obtain ⟨v, e, h⟩ := h; first | exact ⟨v, e, hQ _ _ h⟩ | (obtain ⟨v', e', h⟩ := h; first | exact ⟨v, e, v', e', hQ _ _ h⟩ | (obtain ⟨q1, q2, h⟩ := h; first | exact ⟨v, e, v', e', q1, q2, hQ _ _ h⟩ | (obtain ⟨q3, q4, h⟩ := h; exact ⟨v, e, v', e', q1, q2, q3, q4, hQ _ _ h⟩)))))
          walk_at "v"
          exact ⟨rfl, by decide, fun dx hd => k dx _ (K1.trans K2) hd⟩
        walk_at "v"
        refine ⟨lw, _, rfl, .inl (SqL.of (K2 _ _ e1)), ?_⟩
        refine ⟨rfl, ?_⟩
        refine ⟨_, rfl, ?_⟩
        refine iteD (fun q => ?_) (fun q2 => ?_)
        · have q := V.int.inj q
          rw [List.length_map] at q
          rw [if_pos (.inr (by omega))] at k
          refine w_raise xa hna ?_ (fun Q1 Q2 hQ h => by first | exact hQ _ _ h | (obtain ⟨v, e, h⟩ := h; first | exact ⟨v, e, hQ _ _ h⟩ | (obtain ⟨v', e', h⟩ := h; first | exact ⟨v, e, v', e', hQ _ _ h⟩ | (obtain ⟨q1, q2, h⟩ := h; first | exact ⟨v, e, v', e', q1, q2, hQ _ _ h⟩ | (obtain ⟨q3, q4, h⟩ := h; exact ⟨v, e, v', e', q1, q2, q3, q4, hQ _ _ h⟩)))))
          walk_at "v"
          exact ⟨rfl, by decide, fun dx hd => k dx _ (K1.trans K2) hd⟩
        have m1 : ¬ M = 1 := fun z => q1 (by rw [z]; rfl)
        have m2 : ¬ M = (("rule" : Str) :: r).length := fun z => q2 (by rw [List.length_map, z])
        rw [if_neg (fun z => z.elim m1 m2)] at k
        walk_at "v"
        refine w_callX ?_
        walk_at "v"
        refine ⟨lw, _, rfl, .inl (SqL.of (K2 _ _ e1)), ?_⟩
        walk_at "v"
        rw [show ((M : Int) + 1) = ((M + 1 : Nat) : Int) by omega, show (((("rule" : Str) :: r).map V.str).length : Nat) = (("rule" : Str) :: r).length by rw [List.length_map]]
        refine ⟨lw, ps, z, M + 1, (("rule" : Str) :: r).length, ("rule" : Str) :: r, nm, rfl, K2 _ _ e1, hwx, hwl, hp.same (K1.trans K2), n8, Nat.le_refl _, by omega, res_of (fun gv hg pb H3 K3 eb => ?_) (fun b hb => (k.bad (by rw [hb])).up (K1.trans K2))⟩
        rw [hg] at k
        dsimp only at k
        walk_at "v"
        refine ⟨_, _, .tup (K3 _ _ ea) (rdInts _), .tup eb (rdInts _), by show PyData.canLayAll0 _ = true; exact lay_ints _, by show PyData.canLayAll0 _ = true; exact lay_ints _, by show PyData.depthAll _ + 1 ≤ 60; rw [depth_ints]; decide, ?_⟩
        rw [show PyData.eqv (.tuple (tk.map PyData.int)) (.tuple (gv.map PyData.int)) = decide (tk = gv) by show PyData.eqvAll _ _ = _; rw [eqv_ints]]
        walk_at "v"
        have KK := (K1.trans K2).trans K3
        by_cases sne : tk = gv
        · rw [if_pos sne] at k
          refine iteP sne ?_
          refine w_raise xa hna ?_ (fun Q1 Q2 hQ h => by first | exact hQ _ _ h | (obtain ⟨v, e, h⟩ := h; first | exact ⟨v, e, hQ _ _ h⟩ | (obtain ⟨v', e', h⟩ := h; first | exact ⟨v, e, v', e', hQ _ _ h⟩ | (obtain ⟨q1, q2, h⟩ := h; first | exact ⟨v, e, v', e', q1, q2, hQ _ _ h⟩ | (obtain ⟨q3, q4, h⟩ := h; exact ⟨v, e, v', e', q1, q2, q3, q4, hQ _ _ h⟩)))))
          walk_at "v"
          refine ⟨lw, _, rfl, .inl (SqL.of (K3 _ _ (K2 _ _ e1))), ?_⟩
          walk_at "v"
          rw [show (((("rule" : Str) :: r).map V.str).length : Nat) = (("rule" : Str) :: r).length by rw [List.length_map]]
          exact ⟨rfl, by decide, fun dx hd => k dx _ KK hd⟩
        rw [if_neg sne] at k
        refine iteQ sne ?_
        walk_at "v"
        refine ⟨by show 2 ≤ sizeLine; decide, fun p hpn => ?_⟩
        refine k p _ (KK.new hpn) (KK.free hpn) ⟨pa, pb, upd_same, ?_, ?_⟩
        · rw [upd_ne (ne_of_none (K3 _ _ ea) hpn)]; exact K3 _ _ ea
        · rw [upd_ne (ne_of_none eb hpn)]; exact eb
      | none =>
        obtain ⟨M, hM⟩ : ∃ M, M = (("rule" : Str) :: r).length := ⟨_, rfl⟩
        have hm : mid (("rule" : Str) :: r) = M := by unfold mid; rw [hq]; exact hM.symm
        rw [hm] at k
        rw [decide_eq_false (plc_none hq)]
        walk_at "v"
        refine iteF ?_
        walk_at "v"
        refine ⟨lw, _, rfl, .inl (SqL.of e1), ?_⟩
        rw [show (((("rule" : Str) :: r).map V.str).length : Nat) = M by rw [List.length_map, hM]]
        have hMl : M ≤ (("rule" : Str) :: r).length := Nat.le_of_eq hM
        have hM1 : 1 ≤ M := by rw [hM, List.length_cons]; omega
        walk_at "v"
        refine w_callX ?_
        walk_at "v"
        refine ⟨lw, ps, z, 1, M, ("rule" : Str) :: r, nm, rfl, e1, hwx, hwl, hp.same K1, n8, hMl, by omega, res_of (fun tk ht pa H2 K2 ea => ?_) (fun b hb => (k.bad (by rw [hb])).up K1)⟩
        rw [ht] at k
        dsimp only at k
        walk_at "v"
        refine ⟨rfl, ?_⟩
        refine ⟨_, rfl, ?_⟩
        refine iteD (fun q => ?_) (fun q1 => ?_)
        · have q := V.int.inj q
          rw [if_pos (.inl (by omega))] at k
          first | refine iteT ?_ | skip
          refine w_raise xa hna ?_ (fun Q1 Q2 hQ h => by first | exact hQ _ _ h | (obtain ⟨v, e, h⟩ := h; first | exact ⟨v, e, hQ _ _ h⟩ | (obtain ⟨v', e', h⟩ := h; first | exact ⟨v, e, v', e', hQ _ _ h⟩ | (obtain ⟨q1, q2, h⟩ := h; first | exact ⟨v, e, v', e', q1, q2, hQ _ _ h⟩ | (obtain ⟨q3, q4, h⟩ := h; exact ⟨v, e, v', e', q1, q2, q3, q4, hQ _ _ h⟩)))))
          walk_at "v"
          exact ⟨rfl, by decide, fun dx hd => k dx _ (K1.trans K2) hd⟩
        walk_at "v"
        refine ⟨lw, _, rfl, .inl (SqL.of (K2 _ _ e1)), ?_⟩
        refine ⟨rfl, ?_⟩
        refine ⟨_, rfl, ?_⟩
        refine iteD (fun q => ?_) (fun q2 => ?_)
        · have q := V.int.inj q
          rw [List.length_map] at q
          rw [if_pos (.inr (by omega))] at k
          refine w_raise xa hna ?_ (fun Q1 Q2 hQ h => by first | exact hQ _ _ h | (obtain ⟨v, e, h⟩ := h; first | exact ⟨v, e, hQ _ _ h⟩ | (obtain ⟨v', e', h⟩ := h; first | exact ⟨v, e, v', e', hQ _ _ h⟩ | (obtain ⟨q1, q2, h⟩ := h; first | exact ⟨v, e, v', e', q1, q2, hQ _ _ h⟩ | (obtain ⟨q3, q4, h⟩ := h; exact ⟨v, e, v', e', q1, q2, q3, q4, hQ _ _ h⟩)))))
          walk_at "v"
          exact ⟨rfl, by decide, fun dx hd => k dx _ (K1.trans K2) hd⟩
        have m1 : ¬ M = 1 := fun z => q1 (by rw [z]; rfl)
        have m2 : ¬ M = (("rule" : Str) :: r).length := fun z => q2 (by rw [List.length_map, z])
        rw [if_neg (fun z => z.elim m1 m2)] at k
        walk_at "v"
        refine w_callX ?_
        walk_at "v"
        refine ⟨lw, _, rfl, .inl (SqL.of (K2 _ _ e1)), ?_⟩
        walk_at "v"
        rw [show ((M : Int) + 1) = ((M + 1 : Nat) : Int) by omega, show (((("rule" : Str) :: r).map V.str).length : Nat) = (("rule" : Str) :: r).length by rw [List.length_map]]
        refine ⟨lw, ps, z, M + 1, (("rule" : Str) :: r).length, ("rule" : Str) :: r, nm, rfl, K2 _ _ e1, hwx, hwl, hp.same (K1.trans K2), n8, Nat.le_refl _, by omega, res_of (fun gv hg pb H3 K3 eb => ?_) (fun b hb => (k.bad (by rw [hb])).up (K1.trans K2))⟩
        rw [hg] at k
        dsimp only at k
        walk_at "v"
        refine ⟨_, _, .tup (K3 _ _ ea) (rdInts _), .tup eb (rdInts _), by show PyData.canLayAll0 _ = true; exact lay_ints _, by show PyData.canLayAll0 _ = true; exact lay_ints _, by show PyData.depthAll _ + 1 ≤ 60; rw [depth_ints]; decide, ?_⟩
        rw [show PyData.eqv (.tuple (tk.map PyData.int)) (.tuple (gv.map PyData.int)) = decide (tk = gv) by show PyData.eqvAll _ _ = _; rw [eqv_ints]]
        walk_at "v"
        have KK := (K1.trans K2).trans K3
        by_cases sne : tk = gv
        · rw [if_pos sne] at k
          refine iteP sne ?_
          refine w_raise xa hna ?_ (fun Q1 Q2 hQ h => by first | exact hQ _ _ h | (obtain ⟨v, e, h⟩ := h; first | exact ⟨v, e, hQ _ _ h⟩ | (obtain ⟨v', e', h⟩ := h; first | exact ⟨v, e, v', e', hQ _ _ h⟩ | (obtain ⟨q1, q2, h⟩ := h; first | exact ⟨v, e, v', e', q1, q2, hQ _ _ h⟩ | (obtain ⟨q3, q4, h⟩ := h; exact ⟨v, e, v', e', q1, q2, q3, q4, hQ _ _ h⟩)))))
          walk_at "v"
          refine ⟨lw, _, rfl, .inl (SqL.of (K3 _ _ (K2 _ _ e1))), ?_⟩
          walk_at "v"
          rw [show (((("rule" : Str) :: r).map V.str).length : Nat) = (("rule" : Str) :: r).length by rw [List.length_map]]
          exact ⟨rfl, by decide, fun dx hd => k dx _ KK hd⟩
        rw [if_neg sne] at k
        refine iteQ sne ?_
        walk_at "v"
        refine ⟨by show 2 ≤ sizeLine; decide, fun p hpn => ?_⟩
        refine k p _ (KK.new hpn) (KK.free hpn) ⟨pa, pb, upd_same, ?_, ?_⟩
        · rw [upd_ne (ne_of_none (K3 _ _ ea) hpn)]; exact K3 _ _ ea
        · rw [upd_ne (ne_of_none eb hpn)]; exact eb
end
noncomputable abbrev sRp : Stmt := top 23
noncomputable abbrev nRp : List Str := ["lines", "sorts", "begin", "inputs", "answer", "rules"]
theorem nmRp : Nm nRp (defScope sRp) := ⟨by decide +kernel, by decide +kernel⟩
theorem scRp : FnScope nRp ["lines"] (defScope sRp) := ⟨rfl, rfl, rfl, by decide +kernel, rfl, by decide +kernel, by decide +kernel⟩
noncomputable def qRpa (s : Stmt) : Scope := match s with
  | .Assign _ (.Call _ [(.ListComp _ _ sc _)] _ _) _ => sc
  | _ => { kind := .function, names := [], isGenerator := false, isCoroutine := false }
noncomputable abbrev cRpa : Scope := qRpa ((defBody sRp).getD 4 (.Pass ⟨0, 0, 0, 0⟩))
theorem bsRpa : BScope (defScope sRp) cRpa ["line"] ["lines", "sorts"] ["read_rule"] := { okind := by decide +kernel, kind := by decide +kernel, nocell := by decide +kernel, names := by decide +kernel, fr := by decide +kernel, ff := by decide +kernel, nd := by decide +kernel, vis := by decide +kernel, loc := by decide +kernel, gl := by decide +kernel }
noncomputable def spRp (cA : Addr) : Sp := fun vs H Q E => ∃ (l : Addr) (ls : List Str), vs = [.ref l] ∧ H l = some (.lst (ls.map V.str)) ∧ (∀ x ∈ ls, x.length ≤ 1000) ∧ ls.length ≤ 100 ∧ Res (rPot (ls.map spl)) (fun d => ∀ p H', Same H H' → H p = none → PotF true H' p d → Q (.ref p) H') (Bd cA H E)
section
variable {P : Program} {w : World} {K : PySem.W.Frag} {mg : Str → Option Value} {base : Heap}
set_option maxHeartbeats 4000000 in
theorem ok_Rp {f : Addr} {fd : FuncData} (B : Bl mg) (C : KR K mg) {cA : Addr} (N : HasC P w K mg base 1 "NoPot" cA ["self", "line", "word"] (spXi K ["line", "word"])) (xa : XA K cA) (hna : ∀ f ∈ (["line", "word"] : List Str), NoAttr K cA f) (G1 : HasX P w K mg base 4 "read_sorts" ["lines"] (spRs cA)) (G2 : HasX P w K mg base 4 "read_begin" ["lines", "sorts"] (spRb cA)) (G3 : HasX P w K mg base 4 "read_inputs" ["lines", "sorts"] (spRi cA)) (G4 : HasX P w K mg base 4 "read_answer" ["lines", "sorts"] (spRan cA)) (G5 : HasX P w K mg base 5 "read_rule" ["lines", "line", "sorts"] (spRr cA)) (F : Fun K "read_pot" "read_pot" sRp f fd) : FnOk P w K mg base (CXE P w) 6 f fd ["lines"] (spRp cA) := by
  refine F.okXF scRp (fun vs H Q E h => ?_) (fun cdv A outer s H vs Q E hr h LF => ?_)
  · obtain ⟨l, ls, rfl, _⟩ := h
    rfl
  · obtain ⟨l, ls, rfl, hl, hx, h100, k⟩ := h
    have L := LF.lands
    refine' ⟨_, ?hb, ?rd⟩
    case' hb => skip
    case' hb => refine' pss_cons ?g1 ?g2
    case' g2 => refine' pss_cons ?g3 ?g4
    case' g4 => refine' pss_cons ?g5 ?g6
    case' g6 => refine' pss_cons ?g7 ?g8
    case' g8 => refine' pss_cons ?g9 ?g10
    case' g10 => refine' pss_one ?g11
    case g1 => exact ps_setD nmRp 1 (pe_fX G1 L hr (by decide) (pa_1 (pvd nmRp 0)))
    case g3 => exact ps_setD nmRp 2 (pe_fX G2 L hr (by decide) (pa_2 (pvd nmRp 0) (pvd nmRp 1)))
    case g5 => exact ps_setD nmRp 3 (pe_fX G3 L hr (by decide) (pa_2 (pvd nmRp 0) (pvd nmRp 1)))
    case g7 => exact ps_setD nmRp 4 (pe_fX G4 L hr (by decide) (pa_2 (pvd nmRp 0) (pvd nmRp 1)))
    case' g9 => refine' ps_setD nmRp 5 ?g12
    case' g12 => refine' pe_cT call_tupL B.tuple PyProof.Rows.boot_tuple ?g13
    case' g13 => refine' pa_1 ?g14
    case' g14 => refine' pe_compX (ix := [0, 1]) LF rfl rfl bsRpa.toCScope rfl rfl ?g15 ?g16 ?g17 ?g18
    case g15 => exact pi_r2 B.range (pa_2 (pe_k C.l4) (pe_cB call_len_seq B.len PySem.boot_len (pa_1 (pvd nmRp 0))))
    case g16 => exact fun _ _ _ _ _ _ => pgb bsRpa 0
    case g17 => exact fun _ _ _ _ _ _ _ LB => pts_nil
    case g18 => exact fun _ _ _ _ _ _ _ LB => pe_fX G5 LB.lands hr (by decide) (pa_c (pvb bsRpa 1) (pa_2 (pvb bsRpa 0) (pvb bsRpa 2))) (bsRpa.g 0)
    case g11 => exact ps_ret (pe_tup (pa_c (pvd nmRp 1) (pa_c (pvd nmRp 5) (pa_c (pvd nmRp 3) (pa_2 (pvd nmRp 2) (pvd nmRp 4))))))
    case rd =>
      unfold rPot at k
      walk_at "v"
      refine w_callX ?_
      walk_at "v"
      refine ⟨l, ls, rfl, hl, hx, h100, res_of (fun nm hs ps H1 K1 hp1 => ?_) (fun b hb => k.bad (by rw [hb]))⟩
      have n8 := rSorts_len hs
      rw [hs] at k
      dsimp only at k
      walk_at "v"
      refine w_callX ?_
      walk_at "v"
      refine ⟨l, ps, ls, nm, rfl, K1 _ _ hl, hx, h100, hp1, n8, res_of (fun bg hb pb H2 K2 eb => ?_) (fun b hb => (k.bad (by rw [hb])).up K1)⟩
      rw [hb] at k
      dsimp only at k
      have K02 := K1.trans K2
      walk_at "v"
      refine w_callX ?_
      walk_at "v"
      refine ⟨l, ps, ls, nm, rfl, K02 _ _ hl, hx, h100, hp1.same K2, n8, res_of (fun ins hb pin H3 K3 ein => ?_) (fun b hb => (k.bad (by rw [hb])).up K02)⟩
      rw [hb] at k
      dsimp only at k
      have K03 := K02.trans K3
      have K13 := K2.trans K3
      walk_at "v"
      refine w_callX ?_
      walk_at "v"
      refine ⟨l, ps, ls, nm, rfl, K03 _ _ hl, hx, h100, hp1.same K13, res_of (fun ans hb H4 K4 => ?_) (fun b hb => (k.bad (by rw [hb])).up K03)⟩
      rw [hb] at k
      dsimp only at k
      have K04 := K03.trans K4
      have K14 := K13.trans K4
      walk_at "v"
      refine w_compR2X ?_
      walk_at "v"
      refine ⟨l, _, rfl, .inl (SqL.of (K04 _ _ hl)), ?_⟩
      refine ⟨4, _, rfl, ⟨by decide, by decide, by rw [List.length_map]; omega, by rw [List.length_map]; omega⟩, fun D hD => ?_⟩
      rw [show ((((ls.map V.str).length : Nat) : Int) - 4).toNat = (ls.map spl).length - 4 by rw [List.length_map, List.length_map]; omega]
      refine cgo_range (n := (ls.map spl).length - 4) (fun i ys H' => ∃ (rs : List Addr) (acc : List (List Int × List Int)), ys = rs.map V.ref ∧ rs.length = i ∧ Same H4 H' ∧ RlsD H' rs acc ∧ rRs (ls.map spl) nm ((ls.map spl).length - 4) 4 [] = rRs (ls.map spl) nm ((ls.map spl).length - 4 - i) (i + 4) acc) ⟨[], [], rfl, rfl, Same.new (Same.refl H4) hD, trivial, rfl⟩ ?_ ?_
      · rintro i ys H5 hi ⟨rs, acc, rfl, hrl, K5, h5, hr5⟩ hDy R S kR _
        rw [show (ls.map spl).length - 4 - i = ((ls.map spl).length - 4 - (i + 1)) + 1 by omega, rRs_step] at hr5
        have hi' : i < ls.length := by rw [List.length_map] at hi; omega
        walk_at "v"
        refine w_callX ?_
        walk_at "v"
        rw [show ((4 : Int) + (i : Int)) = ((i + 4 : Nat) : Int) by omega]
        refine ⟨l, ps, i + 4, ls, nm, rfl, K5 _ _ (K04 _ _ hl), hx, h100, hp1.same (K14.trans K5), n8, res_of (fun r hr' p H6 K6 hpn h6 => ?_) (fun b hb => (k.bad (by rw [hr5, hb])).up (K04.trans K5))⟩
        rw [hr'] at hr5
        have hD6 : H6 D = some (.lst (rs.map V.ref)) := K6 _ _ hDy
        refine kR _ _ hD6 (by rw [List.length_map]; exact small1000 (by omega)) ⟨rs ++ [p], acc ++ [r], by rw [List.map_append]; rfl, by rw [List.length_append, hrl]; rfl, (K5.trans K6).put hD, ?_, ?_⟩
        · exact ((h5.same K6).off hD6).snoc (h6.off hD6)
        · rw [hr5]
      rintro ys H5 ⟨rs, acc, rfl, hrl, K5, h5, hr5⟩ e5
      rw [Nat.sub_self] at hr5
      have hr5 : rRs (ls.map spl) nm ((ls.map spl).length - 4) 4 [] = .ok acc := hr5
      rw [hr5] at k
      walk_at "v"
      refine ⟨D, _, rfl, e5, fun pr H6 K6 e6 => ?_⟩
      have K46 := K5.trans K6
      have K06 := K04.trans K46
      walk_at "v"
      refine ⟨by show 5 ≤ sizeLine; decide, fun p hp => ?_⟩
      have KU : Same H6 (upd H6 p (.tup [.ref ps, .ref pr, .ref pin, .ref pb, .int (ans : Int)])) := Same.new (Same.refl _) hp
      refine k p _ (K06.new hp) (K06.free hp) ⟨ps, pr, pin, pb, rs, upd_same, ?_, KU _ _ e6, (h5.same K6).same KU, KU _ _ (K46 _ _ (K4 _ _ ein)), KU _ _ (K46 _ _ (K4 _ _ (K3 _ _ eb)))⟩
      exact ((hp1.same K14).same K46).same KU
end
end K05

set_option Elab.async false
set_option linter.all false
set_option maxRecDepth 100000
namespace L2
open PySem PySem.Spec PyProof.Rows
/-! ### displays of things: one reading for the whole display -/
noncomputable def tTh (t : Th) : TE := fun _ H Q => ∀ v H', Same H H' → ThAt H' v t → Q v H'
noncomputable def tThs (ts : List Th) : TA := fun _ H Q => ∀ vs H', Same H H' → ThsAt H' vs ts → Q vs H'
section
variable {X : Cx} {es : List Expr} {pos : Pos} {ts : List Th} {t : Th}
theorem pe_th_c {e : Expr} {v : V} (h : PE X e (tC v)) (hv : ∀ H, ThAt H v t) : PE X e (tTh t) := fun pins s σ H Q I q => h pins s σ H Q I (q v H (Same.refl H) (hv H))
theorem pe_th_tup {k : Nat} (h : PA X es (tThs ts)) (hl : ts.length ≤ 1000) : PE X (.Tuple es k pos) (tTh (.tup ts)) := fun pins s σ H Q I q =>
  pe_tup h pins s σ H Q I fun vs H1 K1 hv => ⟨by rw [hv.len]; exact Nat.le_of_lt (small1000 hl), fun p hp => q _ _ (K1.new hp) (.tup upd_same (ThsAt.ks (KS.new hp) hv))⟩
theorem pe_th_lst (h : PA X es (tThs ts)) (hl : ts.length ≤ 1000) : PE X (.List es pos) (tTh .lst) := fun pins s σ H Q I q =>
  pe_lst h pins s σ H Q I fun vs H1 K1 hv => ⟨by rw [hv.len]; exact Nat.le_of_lt (small1000 hl), fun p hp => q _ _ (K1.new hp) (.lst upd_same)⟩
theorem pe_th_dct : PE X (.Dict [] [] pos) (tTh .dct) := fun pins s σ H Q I q => pe_dnewK pins s σ H Q I fun p hp => q _ _ (Same.new (Same.refl H) hp) (.dct upd_same)
theorem pe_th_pow {a b : Int} {j k : Nat} {p1 p2 : Pos} (h : CPow a b) : PE X (.BinOp (.Constant (.int a) j p1) .Pow (.Constant (.int b) k p2) pos) (tTh (.int (a ^ b.toNat))) := fun pins s σ H Q I q =>
  pe_op op_pow pe_int pe_int pins s σ H Q I ⟨a, b, rfl, rfl, h, q _ _ (Same.refl H) (.int _)⟩
theorem pe_th_neg {n : Int} {j : Nat} {p : Pos} : PE X (.UnaryOp .USub (.Constant (.int n) j p) pos) (tTh (.int (-n))) := fun pins s σ H Q I h => pe_un un_neg pe_int pins s σ H Q I ⟨_, rfl, h _ _ (Same.refl H) (.int _)⟩
theorem pa_th_nil : PA X [] (tThs []) := fun p pins s σ H Q I h => pa_nil p pins s σ H Q I (h [] H (Same.refl H) .nil)
theorem pa_th_cons {e : Expr} (he : PE X e (tTh t)) (h : PA X es (tThs ts)) (hs : isStar e = false) : PA X (e :: es) (tThs (t :: ts)) := fun p pins s σ H Q I q =>
  pa_c he h hs p pins s σ H Q I fun v H1 K1 hv vs H2 K2 hvs => q _ _ (K1.trans K2) (.cons (ThAt.ks (KS.same K2) hv) hvs)
end
noncomputable def allTh (f : Expr → Option Th) : List Expr → Option (List Th)
  | [] => some []
  | e :: es => match f e, allTh f es with
    | some t, some ts => some (t :: ts)
    | _, _ => none
instance {a b : Int} : Decidable (CPow a b) := by unfold CPow; infer_instance
noncomputable def thOf : Nat → Expr → Option Th
  | 0, _ => none
  | _ + 1, .Constant .none _ _ => some .non
  | _ + 1, .Constant (.bool b) _ _ => some (.bl b)
  | _ + 1, .Constant (.int i) _ _ => some (.int i)
  | _ + 1, .Constant (.str s) _ _ => some (.str s)
  | _ + 1, .UnaryOp .USub (.Constant (.int i) _ _) _ => some (.int (-i))
  | _ + 1, .BinOp (.Constant (.int a) _ _) .Pow (.Constant (.int b) _ _) _ => if CPow a b then some (.int (a ^ b.toNat)) else none
  | n + 1, .Tuple es _ _ => match allTh (thOf n) es with
    | some ts => if ts.length ≤ 1000 then some (.tup ts) else none
    | none => none
  | n + 1, .List es _ => match allTh (thOf n) es with
    | some ts => if ts.length ≤ 1000 then some .lst else none
    | none => none
  | _ + 1, .Dict [] [] _ => some .dct
  | _, _ => none
theorem thOf_star : ∀ {n : Nat} {e : Expr} {t : Th}, thOf n e = some t → isStar e = false := by
  intro n e t h
  cases n with
  | zero => cases h
  | succ n => cases e <;> first | rfl | (simp [thOf] at h)
theorem pa_allTh {X : Cx} {f : Expr → Option Th} (hf : ∀ e t, f e = some t → PE X e (tTh t)) (hs : ∀ e t, f e = some t → isStar e = false) : ∀ {es : List Expr} {ts : List Th}, allTh f es = some ts → PA X es (tThs ts)
  | [], ts, h => by cases h; exact pa_th_nil
  | e :: es, ts, h => by
    unfold allTh at h
    split at h
    · rename_i t ts' h1 h2
      cases h
      exact pa_th_cons (hf e t h1) (pa_allTh hf hs h2) (hs e t h1)
    · cases h
theorem pe_thOf {X : Cx} : ∀ (n : Nat) (e : Expr) (t : Th), thOf n e = some t → PE X e (tTh t) := by
  intro n
  induction n with
  | zero => intro e t h; cases h
  | succ n ih =>
    intro e t h
    unfold thOf at h
    split at h
    all_goals first
      | (cases h; done)
      | (cases h; exact pe_th_c pe_non fun _ => .non)
      | (cases h; exact pe_th_c pe_bl fun _ => .bl _)
      | (cases h; exact pe_th_c pe_int fun _ => .int _)
      | (cases h; exact pe_th_c pe_str fun _ => .str _)
      | (cases h; exact pe_th_neg)
      | (cases h; exact pe_th_dct)
      | skip
    · rename_i n' a _ _ b _ _ _ hn
      split at h
      · rename_i hc; cases h; exact pe_th_pow hc
      · cases h
    · rename_i hn
      cases hn
      split at h
      · rename_i ts h1
        split at h
        · rename_i hl; cases h; exact pe_th_tup (pa_allTh ih (fun e t z => thOf_star z) h1) hl
        · cases h
      · cases h
    · rename_i hn
      cases hn
      split at h
      · rename_i ts h1
        split at h
        · rename_i hl; cases h; exact pe_th_lst (pa_allTh ih (fun e t z => thOf_star z) h1) hl
        · cases h
      · cases h
/-- a display: its items -/
theorem pa_thsOf {X : Cx} {n : Nat} {es : List Expr} {ts : List Th} (h : allTh (thOf n) es = some ts) : PA X es (tThs ts) := pa_allTh (pe_thOf n) (fun e t z => thOf_star z) h
theorem w_ths {ts : List Th} {σ : St} {H : Hp} {Q : List V → Hp → Prop} (h : ∀ vs H', Same H H' → ThsAt H' vs ts → Q vs H') : tThs ts σ H Q := h
end L2

set_option Elab.async false
set_option linter.all false
set_option maxRecDepth 100000
namespace K05
open PySem L2 G2 PT
local macro_rules | `(tactic| walk_at "v") => `(tactic| repeat (with_reducible first
  | refine w_seq ?_ | refine w_asg ?_ | refine w_gname ?_ | refine w_op ?_ | refine w_var rfl ?_ | refine w_c ?_ | refine w_rI0 ?_ | refine w_ifs ?_ | refine w_ife ?_ | refine w_test ?_ | refine w_tb ?_ | refine w_bl ?_ | refine w_not ?_ | refine w_ret ?_ | refine w_retN ?_
  | refine w_nil ?_ | refine w_cons ?_ | refine w_lst ?_ | refine w_tup ?_ | refine w_cb ?_ | refine w_call ?_ | refine w_gsub ?_ | refine w_and ?_ | refine w_or ?_ | refine w_next ?_ | refine w_all ?_ | refine w_vals ?_ | refine w_compR ?_ | refine w_compT ?_ | refine w_forR ?_ | refine w_forT ?_ | refine w_forL ?_ | refine w_drop ?_ | refine w_bm ?_ | refine w_compZ ?_ | refine w_compL ?_ | refine w_chain ?_ | refine w_sl ?_ | refine w_nopart ?_ | refine w_part ?_ | refine w_unI ?_ | refine iteT ?_ | refine iteF ?_))
noncomputable def tabS : List (Str × Option (Nat × Nat)) := [(("sorts a b c d e f g h" : Str), none), (("sorts a b c d e f g h i" : Str), some (0, 9)), (("sorts" : Str), some (0, 1)), (("sorts " : Str), some (0, 1)), (("sorts a b a" : Str), some (0, 3)), (("sorts abcdefgh ab" : Str), none), (("sorts abcdefghi" : Str), some (0, 1)), (("" : Str), some (0, 0)), (("sorts a to" : Str), some (0, 2)), (("sort a" : Str), some (0, 0)), (("sorts a  b" : Str), some (0, 2)), (("sorts a b " : Str), some (0, 3)), (("sorts ins outer rules sortsa begins too" : Str), none), (("sorts in" : Str), some (0, 1)), (("sorts a B" : Str), some (0, 2))]
noncomputable def tabH : List (Nat × Str × Option Nat) := [(1, ("begin 0 99 10" : Str), none), (1, ("begin 0 100 1" : Str), some 2), (1, ("begin 0 1" : Str), some 3), (1, ("begin 0 1 2 3" : Str), some 4), (1, ("begin 0 01 2" : Str), some 2), (1, ("begin -1 0 0" : Str), some 1), (1, ("begin a 0 0" : Str), some 1), (1, ("begin" : Str), some 1), (1, ("begin 0 0 +1" : Str), some 3), (1, ("in a" : Str), some 0), (2, ("in" : Str), none), (2, ("in c a b" : Str), none), (2, ("in a a" : Str), some 2), (2, ("in a b c a" : Str), some 4), (2, ("in d" : Str), some 1), (2, ("in " : Str), some 1), (2, ("in a b" : Str), none), (2, ("out a" : Str), some 0), (3, ("out c" : Str), none), (3, ("out" : Str), some 1), (3, ("out d" : Str), some 1), (3, ("out a b" : Str), some 2), (3, ("out a " : Str), some 2), (3, ("rule 1 a to" : Str), some 0), (3, ("out  a" : Str), some 1), (3, ("out 1" : Str), some 1)]
noncomputable def tabR : List (Str × Option Nat) := [(("rule 1 a to" : Str), none), (("rule 9 a 9 b 9 c to 9 a 9 c" : Str), none), (("rule 1 a to 1 b" : Str), none), (("rule" : Str), some 1), (("rule to 1 a" : Str), some 1), (("rule 1 a" : Str), some 3), (("rule 1" : Str), some 2), (("rule 10 a to" : Str), some 1), (("rule 0 a to" : Str), some 1), (("rule 1 b 1 a to" : Str), some 4), (("rule 1 a 1 a to" : Str), some 4), (("rule 1 d to" : Str), some 2), (("rule 1 a to 1" : Str), some 5), (("rule 1 a to 1 a" : Str), some 6), (("rule 2 a 1 b to 2 a 1 b" : Str), some 10), (("rule 2 a 1 b to 2 a" : Str), none), (("rule 1 a to to" : Str), some 4), (("rule 1 a to 1 c 1 b" : Str), some 7), (("rule 1 a to 1 c 2 c" : Str), some 7), (("rule 1 a to 0 b" : Str), some 4), (("rule 1 a to 01 b" : Str), some 4), (("rule 1 a  to" : Str), some 3), (("rule 1 a to " : Str), some 4), (("rule a to" : Str), some 1), (("to" : Str), some 0), (("rule 1 to to" : Str), some 2), (("rule 1 a b to" : Str), some 3), (("rule 1 a to 9 b 1 d" : Str), some 7), (("rule 1 a to 10 b" : Str), some 4), (("rules 1 a to" : Str), some 0), (("rule 1 a to 1 b x" : Str), some 6), (("sorts a" : Str), some 0), (("" : Str), some 0), (("rule 1 a to 2 a" : Str), none)]
noncomputable def dueT : Option (Nat × Nat) → Th
  | none => .non
  | some (a, b) => .tup [.int (a : Int), .int (b : Int)]
noncomputable def dueI : Option Nat → Th
  | none => .non
  | some a => .int (a : Int)
noncomputable def thS (x : Str × Option (Nat × Nat)) : Th := .tup [.str x.1, dueT x.2]
noncomputable def thH (x : Nat × Str × Option Nat) : Th := .tup [.int (x.1 : Int), .str x.2.1, dueI x.2.2]
noncomputable def thR (x : Str × Option Nat) : Th := .tup [.str x.1, dueI x.2]
noncomputable def spT (ts : List Th) : Sp := fun vs H Q _ => vs = [] ∧ ∀ p us H', Same H H' → H p = none → H' p = some (.lst us) → ThsAt H' us ts → Q (.ref p) H'
noncomputable abbrev sTsl : Stmt := top 36
noncomputable abbrev nTsl : List Str := ["_law_eight", "_law_some"]
theorem nmTsl : Nm nTsl (defScope sTsl) := ⟨by decide +kernel, by decide +kernel⟩
theorem scTsl : FnScope nTsl [] (defScope sTsl) := ⟨rfl, rfl, rfl, by decide +kernel, rfl, by decide +kernel, by decide +kernel⟩
section
variable {P : Program} {w : World} {K : PySem.W.Frag} {mg : Str → Option Value} {base : Heap}
set_option maxHeartbeats 4000000 in
theorem ok_Tsl {f : Addr} {fd : FuncData} (B : Bl mg) (F : Fun K "_law_sorts_lines" "_law_sorts_lines" sTsl f fd) : FnOk P w K mg base CX0 1 f fd [] (spT (tabS.map thS)) := by
  refine F.ok scTsl (fun vs H Q E h => ?_) (fun cdv A outer s H vs Q E hr h => ?_)
  · obtain ⟨rfl, _⟩ := h
    rfl
  · obtain ⟨rfl, k⟩ := h
    refine' ⟨_, ?hb, ?rd⟩
    case' hb => skip
    case' hb => refine' pss_cons ?g1 ?g2
    case' g2 => refine' pss_cons ?g3 ?g4
    case' g4 => refine' pss_cons ?g5 ?g6
    case' g6 => refine' pss_cons ?g7 ?g8
    case' g8 => refine' pss_cons ?g9 ?g10
    case' g10 => refine' pss_one ?g11
    case g1 => exact ps_setD nmTsl 0 pe_str
    case g3 => exact ps_setD nmTsl 1 (pe_lst (pa_c (pe_tup (pa_2 (pe_op op_add_str pe_str (pvd nmTsl 0)) pe_non)) (pa_c (pe_tup (pa_2 (pe_op op_add_str (pe_op op_add_str pe_str (pvd nmTsl 0)) pe_str) (pe_tup (pa_2 pe_int pe_int)))) (pa_2 (pe_tup (pa_2 pe_str (pe_tup (pa_2 pe_int pe_int)))) (pe_tup (pa_2 pe_str (pe_tup (pa_2 pe_int pe_int))))))))
    case' g5 => refine' ps_setD nmTsl 1 ?g12
    case' g12 => refine' pe_op op_cat (pvd nmTsl 1) ?g13
    case g13 =>
      refine' pe_lst ?zz1
      case zz1 =>
        with_reducible refine pa_thsOf (n := 4) (ts := ((tabS.drop 4).take 4).map thS) ?_
        kernel_rfl
    case' g7 => refine' ps_setD nmTsl 1 ?g14
    case' g14 => refine' pe_op op_cat (pvd nmTsl 1) ?g15
    case g15 =>
      refine' pe_lst ?zz2
      case zz2 =>
        with_reducible refine pa_thsOf (n := 4) (ts := ((tabS.drop 8).take 4).map thS) ?_
        kernel_rfl
    case' g9 => refine' ps_setD nmTsl 1 ?g16
    case' g16 => refine' pe_op op_cat (pvd nmTsl 1) ?g17
    case g17 =>
      refine' pe_lst ?zz3
      case zz3 =>
        with_reducible refine pa_thsOf (n := 4) (ts := ((tabS.drop 12).take 3).map thS) ?_
        kernel_rfl
    case g11 => exact ps_ret (pvd nmTsl 1)
    case rd =>
      walk_at "v"
      refine ⟨_, _, rfl, rfl, by decide +kernel, ?_⟩
      rw [show ((Str.ofString "sorts ") ++ (Str.ofString "a b c d e f g h") : Str) = "sorts a b c d e f g h" by decide +kernel]
      walk_at "v"
      refine ⟨by show 2 ≤ sizeLine; decide, fun p1 hp1 => ?_⟩
      have K1 : Same H (upd H p1 (.tup [.str "sorts a b c d e f g h", .non])) := Same.new (Same.refl _) hp1
      have ep1 : upd H p1 (.tup [.str "sorts a b c d e f g h", .non]) p1 = some (.tup [.str "sorts a b c d e f g h", .non]) := upd_same
      generalize upd H p1 (.tup [.str "sorts a b c d e f g h", .non]) = H1 at K1 ep1 ⊢
      have KK1 : Same H H1 := K1
      walk_at "v"
      refine ⟨_, _, rfl, rfl, by decide +kernel, ?_⟩
      rw [show ((Str.ofString "sorts ") ++ (Str.ofString "a b c d e f g h") : Str) = "sorts a b c d e f g h" by decide +kernel]
      refine ⟨_, _, rfl, rfl, by decide +kernel, ?_⟩
      rw [show ((Str.ofString "sorts a b c d e f g h") ++ (Str.ofString " i") : Str) = "sorts a b c d e f g h i" by decide +kernel]
      walk_at "v"
      refine ⟨by show 2 ≤ sizeLine; decide, fun q2 hq2 => ?_⟩
      have K2 : Same H1 (upd H1 q2 (.tup [.int 0, .int 9])) := Same.new (Same.refl _) hq2
      have eq2 : upd H1 q2 (.tup [.int 0, .int 9]) q2 = some (.tup [.int 0, .int 9]) := upd_same
      generalize upd H1 q2 (.tup [.int 0, .int 9]) = H2 at K2 eq2 ⊢
      replace ep1 := K2 _ _ ep1
      have KK2 : Same H H2 := KK1.trans K2
      walk_at "v"
      refine ⟨by show 2 ≤ sizeLine; decide, fun p2 hp2 => ?_⟩
      have K3 : Same H2 (upd H2 p2 (.tup [.str "sorts a b c d e f g h i", .ref q2])) := Same.new (Same.refl _) hp2
      have ep2 : upd H2 p2 (.tup [.str "sorts a b c d e f g h i", .ref q2]) p2 = some (.tup [.str "sorts a b c d e f g h i", .ref q2]) := upd_same
      generalize upd H2 p2 (.tup [.str "sorts a b c d e f g h i", .ref q2]) = H3 at K3 ep2 ⊢
      replace ep1 := K3 _ _ ep1
      replace eq2 := K3 _ _ eq2
      have KK3 : Same H H3 := KK2.trans K3
      walk_at "v"
      refine ⟨by show 2 ≤ sizeLine; decide, fun q3 hq3 => ?_⟩
      have K4 : Same H3 (upd H3 q3 (.tup [.int 0, .int 1])) := Same.new (Same.refl _) hq3
      have eq3 : upd H3 q3 (.tup [.int 0, .int 1]) q3 = some (.tup [.int 0, .int 1]) := upd_same
      generalize upd H3 q3 (.tup [.int 0, .int 1]) = H4 at K4 eq3 ⊢
      replace ep1 := K4 _ _ ep1
      replace eq2 := K4 _ _ eq2
      replace ep2 := K4 _ _ ep2
      have KK4 : Same H H4 := KK3.trans K4
      walk_at "v"
      refine ⟨by show 2 ≤ sizeLine; decide, fun p3 hp3 => ?_⟩
      have K5 : Same H4 (upd H4 p3 (.tup [.str "sorts", .ref q3])) := Same.new (Same.refl _) hp3
      have ep3 : upd H4 p3 (.tup [.str "sorts", .ref q3]) p3 = some (.tup [.str "sorts", .ref q3]) := upd_same
      generalize upd H4 p3 (.tup [.str "sorts", .ref q3]) = H5 at K5 ep3 ⊢
      replace ep1 := K5 _ _ ep1
      replace eq2 := K5 _ _ eq2
      replace ep2 := K5 _ _ ep2
      replace eq3 := K5 _ _ eq3
      have KK5 : Same H H5 := KK4.trans K5
      walk_at "v"
      refine ⟨by show 2 ≤ sizeLine; decide, fun q4 hq4 => ?_⟩
      have K6 : Same H5 (upd H5 q4 (.tup [.int 0, .int 1])) := Same.new (Same.refl _) hq4
      have eq4 : upd H5 q4 (.tup [.int 0, .int 1]) q4 = some (.tup [.int 0, .int 1]) := upd_same
      generalize upd H5 q4 (.tup [.int 0, .int 1]) = H6 at K6 eq4 ⊢
      replace ep1 := K6 _ _ ep1
      replace eq2 := K6 _ _ eq2
      replace ep2 := K6 _ _ ep2
      replace eq3 := K6 _ _ eq3
      replace ep3 := K6 _ _ ep3
      have KK6 : Same H H6 := KK5.trans K6
      walk_at "v"
      refine ⟨by show 2 ≤ sizeLine; decide, fun p4 hp4 => ?_⟩
      have K7 : Same H6 (upd H6 p4 (.tup [.str "sorts ", .ref q4])) := Same.new (Same.refl _) hp4
      have ep4 : upd H6 p4 (.tup [.str "sorts ", .ref q4]) p4 = some (.tup [.str "sorts ", .ref q4]) := upd_same
      generalize upd H6 p4 (.tup [.str "sorts ", .ref q4]) = H7 at K7 ep4 ⊢
      replace ep1 := K7 _ _ ep1
      replace eq2 := K7 _ _ eq2
      replace ep2 := K7 _ _ ep2
      replace eq3 := K7 _ _ eq3
      replace ep3 := K7 _ _ ep3
      replace eq4 := K7 _ _ eq4
      have KK7 : Same H H7 := KK6.trans K7
      walk_at "v"
      refine ⟨by show 4 ≤ sizeLine; decide, fun o0 ho0 => ?_⟩
      have n0 : H o0 = none := KK7.free ho0
      have K8 : Same H7 (upd H7 o0 (.lst [.ref p1, .ref p2, .ref p3, .ref p4])) := Same.new (Same.refl _) ho0
      have eo0 : upd H7 o0 (.lst [.ref p1, .ref p2, .ref p3, .ref p4]) o0 = some (.lst [.ref p1, .ref p2, .ref p3, .ref p4]) := upd_same
      generalize upd H7 o0 (.lst [.ref p1, .ref p2, .ref p3, .ref p4]) = H8 at K8 eo0 ⊢
      replace ep1 := K8 _ _ ep1
      replace eq2 := K8 _ _ eq2
      replace ep2 := K8 _ _ ep2
      replace eq3 := K8 _ _ eq3
      replace ep3 := K8 _ _ ep3
      replace eq4 := K8 _ _ eq4
      replace ep4 := K8 _ _ ep4
      have KK8 : Same H H8 := KK7.trans K8
      have hA : ThsAt H8 [.ref p1, .ref p2, .ref p3, .ref p4] (((tabS.drop 0).take 4).map thS) := .cons (.tup ep1 (.cons (.str _) (.cons .non .nil))) (.cons (.tup ep2 (.cons (.str _) (.cons (.tup eq2 (.cons (.int _) (.cons (.int _) .nil))) .nil))) (.cons (.tup ep3 (.cons (.str _) (.cons (.tup eq3 (.cons (.int _) (.cons (.int _) .nil))) .nil))) (.cons (.tup ep4 (.cons (.str _) (.cons (.tup eq4 (.cons (.int _) (.cons (.int _) .nil))) .nil))) .nil)))
      generalize ([V.ref p1, .ref p2, .ref p3, .ref p4] : List V) = us at eo0 hA
      walk_at "v"
      refine w_ths fun us1 H9 K9 hB => ?_
      replace hA := hA.ks (KS.same K9)
      have eo0' := K9 _ _ eo0
      have KK9 : Same H H9 := KK8.trans K9
      have lB1 : us1.length = 4 := hB.len
      have lA1 : us.length = 4 := hA.len
      refine ⟨by rw [lB1]; decide, fun r1 hr1 => ?_⟩
      have K10 : Same H9 (upd H9 r1 (.lst us1)) := Same.new (Same.refl _) hr1
      have er1 : upd H9 r1 (.lst us1) r1 = some (.lst us1) := upd_same
      generalize upd H9 r1 (.lst us1) = H10 at K10 er1 ⊢
      replace eo0' := K10 _ _ eo0'
      have KK10 : Same H H10 := KK9.trans K10
      replace hA := (hA.ks (KS.same K10)).app (hB.ks (KS.same K10))
      refine ⟨o0, r1, _, _, rfl, rfl, eo0', er1, by rw [lA1, lB1]; decide, fun o1 ho1 => ?_⟩
      generalize hv1 : us ++ us1 = vs1 at hA ⊢
      clear n0
      have n0 : H o1 = none := KK10.free ho1
      have K11 : Same H10 (upd H10 o1 (.lst vs1)) := Same.new (Same.refl _) ho1
      have eo1 : upd H10 o1 (.lst vs1) o1 = some (.lst vs1) := upd_same
      generalize upd H10 o1 (.lst vs1) = H11 at K11 eo1 ⊢
      have KK11 : Same H H11 := KK10.trans K11
      replace hA := hA.ks (KS.same K11)
      clear hv1 lA1 lB1
      walk_at "v"
      refine w_ths fun us2 H12 K12 hB => ?_
      replace hA := hA.ks (KS.same K12)
      have eo1' := K12 _ _ eo1
      have KK12 : Same H H12 := KK11.trans K12
      have lB2 : us2.length = 4 := hB.len
      have lA2 : vs1.length = 8 := hA.len
      refine ⟨by rw [lB2]; decide, fun r2 hr2 => ?_⟩
      have K13 : Same H12 (upd H12 r2 (.lst us2)) := Same.new (Same.refl _) hr2
      have er2 : upd H12 r2 (.lst us2) r2 = some (.lst us2) := upd_same
      generalize upd H12 r2 (.lst us2) = H13 at K13 er2 ⊢
      replace eo1' := K13 _ _ eo1'
      have KK13 : Same H H13 := KK12.trans K13
      replace hA := (hA.ks (KS.same K13)).app (hB.ks (KS.same K13))
      refine ⟨o1, r2, _, _, rfl, rfl, eo1', er2, by rw [lA2, lB2]; decide, fun o2 ho2 => ?_⟩
      generalize hv2 : vs1 ++ us2 = vs2 at hA ⊢
      clear n0
      have n0 : H o2 = none := KK13.free ho2
      have K14 : Same H13 (upd H13 o2 (.lst vs2)) := Same.new (Same.refl _) ho2
      have eo2 : upd H13 o2 (.lst vs2) o2 = some (.lst vs2) := upd_same
      generalize upd H13 o2 (.lst vs2) = H14 at K14 eo2 ⊢
      have KK14 : Same H H14 := KK13.trans K14
      replace hA := hA.ks (KS.same K14)
      clear hv2 lA2 lB2
      walk_at "v"
      refine w_ths fun us3 H15 K15 hB => ?_
      replace hA := hA.ks (KS.same K15)
      have eo2' := K15 _ _ eo2
      have KK15 : Same H H15 := KK14.trans K15
      have lB3 : us3.length = 3 := hB.len
      have lA3 : vs2.length = 12 := hA.len
      refine ⟨by rw [lB3]; decide, fun r3 hr3 => ?_⟩
      have K16 : Same H15 (upd H15 r3 (.lst us3)) := Same.new (Same.refl _) hr3
      have er3 : upd H15 r3 (.lst us3) r3 = some (.lst us3) := upd_same
      generalize upd H15 r3 (.lst us3) = H16 at K16 er3 ⊢
      replace eo2' := K16 _ _ eo2'
      have KK16 : Same H H16 := KK15.trans K16
      replace hA := (hA.ks (KS.same K16)).app (hB.ks (KS.same K16))
      refine ⟨o2, r3, _, _, rfl, rfl, eo2', er3, by rw [lA3, lB3]; decide, fun o3 ho3 => ?_⟩
      generalize hv3 : vs2 ++ us3 = vs3 at hA ⊢
      clear n0
      have n0 : H o3 = none := KK16.free ho3
      have K17 : Same H16 (upd H16 o3 (.lst vs3)) := Same.new (Same.refl _) ho3
      have eo3 : upd H16 o3 (.lst vs3) o3 = some (.lst vs3) := upd_same
      generalize upd H16 o3 (.lst vs3) = H17 at K17 eo3 ⊢
      have KK17 : Same H H17 := KK16.trans K17
      replace hA := hA.ks (KS.same K17)
      clear hv3 lA3 lB3
      walk_at "v"
      exact k o3 _ _ KK17 n0 eo3 hA
end
noncomputable abbrev sThl : Stmt := top 37
noncomputable abbrev nThl : List Str := ["_law_some"]
theorem nmThl : Nm nThl (defScope sThl) := ⟨by decide +kernel, by decide +kernel⟩
theorem scThl : FnScope nThl [] (defScope sThl) := ⟨rfl, rfl, rfl, by decide +kernel, rfl, by decide +kernel, by decide +kernel⟩
section
variable {P : Program} {w : World} {K : PySem.W.Frag} {mg : Str → Option Value} {base : Heap}
set_option maxHeartbeats 4000000 in
theorem ok_Thl {f : Addr} {fd : FuncData} (B : Bl mg) (F : Fun K "_law_head_lines" "_law_head_lines" sThl f fd) : FnOk P w K mg base CX0 1 f fd [] (spT (tabH.map thH)) := by
  refine F.ok scThl (fun vs H Q E h => ?_) (fun cdv A outer s H vs Q E hr h => ?_)
  · obtain ⟨rfl, _⟩ := h
    rfl
  · obtain ⟨rfl, k⟩ := h
    refine' ⟨_, ?hb, ?rd⟩
    case' hb => skip
    case' hb => refine' pss_cons ?g1 ?g2
    case' g2 => refine' pss_cons ?g3 ?g4
    case' g4 => refine' pss_cons ?g5 ?g6
    case' g6 => refine' pss_cons ?g7 ?g8
    case' g8 => refine' pss_cons ?g9 ?g10
    case' g10 => refine' pss_one ?g11
    case' g1 => refine' ps_setD nmThl 0 ?g12
    case g12 =>
      refine' pe_lst ?zz0
      case zz0 =>
        with_reducible refine pa_thsOf (n := 4) (ts := ((tabH.drop 0).take 4).map thH) ?_
        kernel_rfl
    case' g3 => refine' ps_setD nmThl 0 ?g13
    case' g13 => refine' pe_op op_cat (pvd nmThl 0) ?g14
    case g14 =>
      refine' pe_lst ?zz1
      case zz1 =>
        with_reducible refine pa_thsOf (n := 4) (ts := ((tabH.drop 4).take 4).map thH) ?_
        kernel_rfl
    case' g5 => refine' ps_setD nmThl 0 ?g15
    case' g15 => refine' pe_op op_cat (pvd nmThl 0) ?g16
    case g16 =>
      refine' pe_lst ?zz2
      case zz2 =>
        with_reducible refine pa_thsOf (n := 4) (ts := ((tabH.drop 8).take 5).map thH) ?_
        kernel_rfl
    case' g7 => refine' ps_setD nmThl 0 ?g17
    case' g17 => refine' pe_op op_cat (pvd nmThl 0) ?g18
    case g18 =>
      refine' pe_lst ?zz3
      case zz3 =>
        with_reducible refine pa_thsOf (n := 4) (ts := ((tabH.drop 13).take 5).map thH) ?_
        kernel_rfl
    case' g9 => refine' ps_setD nmThl 0 ?g19
    case' g19 => refine' pe_op op_cat (pvd nmThl 0) ?g20
    case g20 =>
      refine' pe_lst ?zz4
      case zz4 =>
        with_reducible refine pa_thsOf (n := 4) (ts := ((tabH.drop 18).take 5).map thH) ?_
        kernel_rfl
    case' g11 => refine' ps_ret ?g21
    case' g21 => refine' pe_op op_cat (pvd nmThl 0) ?g22
    case g22 =>
      refine' pe_lst ?zz5
      case zz5 =>
        with_reducible refine pa_thsOf (n := 4) (ts := ((tabH.drop 23).take 3).map thH) ?_
        kernel_rfl
    case rd =>
      walk_at "v"
      refine w_ths fun us H1 K1 hA => ?_
      refine ⟨by rw [hA.len]; decide, fun o0 ho0 => ?_⟩
      have n0 : H o0 = none := K1.free ho0
      have K2 : Same H1 (upd H1 o0 (.lst us)) := Same.new (Same.refl _) ho0
      have eo0 : upd H1 o0 (.lst us) o0 = some (.lst us) := upd_same
      generalize upd H1 o0 (.lst us) = H2 at K2 eo0 ⊢
      have KK2 : Same H H2 := K1.trans K2
      replace hA := hA.ks (KS.same K2)
      walk_at "v"
      refine w_ths fun us1 H3 K3 hB => ?_
      replace hA := hA.ks (KS.same K3)
      have eo0' := K3 _ _ eo0
      have KK3 : Same H H3 := KK2.trans K3
      have lB1 : us1.length = 4 := hB.len
      have lA1 : us.length = 4 := hA.len
      refine ⟨by rw [lB1]; decide, fun r1 hr1 => ?_⟩
      have K4 : Same H3 (upd H3 r1 (.lst us1)) := Same.new (Same.refl _) hr1
      have er1 : upd H3 r1 (.lst us1) r1 = some (.lst us1) := upd_same
      generalize upd H3 r1 (.lst us1) = H4 at K4 er1 ⊢
      replace eo0' := K4 _ _ eo0'
      have KK4 : Same H H4 := KK3.trans K4
      replace hA := (hA.ks (KS.same K4)).app (hB.ks (KS.same K4))
      refine ⟨o0, r1, _, _, rfl, rfl, eo0', er1, by rw [lA1, lB1]; decide, fun o1 ho1 => ?_⟩
      generalize hv1 : us ++ us1 = vs1 at hA ⊢
      clear n0
      have n0 : H o1 = none := KK4.free ho1
      have K5 : Same H4 (upd H4 o1 (.lst vs1)) := Same.new (Same.refl _) ho1
      have eo1 : upd H4 o1 (.lst vs1) o1 = some (.lst vs1) := upd_same
      generalize upd H4 o1 (.lst vs1) = H5 at K5 eo1 ⊢
      have KK5 : Same H H5 := KK4.trans K5
      replace hA := hA.ks (KS.same K5)
      clear hv1 lA1 lB1
      walk_at "v"
      refine w_ths fun us2 H6 K6 hB => ?_
      replace hA := hA.ks (KS.same K6)
      have eo1' := K6 _ _ eo1
      have KK6 : Same H H6 := KK5.trans K6
      have lB2 : us2.length = 5 := hB.len
      have lA2 : vs1.length = 8 := hA.len
      refine ⟨by rw [lB2]; decide, fun r2 hr2 => ?_⟩
      have K7 : Same H6 (upd H6 r2 (.lst us2)) := Same.new (Same.refl _) hr2
      have er2 : upd H6 r2 (.lst us2) r2 = some (.lst us2) := upd_same
      generalize upd H6 r2 (.lst us2) = H7 at K7 er2 ⊢
      replace eo1' := K7 _ _ eo1'
      have KK7 : Same H H7 := KK6.trans K7
      replace hA := (hA.ks (KS.same K7)).app (hB.ks (KS.same K7))
      refine ⟨o1, r2, _, _, rfl, rfl, eo1', er2, by rw [lA2, lB2]; decide, fun o2 ho2 => ?_⟩
      generalize hv2 : vs1 ++ us2 = vs2 at hA ⊢
      clear n0
      have n0 : H o2 = none := KK7.free ho2
      have K8 : Same H7 (upd H7 o2 (.lst vs2)) := Same.new (Same.refl _) ho2
      have eo2 : upd H7 o2 (.lst vs2) o2 = some (.lst vs2) := upd_same
      generalize upd H7 o2 (.lst vs2) = H8 at K8 eo2 ⊢
      have KK8 : Same H H8 := KK7.trans K8
      replace hA := hA.ks (KS.same K8)
      clear hv2 lA2 lB2
      walk_at "v"
      refine w_ths fun us3 H9 K9 hB => ?_
      replace hA := hA.ks (KS.same K9)
      have eo2' := K9 _ _ eo2
      have KK9 : Same H H9 := KK8.trans K9
      have lB3 : us3.length = 5 := hB.len
      have lA3 : vs2.length = 13 := hA.len
      refine ⟨by rw [lB3]; decide, fun r3 hr3 => ?_⟩
      have K10 : Same H9 (upd H9 r3 (.lst us3)) := Same.new (Same.refl _) hr3
      have er3 : upd H9 r3 (.lst us3) r3 = some (.lst us3) := upd_same
      generalize upd H9 r3 (.lst us3) = H10 at K10 er3 ⊢
      replace eo2' := K10 _ _ eo2'
      have KK10 : Same H H10 := KK9.trans K10
      replace hA := (hA.ks (KS.same K10)).app (hB.ks (KS.same K10))
      refine ⟨o2, r3, _, _, rfl, rfl, eo2', er3, by rw [lA3, lB3]; decide, fun o3 ho3 => ?_⟩
      generalize hv3 : vs2 ++ us3 = vs3 at hA ⊢
      clear n0
      have n0 : H o3 = none := KK10.free ho3
      have K11 : Same H10 (upd H10 o3 (.lst vs3)) := Same.new (Same.refl _) ho3
      have eo3 : upd H10 o3 (.lst vs3) o3 = some (.lst vs3) := upd_same
      generalize upd H10 o3 (.lst vs3) = H11 at K11 eo3 ⊢
      have KK11 : Same H H11 := KK10.trans K11
      replace hA := hA.ks (KS.same K11)
      clear hv3 lA3 lB3
      walk_at "v"
      refine w_ths fun us4 H12 K12 hB => ?_
      replace hA := hA.ks (KS.same K12)
      have eo3' := K12 _ _ eo3
      have KK12 : Same H H12 := KK11.trans K12
      have lB4 : us4.length = 5 := hB.len
      have lA4 : vs3.length = 18 := hA.len
      refine ⟨by rw [lB4]; decide, fun r4 hr4 => ?_⟩
      have K13 : Same H12 (upd H12 r4 (.lst us4)) := Same.new (Same.refl _) hr4
      have er4 : upd H12 r4 (.lst us4) r4 = some (.lst us4) := upd_same
      generalize upd H12 r4 (.lst us4) = H13 at K13 er4 ⊢
      replace eo3' := K13 _ _ eo3'
      have KK13 : Same H H13 := KK12.trans K13
      replace hA := (hA.ks (KS.same K13)).app (hB.ks (KS.same K13))
      refine ⟨o3, r4, _, _, rfl, rfl, eo3', er4, by rw [lA4, lB4]; decide, fun o4 ho4 => ?_⟩
      generalize hv4 : vs3 ++ us4 = vs4 at hA ⊢
      clear n0
      have n0 : H o4 = none := KK13.free ho4
      have K14 : Same H13 (upd H13 o4 (.lst vs4)) := Same.new (Same.refl _) ho4
      have eo4 : upd H13 o4 (.lst vs4) o4 = some (.lst vs4) := upd_same
      generalize upd H13 o4 (.lst vs4) = H14 at K14 eo4 ⊢
      have KK14 : Same H H14 := KK13.trans K14
      replace hA := hA.ks (KS.same K14)
      clear hv4 lA4 lB4
      walk_at "v"
      refine w_ths fun us5 H15 K15 hB => ?_
      replace hA := hA.ks (KS.same K15)
      have eo4' := K15 _ _ eo4
      have KK15 : Same H H15 := KK14.trans K15
      have lB5 : us5.length = 3 := hB.len
      have lA5 : vs4.length = 23 := hA.len
      refine ⟨by rw [lB5]; decide, fun r5 hr5 => ?_⟩
      have K16 : Same H15 (upd H15 r5 (.lst us5)) := Same.new (Same.refl _) hr5
      have er5 : upd H15 r5 (.lst us5) r5 = some (.lst us5) := upd_same
      generalize upd H15 r5 (.lst us5) = H16 at K16 er5 ⊢
      replace eo4' := K16 _ _ eo4'
      have KK16 : Same H H16 := KK15.trans K16
      replace hA := (hA.ks (KS.same K16)).app (hB.ks (KS.same K16))
      refine ⟨o4, r5, _, _, rfl, rfl, eo4', er5, by rw [lA5, lB5]; decide, fun o5 ho5 => ?_⟩
      generalize hv5 : vs4 ++ us5 = vs5 at hA ⊢
      clear n0
      have n0 : H o5 = none := KK16.free ho5
      have K17 : Same H16 (upd H16 o5 (.lst vs5)) := Same.new (Same.refl _) ho5
      have eo5 : upd H16 o5 (.lst vs5) o5 = some (.lst vs5) := upd_same
      generalize upd H16 o5 (.lst vs5) = H17 at K17 eo5 ⊢
      have KK17 : Same H H17 := KK16.trans K17
      replace hA := hA.ks (KS.same K17)
      clear hv5 lA5 lB5
      walk_at "v"
      exact k o5 _ _ KK17 n0 eo5 hA
end
noncomputable abbrev sTrl : Stmt := top 38
noncomputable abbrev nTrl : List Str := ["_law_some"]
theorem nmTrl : Nm nTrl (defScope sTrl) := ⟨by decide +kernel, by decide +kernel⟩
theorem scTrl : FnScope nTrl [] (defScope sTrl) := ⟨rfl, rfl, rfl, by decide +kernel, rfl, by decide +kernel, by decide +kernel⟩
section
variable {P : Program} {w : World} {K : PySem.W.Frag} {mg : Str → Option Value} {base : Heap}
set_option maxHeartbeats 4000000 in
theorem ok_Trl {f : Addr} {fd : FuncData} (B : Bl mg) (F : Fun K "_law_rule_lines" "_law_rule_lines" sTrl f fd) : FnOk P w K mg base CX0 1 f fd [] (spT (tabR.map thR)) := by
  refine F.ok scTrl (fun vs H Q E h => ?_) (fun cdv A outer s H vs Q E hr h => ?_)
  · obtain ⟨rfl, _⟩ := h
    rfl
  · obtain ⟨rfl, k⟩ := h
    refine' ⟨_, ?hb, ?rd⟩
    case' hb => skip
    case' hb => refine' pss_cons ?g1 ?g2
    case' g2 => refine' pss_cons ?g3 ?g4
    case' g4 => refine' pss_cons ?g5 ?g6
    case' g6 => refine' pss_cons ?g7 ?g8
    case' g8 => refine' pss_cons ?g9 ?g10
    case' g10 => refine' pss_cons ?g11 ?g12
    case' g12 => refine' pss_cons ?g13 ?g14
    case' g14 => refine' pss_cons ?g15 ?g16
    case' g16 => refine' pss_one ?g17
    case' g1 => refine' ps_setD nmTrl 0 ?g18
    case g18 =>
      refine' pe_lst ?zz0
      case zz0 =>
        with_reducible refine pa_thsOf (n := 4) (ts := ((tabR.drop 0).take 4).map thR) ?_
        kernel_rfl
    case' g3 => refine' ps_setD nmTrl 0 ?g19
    case' g19 => refine' pe_op op_cat (pvd nmTrl 0) ?g20
    case g20 =>
      refine' pe_lst ?zz1
      case zz1 =>
        with_reducible refine pa_thsOf (n := 4) (ts := ((tabR.drop 4).take 5).map thR) ?_
        kernel_rfl
    case' g5 => refine' ps_setD nmTrl 0 ?g21
    case' g21 => refine' pe_op op_cat (pvd nmTrl 0) ?g22
    case g22 =>
      refine' pe_lst ?zz2
      case zz2 =>
        with_reducible refine pa_thsOf (n := 4) (ts := ((tabR.drop 9).take 4).map thR) ?_
        kernel_rfl
    case' g7 => refine' ps_setD nmTrl 0 ?g23
    case' g23 => refine' pe_op op_cat (pvd nmTrl 0) ?g24
    case g24 =>
      refine' pe_lst ?zz3
      case zz3 =>
        with_reducible refine pa_thsOf (n := 4) (ts := ((tabR.drop 13).take 3).map thR) ?_
        kernel_rfl
    case' g9 => refine' ps_setD nmTrl 0 ?g25
    case' g25 => refine' pe_op op_cat (pvd nmTrl 0) ?g26
    case g26 =>
      refine' pe_lst ?zz4
      case zz4 =>
        with_reducible refine pa_thsOf (n := 4) (ts := ((tabR.drop 16).take 3).map thR) ?_
        kernel_rfl
    case' g11 => refine' ps_setD nmTrl 0 ?g27
    case' g27 => refine' pe_op op_cat (pvd nmTrl 0) ?g28
    case g28 =>
      refine' pe_lst ?zz5
      case zz5 =>
        with_reducible refine pa_thsOf (n := 4) (ts := ((tabR.drop 19).take 1).map thR) ?_
        kernel_rfl
    case' g13 => refine' ps_setD nmTrl 0 ?g29
    case' g29 => refine' pe_op op_cat (pvd nmTrl 0) ?g30
    case g30 =>
      refine' pe_lst ?zz6
      case zz6 =>
        with_reducible refine pa_thsOf (n := 4) (ts := ((tabR.drop 20).take 5).map thR) ?_
        kernel_rfl
    case' g15 => refine' ps_setD nmTrl 0 ?g31
    case' g31 => refine' pe_op op_cat (pvd nmTrl 0) ?g32
    case g32 =>
      refine' pe_lst ?zz7
      case zz7 =>
        with_reducible refine pa_thsOf (n := 4) (ts := ((tabR.drop 25).take 4).map thR) ?_
        kernel_rfl
    case' g17 => refine' ps_ret ?g33
    case' g33 => refine' pe_op op_cat (pvd nmTrl 0) ?g34
    case g34 =>
      refine' pe_lst ?zz8
      case zz8 =>
        with_reducible refine pa_thsOf (n := 4) (ts := ((tabR.drop 29).take 5).map thR) ?_
        kernel_rfl
    case rd =>
      walk_at "v"
      refine w_ths fun us H1 K1 hA => ?_
      refine ⟨by rw [hA.len]; decide, fun o0 ho0 => ?_⟩
      have n0 : H o0 = none := K1.free ho0
      have K2 : Same H1 (upd H1 o0 (.lst us)) := Same.new (Same.refl _) ho0
      have eo0 : upd H1 o0 (.lst us) o0 = some (.lst us) := upd_same
      generalize upd H1 o0 (.lst us) = H2 at K2 eo0 ⊢
      have KK2 : Same H H2 := K1.trans K2
      replace hA := hA.ks (KS.same K2)
      walk_at "v"
      refine w_ths fun us1 H3 K3 hB => ?_
      replace hA := hA.ks (KS.same K3)
      have eo0' := K3 _ _ eo0
      have KK3 : Same H H3 := KK2.trans K3
      have lB1 : us1.length = 5 := hB.len
      have lA1 : us.length = 4 := hA.len
      refine ⟨by rw [lB1]; decide, fun r1 hr1 => ?_⟩
      have K4 : Same H3 (upd H3 r1 (.lst us1)) := Same.new (Same.refl _) hr1
      have er1 : upd H3 r1 (.lst us1) r1 = some (.lst us1) := upd_same
      generalize upd H3 r1 (.lst us1) = H4 at K4 er1 ⊢
      replace eo0' := K4 _ _ eo0'
      have KK4 : Same H H4 := KK3.trans K4
      replace hA := (hA.ks (KS.same K4)).app (hB.ks (KS.same K4))
      refine ⟨o0, r1, _, _, rfl, rfl, eo0', er1, by rw [lA1, lB1]; decide, fun o1 ho1 => ?_⟩
      generalize hv1 : us ++ us1 = vs1 at hA ⊢
      clear n0
      have n0 : H o1 = none := KK4.free ho1
      have K5 : Same H4 (upd H4 o1 (.lst vs1)) := Same.new (Same.refl _) ho1
      have eo1 : upd H4 o1 (.lst vs1) o1 = some (.lst vs1) := upd_same
      generalize upd H4 o1 (.lst vs1) = H5 at K5 eo1 ⊢
      have KK5 : Same H H5 := KK4.trans K5
      replace hA := hA.ks (KS.same K5)
      clear hv1 lA1 lB1
      walk_at "v"
      refine w_ths fun us2 H6 K6 hB => ?_
      replace hA := hA.ks (KS.same K6)
      have eo1' := K6 _ _ eo1
      have KK6 : Same H H6 := KK5.trans K6
      have lB2 : us2.length = 4 := hB.len
      have lA2 : vs1.length = 9 := hA.len
      refine ⟨by rw [lB2]; decide, fun r2 hr2 => ?_⟩
      have K7 : Same H6 (upd H6 r2 (.lst us2)) := Same.new (Same.refl _) hr2
      have er2 : upd H6 r2 (.lst us2) r2 = some (.lst us2) := upd_same
      generalize upd H6 r2 (.lst us2) = H7 at K7 er2 ⊢
      replace eo1' := K7 _ _ eo1'
      have KK7 : Same H H7 := KK6.trans K7
      replace hA := (hA.ks (KS.same K7)).app (hB.ks (KS.same K7))
      refine ⟨o1, r2, _, _, rfl, rfl, eo1', er2, by rw [lA2, lB2]; decide, fun o2 ho2 => ?_⟩
      generalize hv2 : vs1 ++ us2 = vs2 at hA ⊢
      clear n0
      have n0 : H o2 = none := KK7.free ho2
      have K8 : Same H7 (upd H7 o2 (.lst vs2)) := Same.new (Same.refl _) ho2
      have eo2 : upd H7 o2 (.lst vs2) o2 = some (.lst vs2) := upd_same
      generalize upd H7 o2 (.lst vs2) = H8 at K8 eo2 ⊢
      have KK8 : Same H H8 := KK7.trans K8
      replace hA := hA.ks (KS.same K8)
      clear hv2 lA2 lB2
      walk_at "v"
      refine w_ths fun us3 H9 K9 hB => ?_
      replace hA := hA.ks (KS.same K9)
      have eo2' := K9 _ _ eo2
      have KK9 : Same H H9 := KK8.trans K9
      have lB3 : us3.length = 3 := hB.len
      have lA3 : vs2.length = 13 := hA.len
      refine ⟨by rw [lB3]; decide, fun r3 hr3 => ?_⟩
      have K10 : Same H9 (upd H9 r3 (.lst us3)) := Same.new (Same.refl _) hr3
      have er3 : upd H9 r3 (.lst us3) r3 = some (.lst us3) := upd_same
      generalize upd H9 r3 (.lst us3) = H10 at K10 er3 ⊢
      replace eo2' := K10 _ _ eo2'
      have KK10 : Same H H10 := KK9.trans K10
      replace hA := (hA.ks (KS.same K10)).app (hB.ks (KS.same K10))
      refine ⟨o2, r3, _, _, rfl, rfl, eo2', er3, by rw [lA3, lB3]; decide, fun o3 ho3 => ?_⟩
      generalize hv3 : vs2 ++ us3 = vs3 at hA ⊢
      clear n0
      have n0 : H o3 = none := KK10.free ho3
      have K11 : Same H10 (upd H10 o3 (.lst vs3)) := Same.new (Same.refl _) ho3
      have eo3 : upd H10 o3 (.lst vs3) o3 = some (.lst vs3) := upd_same
      generalize upd H10 o3 (.lst vs3) = H11 at K11 eo3 ⊢
      have KK11 : Same H H11 := KK10.trans K11
      replace hA := hA.ks (KS.same K11)
      clear hv3 lA3 lB3
      walk_at "v"
      refine w_ths fun us4 H12 K12 hB => ?_
      replace hA := hA.ks (KS.same K12)
      have eo3' := K12 _ _ eo3
      have KK12 : Same H H12 := KK11.trans K12
      have lB4 : us4.length = 3 := hB.len
      have lA4 : vs3.length = 16 := hA.len
      refine ⟨by rw [lB4]; decide, fun r4 hr4 => ?_⟩
      have K13 : Same H12 (upd H12 r4 (.lst us4)) := Same.new (Same.refl _) hr4
      have er4 : upd H12 r4 (.lst us4) r4 = some (.lst us4) := upd_same
      generalize upd H12 r4 (.lst us4) = H13 at K13 er4 ⊢
      replace eo3' := K13 _ _ eo3'
      have KK13 : Same H H13 := KK12.trans K13
      replace hA := (hA.ks (KS.same K13)).app (hB.ks (KS.same K13))
      refine ⟨o3, r4, _, _, rfl, rfl, eo3', er4, by rw [lA4, lB4]; decide, fun o4 ho4 => ?_⟩
      generalize hv4 : vs3 ++ us4 = vs4 at hA ⊢
      clear n0
      have n0 : H o4 = none := KK13.free ho4
      have K14 : Same H13 (upd H13 o4 (.lst vs4)) := Same.new (Same.refl _) ho4
      have eo4 : upd H13 o4 (.lst vs4) o4 = some (.lst vs4) := upd_same
      generalize upd H13 o4 (.lst vs4) = H14 at K14 eo4 ⊢
      have KK14 : Same H H14 := KK13.trans K14
      replace hA := hA.ks (KS.same K14)
      clear hv4 lA4 lB4
      walk_at "v"
      refine w_ths fun us5 H15 K15 hB => ?_
      replace hA := hA.ks (KS.same K15)
      have eo4' := K15 _ _ eo4
      have KK15 : Same H H15 := KK14.trans K15
      have lB5 : us5.length = 1 := hB.len
      have lA5 : vs4.length = 19 := hA.len
      refine ⟨by rw [lB5]; decide, fun r5 hr5 => ?_⟩
      have K16 : Same H15 (upd H15 r5 (.lst us5)) := Same.new (Same.refl _) hr5
      have er5 : upd H15 r5 (.lst us5) r5 = some (.lst us5) := upd_same
      generalize upd H15 r5 (.lst us5) = H16 at K16 er5 ⊢
      replace eo4' := K16 _ _ eo4'
      have KK16 : Same H H16 := KK15.trans K16
      replace hA := (hA.ks (KS.same K16)).app (hB.ks (KS.same K16))
      refine ⟨o4, r5, _, _, rfl, rfl, eo4', er5, by rw [lA5, lB5]; decide, fun o5 ho5 => ?_⟩
      generalize hv5 : vs4 ++ us5 = vs5 at hA ⊢
      clear n0
      have n0 : H o5 = none := KK16.free ho5
      have K17 : Same H16 (upd H16 o5 (.lst vs5)) := Same.new (Same.refl _) ho5
      have eo5 : upd H16 o5 (.lst vs5) o5 = some (.lst vs5) := upd_same
      generalize upd H16 o5 (.lst vs5) = H17 at K17 eo5 ⊢
      have KK17 : Same H H17 := KK16.trans K17
      replace hA := hA.ks (KS.same K17)
      clear hv5 lA5 lB5
      walk_at "v"
      refine w_ths fun us6 H18 K18 hB => ?_
      replace hA := hA.ks (KS.same K18)
      have eo5' := K18 _ _ eo5
      have KK18 : Same H H18 := KK17.trans K18
      have lB6 : us6.length = 5 := hB.len
      have lA6 : vs5.length = 20 := hA.len
      refine ⟨by rw [lB6]; decide, fun r6 hr6 => ?_⟩
      have K19 : Same H18 (upd H18 r6 (.lst us6)) := Same.new (Same.refl _) hr6
      have er6 : upd H18 r6 (.lst us6) r6 = some (.lst us6) := upd_same
      generalize upd H18 r6 (.lst us6) = H19 at K19 er6 ⊢
      replace eo5' := K19 _ _ eo5'
      have KK19 : Same H H19 := KK18.trans K19
      replace hA := (hA.ks (KS.same K19)).app (hB.ks (KS.same K19))
      refine ⟨o5, r6, _, _, rfl, rfl, eo5', er6, by rw [lA6, lB6]; decide, fun o6 ho6 => ?_⟩
      generalize hv6 : vs5 ++ us6 = vs6 at hA ⊢
      clear n0
      have n0 : H o6 = none := KK19.free ho6
      have K20 : Same H19 (upd H19 o6 (.lst vs6)) := Same.new (Same.refl _) ho6
      have eo6 : upd H19 o6 (.lst vs6) o6 = some (.lst vs6) := upd_same
      generalize upd H19 o6 (.lst vs6) = H20 at K20 eo6 ⊢
      have KK20 : Same H H20 := KK19.trans K20
      replace hA := hA.ks (KS.same K20)
      clear hv6 lA6 lB6
      walk_at "v"
      refine w_ths fun us7 H21 K21 hB => ?_
      replace hA := hA.ks (KS.same K21)
      have eo6' := K21 _ _ eo6
      have KK21 : Same H H21 := KK20.trans K21
      have lB7 : us7.length = 4 := hB.len
      have lA7 : vs6.length = 25 := hA.len
      refine ⟨by rw [lB7]; decide, fun r7 hr7 => ?_⟩
      have K22 : Same H21 (upd H21 r7 (.lst us7)) := Same.new (Same.refl _) hr7
      have er7 : upd H21 r7 (.lst us7) r7 = some (.lst us7) := upd_same
      generalize upd H21 r7 (.lst us7) = H22 at K22 er7 ⊢
      replace eo6' := K22 _ _ eo6'
      have KK22 : Same H H22 := KK21.trans K22
      replace hA := (hA.ks (KS.same K22)).app (hB.ks (KS.same K22))
      refine ⟨o6, r7, _, _, rfl, rfl, eo6', er7, by rw [lA7, lB7]; decide, fun o7 ho7 => ?_⟩
      generalize hv7 : vs6 ++ us7 = vs7 at hA ⊢
      clear n0
      have n0 : H o7 = none := KK22.free ho7
      have K23 : Same H22 (upd H22 o7 (.lst vs7)) := Same.new (Same.refl _) ho7
      have eo7 : upd H22 o7 (.lst vs7) o7 = some (.lst vs7) := upd_same
      generalize upd H22 o7 (.lst vs7) = H23 at K23 eo7 ⊢
      have KK23 : Same H H23 := KK22.trans K23
      replace hA := hA.ks (KS.same K23)
      clear hv7 lA7 lB7
      walk_at "v"
      refine w_ths fun us8 H24 K24 hB => ?_
      replace hA := hA.ks (KS.same K24)
      have eo7' := K24 _ _ eo7
      have KK24 : Same H H24 := KK23.trans K24
      have lB8 : us8.length = 5 := hB.len
      have lA8 : vs7.length = 29 := hA.len
      refine ⟨by rw [lB8]; decide, fun r8 hr8 => ?_⟩
      have K25 : Same H24 (upd H24 r8 (.lst us8)) := Same.new (Same.refl _) hr8
      have er8 : upd H24 r8 (.lst us8) r8 = some (.lst us8) := upd_same
      generalize upd H24 r8 (.lst us8) = H25 at K25 er8 ⊢
      replace eo7' := K25 _ _ eo7'
      have KK25 : Same H H25 := KK24.trans K25
      replace hA := (hA.ks (KS.same K25)).app (hB.ks (KS.same K25))
      refine ⟨o7, r8, _, _, rfl, rfl, eo7', er8, by rw [lA8, lB8]; decide, fun o8 ho8 => ?_⟩
      generalize hv8 : vs7 ++ us8 = vs8 at hA ⊢
      clear n0
      have n0 : H o8 = none := KK25.free ho8
      have K26 : Same H25 (upd H25 o8 (.lst vs8)) := Same.new (Same.refl _) ho8
      have eo8 : upd H25 o8 (.lst vs8) o8 = some (.lst vs8) := upd_same
      generalize upd H25 o8 (.lst vs8) = H26 at K26 eo8 ⊢
      have KK26 : Same H H26 := KK25.trans K26
      replace hA := hA.ks (KS.same K26)
      clear hv8 lA8 lB8
      walk_at "v"
      exact k o8 _ _ KK26 n0 eo8 hA
end
end K05

set_option Elab.async false
set_option linter.all false
set_option maxRecDepth 100000
namespace EL
/-- what is made of some: sums, times, parts -/
inductive Sp (S : (Nat → Int) → Prop) : (Nat → Int) → Prop
  | of {v} : S v → Sp S v
  | zero : Sp S (fun _ => 0)
  | add {u v} : Sp S u → Sp S v → Sp S (fun j => u j + v j)
  | smul {u} (c : Int) : Sp S u → Sp S (fun j => c * u j)
  | div {u} {c : Int} : c ≠ 0 → Sp S (fun j => c * u j) → Sp S u
theorem Sp.le {S T : (Nat → Int) → Prop} (h : ∀ v, S v → Sp T v) {v : Nat → Int} (p : Sp S v) : Sp T v := by
  induction p with
  | of a => exact h _ a
  | zero => exact .zero
  | add _ _ a b => exact .add a b
  | smul c _ a => exact .smul c a
  | div hc _ a => exact .div hc a
/-- one that is so many times a sum -/
theorem Sp.lin {S : (Nat → Int) → Prop} {u v w : Nat → Int} {a b d : Int} (hd : d ≠ 0) (hu : Sp S u) (hv : Sp S v) (h : ∀ j, d * w j = a * u j + b * v j) : Sp S w := by
  refine .div hd ?_
  rw [show (fun j => d * w j) = (fun j => a * u j + b * v j) from funext h]
  exact .add (.smul a hu) (.smul b hv)
/-- what is nought of all is nought of what is made of them -/
theorem Sp.nought {S : (Nat → Int) → Prop} (φ : (Nat → Int) → Int) (ha : ∀ u v, φ (fun j => u j + v j) = φ u + φ v) (hs : ∀ (c : Int) u, φ (fun j => c * u j) = c * φ u) (h0 : ∀ v, S v → φ v = 0) {v : Nat → Int} (p : Sp S v) : φ v = 0 := by
  induction p with
  | of a => exact h0 _ a
  | zero =>
    have := hs 0 (fun _ => 0)
    simpa using this
  | add _ _ a b => rw [ha, a, b]; rfl
  | smul c _ a => rw [hs, a, Int.mul_zero]
  | div hc _ a =>
    rw [hs] at a
    exact (Int.mul_eq_zero.mp a).resolve_left hc
noncomputable def cf (xs : List Int) : Nat → Int := fun j => xs.getD j 0
noncomputable def SpR (rows : List (List Int)) : (Nat → Int) → Prop := Sp (fun v => ∃ r ∈ rows, v = cf r)
theorem SpR.mem {rows : List (List Int)} {r : List Int} (h : r ∈ rows) : SpR rows (cf r) := .of ⟨r, h, rfl⟩
theorem SpR.le {R T : List (List Int)} (h : ∀ r ∈ R, SpR T (cf r)) {v : Nat → Int} (p : SpR R v) : SpR T v := Sp.le (fun v ⟨r, hr, e⟩ => e ▸ h r hr) p
theorem SpR.at0 {R : List (List Int)} {k : Nat} (h : ∀ r ∈ R, cf r k = 0) {v : Nat → Int} (p : SpR R v) : v k = 0 :=
  Sp.nought (fun v => v k) (fun _ _ => rfl) (fun _ _ => rfl) (fun v ⟨r, hr, e⟩ => e ▸ h r hr) p
/-! ### the greatest common divisor -/
noncomputable def gcdL (xs : List Int) : Nat := xs.foldl (fun g x => Nat.gcd g x.natAbs) 0
theorem gcd_fold : ∀ (xs : List Int) (g : Nat), xs.foldl (fun g x => Nat.gcd g x.natAbs) g ∣ g ∧ ∀ x ∈ xs, xs.foldl (fun g x => Nat.gcd g x.natAbs) g ∣ x.natAbs
  | [], g => ⟨Nat.dvd_refl g, fun x h => nomatch h⟩
  | y :: xs, g => by
    obtain ⟨h1, h2⟩ := gcd_fold xs (Nat.gcd g y.natAbs)
    refine ⟨Nat.dvd_trans h1 (Nat.gcd_dvd_left _ _), fun x hx => ?_⟩
    rcases List.mem_cons.mp hx with rfl | hx
    · exact Nat.dvd_trans h1 (Nat.gcd_dvd_right _ _)
    · exact h2 x hx
theorem gcdL_dvd {xs : List Int} {x : Int} (h : x ∈ xs) : gcdL xs ∣ x.natAbs := (gcd_fold xs 0).2 x h
theorem dvd_fold {d : Nat} : ∀ (xs : List Int) (g : Nat), d ∣ g → (∀ x ∈ xs, d ∣ x.natAbs) → d ∣ xs.foldl (fun g x => Nat.gcd g x.natAbs) g
  | [], _, h, _ => h
  | y :: xs, g, h, k => dvd_fold xs _ (Nat.dvd_gcd h (k y List.mem_cons_self)) fun x hx => k x (List.mem_cons_of_mem _ hx)
theorem dvd_gcdL {d : Nat} {xs : List Int} (h : ∀ x ∈ xs, d ∣ x.natAbs) : d ∣ gcdL xs := dvd_fold xs 0 (Nat.dvd_zero d) h
theorem gcdL_zero {xs : List Int} (h : gcdL xs = 0) : ∀ x ∈ xs, x = 0 := fun x hx => by
  have := gcdL_dvd hx
  rw [h, Nat.zero_dvd] at this
  omega
/-- without a divisor -/
noncomputable def wd (xs : List Int) : List Int := xs.map fun x => if 0 < gcdL xs then x / (gcdL xs : Int) else 0
theorem wd_len (xs : List Int) : (wd xs).length = xs.length := List.length_map _
noncomputable def dv (xs : List Int) : Int := if 0 < gcdL xs then (gcdL xs : Int) else 1
theorem dv_pos (xs : List Int) : 0 < dv xs := by
  unfold dv
  split <;> omega
theorem wd_mul {xs : List Int} {x : Int} (h : x ∈ xs) : dv xs * (if 0 < gcdL xs then x / (gcdL xs : Int) else 0) = x := by
  unfold dv
  split
  · exact Int.mul_ediv_cancel' (Int.ofNat_dvd_left.mpr (gcdL_dvd h))
  · rw [gcdL_zero (by omega) x h]
    rfl
theorem getD_mem {α : Type} {xs : List α} {j : Nat} {d : α} (h : j < xs.length) : xs.getD j d ∈ xs := by
  rw [List.getD_eq_getElem?_getD, List.getElem?_eq_getElem h]
  exact List.getElem_mem h
theorem getD_out {α : Type} {xs : List α} {j : Nat} {d : α} (h : xs.length ≤ j) : xs.getD j d = d := by
  rw [List.getD_eq_getElem?_getD, List.getElem?_eq_none h]
  rfl
theorem getD_map' {α β : Type} (f : α → β) {xs : List α} {j : Nat} {d : β} {e : α} (h : j < xs.length) : (xs.map f).getD j d = f (xs.getD j e) := by
  rw [List.getD_eq_getElem?_getD, List.getD_eq_getElem?_getD, List.getElem?_map, List.getElem?_eq_getElem h]
  rfl
theorem wd_at (xs : List Int) (j : Nat) : dv xs * cf (wd xs) j = cf xs j := by
  unfold cf
  by_cases h : j < xs.length
  · unfold wd
    rw [getD_map' (e := 0) _ h]
    exact wd_mul (getD_mem h)
  · rw [getD_out (by rw [wd_len]; omega), getD_out (by omega), Int.mul_zero]
theorem natAbs_le_mul {d y x : Int} (hd : 0 < d) (h : d * y = x) : y.natAbs ≤ x.natAbs := by
  rw [← h, Int.natAbs_mul]
  exact Nat.le_mul_of_pos_left _ (by omega)
theorem wd_abs {xs : List Int} {y : Int} (h : y ∈ wd xs) : ∃ x ∈ xs, y.natAbs ≤ x.natAbs := by
  obtain ⟨x, hx, rfl⟩ := List.mem_map.mp h
  exact ⟨x, hx, natAbs_le_mul (dv_pos xs) (wd_mul hx)⟩
theorem gcd_wd {xs : List Int} (h : ∃ x ∈ xs, x ≠ 0) : gcdL (wd xs) = 1 := by
  have hg : 0 < gcdL xs := by
    obtain ⟨x, hx, h0⟩ := h
    rcases Nat.eq_zero_or_pos (gcdL xs) with z | z
    · exact absurd (gcdL_zero z x hx) h0
    · exact z
  have hdv : dv xs = (gcdL xs : Int) := if_pos hg
  have : gcdL xs * gcdL (wd xs) ∣ gcdL xs := by
    refine dvd_gcdL fun x hx => ?_
    have e := wd_mul hx
    have m : (if 0 < gcdL xs then x / (gcdL xs : Int) else 0) ∈ wd xs := List.mem_map.mpr ⟨x, hx, rfl⟩
    rw [← e, Int.natAbs_mul, hdv, Int.natAbs_natCast]
    exact Nat.mul_dvd_mul_left _ (gcdL_dvd m)
  have h2 := Nat.le_of_dvd hg this
  have h3 : gcdL xs * gcdL (wd xs) ≤ gcdL xs * 1 := by omega
  have h4 := Nat.le_of_mul_le_mul_left h3 hg
  rcases Nat.eq_zero_or_pos (gcdL (wd xs)) with z | z
  · obtain ⟨x, hx, h0⟩ := h
    have m : (if 0 < gcdL xs then x / (gcdL xs : Int) else 0) ∈ wd xs := List.mem_map.mpr ⟨x, hx, rfl⟩
    have e := wd_mul hx
    rw [gcdL_zero z _ m, Int.mul_zero] at e
    exact absurd e.symm h0
  · omega
/-! ### a column taken out of a row -/
noncomputable def wcol (row lead : List Int) (c : Nat) : List Int := wd (List.zipWith (fun a b => lead.getD c 0 * a - row.getD c 0 * b) row lead)
theorem zw_at {row lead : List Int} {n : Nat} (h1 : row.length = n) (h2 : lead.length = n) (g : Int → Int → Int) (g0 : g 0 0 = 0) (j : Nat) : cf (List.zipWith g row lead) j = g (cf row j) (cf lead j) := by
  unfold cf
  by_cases h : j < n
  · rw [List.getD_eq_getElem?_getD, List.getD_eq_getElem?_getD, List.getD_eq_getElem?_getD, List.getElem?_zipWith, List.getElem?_eq_getElem (by omega), List.getElem?_eq_getElem (by omega)]
    rfl
  · rw [getD_out (by rw [List.length_zipWith]; omega), getD_out (by omega), getD_out (by omega), g0]
theorem wcol_len {row lead : List Int} {n : Nat} (h1 : row.length = n) (h2 : lead.length = n) (c : Nat) : (wcol row lead c).length = n := by
  unfold wcol
  rw [wd_len, List.length_zipWith]
  omega
theorem wcol_at {row lead : List Int} {n : Nat} (h1 : row.length = n) (h2 : lead.length = n) (c : Nat) : ∃ d : Int, 0 < d ∧ ∀ j, d * cf (wcol row lead c) j = cf lead c * cf row j - cf row c * cf lead j :=
  ⟨_, dv_pos _, fun j => by
    unfold wcol
    rw [wd_at, zw_at h1 h2 _ (by simp)]
    rfl⟩
end EL

set_option Elab.async false
set_option linter.all false
set_option maxRecDepth 100000
namespace EL
noncomputable def ro (left : List (List Int)) (i j : Nat) : Int := cf (left.getD i []) j
noncomputable def firstW (rows : List (List Int)) (start c : Nat) : Option Nat := (List.range' start (rows.length - start)).find? fun i => decide (ro rows i c ≠ 0)
noncomputable def nextL (left : List (List Int)) (m p c : Nat) : List (List Int) := (((left.eraseIdx p).map fun r => wcol r (left.getD p []) c).insertIdx m (left.getD p []))
noncomputable def redS (c : Nat) (st : List (List Int) × List Nat) : List (List Int) × List Nat := match firstW st.1 st.2.length c with
  | none => st
  | some p => (nextL st.1 st.2.length p c, st.2 ++ [c])
noncomputable def red (rows : List (List Int)) : Nat → List (List Int) × List Nat
  | 0 => (rows, [])
  | c + 1 => redS c (red rows c)
noncomputable def bdE (b : Nat) : Nat → Nat
  | 0 => b
  | k + 1 => 2 * bdE b k + 1
/-- what holds when the columns below c are done -/
structure Rd (b n : Nat) (rows : List (List Int)) (c : Nat) (left : List (List Int)) (leads : List Nat) : Prop where
  len : ∀ r ∈ left, r.length = n
  cnt : left.length = rows.length
  le : leads.length ≤ left.length
  sp1 : ∀ v, SpR left v → SpR rows v
  sp2 : ∀ v, SpR rows v → SpR left v
  up : leads.Pairwise (· < ·)
  lt : ∀ l ∈ leads, l < c
  own : ∀ i, i < leads.length → ro left i (leads.getD i 0) ≠ 0
  oth : ∀ i k, i < leads.length → k < left.length → k ≠ i → ro left k (leads.getD i 0) = 0
  bef : ∀ i j, i < leads.length → j < leads.getD i 0 → ro left i j = 0
  low : ∀ k j, leads.length ≤ k → k < left.length → j < c → ro left k j = 0
  bit : ∀ r ∈ left, ∀ x ∈ r, x.natAbs < 2 ^ bdE b leads.length
theorem firstW_none {rows : List (List Int)} {s c : Nat} (h : firstW rows s c = none) : ∀ k, s ≤ k → k < rows.length → ro rows k c = 0 := fun k h1 h2 => by
  have := List.find?_eq_none.mp h k (List.mem_range'_1.mpr ⟨h1, by omega⟩)
  simpa using this
theorem firstW_some {rows : List (List Int)} {s c p : Nat} (h : firstW rows s c = some p) : s ≤ p ∧ p < rows.length ∧ ro rows p c ≠ 0 := by
  have h1 := List.find?_some h
  have h2 := List.mem_range'_1.mp (List.mem_of_find?_eq_some h)
  exact ⟨h2.1, by omega, by simpa using h1⟩
theorem nextL_len {left : List (List Int)} {m p c : Nat} (hp : p < left.length) (hm : m ≤ p) : (nextL left m p c).length = left.length := by
  unfold nextL
  rw [List.length_insertIdx, List.length_map, List.length_eraseIdx, if_pos hp]
  split <;> omega
theorem nextL_at {left : List (List Int)} {m p c : Nat} (hp : p < left.length) (hm : m ≤ p) (i : Nat) (hi : i < left.length) :
    (i = m ∧ (nextL left m p c).getD i [] = left.getD p []) ∨ (i ≠ m ∧ ∃ k, k < left.length ∧ k ≠ p ∧ (nextL left m p c).getD i [] = wcol (left.getD k []) (left.getD p []) c ∧ (i < m → k = i) ∧ (m < i → m ≤ k)) := by
  have hl : ((left.eraseIdx p).map fun r => wcol r (left.getD p []) c).length = left.length - 1 := by rw [List.length_map, List.length_eraseIdx, if_pos hp]
  have gq : ∀ q, q < left.length → left[q]? = some (left.getD q []) := fun q hq => by
    rw [List.getD_eq_getElem?_getD, List.getElem?_eq_getElem hq]
    rfl
  have key : ∀ q, q < left.length - 1 → ∃ k, k < left.length ∧ k ≠ p ∧ ((left.eraseIdx p).map fun r => wcol r (left.getD p []) c)[q]? = some (wcol (left.getD k []) (left.getD p []) c) ∧ (q < p → k = q) ∧ (p ≤ q → k = q + 1) := fun q hq => by
    by_cases h : q < p
    · refine ⟨q, by omega, by omega, ?_, fun _ => rfl, fun h' => by omega⟩
      rw [List.getElem?_map, List.getElem?_eraseIdx, if_pos h, gq q (by omega)]
      rfl
    · refine ⟨q + 1, by omega, by omega, ?_, fun h' => absurd h' h, fun _ => rfl⟩
      rw [List.getElem?_map, List.getElem?_eraseIdx, if_neg h, gq (q + 1) (by omega)]
      rfl
  unfold nextL
  by_cases h1 : i = m
  · refine .inl ⟨h1, ?_⟩
    rw [List.getD_eq_getElem?_getD, List.getElem?_insertIdx, if_neg (by omega), if_pos h1, if_pos (by rw [hl]; omega)]
    rfl
  · refine .inr ⟨h1, ?_⟩
    by_cases h2 : i < m
    · obtain ⟨k, k1, k2, k3, k4, k5⟩ := key i (by omega)
      refine ⟨k, k1, k2, ?_, fun _ => k4 (by omega), fun h => by omega⟩
      rw [List.getD_eq_getElem?_getD, List.getElem?_insertIdx, if_pos h2, k3]
      rfl
    · obtain ⟨k, k1, k2, k3, k4, k5⟩ := key (i - 1) (by omega)
      refine ⟨k, k1, k2, ?_, fun h => absurd h h2, fun h => ?_⟩
      · rw [List.getD_eq_getElem?_getD, List.getElem?_insertIdx, if_neg h2, if_neg h1, k3]
        rfl
      · rcases Nat.lt_or_ge (i - 1) p with z | z
        · rw [k4 z]
          omega
        · rw [k5 z]
          omega
theorem mem_getD {left : List (List Int)} {r : List Int} (h : r ∈ left) : ∃ i, i < left.length ∧ left.getD i [] = r := by
  obtain ⟨i, hi, e⟩ := List.getElem_of_mem h
  exact ⟨i, hi, by rw [List.getD_eq_getElem?_getD, List.getElem?_eq_getElem hi, e]; rfl⟩
theorem nextL_mem {left : List (List Int)} {m p c : Nat} (hp : p < left.length) (hm : m ≤ p) {r : List Int} (h : r ∈ nextL left m p c) : r = left.getD p [] ∨ ∃ k, k < left.length ∧ k ≠ p ∧ r = wcol (left.getD k []) (left.getD p []) c := by
  obtain ⟨i, hi, e⟩ := mem_getD h
  rw [nextL_len hp hm] at hi
  rcases nextL_at (c := c) hp hm i hi with ⟨_, h2⟩ | ⟨_, k, k1, k2, k3, _⟩
  · exact .inl (e.symm.trans h2)
  · exact .inr ⟨k, k1, k2, e.symm.trans k3⟩
theorem nextL_lead {left : List (List Int)} {m p c : Nat} (hp : p < left.length) (hm : m ≤ p) : left.getD p [] ∈ nextL left m p c := by
  unfold nextL
  rw [List.mem_insertIdx (by rw [List.length_map, List.length_eraseIdx, if_pos hp]; omega)]
  exact .inl rfl
theorem nextL_wcol {left : List (List Int)} {m p c k : Nat} (hp : p < left.length) (hm : m ≤ p) (hk : k < left.length) (hkp : k ≠ p) : wcol (left.getD k []) (left.getD p []) c ∈ nextL left m p c := by
  unfold nextL
  rw [List.mem_insertIdx (by rw [List.length_map, List.length_eraseIdx, if_pos hp]; omega)]
  refine .inr (List.mem_map.mpr ⟨_, ?_, rfl⟩)
  rw [List.mem_eraseIdx_iff_getElem?]
  exact ⟨k, hkp, by rw [List.getD_eq_getElem?_getD, List.getElem?_eq_getElem hk]; rfl⟩
theorem lt_pow_mul {a b : Int} {m : Nat} (ha : a.natAbs < 2 ^ m) (hb : b.natAbs < 2 ^ m) : (a * b).natAbs < 2 ^ (2 * m) := by
  rw [Int.natAbs_mul, Nat.two_mul, Nat.pow_add]
  exact Nat.mul_lt_mul_of_lt_of_lt ha hb
theorem getD_app1 {α : Type} {xs : List α} {a d : α} {i : Nat} (h : i < xs.length) : (xs ++ [a]).getD i d = xs.getD i d := by
  rw [List.getD_eq_getElem?_getD, List.getElem?_append_left h, List.getD_eq_getElem?_getD]
theorem getD_app2 {α : Type} {xs : List α} {a d : α} : (xs ++ [a]).getD xs.length d = a := by
  rw [List.getD_eq_getElem?_getD, List.getElem?_append_right (Nat.le_refl _), Nat.sub_self]
  rfl
theorem cf_bit {b : Nat} {r : List Int} (h : ∀ x ∈ r, x.natAbs < 2 ^ b) (j : Nat) : (cf r j).natAbs < 2 ^ b := by
  unfold cf
  by_cases hj : j < r.length
  · exact h _ (getD_mem hj)
  · rw [getD_out (by omega)]
    exact Nat.two_pow_pos b
theorem Rd.step {b n c : Nat} {rows left : List (List Int)} {leads : List Nat} (I : Rd b n rows c left leads) : Rd b n rows (c + 1) (redS c (left, leads)).1 (redS c (left, leads)).2 := by
  unfold redS
  cases hf : firstW left leads.length c with
  | none =>
    have z := firstW_none hf
    refine ⟨I.len, I.cnt, I.le, I.sp1, I.sp2, I.up, fun l hl => Nat.lt_succ_of_lt (I.lt l hl), I.own, I.oth, I.bef, fun k j h1 h2 h3 => ?_, I.bit⟩
    rcases Nat.lt_or_ge j c with q | q
    · exact I.low k j h1 h2 q
    · have : j = c := by omega
      rw [this]
      exact z k h1 h2
  | some p =>
    obtain ⟨p1, p2, p3⟩ := firstW_some hf
    show Rd b n rows (c + 1) (nextL left leads.length p c) (leads ++ [c])
    have hL := nextL_len (c := c) p2 p1
    have lenP : (left.getD p []).length = n := I.len _ (getD_mem p2)
    have lenK : ∀ k, k < left.length → (left.getD k []).length = n := fun k hk => I.len _ (getD_mem hk)
    have ll : (leads ++ [c]).length = leads.length + 1 := by simp
    have bitK : ∀ k, k < left.length → ∀ j, (ro left k j).natAbs < 2 ^ bdE b leads.length := fun k hk j => cf_bit (I.bit _ (getD_mem hk)) j
    have at_ := fun i hi => nextL_at (c := c) p2 p1 i hi
    refine ⟨fun r hr => ?_, hL.trans I.cnt, ?_, fun v hv => I.sp1 v (SpR.le (fun r hr => ?_) hv), fun v hv => SpR.le (fun r hr => ?_) (I.sp2 v hv), ?_, fun l hl => ?_, fun i hi => ?_, fun i k hi hk hki => ?_, fun i j hi hj => ?_, fun k j h1 h2 h3 => ?_, fun r hr x hx => ?_⟩
    · rcases nextL_mem p2 p1 hr with e | ⟨k, k1, _, e⟩
      · rw [e]; exact lenP
      · rw [e]; exact wcol_len (lenK k k1) lenP c
    · rw [ll, hL]
      omega
    · rcases nextL_mem p2 p1 hr with e | ⟨k, k1, _, e⟩
      · rw [e]; exact SpR.mem (getD_mem p2)
      · obtain ⟨d, d0, hd⟩ := wcol_at (lenK k k1) lenP c
        rw [e]
        exact Sp.lin (d := d) (a := cf (left.getD p []) c) (b := -cf (left.getD k []) c) (by omega) (SpR.mem (getD_mem k1)) (SpR.mem (getD_mem p2)) fun j => by rw [hd, Int.neg_mul, Int.sub_eq_add_neg]
    · obtain ⟨k, k1, e⟩ := mem_getD hr
      by_cases hkp : k = p
      · rw [← e, hkp]; exact SpR.mem (nextL_lead p2 p1)
      · obtain ⟨d, d0, hd⟩ := wcol_at (lenK k k1) lenP c
        rw [← e]
        refine Sp.lin (a := d) (b := cf (left.getD k []) c) p3 (SpR.mem (nextL_wcol p2 p1 k1 hkp)) (SpR.mem (nextL_lead p2 p1)) fun j => ?_
        rw [hd]
        show ro left p c * _ = _
        unfold ro
        omega
    · rw [List.pairwise_append]
      exact ⟨I.up, List.pairwise_singleton _ _, fun a ha b' hb => by rw [List.mem_singleton.mp hb]; exact I.lt a ha⟩
    · rcases List.mem_append.mp hl with h | h
      · exact Nat.lt_succ_of_lt (I.lt l h)
      · rw [List.mem_singleton.mp h]; omega
    · rw [ll] at hi
      unfold ro
      rcases at_ i (by omega) with ⟨h1, h2⟩ | ⟨h1, k, k1, k2, k3, k4, k5⟩
      · rw [h2, h1, getD_app2]
        exact p3
      · have hi' : i < leads.length := by omega
        obtain ⟨d, d0, hd⟩ := wcol_at (lenK k k1) lenP c
        have := hd (leads.getD i 0)
        rw [k3, getD_app1 hi']
        have e1 : cf (left.getD p []) (leads.getD i 0) = 0 := I.oth i p hi' p2 (by omega)
        have e2 : cf (left.getD k []) (leads.getD i 0) ≠ 0 := by rw [k4 hi']; exact I.own i hi'
        rw [e1, Int.mul_zero, Int.sub_zero] at this
        intro z
        rw [z, Int.mul_zero] at this
        exact (Int.mul_eq_zero.mp this.symm).elim p3 e2
    · rw [ll] at hi
      rw [hL] at hk
      unfold ro
      by_cases hic : i = leads.length
      · rw [hic, getD_app2]
        rcases at_ k hk with ⟨h1, h2⟩ | ⟨h1, q, k1, k2, k3, k4, k5⟩
        · omega
        · obtain ⟨d, d0, hd⟩ := wcol_at (lenK q k1) lenP c
          have := hd c
          rw [k3]
          rw [Int.mul_comm (cf (left.getD q []) c), Int.sub_self] at this
          exact (Int.mul_eq_zero.mp this).resolve_left (by omega)
      · have hi' : i < leads.length := by omega
        rw [getD_app1 hi']
        have e1 : cf (left.getD p []) (leads.getD i 0) = 0 := I.oth i p hi' p2 (by omega)
        rcases at_ k hk with ⟨h1, h2⟩ | ⟨h1, q, k1, k2, k3, k4, k5⟩
        · rw [h2]; exact e1
        · obtain ⟨d, d0, hd⟩ := wcol_at (lenK q k1) lenP c
          have := hd (leads.getD i 0)
          have hqi : q ≠ i := by
            rcases Nat.lt_or_ge k leads.length with z | z
            · rw [k4 z]; omega
            · have := k5 (by omega); omega
          rw [k3]
          rw [e1, show cf (left.getD q []) (leads.getD i 0) = 0 from I.oth i q hi' k1 hqi, Int.mul_zero, Int.mul_zero, Int.sub_self] at this
          exact (Int.mul_eq_zero.mp this).resolve_left (by omega)
    · rw [ll] at hi
      unfold ro
      rcases at_ i (by omega) with ⟨h1, h2⟩ | ⟨h1, k, k1, k2, k3, k4, k5⟩
      · rw [h1, getD_app2] at hj
        rw [h2]
        exact I.low p j (by omega) p2 hj
      · have hi' : i < leads.length := by omega
        rw [getD_app1 hi'] at hj
        have hc := I.lt (leads.getD i 0) (getD_mem hi')
        obtain ⟨d, d0, hd⟩ := wcol_at (lenK k k1) lenP c
        have := hd j
        rw [k3]
        rw [show cf (left.getD p []) j = 0 from I.low p j p1 p2 (by omega), show cf (left.getD k []) j = 0 by rw [k4 hi']; exact I.bef i j hi' hj, Int.mul_zero, Int.mul_zero, Int.sub_self] at this
        exact (Int.mul_eq_zero.mp this).resolve_left (by omega)
    · rw [ll] at h1
      rw [hL] at h2
      unfold ro
      rcases at_ k h2 with ⟨h4, _⟩ | ⟨h4, q, k1, k2, k3, k4, k5⟩
      · omega
      · obtain ⟨d, d0, hd⟩ := wcol_at (lenK q k1) lenP c
        have := hd j
        rw [k3]
        rcases Nat.lt_or_ge j c with z | z
        · rw [show cf (left.getD p []) j = 0 from I.low p j p1 p2 z, show cf (left.getD q []) j = 0 from I.low q j (k5 (by omega)) k1 z, Int.mul_zero, Int.mul_zero, Int.sub_self] at this
          exact (Int.mul_eq_zero.mp this).resolve_left (by omega)
        · have hj : j = c := by omega
          rw [hj, Int.mul_comm (cf (left.getD q []) c), Int.sub_self] at this
          rw [hj]
          exact (Int.mul_eq_zero.mp this).resolve_left (by omega)
    · rw [ll]
      show x.natAbs < 2 ^ (2 * bdE b leads.length + 1)
      have up1 : ∀ y : Int, y.natAbs < 2 ^ bdE b leads.length → y.natAbs < 2 ^ (2 * bdE b leads.length + 1) := fun y hy => Nat.lt_of_lt_of_le hy (Nat.pow_le_pow_right (by decide) (by omega))
      rcases nextL_mem p2 p1 hr with e | ⟨k, k1, _, e⟩
      · rw [e] at hx
        exact up1 x (I.bit _ (getD_mem p2) x hx)
      · rw [e] at hx
        obtain ⟨y, hy, hxy⟩ := wd_abs hx
        refine Nat.lt_of_le_of_lt hxy ?_
        obtain ⟨j, hj, e2⟩ := List.getElem_of_mem hy
        have e3 : y = cf (left.getD p []) c * cf (left.getD k []) j - cf (left.getD k []) c * cf (left.getD p []) j := by
          have := zw_at (lenK k k1) lenP (fun a b => (left.getD p []).getD c 0 * a - (left.getD k []).getD c 0 * b) (by simp) j
          unfold cf at this ⊢
          rw [← this, List.getD_eq_getElem?_getD, List.getElem?_eq_getElem hj]
          exact e2.symm
        have a1 := lt_pow_mul (bitK p p2 c) (bitK k k1 j)
        have a2 := lt_pow_mul (bitK k k1 c) (bitK p p2 j)
        unfold ro at a1 a2
        rw [e3, Nat.pow_succ]
        omega
theorem Rd.all {b n : Nat} {rows : List (List Int)} (hl : ∀ r ∈ rows, r.length = n) (hb : ∀ r ∈ rows, ∀ x ∈ r, x.natAbs < 2 ^ b) : ∀ c, Rd b n rows c (red rows c).1 (red rows c).2
  | 0 => ⟨hl, rfl, Nat.zero_le _, fun _ h => h, fun _ h => h, List.Pairwise.nil, (fun l h => nomatch h), fun i h => absurd h (Nat.not_lt_zero i), fun i k h => absurd h (Nat.not_lt_zero i), fun i j h => absurd h (Nat.not_lt_zero i), fun k j _ _ h => absurd h (Nat.not_lt_zero j), hb⟩
  | c + 1 => (Rd.all hl hb c).step
end EL

set_option Elab.async false
set_option linter.all false
set_option maxRecDepth 100000
namespace EL
noncomputable def dotF : Nat → (Nat → Int) → (Nat → Int) → Int
  | 0, _, _ => 0
  | n + 1, u, v => dotF n u v + u n * v n
theorem dotF_add (u v w : Nat → Int) : ∀ n, dotF n u (fun j => v j + w j) = dotF n u v + dotF n u w
  | 0 => rfl
  | n + 1 => by
    unfold dotF
    rw [dotF_add u v w n, Int.mul_add]
    omega
theorem dotF_smul (u v : Nat → Int) (c : Int) : ∀ n, dotF n u (fun j => c * v j) = c * dotF n u v
  | 0 => (Int.mul_zero c).symm
  | n + 1 => by
    unfold dotF
    rw [dotF_smul u v c n, Int.mul_add, Int.mul_left_comm]
theorem dotF_comm (u v : Nat → Int) : ∀ n, dotF n u v = dotF n v u
  | 0 => rfl
  | n + 1 => by
    unfold dotF
    rw [dotF_comm u v n, Int.mul_comm]
theorem dotF_sp {R : List (List Int)} {u v : Nat → Int} {n : Nat} (h : ∀ r ∈ R, dotF n u (cf r) = 0) (p : SpR R v) : dotF n u v = 0 :=
  Sp.nought (dotF n u) (fun a b => dotF_add u a b n) (fun c a => dotF_smul u a c n) (fun v ⟨r, hr, e⟩ => e ▸ h r hr) p
theorem dotF_none {u v : Nat → Int} : ∀ n, (∀ j, j < n → u j * v j = 0) → dotF n u v = 0
  | 0, _ => rfl
  | n + 1, h => by
    unfold dotF
    rw [dotF_none n (fun j hj => h j (by omega)), h n (by omega)]
    rfl
theorem dotF_one {u v : Nat → Int} {a : Nat} : ∀ n, a < n → (∀ j, j < n → j ≠ a → u j * v j = 0) → dotF n u v = u a * v a
  | 0, ha, _ => absurd ha (Nat.not_lt_zero a)
  | n + 1, ha, h => by
    unfold dotF
    by_cases e : a = n
    · rw [dotF_none n fun j hj => h j (by omega) (by omega), e, Int.zero_add]
    · rw [dotF_one n (by omega) (fun j hj q => h j (by omega) q), h n (by omega) (by omega), Int.add_zero]
theorem dotF_two {u v : Nat → Int} {a b : Nat} (hab : a ≠ b) : ∀ n, a < n → b < n → (∀ j, j < n → j ≠ a → j ≠ b → u j * v j = 0) → dotF n u v = u a * v a + u b * v b
  | 0, ha, _, _ => absurd ha (Nat.not_lt_zero a)
  | n + 1, ha, hb, h => by
    unfold dotF
    by_cases e : a = n
    · rw [dotF_one n (a := b) (by omega) (fun j hj q => h j (by omega) (by omega) q), e]
      omega
    · by_cases e2 : b = n
      · rw [dotF_one n (a := a) (by omega) (fun j hj q => h j (by omega) q (by omega)), e2]
      · rw [dotF_two hab n (by omega) (by omega) (fun j hj q q2 => h j (by omega) q q2), h n (by omega) (by omega) (by omega), Int.add_zero]
/-! ### a number that all leads part -/
noncomputable def cm (a b : Int) : Int := ((a * b).natAbs : Int) / (gcdL [a, b] : Int)
theorem gcdL_two (a b : Int) : gcdL [a, b] = Nat.gcd a.natAbs b.natAbs := by
  show Nat.gcd (Nat.gcd 0 a.natAbs) b.natAbs = _
  rw [Nat.gcd_zero_left]
theorem cm_eq (a b : Int) : cm a b = (Nat.lcm a.natAbs b.natAbs : Nat) := by
  unfold cm Nat.lcm
  rw [gcdL_two, Int.natAbs_mul]
  rfl
theorem cm_pos {a b : Int} (ha : a ≠ 0) (hb : b ≠ 0) : 0 < cm a b := by
  rw [cm_eq]
  have := Nat.lcm_pos (m := a.natAbs) (n := b.natAbs) (by omega) (by omega)
  omega
theorem cm_left (a b : Int) : a ∣ cm a b := by
  rw [cm_eq]
  exact Int.ofNat_dvd_right.mpr (Nat.dvd_lcm_left _ _)
theorem cm_right (a b : Int) : b ∣ cm a b := by
  rw [cm_eq]
  exact Int.ofNat_dvd_right.mpr (Nat.dvd_lcm_right _ _)
theorem cm_abs (a b : Int) : (cm a b).natAbs ≤ a.natAbs * b.natAbs := by
  rw [cm_eq, Int.natAbs_natCast]
  exact Nat.div_le_self _ _
noncomputable def botK (rows : List (List Int)) (leads : List Nat) : Nat → Int
  | 0 => 1
  | k + 1 => cm (botK rows leads k) (ro rows k (leads.getD k 0))
noncomputable def numV (rows : List (List Int)) (leads : List Nat) (free k : Nat) (bt : Int) : Int := -ro rows k free * (bt.fdiv (ro rows k (leads.getD k 0)))
noncomputable def numK (n : Nat) (rows : List (List Int)) (leads : List Nat) (free : Nat) (bt : Int) : Nat → List Int
  | 0 => (List.replicate n 0).set free bt
  | k + 1 => (numK n rows leads free bt k).set (leads.getD k 0) (numV rows leads free k bt)
theorem bot_all {rows : List (List Int)} {leads : List Nat} {m : Nat} (h : ∀ i, i < m → ro rows i (leads.getD i 0) ≠ 0) : ∀ k, k ≤ m → 0 < botK rows leads k ∧ ∀ i, i < k → ro rows i (leads.getD i 0) ∣ botK rows leads k
  | 0, _ => ⟨by unfold botK; decide, fun i h => absurd h (Nat.not_lt_zero i)⟩
  | k + 1, hk => by
    obtain ⟨h1, h2⟩ := bot_all h k (by omega)
    refine ⟨cm_pos (by omega) (h k (by omega)), fun i hi => ?_⟩
    rcases Nat.lt_or_ge i k with z | z
    · exact Int.dvd_trans (h2 i z) (cm_left _ _)
    · have : i = k := by omega
      rw [this]
      exact cm_right _ _
theorem bot_bit {rows : List (List Int)} {leads : List Nat} {m B : Nat} (h : ∀ i, i < m → (ro rows i (leads.getD i 0)).natAbs < 2 ^ B) : ∀ k, k ≤ m → (botK rows leads k).natAbs ≤ 2 ^ (k * B)
  | 0, _ => by simp [botK]
  | k + 1, hk => by
    refine Nat.le_trans (cm_abs _ _) ?_
    rw [Nat.succ_mul, Nat.pow_add]
    exact Nat.mul_le_mul (bot_bit h k (by omega)) (Nat.le_of_lt (h k (by omega)))
theorem numK_len {n : Nat} {rows : List (List Int)} {leads : List Nat} {free : Nat} {bt : Int} : ∀ k, (numK n rows leads free bt k).length = n
  | 0 => by unfold numK; rw [List.length_set, List.length_replicate]
  | k + 1 => by unfold numK; rw [List.length_set, numK_len k]
theorem cf_set {xs : List Int} {i : Nat} {v : Int} (h : i < xs.length) (j : Nat) : cf (xs.set i v) j = if i = j then v else cf xs j := by
  unfold cf
  rw [List.getD_eq_getElem?_getD, List.getElem?_set]
  split
  · rfl
  · rw [List.getD_eq_getElem?_getD]
theorem cf_rep (n j : Nat) : cf (List.replicate n 0) j = 0 := by
  unfold cf
  rw [List.getD_eq_getElem?_getD, List.getElem?_replicate]
  split <;> rfl
theorem numK_at {n : Nat} {rows : List (List Int)} {leads : List Nat} {free : Nat} {bt : Int} (hf : free < n) : ∀ k, k ≤ leads.length → (∀ i, i < k → leads.getD i 0 < n ∧ leads.getD i 0 ≠ free) → (∀ i j, i < j → j < k → leads.getD i 0 ≠ leads.getD j 0) →
    cf (numK n rows leads free bt k) free = bt ∧ (∀ i, i < k → cf (numK n rows leads free bt k) (leads.getD i 0) = numV rows leads free i bt) ∧ ∀ j, j ≠ free → (∀ i, i < k → j ≠ leads.getD i 0) → cf (numK n rows leads free bt k) j = 0
  | 0, _, _, _ => by
    unfold numK
    refine ⟨?_, fun i h => absurd h (Nat.not_lt_zero i), fun j hj _ => ?_⟩
    · rw [cf_set (by rw [List.length_replicate]; exact hf), if_pos rfl]
    · rw [cf_set (by rw [List.length_replicate]; exact hf), if_neg (fun e => hj e.symm), cf_rep]
  | k + 1, hk, h1, h2 => by
    obtain ⟨a1, a2, a3⟩ := numK_at (rows := rows) (bt := bt) hf k (by omega) (fun i hi => h1 i (by omega)) (fun i j hi hj => h2 i j hi (by omega))
    obtain ⟨b1, b2⟩ := h1 k (by omega)
    have hl : leads.getD k 0 < (numK n rows leads free bt k).length := by rw [numK_len]; exact b1
    unfold numK
    refine ⟨?_, fun i hi => ?_, fun j hj hq => ?_⟩
    · rw [cf_set hl, if_neg b2]; exact a1
    · rw [cf_set hl]
      by_cases e : i = k
      · rw [e, if_pos rfl]
      · rw [if_neg (fun q => h2 i k (by omega) (by omega) q.symm)]
        exact a2 i (by omega)
    · rw [cf_set hl, if_neg (fun q => hq k (by omega) q.symm)]
      exact a3 j hj fun i hi => hq i (by omega)
theorem fdiv_mul {a b : Int} (h0 : a ≠ 0) (h : a ∣ b) : a * b.fdiv a = b := by
  rw [Int.fdiv_eq_ediv_of_dvd h]
  exact Int.mul_ediv_cancel' h
noncomputable def vecF (n : Nat) (rows : List (List Int)) (leads : List Nat) (free : Nat) : List Int := wd (numK n rows leads free (botK rows leads leads.length) leads.length)
theorem pw_lt {leads : List Nat} (h : leads.Pairwise (· < ·)) {i j : Nat} (hij : i < j) (hj : j < leads.length) : leads.getD i 0 < leads.getD j 0 := by
  rw [List.getD_eq_getElem?_getD, List.getD_eq_getElem?_getD, List.getElem?_eq_getElem (by omega), List.getElem?_eq_getElem hj]
  exact List.pairwise_iff_getElem.mp h i j (by omega) hj hij
/-- what is told of one free sort -/
structure Vf (n : Nat) (rows : List (List Int)) (leads : List Nat) (f : Nat) (v : List Int) : Prop where
  len : v.length = n
  own : cf v f ≠ 0
  oth : ∀ g, g ≠ f → g ∉ leads → cf v g = 0
  ker : ∀ r ∈ rows, dotF n (cf v) (cf r) = 0
  gcd : gcdL v = 1
  aft : ∀ j, f < j → cf v j = 0
  pos : 0 < cf v f
theorem bdE_pos {b : Nat} (h : 1 ≤ b) : ∀ k, 1 ≤ bdE b k
  | 0 => h
  | k + 1 => by unfold bdE; omega
theorem Rd.vec {b n : Nat} (hb : 1 ≤ b) {rows left : List (List Int)} {leads : List Nat} (I : Rd b n rows n left leads) {f : Nat} (hf : f < n) (hn : f ∉ leads) : Vf n rows leads f (vecF n left leads f) ∧ ∀ x ∈ vecF n left leads f, x.natAbs < 2 ^ ((leads.length + 1) * bdE b leads.length) := by
  have B := bot_all (rows := left) (leads := leads) (m := leads.length) I.own leads.length (Nat.le_refl _)
  have mm : ∀ i, i < leads.length → leads.getD i 0 ∈ leads := fun i hi => getD_mem hi
  have A := numK_at (rows := left) (leads := leads) (bt := botK left leads leads.length) hf leads.length (Nat.le_refl _) (fun i hi => ⟨I.lt _ (mm i hi), fun e => hn (e ▸ mm i hi)⟩) (fun i j hij hj => Nat.ne_of_lt (pw_lt I.up hij hj))
  obtain ⟨A1, A2, A3⟩ := A
  have nl := numK_len (n := n) (rows := left) (leads := leads) (free := f) (bt := botK left leads leads.length) leads.length
  have bitR : ∀ k, k < left.length → ∀ j, (ro left k j).natAbs < 2 ^ bdE b leads.length := fun k hk j => cf_bit (I.bit _ (getD_mem hk)) j
  have BB := bot_bit (rows := left) (leads := leads) (m := leads.length) (B := bdE b leads.length) (fun i hi => bitR i (Nat.lt_of_lt_of_le hi I.le) _) leads.length (Nat.le_refl _)
  unfold vecF
  generalize hN : numK n left leads f (botK left leads leads.length) leads.length = N at *
  have up : ∀ j, dv N * cf (wd N) j = cf N j := wd_at N
  have dp := dv_pos N
  have rowk : ∀ i, i < left.length → dotF n (cf N) (cf (left.getD i [])) = 0 := fun i hi => by
    by_cases h : i < leads.length
    · have hl := I.lt _ (mm i h)
      have hne : leads.getD i 0 ≠ f := fun e => hn (e ▸ mm i h)
      rw [dotF_two hne n hl hf ?_, A2 i h, A1]
      · unfold numV
        have := fdiv_mul (I.own i h) (B.2 i h)
        show -ro left i f * _ * ro left i (leads.getD i 0) + _ * ro left i f = 0
        rw [Int.mul_assoc, Int.mul_comm (Int.fdiv _ _), this, Int.neg_mul, Int.mul_comm (ro left i f)]
        omega
      · intro j hj q1 q2
        by_cases e : ∃ k, k < leads.length ∧ j = leads.getD k 0
        · obtain ⟨k, hk, e⟩ := e
          rw [e]
          have : ro left i (leads.getD k 0) = 0 := I.oth k i hk hi (fun z => q1 (by rw [e, z]))
          show _ * ro left i _ = 0
          rw [this, Int.mul_zero]
        · rw [A3 j q2 fun k hk z => e ⟨k, hk, z⟩, Int.zero_mul]
    · refine dotF_none n fun j hj => ?_
      show _ * ro left i j = 0
      rw [I.low i j (by omega) hi hj, Int.mul_zero]
  refine ⟨⟨?_, ?_, ?_, ?_, ?_, ?_, ?_⟩, ?_⟩
  · rw [wd_len, nl]
  · intro z
    have := up f
    rw [z, Int.mul_zero, A1] at this
    omega
  · intro g h1 h2
    have := up g
    rw [A3 g h1 fun i hi e => h2 (e ▸ mm i hi)] at this
    exact (Int.mul_eq_zero.mp this).resolve_left (by omega)
  · intro r hr
    have h1 : ∀ r ∈ left, dotF n (cf (wd N)) (cf r) = 0 := fun r hr => by
      obtain ⟨i, hi, e⟩ := mem_getD hr
      have h := rowk i hi
      rw [show cf N = (fun j => dv N * cf (wd N) j) from funext fun j => (up j).symm, dotF_comm, dotF_smul, e, dotF_comm] at h
      exact (Int.mul_eq_zero.mp h).resolve_left (by omega)
    exact dotF_sp h1 (I.sp2 _ (SpR.mem hr))
  · refine gcd_wd ⟨cf N f, ?_, by rw [A1]; omega⟩
    exact getD_mem (by rw [nl]; exact hf)
  · intro j hj
    have := up j
    have z : cf N j = 0 := by
      by_cases e : ∃ k, k < leads.length ∧ j = leads.getD k 0
      · obtain ⟨k, hk, e⟩ := e
        rw [e, A2 k hk]
        unfold numV
        rw [I.bef k f hk (by omega), Int.neg_zero, Int.zero_mul]
      · exact A3 j (by omega) fun k hk z => e ⟨k, hk, z⟩
    rw [z] at this
    exact (Int.mul_eq_zero.mp this).resolve_left (by omega)
  · have := up f
    rw [A1] at this
    rcases Int.lt_trichotomy 0 (cf (wd N) f) with z | z | z
    · exact z
    · rw [← z, Int.mul_zero] at this
      have := B.1
      omega
    · have h1 := Int.mul_neg_of_pos_of_neg dp z
      have := B.1
      omega
  · intro x hx
    obtain ⟨y, hy, hxy⟩ := wd_abs hx
    refine Nat.lt_of_le_of_lt hxy ?_
    obtain ⟨j, hj, e⟩ := List.getElem_of_mem hy
    have ey : y = cf N j := by
      unfold cf
      rw [List.getD_eq_getElem?_getD, List.getElem?_eq_getElem hj, e]
      rfl
    have big : 2 ^ (leads.length * bdE b leads.length) ≤ 2 ^ ((leads.length + 1) * bdE b leads.length) := Nat.pow_le_pow_right (by decide) (Nat.mul_le_mul_right _ (by omega))
    rw [ey]
    by_cases q : j = f
    · rw [q, A1]
      refine Nat.lt_of_le_of_lt BB (Nat.pow_lt_pow_right (by decide) ?_)
      rw [Nat.succ_mul]
      have := bdE_pos hb leads.length
      omega
    · by_cases e : ∃ k, k < leads.length ∧ j = leads.getD k 0
      · obtain ⟨k, hk, e⟩ := e
        rw [e, A2 k hk]
        unfold numV
        rw [Int.natAbs_mul, Int.natAbs_neg, Nat.succ_mul, Nat.pow_add, Nat.mul_comm]
        refine Nat.mul_lt_mul_of_le_of_lt ?_ (bitR k (Nat.lt_of_lt_of_le hk I.le) f) (Nat.two_pow_pos _)
        refine Nat.le_trans ?_ BB
        have := fdiv_mul (I.own k hk) (B.2 k hk)
        have q2 := I.own k hk
        rw [← congrArg Int.natAbs this, Int.natAbs_mul]
        exact Nat.le_mul_of_pos_left _ (by omega)
      · rw [A3 j q fun k hk z => e ⟨k, hk, z⟩]
        exact Nat.two_pow_pos _
end EL

set_option Elab.async false
set_option linter.all false
set_option maxRecDepth 100000
namespace EL
/-- the law's own rank -/
noncomputable def lrow (lead : List Int) (p : Nat) (r : List Int) : List Int := (List.range r.length).map fun k => cf r k * cf lead p - cf lead k * cf r p
noncomputable def lrH (p : Nat) (left : List (List Int)) : List (List Int) := left.filter fun r => decide (cf r p ≠ 0)
noncomputable def lrR (p : Nat) (left : List (List Int)) : List (List Int) := left.filter fun r => decide (cf r p = 0)
noncomputable def lrN (p : Nat) (left : List (List Int)) : List (List Int) := match lrH p left with
  | [] => lrR p left
  | lead :: hs => lrR p left ++ hs.map (lrow lead p)
noncomputable def lrF (p : Nat) (left : List (List Int)) : Nat := if lrH p left = [] then 0 else 1
noncomputable def lr (rows : List (List Int)) : Nat → List (List Int) × Nat
  | 0 => (rows, 0)
  | p + 1 => (lrN p (lr rows p).1, (lr rows p).2 + lrF p (lr rows p).1)
noncomputable def lrank (rows : List (List Int)) : Nat := (lr rows (match rows with | [] => 0 | r :: _ => r.length)).2
theorem lrow_len (lead : List Int) (p : Nat) (r : List Int) : (lrow lead p r).length = r.length := by
  unfold lrow
  rw [List.length_map, List.length_range]
theorem lrow_at {lead r : List Int} {p n : Nat} (h1 : r.length = n) (h2 : lead.length = n) (j : Nat) : cf (lrow lead p r) j = cf lead p * cf r j - cf r p * cf lead j := by
  by_cases hj : j < n
  · show (lrow lead p r).getD j 0 = _
    unfold lrow
    rw [List.getD_eq_getElem?_getD, List.getElem?_map, List.getElem?_range (by omega)]
    show cf r j * cf lead p - cf lead j * cf r p = _
    rw [Int.mul_comm (cf r j), Int.mul_comm (cf lead j)]
  · have e1 : cf (lrow lead p r) j = 0 := getD_out (by rw [lrow_len]; omega)
    have e2 : cf r j = 0 := getD_out (by omega)
    have e3 : cf lead j = 0 := getD_out (by omega)
    rw [e1, e2, e3, Int.mul_zero, Int.mul_zero]
    rfl
theorem lrN_mem {p : Nat} {left : List (List Int)} {r : List Int} (h : r ∈ lrN p left) : (r ∈ left ∧ cf r p = 0) ∨ ∃ lead q, lead ∈ left ∧ q ∈ left ∧ cf lead p ≠ 0 ∧ r = lrow lead p q := by
  unfold lrN at h
  have hH : ∀ x, x ∈ lrH p left → x ∈ left ∧ cf x p ≠ 0 := fun x hx => by
    have := List.mem_filter.mp hx
    exact ⟨this.1, of_decide_eq_true this.2⟩
  have hR : ∀ x, x ∈ lrR p left → x ∈ left ∧ cf x p = 0 := fun x hx => by
    have := List.mem_filter.mp hx
    exact ⟨this.1, of_decide_eq_true this.2⟩
  cases e : lrH p left with
  | nil => rw [e] at h; exact .inl (hR r h)
  | cons lead hs =>
    rw [e] at h
    rcases List.mem_append.mp h with h | h
    · exact .inl (hR r h)
    · obtain ⟨q, hq, rfl⟩ := List.mem_map.mp h
      exact .inr ⟨lead, q, (hH lead (by rw [e]; exact List.mem_cons_self)).1, (hH q (by rw [e]; exact List.mem_cons_of_mem _ hq)).1, (hH lead (by rw [e]; exact List.mem_cons_self)).2, rfl⟩
/-- rows, lengths, sizes -/
structure Lr (b n p : Nat) (left : List (List Int)) : Prop where
  len : ∀ r ∈ left, r.length = n
  low : ∀ r ∈ left, ∀ j, j < p → cf r j = 0
  bit : ∀ r ∈ left, ∀ x ∈ r, x.natAbs < 2 ^ bdE b p
theorem Lr.step {b n p : Nat} {left : List (List Int)} (I : Lr b n p left) : Lr b n (p + 1) (lrN p left) := by
  refine ⟨fun r hr => ?_, fun r hr j hj => ?_, fun r hr x hx => ?_⟩
  · rcases lrN_mem hr with h | ⟨lead, q, h1, h2, _, rfl⟩
    · exact I.len r h.1
    · rw [lrow_len]; exact I.len q h2
  · rcases lrN_mem hr with h | ⟨lead, q, h1, h2, _, rfl⟩
    · rcases Nat.lt_or_ge j p with z | z
      · exact I.low r h.1 j z
      · rw [show j = p by omega]; exact h.2
    · rw [lrow_at (I.len q h2) (I.len lead h1)]
      rcases Nat.lt_or_ge j p with z | z
      · rw [I.low q h2 j z, I.low lead h1 j z, Int.mul_zero, Int.mul_zero]; rfl
      · rw [show j = p by omega, Int.mul_comm, Int.sub_self]
  · have hb : bdE b (p + 1) = 2 * bdE b p + 1 := rfl
    rw [hb]
    rcases lrN_mem hr with h | ⟨lead, q, h1, h2, _, rfl⟩
    · exact Nat.lt_of_lt_of_le (I.bit r h.1 x hx) (Nat.pow_le_pow_right (by decide) (by omega))
    · obtain ⟨j, hj, e⟩ := List.getElem_of_mem hx
      have ex : x = cf (lrow lead p q) j := by
        unfold cf
        rw [List.getD_eq_getElem?_getD, List.getElem?_eq_getElem hj, e]
        rfl
      rw [ex, lrow_at (I.len q h2) (I.len lead h1), Nat.pow_succ]
      have a1 := lt_pow_mul (cf_bit (I.bit lead h1) p) (cf_bit (I.bit q h2) j)
      have a2 := lt_pow_mul (cf_bit (I.bit q h2) p) (cf_bit (I.bit lead h1) j)
      omega
theorem Lr.all {b n : Nat} {rows : List (List Int)} (hl : ∀ r ∈ rows, r.length = n) (hb : ∀ r ∈ rows, ∀ x ∈ r, x.natAbs < 2 ^ b) : ∀ p, Lr b n p (lr rows p).1
  | 0 => ⟨hl, fun r _ j hj => absurd hj (Nat.not_lt_zero j), hb⟩
  | p + 1 => (Lr.all hl hb p).step
/-! ### free rows: as many as there are -/
noncomputable def Tg (n : Nat) (ts : List (List Int × Nat)) : Prop := (ts.map Prod.snd).Nodup ∧ (∀ x ∈ ts, x.1.length = n ∧ x.2 < n ∧ cf x.1 x.2 ≠ 0) ∧ ∀ x ∈ ts, ∀ y ∈ ts, x.2 ≠ y.2 → cf x.1 y.2 = 0
theorem Tg.step {n p : Nat} {ts : List (List Int × Nat)} (T : Tg n ts) : ∃ ts', Tg n ts' ∧ ts'.map Prod.fst = lrN p (ts.map Prod.fst) ∧ ts'.length + lrF p (ts.map Prod.fst) = ts.length := by
  obtain ⟨t1, t2, t3⟩ := T
  have eH : lrH p (ts.map Prod.fst) = (ts.filter fun x => decide (cf x.1 p ≠ 0)).map Prod.fst := by
    unfold lrH; rw [List.filter_map]; rfl
  have eR : lrR p (ts.map Prod.fst) = (ts.filter fun x => !decide (cf x.1 p ≠ 0)).map Prod.fst := by
    unfold lrR; rw [List.filter_map]
    congr 1
    refine List.filter_congr fun x _ => ?_
    simp
  have pm : (ts.filter (fun x => decide (cf x.1 p ≠ 0)) ++ ts.filter (fun x => !decide (cf x.1 p ≠ 0))).Perm ts := List.filter_append_perm _ _
  have mH : ∀ x, x ∈ ts.filter (fun x => decide (cf x.1 p ≠ 0)) → x ∈ ts ∧ cf x.1 p ≠ 0 := fun x hx => ⟨(List.mem_filter.mp hx).1, of_decide_eq_true (List.mem_filter.mp hx).2⟩
  have mR : ∀ x, x ∈ ts.filter (fun x => !decide (cf x.1 p ≠ 0)) → x ∈ ts := fun x hx => (List.mem_filter.mp hx).1
  generalize hA : ts.filter (fun x => decide (cf x.1 p ≠ 0)) = A at *
  generalize hB : ts.filter (fun x => !decide (cf x.1 p ≠ 0)) = B at *
  have nd : ((A ++ B).map Prod.snd).Nodup := (pm.map Prod.snd).nodup_iff.mpr t1
  have ln := pm.length_eq
  rw [List.length_append] at ln
  unfold lrN lrF
  rw [eH, eR]
  cases A with
  | nil =>
    refine ⟨B, ⟨by simpa using nd, fun x hx => t2 x (mR x hx), fun x hx y hy => t3 x (mR x hx) y (mR y hy)⟩, rfl, by simpa using ln⟩
  | cons l hs =>
    obtain ⟨l1, l2⟩ := mH l List.mem_cons_self
    rw [List.cons_append, List.map_cons, List.nodup_cons] at nd
    have nl : ∀ x, x ∈ hs ++ B → x.2 ≠ l.2 := fun x hx e => nd.1 (List.mem_map.mpr ⟨x, hx, e⟩)
    have mS : ∀ x, x ∈ hs → x ∈ ts := fun x hx => (mH x (List.mem_cons_of_mem _ hx)).1
    have key : ∀ z, z ∈ B ++ hs.map (fun x => (lrow l.1 p x.1, x.2)) → ∃ x, x ∈ hs ++ B ∧ x ∈ ts ∧ z.2 = x.2 ∧ z.1.length = n ∧ (∀ j, cf l.1 j = 0 → (cf z.1 j = 0 ↔ cf x.1 j = 0)) := fun z hz => by
      rcases List.mem_append.mp hz with h | h
      · exact ⟨z, List.mem_append.mpr (.inr h), mR z h, rfl, (t2 z (mR z h)).1, fun j _ => Iff.rfl⟩
      · obtain ⟨x, hx, rfl⟩ := List.mem_map.mp h
        refine ⟨x, List.mem_append.mpr (.inl hx), mS x hx, rfl, ?_, fun j hj => ?_⟩
        · rw [lrow_len]; exact (t2 x (mS x hx)).1
        · show cf (lrow l.1 p x.1) j = 0 ↔ _
          rw [lrow_at (t2 x (mS x hx)).1 (t2 l l1).1, hj, Int.mul_zero, Int.sub_zero]
          exact ⟨fun h => (Int.mul_eq_zero.mp h).resolve_left l2, fun h => by rw [h, Int.mul_zero]⟩
    have l0 : ∀ x, x ∈ hs ++ B → x ∈ ts → cf l.1 x.2 = 0 := fun x h1 h2 => t3 l l1 x h2 fun e => nl x h1 e.symm
    refine ⟨B ++ hs.map (fun x => (lrow l.1 p x.1, x.2)), ⟨?_, fun z hz => ?_, fun z hz y hy hne => ?_⟩, ?_, ?_⟩
    · rw [List.map_append, List.map_map]
      have nd2 := nd.2
      rw [List.map_append] at nd2
      exact (List.perm_append_comm.nodup_iff).mp nd2
    · obtain ⟨x, x1, x2, x3, x4, x5⟩ := key z hz
      refine ⟨x4, by rw [x3]; exact (t2 x x2).2.1, ?_⟩
      rw [x3]
      intro e
      exact (t2 x x2).2.2 ((x5 _ (l0 x x1 x2)).mp e)
    · obtain ⟨x, x1, x2, x3, x4, x5⟩ := key z hz
      obtain ⟨y', y1, y2, y3, _⟩ := key y hy
      rw [y3]
      exact (x5 _ (l0 y' y1 y2)).mpr (t3 x x2 y' y2 (by rw [← x3, ← y3]; exact hne))
    · rw [List.map_append, List.map_map, List.map_cons]
      show _ = List.map Prod.fst B ++ List.map (lrow l.1 p) (List.map Prod.fst hs)
      rw [List.map_map]
      rfl
    · rw [if_neg (by simp), List.length_append, List.length_map]
      rw [List.length_cons] at ln
      omega
theorem Tg.all {n : Nat} {ts : List (List Int × Nat)} (T : Tg n ts) : ∀ p, ∃ ts', Tg n ts' ∧ ts'.map Prod.fst = (lr (ts.map Prod.fst) p).1 ∧ ts'.length + (lr (ts.map Prod.fst) p).2 = ts.length
  | 0 => ⟨ts, T, rfl, rfl⟩
  | p + 1 => by
    obtain ⟨t1, T1, e1, l1⟩ := Tg.all T p
    obtain ⟨t2, T2, e2, l2⟩ := T1.step (p := p)
    refine ⟨t2, T2, ?_, ?_⟩
    · rw [e2, e1]; rfl
    · show t2.length + ((lr (ts.map Prod.fst) p).2 + lrF p (lr (ts.map Prod.fst) p).1) = _
      rw [← e1]
      omega
theorem Tg.rank {n : Nat} {ts : List (List Int × Nat)} (T : Tg n ts) : (lr (ts.map Prod.fst) n).2 = ts.length := by
  obtain ⟨t1, T1, e1, l1⟩ := T.all n
  have hl : ∀ r ∈ ts.map Prod.fst, r.length = n := fun r hr => by
    obtain ⟨x, hx, rfl⟩ := List.mem_map.mp hr
    exact (T.2.1 x hx).1
  obtain ⟨b, hb⟩ : ∃ b, ∀ r ∈ ts.map Prod.fst, ∀ x ∈ r, x.natAbs < 2 ^ b := by
    have one : ∀ r : List Int, ∃ b, ∀ x ∈ r, x.natAbs < 2 ^ b := fun r => by
      induction r with
      | nil => exact ⟨0, fun x h => nomatch h⟩
      | cons y r ih =>
        obtain ⟨b, hb⟩ := ih
        refine ⟨b + y.natAbs, fun x hx => ?_⟩
        rcases List.mem_cons.mp hx with rfl | hx
        · exact Nat.lt_of_lt_of_le Nat.lt_two_pow_self (Nat.pow_le_pow_right (by decide) (by omega))
        · exact Nat.lt_of_lt_of_le (hb x hx) (Nat.pow_le_pow_right (by decide) (by omega))
    generalize ts.map Prod.fst = R
    induction R with
    | nil => exact ⟨0, fun r h => nomatch h⟩
    | cons r R ih =>
      obtain ⟨b, hb⟩ := ih
      obtain ⟨b2, hb2⟩ := one r
      refine ⟨b + b2, fun q hq x hx => ?_⟩
      rcases List.mem_cons.mp hq with rfl | hq
      · exact Nat.lt_of_lt_of_le (hb2 x hx) (Nat.pow_le_pow_right (by decide) (by omega))
      · exact Nat.lt_of_lt_of_le (hb q hq x hx) (Nat.pow_le_pow_right (by decide) (by omega))
  have L := Lr.all hl hb n
  cases t1 with
  | nil => simpa using l1
  | cons x t1 =>
    have hx := T1.2.1 x List.mem_cons_self
    exact absurd (L.low x.1 (by rw [← e1]; exact List.mem_map.mpr ⟨x, List.mem_cons_self, rfl⟩) x.2 hx.2.1) hx.2.2
/-! ### the rank is the number of leads -/
theorem Rd.lead_of {b n : Nat} (hb : 1 ≤ b) {rows left : List (List Int)} {leads : List Nat} (I : Rd b n rows n left leads) {v : Nat → Int} (hv : SpR rows v) {p : Nat} (hp : p < n) (h0 : ∀ j, j < p → v j = 0) (h1 : v p ≠ 0) : p ∈ leads := by
  refine Classical.byContradiction fun hn => h1 ?_
  obtain ⟨W, _⟩ := I.vec hb hp hn
  have e := dotF_sp W.ker hv
  rw [dotF_one n hp fun j _ hne => ?_] at e
  · exact (Int.mul_eq_zero.mp e).resolve_left W.own
  · rcases Nat.lt_or_gt_of_ne hne with z | z
    · rw [h0 j z, Int.mul_zero]
    · rw [W.aft j z, Int.zero_mul]
theorem lrN_sp {n p : Nat} {left : List (List Int)} (hl : ∀ r ∈ left, r.length = n) {v : Nat → Int} (hv : SpR left v) (h0 : v p = 0) : SpR (lrN p left) v := by
  unfold lrN
  have hH : ∀ x, x ∈ lrH p left ↔ x ∈ left ∧ cf x p ≠ 0 := fun x => by
    unfold lrH
    rw [List.mem_filter]
    simp
  have hR : ∀ x, x ∈ lrR p left ↔ x ∈ left ∧ cf x p = 0 := fun x => by
    unfold lrR
    rw [List.mem_filter]
    simp
  cases e : lrH p left with
  | nil =>
    refine SpR.le (fun r hr => SpR.mem ((hR r).mpr ⟨hr, ?_⟩)) hv
    refine Classical.byContradiction fun z => ?_
    have := (hH r).mpr ⟨hr, z⟩
    rw [e] at this
    exact nomatch this
  | cons lead hs =>
    obtain ⟨l1, l2⟩ := (hH lead).mp (by rw [e]; exact List.mem_cons_self)
    show SpR (lrR p left ++ hs.map (lrow lead p)) v
    have key : ∀ v, SpR left v → SpR (lrR p left ++ hs.map (lrow lead p)) (fun j => cf lead p * v j + (-v p) * cf lead j) := by
      intro v hv
      induction hv with
      | of h =>
        obtain ⟨r, hr, rfl⟩ := h
        by_cases z : cf r p = 0
        · rw [z, Int.neg_zero]
          have : (fun j => cf lead p * cf r j + 0 * cf lead j) = fun j => cf lead p * cf r j := funext fun j => by rw [Int.zero_mul, Int.add_zero]
          rw [this]
          exact .smul _ (SpR.mem (List.mem_append.mpr (.inl ((hR r).mpr ⟨hr, z⟩))))
        · have m := (hH r).mpr ⟨hr, z⟩
          rw [e] at m
          rcases List.mem_cons.mp m with q | q
          · rw [q]
            have : (fun j => cf lead p * cf lead j + (-cf lead p) * cf lead j) = fun _ => 0 := funext fun j => by rw [Int.neg_mul]; omega
            rw [this]
            exact .zero
          · have : (fun j => cf lead p * cf r j + (-cf r p) * cf lead j) = cf (lrow lead p r) := funext fun j => by rw [lrow_at (hl r hr) (hl lead l1), Int.neg_mul, Int.sub_eq_add_neg]
            rw [this]
            exact SpR.mem (List.mem_append.mpr (.inr (List.mem_map.mpr ⟨r, q, rfl⟩)))
      | zero =>
        have : (fun j => cf lead p * (0 : Int) + (-0) * cf lead j) = fun _ => 0 := funext fun j => by simp
        rw [this]
        exact .zero
      | @add u w _ _ a b =>
        have : (fun j => cf lead p * (u j + w j) + (-(u p + w p)) * cf lead j) = fun j => (cf lead p * u j + (-u p) * cf lead j) + (cf lead p * w j + (-w p) * cf lead j) := funext fun j => by
          rw [Int.mul_add, Int.neg_add, Int.add_mul]
          omega
        rw [this]
        exact .add a b
      | @smul u c _ a =>
        have : (fun j => cf lead p * (c * u j) + (-(c * u p)) * cf lead j) = fun j => c * (cf lead p * u j + (-u p) * cf lead j) := funext fun j => by
          rw [Int.mul_add, Int.mul_left_comm, Int.neg_mul, Int.neg_mul, Int.mul_neg, Int.mul_assoc]
        rw [this]
        exact .smul c a
      | @div u c hc _ a =>
        have : (fun j => cf lead p * (c * u j) + (-(c * u p)) * cf lead j) = fun j => c * (cf lead p * u j + (-u p) * cf lead j) := funext fun j => by
          rw [Int.mul_add, Int.mul_left_comm, Int.neg_mul, Int.neg_mul, Int.mul_neg, Int.mul_assoc]
        rw [this] at a
        exact .div hc a
    have := key v hv
    rw [h0, Int.neg_zero] at this
    refine .div l2 ?_
    have e2 : (fun j => cf lead p * v j + 0 * cf lead j) = fun j => cf lead p * v j := funext fun j => by rw [Int.zero_mul, Int.add_zero]
    rw [e2] at this
    exact this
theorem lrN_sub {n p : Nat} {left : List (List Int)} (hl : ∀ r ∈ left, r.length = n) {v : Nat → Int} (hv : SpR (lrN p left) v) : SpR left v := by
  refine SpR.le (fun r hr => ?_) hv
  rcases lrN_mem hr with h | ⟨lead, q, h1, h2, _, rfl⟩
  · exact SpR.mem h.1
  · exact Sp.lin (d := 1) (a := cf lead p) (b := -cf q p) (by decide) (SpR.mem h2) (SpR.mem h1) fun j => by rw [lrow_at (hl q h2) (hl lead h1), Int.neg_mul, Int.sub_eq_add_neg, Int.one_mul]
theorem Rd.rank_go {b n : Nat} (hb : 1 ≤ b) {rows left : List (List Int)} {leads : List Nat} (I : Rd b n rows n left leads) (hl : ∀ r ∈ rows, r.length = n) (hbt : ∀ r ∈ rows, ∀ x ∈ r, x.natAbs < 2 ^ b) : ∀ p, p ≤ n → (lr rows p).2 = ((List.range p).filter fun j => decide (j ∈ leads)).length ∧ (∀ v, SpR (lr rows p).1 v → SpR rows v) ∧ ∀ v, SpR rows v → (∀ j, j < p → v j = 0) → SpR (lr rows p).1 v
  | 0, _ => ⟨rfl, fun _ h => h, fun _ h _ => h⟩
  | p + 1, hp => by
    obtain ⟨a1, a2, a3⟩ := Rd.rank_go hb I hl hbt p (by omega)
    have L := Lr.all hl hbt p
    refine ⟨?_, fun v hv => a2 v (lrN_sub L.len hv), fun v hv h0 => lrN_sp L.len (a3 v hv fun j hj => h0 j (by omega)) (h0 p (by omega))⟩
    show (lr rows p).2 + lrF p (lr rows p).1 = _
    rw [a1, List.range_succ, List.filter_append, List.length_append]
    congr 1
    unfold lrF
    have hH : ∀ x, x ∈ lrH p (lr rows p).1 ↔ x ∈ (lr rows p).1 ∧ cf x p ≠ 0 := fun x => by
      unfold lrH
      rw [List.mem_filter]
      simp
    by_cases e : lrH p (lr rows p).1 = []
    · rw [if_pos e]
      have : p ∉ leads := fun hm => by
        obtain ⟨i, hi, ei⟩ := List.getElem_of_mem hm
        have eg : leads.getD i 0 = p := by rw [List.getD_eq_getElem?_getD, List.getElem?_eq_getElem hi, ei]; rfl
        have h1 := I.own i hi
        have h2 : ∀ j, j < p → ro left i j = 0 := fun j hj => I.bef i j hi (by rw [eg]; exact hj)
        rw [eg] at h1
        have h3 := a3 _ (I.sp1 _ (SpR.mem (getD_mem (d := []) (Nat.lt_of_lt_of_le hi I.le)))) h2
        refine h1 (SpR.at0 (fun r hr => ?_) h3)
        refine Classical.byContradiction fun z => ?_
        have := (hH r).mpr ⟨hr, z⟩
        rw [e] at this
        exact nomatch this
      simp [this]
    · rw [if_neg e]
      have : p ∈ leads := by
        obtain ⟨r, hr⟩ := List.exists_mem_of_ne_nil _ e
        obtain ⟨r1, r2⟩ := (hH r).mp hr
        exact I.lead_of hb (a2 _ (SpR.mem r1)) (by omega) (fun j hj => L.low r r1 j hj) r2
      simp [this]
theorem cnt_in {n : Nat} : ∀ {leads : List Nat}, leads.Nodup → (∀ l ∈ leads, l < n) → ((List.range n).filter fun j => decide (j ∈ leads)).length = leads.length := by
  induction n with
  | zero =>
    intro leads _ h
    cases leads with
    | nil => rfl
    | cons l _ => exact absurd (h l List.mem_cons_self) (Nat.not_lt_zero l)
  | succ n ih =>
    intro leads nd h
    rw [List.range_succ, List.filter_append, List.length_append]
    by_cases hm : n ∈ leads
    · have e1 : (List.range n).filter (fun j => decide (j ∈ leads)) = (List.range n).filter (fun j => decide (j ∈ leads.erase n)) := List.filter_congr fun j hj => by
        have : j < n := List.mem_range.mp hj
        have q : j ≠ n := by omega
        exact decide_eq_decide.mpr ⟨fun h => nd.mem_erase_iff.mpr ⟨q, h⟩, fun h => (nd.mem_erase_iff.mp h).2⟩
      rw [e1, ih (nd.erase n) fun l hl => by
        rw [nd.mem_erase_iff] at hl
        have := h l hl.2
        omega, List.length_erase_of_mem hm]
      have : 0 < leads.length := List.length_pos_of_mem hm
      simp [hm]
      omega
    · rw [ih nd fun l hl => by
        have := h l hl
        have : l ≠ n := fun e => hm (e ▸ hl)
        omega]
      simp [hm]
theorem Rd.nd {b n c : Nat} {rows left : List (List Int)} {leads : List Nat} (I : Rd b n rows c left leads) : leads.Nodup := I.up.imp fun h => Nat.ne_of_lt h
theorem Rd.rank {b n : Nat} (hb : 1 ≤ b) {rows left : List (List Int)} {leads : List Nat} (I : Rd b n rows n left leads) (hl : ∀ r ∈ rows, r.length = n) (hbt : ∀ r ∈ rows, ∀ x ∈ r, x.natAbs < 2 ^ b) : lrank rows = leads.length := by
  unfold lrank
  cases rows with
  | nil =>
    have h1 := I.le
    have h2 := I.cnt
    have : leads.length = 0 := by rw [h2] at h1; exact Nat.le_zero.mp h1
    rw [this]
    rfl
  | cons r rs =>
    show (lr (r :: rs) r.length).2 = _
    rw [hl r List.mem_cons_self, (I.rank_go hb hl hbt n (Nat.le_refl n)).1]
    exact cnt_in I.nd I.lt
noncomputable def frees (n : Nat) (leads : List Nat) : List Nat := (List.range n).filter fun j => decide (j ∉ leads)
end EL

set_option Elab.async false
set_option linter.all false
set_option maxRecDepth 100000
namespace EL
open PySem L2
open PySem.Builtin.Int
noncomputable def Bb (x : Int) : Prop := intBits x ≤ 60000000
noncomputable def rNiL : R2 := fun x y H Q => ∃ p xs, y = .ref p ∧ H p = some (.lst xs) ∧ flatV x = true ∧ xs.all flatV = true ∧ Q (.bl (!inV x xs)) H
/-- lists of numbers in a list -/
noncomputable def RL (H : Hp) (as : List Addr) (rows : List (List Int)) : Prop := as.length = rows.length ∧ ∀ (i : Nat) (a : Addr) (r : List Int), as[i]? = some a → rows[i]? = some r → H a = some (.lst (r.map V.int))
theorem RL.same {H H' : Hp} {as : List Addr} {rows : List (List Int)} (k : Same H H') (h : RL H as rows) : RL H' as rows := ⟨h.1, fun i a r e1 e2 => k _ _ (h.2 i a r e1 e2)⟩
theorem RL.off {H : Hp} {as : List Addr} {rows : List (List Int)} {D : Addr} {o : HO} (hD : D ∉ as) (h : RL H as rows) : RL (upd H D o) as rows := ⟨h.1, fun i a r e1 e2 => by
  rw [upd_ne (fun e => hD (by rw [← e]; exact List.mem_of_getElem? e1))]
  exact h.2 i a r e1 e2⟩
theorem RL.snoc {H : Hp} {as : List Addr} {rows : List (List Int)} {a : Addr} {r : List Int} (h : RL H as rows) (ha : H a = some (.lst (r.map V.int))) : RL H (as ++ [a]) (rows ++ [r]) := by
  refine ⟨by rw [List.length_append, List.length_append, h.1]; rfl, fun i b q e1 e2 => ?_⟩
  by_cases hi : i < as.length
  · rw [List.getElem?_append_left hi] at e1
    rw [List.getElem?_append_left (by rw [← h.1]; exact hi)] at e2
    exact h.2 i b q e1 e2
  · have hi' : i = as.length := by
      have := (List.getElem?_eq_some_iff.mp e1).1
      rw [List.length_append] at this
      have : i < as.length + 1 := this
      omega
    rw [hi', List.getElem?_append_right (Nat.le_refl _), Nat.sub_self] at e1
    rw [hi', h.1, List.getElem?_append_right (Nat.le_refl _), Nat.sub_self] at e2
    cases e1
    cases e2
    exact ha
theorem RL.nil {H : Hp} : RL H [] [] := ⟨rfl, fun i a r e => nomatch e⟩
theorem RL.at_ {H : Hp} {as : List Addr} {rows : List (List Int)} (h : RL H as rows) {i : Nat} (hi : i < rows.length) : ∃ a, as[i]? = some a ∧ rows[i]? = some (rows.getD i []) ∧ H a = some (.lst ((rows.getD i []).map V.int)) := by
  have hi' : i < as.length := by rw [h.1]; exact hi
  have e : rows[i]? = some (rows.getD i []) := by rw [List.getD_eq_getElem?_getD, List.getElem?_eq_getElem hi]; rfl
  exact ⟨as[i], List.getElem?_eq_getElem hi', e, h.2 i _ _ (List.getElem?_eq_getElem hi') e⟩
theorem RL.map {H : Hp} : ∀ {as : List Addr} {rows : List (List Int)} (h : RL H as rows) {a : Addr}, a ∈ as → ∃ r ∈ rows, H a = some (.lst (r.map V.int)) := fun {as rows} h a ha => by
  obtain ⟨i, hi, e⟩ := List.getElem_of_mem ha
  have hi' : i < rows.length := by rw [← h.1]; exact hi
  exact ⟨rows[i], List.getElem_mem hi', h.2 i a _ (by rw [List.getElem?_eq_getElem hi, e]) (List.getElem?_eq_getElem hi')⟩
theorem RL.ne {H : Hp} {as : List Addr} {rows : List (List Int)} (h : RL H as rows) {l : Addr} (hl : H l = some (.lst (as.map V.ref))) : l ∉ as := fun hm => by
  obtain ⟨r, _, e⟩ := h.map hm
  rw [hl] at e
  cases as with
  | nil => exact nomatch hm
  | cons a as => cases r <;> simp at e
noncomputable def rListL : List V → Hp → VK → Prop := fun xs H Q => ∃ p ys, xs = [.ref p] ∧ H p = some (.lst ys) ∧ ∀ l, H l = none → Q (.ref l) (upd H l (.lst ys))
theorem call_listL {X : Cx} : CallR X (.type "list") rListL := fun pins s σ H xs us Q I r h => call_list_of pins s σ H xs us Q I r (let ⟨p, ys, e, hp, q⟩ := h; ⟨p, ys, e, .inl (SqL.of hp), q⟩)
theorem RL.erase {H : Hp} {as : List Addr} {rows : List (List Int)} (h : RL H as rows) (p : Nat) : RL H (as.eraseIdx p) (rows.eraseIdx p) := by
  refine ⟨by rw [List.length_eraseIdx, List.length_eraseIdx, h.1], fun i a r e1 e2 => ?_⟩
  rw [List.getElem?_eraseIdx] at e1 e2
  split at e1
  · next hi => rw [if_pos hi] at e2; exact h.2 _ _ _ e1 e2
  · next hi => rw [if_neg hi] at e2; exact h.2 _ _ _ e1 e2
theorem RL.insert {H : Hp} {as : List Addr} {rows : List (List Int)} (h : RL H as rows) {m : Nat} {a : Addr} {r : List Int} (ha : H a = some (.lst (r.map V.int))) (hm : m ≤ rows.length) : RL H (as.insertIdx m a) (rows.insertIdx m r) := by
  have hl := h.1
  refine ⟨by rw [List.length_insertIdx, List.length_insertIdx, hl], fun i b q e1 e2 => ?_⟩
  rw [List.getElem?_insertIdx] at e1 e2
  split at e1
  · next hi => rw [if_pos hi] at e2; exact h.2 _ _ _ e1 e2
  · next hi =>
    rw [if_neg hi] at e2
    split at e1
    · next hj =>
      rw [if_pos hj] at e2
      rw [if_pos (by omega)] at e1 e2
      cases e1
      cases e2
      exact ha
    · next hj => rw [if_neg hj] at e2; exact h.2 _ _ _ e1 e2
theorem RL.take {H : Hp} {as : List Addr} {rows : List (List Int)} (h : RL H as rows) (n : Nat) : RL H (as.take n) (rows.take n) := by
  refine ⟨by rw [List.length_take, List.length_take, h.1], fun i a r e1 e2 => ?_⟩
  rw [List.getElem?_take] at e1 e2
  split at e1
  · next hi => rw [if_pos hi] at e2; exact h.2 _ _ _ e1 e2
  · cases e1
noncomputable def nL (ls : List Nat) : List V := ls.map fun n : Nat => V.int (n : Int)
noncomputable def oV : Option Nat → V
  | none => .non
  | some t => .int (t : Int)
theorem w_isN {ta : TE} {σ : St} {H : Hp} {Q : VK} (h : ta σ H fun x H1 => Q (.bl (decide (x = .non))) H1) : tIsN ta σ H Q := h
theorem cut_to {xs : List V} {k : Nat} (h : k ≤ xs.length) : cutV xs none (some (k : Int)) = xs.take k := by
  unfold cutV
  rw [HT.sIx_none, HT.sIx_nat, List.drop_zero, Nat.sub_zero, Nat.min_eq_left h]
theorem cut_from {xs : List V} {k : Nat} (h : k ≤ xs.length) : cutV xs (some (k : Int)) none = xs.drop k := by
  unfold cutV
  rw [HT.sIx_none, HT.sIx_nat, Nat.min_eq_left h]
  exact List.take_of_length_le (by rw [List.length_drop]; exact Nat.le_refl _)
noncomputable def rListS : List V → Hp → VK → Prop := fun xs H Q => ∃ p ys, xs = [.ref p] ∧ (H p = some (.tup ys) ∨ H p = some (.lst ys)) ∧ ∀ l, H l = none → Q (.ref l) (upd H l (.lst ys))
noncomputable def rIsN : List V → Hp → VK → Prop := fun xs H Q => ∃ (i : Int) (b : Bool), ((xs = [.int i, .ty "int"] ∧ b = true) ∨ (xs = [.int i, .ty "bool"] ∧ b = false)) ∧ Q (.bl b) H
end EL

set_option Elab.async false
set_option linter.all false
set_option maxRecDepth 100000
namespace K05
open PySem L2 G2 PT
local macro_rules | `(tactic| walk_at "v") => `(tactic| repeat (with_reducible first
  | refine w_seq ?_ | refine w_asg ?_ | refine w_gname ?_ | refine w_op ?_ | refine w_var rfl ?_ | refine w_c ?_ | refine w_rI0 ?_ | refine w_ifs ?_ | refine w_ife ?_ | refine w_test ?_ | refine w_tb ?_ | refine w_bl ?_ | refine w_not ?_ | refine w_ret ?_ | refine w_retN ?_
  | refine w_nil ?_ | refine w_cons ?_ | refine w_lst ?_ | refine w_tup ?_ | refine w_cb ?_ | refine w_call ?_ | refine w_gsub ?_ | refine w_and ?_ | refine w_or ?_ | refine w_next ?_ | refine w_all ?_ | refine w_vals ?_ | refine w_compR ?_ | refine w_compT ?_ | refine w_forR ?_ | refine w_forT ?_ | refine w_forL ?_ | refine w_drop ?_ | refine w_bm ?_ | refine w_compZ ?_ | refine w_compL ?_ | refine w_chain ?_ | refine w_sl ?_ | refine w_nopart ?_ | refine w_part ?_ | refine w_unI ?_ | refine iteT ?_ | refine iteF ?_))
theorem pe_bmK {X : Cx} {K : PySem.W.Frag} {o e : Expr} {es : List Expr} {to : TE} {t : TA} {name : Str} {apos cpos : Pos} {T id : String} {r : V → List V → Hp → VK → Prop} (hK : X.K = K) (pa : PlainAttrs T) (slot : Slot T name id) (hty : typeOf (.builtin id) = pure (.type "method_descriptor")) (hm : MtR X id r) (ho : PE X o to) (ha : PA X (e :: es) t)
    (hbase : attributeBase o name X.env (eval o X.env) = eval o X.env := by rfl)
    (hfew : ((backTo cpos (starEach (e :: es) X.env)).all (fun x => !x.1) && (backToKw cpos (keywordEach [] X.env)).all (fun x => x.1.isSome)
      && decide ((e :: es).length + ([] : List Keyword).length + (if ([] : List Keyword).isEmpty then 0 else 1) < 30)) = true := by rfl)
    (hline : (apos.endLine == cpos.line) = true := by rfl) (hs : starEach (e :: es) X.env = (false, eval e X.env) :: starEach es X.env := by rfl) (hplain : (backTo cpos (starEach es X.env)).any (·.1) = false := by rfl) :
    PE X (.Call (.Attribute o name apos) (e :: es) [] cpos) (tBM K T r to t) := hK ▸ pe_bm pa slot hty hm ho ha hbase hfew hline hs hplain
structure BltX (mg : Str → Option Value) : Prop where
  range : mg "range" = none
  repr : mg "repr" = none
  isi : mg "isinstance" = none
  vaE : mg "ValueError" = none
noncomputable def rSlB : V → Option Int → Option Int → Hp → VK → Prop := fun x lo hi H Q => ∃ a xs, x = .ref a ∧ H a = some (.lst xs) ∧ ∀ p, H p = none → Q (.ref p) (upd H p (.lst (cutV xs lo hi)))
theorem sl_listB {X : Cx} : SlR X rSlB := fun pins s σ H x v vl vu lo hi sl Q I rx hs h1 h2 h => sl_list pins s σ H x v vl vu lo hi sl Q I rx hs h1 h2 (let ⟨a, xs, e, ha, q⟩ := h; ⟨a, xs, e, SqL.of ha, q⟩)
theorem ps_tryC {X : Cx} {D : Addr} {bmD : List Value} {x n : Str} {i j : Nat} {body suite : List Stmt} {b₀ : Stmt} {sp : Sp} {ta : TA} {t2 ts : TS} {np hpos pos : Pos} (M : Nm X.N X.env.scope) (hst : X.stack = X.env :: X.outer) (hfr : X.env.frame = some X.env.locals) (hex : X.ex = [])
    (hm : X.mg x = some (.ref D)) (xd : XC X.K D bmD) (hi : X.N[i]? = some n) (hk : X.env.scope.names.lookup n = some .local)
    (hb : ∀ pn xe EX, PassesOwn (model X.prog X.w) X.A X.env xe → Lands (X.tr pn xe) EX → PSs (X.tr pn xe) body (tSeq (tAsg (tCallX sp EX ta) (gName j)) t2)) (hs : ∀ a, PSs (X.hdl a) (b₀ :: suite) ts) (hg : Gl X x := by rfl) (hdb : (x == ("__debug__" : Str)) = false := by decide) :
    PS X (.Try body [.ExceptHandler (some (.Name x np)) (some n) (b₀ :: suite) hpos] [] [] pos) (tTry X.K D i (fun EX => tSeq (tAsg (tCallX sp EX ta) (gName j)) t2) ts) := ps_try M hst hfr hex hm xd hi hk hb hs hg hdb
theorem pe_f0 {X : Cx} {k j : Nat} {x : Str} {ps : List Str} {sp : Sp} {p pos : Pos} (h : Has X.prog X.w X.K X.mg X.base k x ps sp) (hr : Room j X.A) (hkj : k ≤ j) (hg : Gl X x := by rfl) (hdb : (x == ("__debug__" : Str)) = false := by decide) : PE X (.Call (.Name x p) [] [] pos) (tCall sp [] E0 tNil) := by
  obtain ⟨f, fd, F, hm, hk, hb⟩ := h
  exact pe_call0 F (hr.mono hkj) hg hm hk hb .nil pass0 hdb
theorem eqv_strs : ∀ ws : List Str, PyData.eqvAll (ws.map PyData.str) (ws.map PyData.str) = true
  | [] => rfl
  | w :: ws => by
    show (PyData.eqv (.str w) (.str w) && PyData.eqvAll (ws.map PyData.str) (ws.map PyData.str)) = true
    rw [eqv_strs ws, Bool.and_true]
    simp [PyData.eqv]
noncomputable def chk (ls : List Str) (due : Option Bad) : Bool := match rPot (ls.map spl), due with
  | .ok d, none => decide (d.nm = (spl (ls.getD 0 "")).tail) && (decide (d.rl.length + 4 = ls.length) && d.nm.all fun w => w.cps.toList.all fun c => decide (c < 128))
  | .error b, some b' => decide (b = b') && (decide (b.1 ≤ 1000) && decide (b.2 ≤ 1000))
  | _, _ => false
noncomputable def DueAt (H : Hp) (v : V) (d : Option Bad) : Prop := ThAt H v (dueT d)
theorem chk_ok {ls : List Str} {due : Option Bad} {d : PD} (h : chk ls due = true) (e : rPot (ls.map spl) = .ok d) : due = none ∧ d.nm = (spl (ls.getD 0 "")).tail ∧ d.rl.length + 4 = ls.length ∧ ∀ w ∈ d.nm, ∀ c ∈ w.cps.toList, c < 128 := by
  unfold chk at h
  rw [e] at h
  cases due with
  | some b => cases h
  | none =>
    simp only [Bool.and_eq_true, decide_eq_true_eq, List.all_eq_true] at h
    exact ⟨rfl, h.1, h.2.1, h.2.2⟩
theorem chk_bad {ls : List Str} {due : Option Bad} {b : Bad} (h : chk ls due = true) (e : rPot (ls.map spl) = .error b) : due = some b ∧ b.1 ≤ 1000 ∧ b.2 ≤ 1000 := by
  unfold chk at h
  rw [e] at h
  cases due with
  | none => cases h
  | some b' =>
    simp only [Bool.and_eq_true, decide_eq_true_eq] at h
    exact ⟨by rw [h.1], h.2.1, h.2.2⟩
noncomputable abbrev sMy : Stmt := top 40
noncomputable abbrev nMy : List Str := []
theorem scMy : FnScope nMy [] (defScope sMy) := ⟨rfl, rfl, rfl, by decide +kernel, rfl, by decide +kernel, by decide +kernel⟩
noncomputable def spMy : Sp := fun vs H Q _ => vs = [] ∧ ∀ H', Same H H' → Q (.int 81) H'
section
variable {P : Program} {w : World} {K : PySem.W.Frag} {mg : Str → Option Value} {base : Heap}
set_option maxHeartbeats 4000000 in
theorem ok_My {f : Addr} {fd : FuncData} (B : Bl mg) (G1 : Has P w K mg base 1 "_law_sorts_lines" [] (spT (tabS.map thS))) (G2 : Has P w K mg base 1 "_law_head_lines" [] (spT (tabH.map thH))) (G3 : Has P w K mg base 1 "_law_rule_lines" [] (spT (tabR.map thR))) (F : Fun K "_law_many" "_law_many" sMy f fd) : FnOk P w K mg base CX0 2 f fd [] spMy := by
  refine F.ok scMy (fun vs H Q E h => ?_) (fun cdv A outer s H vs Q E hr h => ?_)
  · obtain ⟨rfl, _⟩ := h
    rfl
  · obtain ⟨rfl, k⟩ := h
    refine' ⟨_, ?hb, ?rd⟩
    case' hb => skip
    case' hb => refine' pss_one ?g1
    case g1 => exact ps_ret (pe_op op_add (pe_op op_add (pe_op op_add (pe_cB call_len_seq B.len PySem.boot_len (pa_1 (pe_f0 G1 hr (by decide)))) (pe_cB call_len_seq B.len PySem.boot_len (pa_1 (pe_f0 G2 hr (by decide))))) (pe_cB call_len_seq B.len PySem.boot_len (pa_1 (pe_f0 G3 hr (by decide))))) pe_int)
    case rd =>
      walk_at "v"
      refine ⟨rfl, fun p1 us1 H1 K1 n1 e1 h1 => ?_⟩
      refine ⟨p1, _, rfl, .inl (SqL.of e1), ?_⟩
      have l1 : us1.length = 15 := h1.len
      walk_at "v"
      refine ⟨rfl, fun p2 us2 H2 K2 n2 e2 h2 => ?_⟩
      refine ⟨p2, _, rfl, .inl (SqL.of e2), ?_⟩
      have l2 : us2.length = 26 := h2.len
      walk_at "v"
      refine ⟨rfl, fun p3 us3 H3 K3 n3 e3 h3 => ?_⟩
      refine ⟨p3, _, rfl, .inl (SqL.of e3), ?_⟩
      have l3 : us3.length = 34 := h3.len
      walk_at "v"
      rw [l1, l2, l3]
      exact k _ ((K1.trans K2).trans K3)
end
noncomputable abbrev sRt : Stmt := top 41
noncomputable abbrev nRt : List Str := ["_law_lines", "_law_due", "_law_found", "_law_pot", "e"]
theorem nmRt : Nm nRt (defScope sRt) := ⟨by decide +kernel, by decide +kernel⟩
theorem scRt : FnScope nRt ["_law_lines", "_law_due"] (defScope sRt) := ⟨rfl, rfl, rfl, by decide +kernel, rfl, by decide +kernel, by decide +kernel⟩
theorem locE : (defScope sRt).names.lookup ("e" : Str) = some .local := by decide +kernel
noncomputable def spRt : Sp := fun vs H Q _ => ∃ (l : Addr) (ls : List Str) (dv : V) (due : Option Bad), vs = [.ref l, dv] ∧ H l = some (.lst (ls.map V.str)) ∧ (∀ x ∈ ls, x.length ≤ 1000) ∧ ls.length ≤ 100 ∧ DueAt H dv due ∧ chk ls due = true ∧ ∀ H', Same H H' → Q (.bl true) H'
section
variable {P : Program} {w : World} {K : PySem.W.Frag} {mg : Str → Option Value} {base : Heap}
set_option maxHeartbeats 4000000 in
theorem ok_Rt {f : Addr} {fd : FuncData} {cD cA : Addr} (B : Bl mg) (vaE : mg "ValueError" = none) (U : XUni K mg cD [("NoPot", cA)])
    (G : HasX P w K mg base 6 "read_pot" ["lines"] (spRp cA)) (hna : ∀ f ∈ (["line", "word"] : List Str), NoAttr K cA f) (F : Fun K "_law_right" "_law_right" sRt f fd) : FnOk P w K mg base CX0 7 f fd ["_law_lines", "_law_due"] spRt := by
  refine F.ok scRt (fun vs H Q E h => ?_) (fun cdv A outer s H vs Q E hr h => ?_)
  · obtain ⟨l, ls, dv, due, rfl, _⟩ := h
    rfl
  · obtain ⟨l, ls, dv, due, rfl, hl, hx, h100, hdu, hc, k⟩ := h
    refine' ⟨_, ?hb, ?rd⟩
    case hb =>
      refine' pss_cons ?s1 ?r1
      case' r1 => refine' pss_cons ?s2 ?r2
      case' r2 => refine' pss_one ?s3
      case s1 => exact ps_setD nmRt 2 pe_non
      case s2 =>
        refine' ps_tryC (sp := spRp cA) (i := 4) (j := 3) nmRt rfl rfl rfl U.mD U.base rfl locE ?tb ?ts
        case tb =>
          intro pn xe EX _ L
          refine' pss_cons ?a1 ?a2
          case a1 => exact ps_setD nmRt 3 (pe_fX G L hr (by decide) (pa_1 (pe_cT EL.call_listL B.list PyProof.Rows.boot_list (pa_1 (pvd nmRt 0)))))
          case' a2 => refine' pss_one ?a3
          case' a3 => refine' ps_if ?a4 (pss_one (ps_ret pe_bl)) pss_nil
          case a4 => exact PW.pt (pw_or (pt_cmpR (op_neD hr) (pe_ix ix_d (pvd nmRt 3) pe_int (fun _ _ => rfl)) (pe_cT call_tupL B.tuple PyProof.Rows.boot_tuple (pa_1 (pe_slice sl_listB (pe_bmK (K := K) rfl PySem.F.plainAttrs_str PySem.F.slot_str_split PySem.F.type_str_split mt_split (pe_ix ix_d (pvd nmRt 0) pe_int (fun _ _ => rfl)) (pa_1 pe_str)) (po_some pe_int) po_none))) (nomark _)) (pw_or1 (pt_cmpR op_ne (pe_cB call_lnT B.len PySem.boot_len (pa_1 (pe_ix ix_d (pvd nmRt 3) pe_int (fun _ _ => rfl)))) (pe_op op_sub (pe_cB call_lnL B.len PySem.boot_len (pa_1 (pvd nmRt 0))) pe_int) (nomark _))))
        case ts =>
          intro a
          exact pss_cons (ps_setD nmRt 2 (pe_tup (pa_1 pe_str))) (pss_one (ps_if (PW.pt (pw_and (pt_val (pe_cB (isX_K (K := K) rfl) B.isi PyProof.Rows.boot_isinstance (pa_2 (pvd nmRt 4) (pe_cls (C := cA) (U.cls ("NoPot", cA) (by simp)).1)))) (pw_and1 (pt_val (pe_cB (isX_K (K := K) rfl) B.isi PyProof.Rows.boot_isinstance (pa_2 (pvd nmRt 4) (pe_bltn (v := .ty "ValueError") rfl vaE PyProof.Rows.Boot.«ValueError» rfl))))))) (pss_one (ps_setD nmRt 2 (pe_tup (pa_2 (pe_xfK (K := K) rfl (pvd nmRt 4)) (pe_xfK (K := K) rfl (pvd nmRt 4)))))) pss_nil))
      case s3 => exact ps_ret (pe_cmpR op_eq (pe_cB (call_repr hr) B.repr PyProof.Rows.boot_repr (pa_1 (pvd nmRt 2))) (pe_cB (call_repr hr) B.repr PyProof.Rows.boot_repr (pa_1 (pvd nmRt 1))) (nomark _))
    case rd =>
      obtain ⟨_, xcN, xaN⟩ := U.cls ("NoPot", cA) (by simp)
      walk_at "v"
      refine w_try ?_
      walk_at "v"
      refine w_callX ?_
      walk_at "v"
      refine ⟨l, _, rfl, hl, fun l2 hl2 => ?_⟩
      have K1 : Same H (upd H l2 (.lst (ls.map V.str))) := Same.new (Same.refl H) hl2
      have e1 : upd H l2 (.lst (ls.map V.str)) l2 = some (.lst (ls.map V.str)) := upd_same
      generalize upd H l2 (.lst (ls.map V.str)) = H1 at K1 e1 ⊢
      refine ⟨l2, ls, rfl, e1, hx, h100, res_of (fun d hd p H2 K2 hp hP => ?_) (fun b hb dx H2 K2 hdx => ?_)⟩
      · obtain ⟨rfl, c1, c2, c3⟩ := chk_ok hc hd
        obtain ⟨ps, pr, pin, pb, rs, f1, f2, f3, f4, f5, f6⟩ := hP.ex
        rw [if_pos rfl] at f2
        have K02 := K1.trans K2
        have l0 : 0 < ls.length := by omega
        have g0 : ls[0]? = some ls[0] := List.getElem?_eq_getElem l0
        have gd : ls.getD 0 "" = ls[0] := by rw [List.getD_eq_getElem?_getD, g0]; rfl
        rw [gd] at c1
        have hx0 := hx _ (List.getElem_mem l0)
        have hne := spl_ne ls[0]
        walk_at "v"
        refine w_ixT f1 at0 ?_
        walk_at "v"
        refine w_ixL (v := .str ls[0]) (K02 _ _ hl) (atI_nat (j := 0) (by rw [List.getElem?_map, g0]; rfl)) ?_
        walk_at "v"
        refine ⟨rfl, ?_⟩
        walk_at "v"
        refine ⟨_, _, rfl, rfl, by decide +kernel, hx0, fun q1 hq1 => ?_⟩
        rw [show Txt.split ls[0] " " = spl ls[0] from rfl]
        generalize spl ls[0] = ws at c1 hne
        match ws, hne, c1 with
        | w0 :: r, _, c1 =>
        have c1 : d.nm = r := c1
        subst c1
        have K3 : Same H2 (upd H2 q1 (.lst ((w0 :: d.nm).map V.str))) := Same.new (Same.refl _) hq1
        have e3 : upd H2 q1 (.lst ((w0 :: d.nm).map V.str)) q1 = some (.lst ((w0 :: d.nm).map V.str)) := upd_same
        generalize upd H2 q1 (.lst ((w0 :: d.nm).map V.str)) = H3 at K3 e3 ⊢
        walk_at "v"
        refine ⟨_, rfl, ?_⟩
        walk_at "v"
        refine ⟨q1, _, rfl, e3, fun q2 hq2 => ?_⟩
        rw [show cutV ((w0 :: d.nm).map V.str) (some 1) none = d.nm.map V.str from EL.cut_from (k := 1) (by simp)]
        have K4 : Same H3 (upd H3 q2 (.lst (d.nm.map V.str))) := Same.new (Same.refl _) hq2
        have e4 : upd H3 q2 (.lst (d.nm.map V.str)) q2 = some (.lst (d.nm.map V.str)) := upd_same
        generalize upd H3 q2 (.lst (d.nm.map V.str)) = H4 at K4 e4 ⊢
        refine ⟨q2, _, rfl, e4, fun q3 H5 K5 e5 => ?_⟩
        have K25 := (K3.trans K4).trans K5
        obtain ⟨ob, fb, _⟩ := f2
        refine ⟨_, _, .ftup (K25 _ _ fb) (rdStrs _), .tup e5 (rdStrs _), by show PyData.canLayAll0 _ = true; exact lay_strs c3, by show PyData.canLayAll0 _ = true; exact lay_strs c3, by show PyData.depthAll _ + 1 ≤ 60; rw [depth_strs]; decide, ?_⟩
        rw [show PyData.eqv (.tuple (d.nm.map PyData.str)) (.tuple (d.nm.map PyData.str)) = true from eqv_strs _]
        walk_at "v"
        refine iteF ?_
        walk_at "v"
        refine w_ixT (K25 _ _ f1) (atI_nat (j := 1) rfl) ?_
        walk_at "v"
        refine ⟨pr, _, rfl, K25 _ _ f3, ?_⟩
        walk_at "v"
        refine ⟨l, _, rfl, K25 _ _ (K02 _ _ hl), ?_⟩
        walk_at "v"
        refine ⟨rfl, ?_⟩
        walk_at "v"
        refine iteNS (by rw [List.length_map, List.length_map, f4.len]; congr 1; omega) ?_
        walk_at "v"
        refine w_shw (n := 10) (h := 0) .non ⟨rfl, rfl, by decide, by decide⟩ (by decide) (by decide) ?_
        cases hdu with
        | non =>
        walk_at "v"
        refine w_shw (n := 10) (h := 0) .non ⟨rfl, rfl, by decide, by decide⟩ (by decide) (by decide) ?_
        walk_at "v"
        refine ⟨rfl, ?_⟩
        rw [decide_eq_true rfl]
        exact k _ (K02.trans K25)
      · obtain ⟨rfl, b1, b2⟩ := chk_bad hc hb
        refine ⟨cA, _, rfl, xcN, contains_D, fun a vs ha => ?_⟩
        have hda : dx ≠ a := fun z => by rw [z, upd_same] at ha; cases ha
        generalize hXD : XDct dx [("line", V.int (b.1 : Int)), ("word", .int (b.2 : Int))] = od at ha ⊢
        have K3 : Same H (upd (upd H2 dx od) a (XObj a cA (some dx) vs)) := ((K1.trans K2).new hdx).new ha
        have ea : upd (upd H2 dx od) a (XObj a cA (some dx) vs) a = some (XObj a cA (some dx) vs) := upd_same
        have ed : upd (upd H2 dx od) a (XObj a cA (some dx) vs) dx = some (XDct dx [("line", V.int (b.1 : Int)), ("word", .int (b.2 : Int))]) := by rw [upd_ne hda, upd_same, hXD]
        generalize upd (upd H2 dx od) a (XObj a cA (some dx) vs) = H3 at K3 ea ed ⊢
        walk_at "v"
        refine ⟨by show 1 ≤ sizeLine; decide, fun q1 hq1 => ?_⟩
        have K4 : Same H3 (upd H3 q1 (.tup [.str "other"])) := Same.new (Same.refl _) hq1
        generalize upd H3 q1 (.tup [.str "other"]) = H4 at K4 ⊢
        have ea4 := K4 _ _ ea
        have ed4 := K4 _ _ ed
        walk_at "v"
        refine w_isX (b := true) ea4 ed4 xaN (fun u hu => by cases hu; rw [kit_xx xcN xcN]; simp) ?_
        walk_at "v"
        refine w_isX (b := true) ea4 ed4 xaN (fun u hu => by cases hu; exact kit_xv xcN) ?_
        walk_at "v"
        refine w_xf ?_
        walk_at "v"
        refine ⟨a, cA, dx, vs, _, _, rfl, ea4, ed4, xaN, hna _ (by simp), rfl, ?_⟩
        walk_at "v"
        refine w_xf ?_
        walk_at "v"
        refine ⟨a, cA, dx, vs, _, _, rfl, ea4, ed4, xaN, hna _ (by simp), rfl, ?_⟩
        refine ⟨by show 2 ≤ sizeLine; decide, fun q2 hq2 => ?_⟩
        have K5 : Same H4 (upd H4 q2 (.tup [.int (b.1 : Int), .int (b.2 : Int)])) := Same.new (Same.refl _) hq2
        have e5 : upd H4 q2 (.tup [.int (b.1 : Int), .int (b.2 : Int)]) q2 = some (.tup [.int (b.1 : Int), .int (b.2 : Int)]) := upd_same
        generalize upd H4 q2 (.tup [.int (b.1 : Int), .int (b.2 : Int)]) = H5 at K5 e5 ⊢
        have KK := (K3.trans K4).trans K5
        have sm : Shw (.tuple [.int (b.1 : Int), .int (b.2 : Int)]) (16 + 16 + 7) 1 := .two (.int (by constructor <;> omega)) (.int (by constructor <;> omega))
        walk_at "v"
        refine w_unE ?_
        walk_at "v"
        refine w_shw (.tup e5 (.cons (.int _) (.cons (.int _) .nil))) sm (by decide) (by decide) ?_
        have hdu' : DueAt H5 dv (some b) := ThAt.ks (KS.same KK) hdu
        obtain ⟨b1', b2'⟩ := b
        cases hdu' with
        | tup e6 h6 =>
        cases h6 with
        | cons h61 h62 =>
        cases h61
        cases h62 with
        | cons h71 h72 =>
        cases h71
        cases h72
        walk_at "v"
        refine w_shw (.tup e6 (.cons (.int _) (.cons (.int _) .nil))) sm (by decide) (by decide) ?_
        walk_at "v"
        refine ⟨rfl, ?_⟩
        rw [decide_eq_true rfl]
        exact k _ KK
end
end K05

set_option Elab.async false
set_option linter.all false
set_option maxRecDepth 100000
namespace K05
open PySem L2 G2 PT
local macro_rules | `(tactic| walk_at "v") => `(tactic| repeat (with_reducible first
  | refine w_seq ?_ | refine w_asg ?_ | refine w_gname ?_ | refine w_op ?_ | refine w_var rfl ?_ | refine w_c ?_ | refine w_rI0 ?_ | refine w_ifs ?_ | refine w_ife ?_ | refine w_test ?_ | refine w_tb ?_ | refine w_bl ?_ | refine w_not ?_ | refine w_ret ?_ | refine w_retN ?_
  | refine w_nil ?_ | refine w_cons ?_ | refine w_lst ?_ | refine w_tup ?_ | refine w_cb ?_ | refine w_call ?_ | refine w_gsub ?_ | refine w_and ?_ | refine w_or ?_ | refine w_next ?_ | refine w_all ?_ | refine w_vals ?_ | refine w_compR ?_ | refine w_compT ?_ | refine w_forR ?_ | refine w_forT ?_ | refine w_forL ?_ | refine w_drop ?_ | refine w_bm ?_ | refine w_compZ ?_ | refine w_compL ?_ | refine w_chain ?_ | refine w_sl ?_ | refine w_nopart ?_ | refine w_part ?_ | refine w_unI ?_ | refine iteT ?_ | refine iteF ?_))
noncomputable def base4 : List Str := ["sorts a b c", "begin 0 0 1", "in b", "out c"]
noncomputable def zer (ns : List Str) : List Str := ns.map fun _ => ("0" : Str)
noncomputable def outL (ns : List Str) : Str := match ns with | [] => "out" | x :: _ => "out " ++ x
noncomputable def lsA (t : Str) : List Str := [t, "begin " ++ Txt.join " " (zer (spl t).tail), "in", outL (spl t).tail]
noncomputable def csA (x : Str × Option (Nat × Nat)) : List Str × Option Bad := (lsA x.1, x.2)
noncomputable def csB (x : Nat × Str × Option Nat) : List Str × Option Bad := (base4.set x.1 x.2.1 ++ [("rule 1 a to" : Str)], x.2.2.map fun d => (x.1, d))
noncomputable def csC (n : Nat) (x : Str × Option Nat) : List Str × Option Bad := (base4 ++ List.replicate (n % 3) ("rule 1 a to" : Str) ++ [x.1], x.2.map fun d => (4 + n % 3, d))
noncomputable def csD (m : Nat) : List Str × Option Bad := if m < 4 then (base4.take m, some (m, 0)) else (base4 ++ List.replicate (m + 4) ("rule 1 a to 1 b" : Str), if m = 4 then none else some (12, 0))
noncomputable def allC : List (List Str × Option Bad) := tabS.map csA ++ (tabH.map csB ++ ((tabR.zipIdx.map fun x => csC x.2 x.1) ++ (List.range 6).map csD))
theorem allC_ok : (allC.all fun c => chk c.1 c.2 && (decide (c.1.length ≤ 100) && c.1.all fun x => decide (x.length ≤ 1000))) = true := by decide +kernel
noncomputable def okS (x : Str × Option (Nat × Nat)) : Bool := decide (x.1.length ≤ 1000) && (JoinOk " " (zer (spl x.1).tail) && (decide ((Txt.join " " (zer (spl x.1).tail)).length ≤ 500) && (decide ((spl x.1).tail.length ≤ 100) && ((spl x.1).tail.all fun w => decide (w.length ≤ 500) && w.cps.toList.all fun c => decide (c < 128)))))
theorem tabS_ok : tabS.all okS = true := by decide +kernel
theorem tabH_ok : ∀ x ∈ tabH, x.1 < 4 := by decide +kernel
noncomputable def spCs : Sp := fun vs H Q _ => ∃ n : Nat, vs = [.int (n : Int)] ∧ n < 81 ∧ ∀ p l dv c H', Same H H' → c ∈ allC → H' p = some (.tup [.ref l, dv]) → H' l = some (.lst (c.1.map V.str)) → DueAt H' dv c.2 → Q (.ref p) H'
theorem th_pair {H : Hp} {v : V} {a b : Th} (h : ThAt H v (.tup [a, b])) : ∃ p x y, v = .ref p ∧ H p = some (.tup [x, y]) ∧ ThAt H x a ∧ ThAt H y b := by
  cases h with
  | tup e h => cases h with
    | cons h1 h2 => cases h2 with
      | cons h3 h4 => cases h4; exact ⟨_, _, _, rfl, e, h1, h3⟩
theorem th_trip {H : Hp} {v : V} {a b c : Th} (h : ThAt H v (.tup [a, b, c])) : ∃ p x y z, v = .ref p ∧ H p = some (.tup [x, y, z]) ∧ ThAt H x a ∧ ThAt H y b ∧ ThAt H z c := by
  cases h with
  | tup e h => cases h with
    | cons h1 h2 => cases h2 with
      | cons h3 h4 => cases h4 with
        | cons h5 h6 => cases h6; exact ⟨_, _, _, _, rfl, e, h1, h3, h5⟩
theorem rep_strs (n : Nat) (x : Str) : (List.replicate n [V.str x]).flatten = (List.replicate n x).map V.str := by
  induction n with
  | zero => rfl
  | succ n ih => rw [List.replicate_succ, List.flatten_cons, ih, List.replicate_succ]; rfl
theorem eqv_nil (ws : List Str) : PyData.eqv (.list (ws.map PyData.str)) (.list []) = decide (ws = []) := by
  cases ws with
  | nil => rfl
  | cons w ws => show PyData.eqvAll (PyData.str w :: ws.map PyData.str) [] = _; simp [PyData.eqvAll]
noncomputable abbrev sCs : Stmt := top 39
noncomputable abbrev nCs : List Str := ["_law_number", "_law_first", "_law_text", "_law_due", "_law_names", "_law_lines", "_law_heads", "_law_at", "_law_rules", "_law_ahead", "_law_many_here"]
theorem nmCs : Nm nCs (defScope sCs) := ⟨by decide +kernel, by decide +kernel⟩
theorem scCs : FnScope nCs ["_law_number"] (defScope sCs) := ⟨rfl, rfl, rfl, by decide +kernel, rfl, by decide +kernel, by decide +kernel⟩
noncomputable def qCsa (s : Stmt) : Scope := match s with
  | .If _ [_, _, (.Assign _ (.List [_, (.BinOp _ _ (.Call _ [(.ListComp _ _ sc _)] _ _) _), _, _] _) _), _] _ _ => sc
  | _ => { kind := .function, names := [], isGenerator := false, isCoroutine := false }
noncomputable abbrev cCsa : Scope := qCsa ((defBody sCs).getD 1 (.Pass ⟨0, 0, 0, 0⟩))
theorem bsCsa : BScope (defScope sCs) cCsa ["_law_name"] [] [] := { okind := by decide +kernel, kind := by decide +kernel, nocell := by decide +kernel, names := by decide +kernel, fr := by decide +kernel, ff := by decide +kernel, nd := by decide +kernel, vis := by decide +kernel, loc := by decide +kernel, gl := by decide +kernel }
section
variable {P : Program} {w : World} {K : PySem.W.Frag} {mg : Str → Option Value} {base : Heap}
set_option maxHeartbeats 4000000 in
theorem ok_Cs {f : Addr} {fd : FuncData} (B : Bl mg) (G1 : Has P w K mg base 1 "_law_sorts_lines" [] (spT (tabS.map thS))) (G2 : Has P w K mg base 1 "_law_head_lines" [] (spT (tabH.map thH))) (G3 : Has P w K mg base 1 "_law_rule_lines" [] (spT (tabR.map thR))) (F : Fun K "_law_case" "_law_case" sCs f fd) : FnOk P w K mg base CX0 2 f fd ["_law_number"] spCs := by
  refine F.ok scCs (fun vs H Q E h => ?_) (fun cdv A outer s H vs Q E hr h => ?_)
  · obtain ⟨n, rfl, _⟩ := h
    rfl
  · obtain ⟨n, rfl, hn, k⟩ := h
    refine' ⟨_, ?hb, ?rd⟩
    case' hb => skip
    case' hb => refine' pss_cons ?g1 ?g2
    case' g2 => refine' pss_cons ?g3 ?g4
    case' g4 => refine' pss_cons ?g5 ?g6
    case' g6 => refine' pss_cons ?g7 ?g8
    case' g8 => refine' pss_cons ?g9 ?g10
    case' g10 => refine' pss_cons ?g11 ?g12
    case' g12 => refine' pss_cons ?g13 ?g14
    case' g14 => refine' pss_cons ?g15 ?g16
    case' g16 => refine' pss_cons ?g17 ?g18
    case' g18 => refine' pss_cons ?g19 ?g20
    case' g20 => refine' pss_cons ?g21 ?g22
    case' g22 => refine' pss_one ?g23
    case g1 => exact ps_setD nmCs 1 (pe_f0 G1 hr (by decide))
    case' g3 => refine' ps_if ?g24 ?g25 pss_nil
    case g24 => exact pt_cmpR op_lt (pvd nmCs 0) (pe_cB call_len_seq B.len PySem.boot_len (pa_1 (pvd nmCs 1))) (nomark _)
    case' g25 => refine' pss_cons ?g27 ?g28
    case' g28 => refine' pss_cons ?g29 ?g30
    case' g30 => refine' pss_cons ?g31 ?g32
    case' g32 => refine' pss_one ?g33
    case g27 => exact ps_asg (pe_ix ix_d (pvd nmCs 1) (pvd nmCs 0) (fun _ _ => rfl)) (pg_tup rfl (pgs_cons (pgd nmCs 2) (pgs_cons (pgd nmCs 3) pgs_nil)))
    case g29 => exact ps_setD nmCs 4 (pe_slice sl_list (pe_bm PySem.F.plainAttrs_str PySem.F.slot_str_split PySem.F.type_str_split mt_split (pvd nmCs 2) (pa_1 pe_str)) (po_some pe_int) po_none)
    case' g31 => refine' ps_setD nmCs 5 ?g34
    case' g34 => refine' pe_lst ?g35
    case' g35 => refine' pa_c (pvd nmCs 2) ?g36
    case' g36 => refine' pa_c ?g37 (pa_2 pe_str (pe_ifExp (pt_cmpR (op_neD hr) (pvd nmCs 4) (pe_lst pa_nil) (nomark _)) (pe_op op_add_str pe_str (pe_ix ix_d (pvd nmCs 4) pe_int (fun _ _ => rfl))) pe_str))
    case' g37 => refine' pe_op op_add_str pe_str ?g38
    case' g38 => refine' pe_bm PySem.F.plainAttrs_str PySem.F.slot_str_join PySem.F.type_str_join mt_join pe_str ?g39
    case' g39 => refine' pa_1 ?g40
    case' g40 => refine' pe_comp (ix := []) bsCsa.toCScope rfl rfl ?g41 ?g42 ?g43 ?g44
    case g41 => exact pi_list (pvd nmCs 4)
    case g42 => exact fun _ _ _ _ _ _ => pgb bsCsa 0
    case g43 => exact fun _ _ _ _ _ _ => pts_nil
    case g44 => exact fun _ _ _ _ _ _ => pe_str
    case g33 => exact ps_ret (pe_tup (pa_2 (pvd nmCs 5) (pvd nmCs 3)))
    case g5 => exact ps_setD nmCs 0 (pe_op op_sub (pvd nmCs 0) (pe_cB call_len_seq B.len PySem.boot_len (pa_1 (pvd nmCs 1))))
    case g7 => exact ps_setD nmCs 5 (pe_lst (pa_c pe_str (pa_c pe_str (pa_2 pe_str pe_str))))
    case g9 => exact ps_setD nmCs 6 (pe_f0 G2 hr (by decide))
    case' g11 => refine' ps_if ?g45 ?g46 pss_nil
    case g45 => exact pt_cmpR op_lt (pvd nmCs 0) (pe_cB call_len_seq B.len PySem.boot_len (pa_1 (pvd nmCs 6))) (nomark _)
    case' g46 => refine' pss_cons ?g48 ?g49
    case' g49 => refine' pss_cons ?g50 ?g51
    case' g51 => refine' pss_one ?g52
    case g48 => exact ps_asg (pe_ix ix_d (pvd nmCs 6) (pvd nmCs 0) (fun _ _ => rfl)) (pg_tup rfl (pgs_cons (pgd nmCs 7) (pgs_cons (pgd nmCs 2) (pgs_cons (pgd nmCs 3) pgs_nil))))
    case g50 => exact ps_asg (pvd nmCs 2) (pg_sub (pvd nmCs 5) (pvd nmCs 7) set_d)
    case g52 => exact ps_ret (pe_tup (pa_2 (pe_op op_cat (pvd nmCs 5) (pe_lst (pa_1 pe_str))) (pe_ifExp (pt_cmp (pc_isN (pvd nmCs 3))) pe_non (pe_tup (pa_2 (pvd nmCs 7) (pvd nmCs 3))))))
    case g13 => exact ps_setD nmCs 0 (pe_op op_sub (pvd nmCs 0) (pe_cB call_len_seq B.len PySem.boot_len (pa_1 (pvd nmCs 6))))
    case g15 => exact ps_setD nmCs 8 (pe_f0 G3 hr (by decide))
    case' g17 => refine' ps_if ?g53 ?g54 pss_nil
    case g53 => exact pt_cmpR op_lt (pvd nmCs 0) (pe_cB call_len_seq B.len PySem.boot_len (pa_1 (pvd nmCs 8))) (nomark _)
    case' g54 => refine' pss_cons ?g56 ?g57
    case' g57 => refine' pss_cons ?g58 ?g59
    case' g59 => refine' pss_one ?g60
    case g56 => exact ps_asg (pe_ix ix_d (pvd nmCs 8) (pvd nmCs 0) (fun _ _ => rfl)) (pg_tup rfl (pgs_cons (pgd nmCs 2) (pgs_cons (pgd nmCs 3) pgs_nil)))
    case g58 => exact ps_setD nmCs 9 (pe_op op_rep (pe_lst (pa_1 pe_str)) (pe_op op_mod (pvd nmCs 0) pe_int))
    case g60 => exact ps_ret (pe_tup (pa_2 (pe_op op_cat (pe_op op_cat (pvd nmCs 5) (pvd nmCs 9)) (pe_lst (pa_1 (pvd nmCs 2)))) (pe_ifExp (pt_cmp (pc_isN (pvd nmCs 3))) pe_non (pe_tup (pa_2 (pe_op op_add pe_int (pe_op op_mod (pvd nmCs 0) pe_int)) (pvd nmCs 3))))))
    case g19 => exact ps_setD nmCs 10 (pe_op op_sub (pvd nmCs 0) (pe_cB call_len_seq B.len PySem.boot_len (pa_1 (pvd nmCs 8))))
    case' g21 => refine' ps_if ?g61 ?g62 pss_nil
    case g61 => exact pt_cmpR op_lt (pvd nmCs 10) pe_int (nomark _)
    case' g62 => refine' pss_one ?g64
    case g64 => exact ps_ret (pe_tup (pa_2 (pe_slice sl_list (pvd nmCs 5) po_none (po_some (pvd nmCs 10))) (pe_tup (pa_2 (pvd nmCs 10) pe_int))))
    case g23 => exact ps_ret (pe_tup (pa_2 (pe_op op_cat (pvd nmCs 5) (pe_op op_rep (pe_lst (pa_1 pe_str)) (pe_op op_add (pvd nmCs 10) pe_int))) (pe_ifExp (pt_cmpR op_eq (pvd nmCs 10) pe_int (nomark _)) pe_non (pe_tup (pa_2 pe_int pe_int)))))
    case rd =>
      walk_at "v"
      refine ⟨rfl, fun p1 us1 H1 K1 n1 e1 h1 => ?_⟩
      have l1 : us1.length = 15 := h1.len
      walk_at "v"
      refine ⟨p1, _, rfl, .inl (SqL.of e1), ?_⟩
      walk_at "v"
      rw [l1]
      by_cases c1 : n < 15
      · refine iteP (by omega) ?_
        obtain ⟨x, hx⟩ : ∃ x, tabS[n]? = some x := ⟨tabS[n]'(by show n < 15; omega), List.getElem?_eq_getElem _⟩
        obtain ⟨v, hv, hth⟩ := h1.at (i := n) (t := thS x) (by rw [List.getElem?_map, hx]; rfl)
        obtain ⟨a, tv, dv, rfl, ea, ht, hdv⟩ := th_pair (a := .str x.1) (b := dueT x.2) hth
        cases ht
        have hxm := List.mem_of_getElem? hx
        have hok := List.all_eq_true.mp tabS_ok x hxm
        unfold okS at hok
        simp only [Bool.and_eq_true, decide_eq_true_eq, List.all_eq_true] at hok
        obtain ⟨o1, o2, o3, o5, o4⟩ := hok
        have hcm : csA x ∈ allC := List.mem_append_left _ (List.mem_map.mpr ⟨x, hxm, rfl⟩)
        have hne := spl_ne x.1
        walk_at "v"
        refine w_ixL (v := .ref a) e1 (atI_nat hv) ?_
        walk_at "v"
        refine ⟨a, _, rfl, SqT.of ea, rfl, ?_⟩
        refine ⟨_, _, rfl, ?_⟩
        walk_at "v"
        refine ⟨_, _, rfl, ?_⟩
        walk_at "v"
        refine ⟨rfl, ?_⟩
        walk_at "v"
        refine ⟨rfl, ?_⟩
        walk_at "v"
        refine ⟨_, _, rfl, rfl, by decide +kernel, o1, fun q1 hq1 => ?_⟩
        rw [show Txt.split x.1 " " = spl x.1 from rfl]
        have ecs : csA x = ([x.1, "begin " ++ Txt.join " " (zer (spl x.1).tail), "in", outL (spl x.1).tail], x.2) := rfl
        rw [ecs] at hcm
        clear ecs
        generalize spl x.1 = ws at hne o2 o3 o4 o5 hcm ⊢
        match ws, hne, o2, o3, o4, o5, hcm with
        | w0 :: ns, _, o2, o3, o4, o5, hcm =>
        have o5 : ns.length ≤ 100 := o5
        have o2 : JoinOk " " (zer ns) = true := o2
        have o3 : (Txt.join " " (zer ns)).length ≤ 500 := o3
        have o4 : ∀ w ∈ ns, w.length ≤ 500 ∧ ∀ c ∈ w.cps.toList, c < 128 := o4
        have hcm : ([x.1, "begin " ++ Txt.join " " (zer ns), "in", outL ns], x.2) ∈ allC := hcm
        have K2 : Same H1 (upd H1 q1 (.lst ((w0 :: ns).map V.str))) := Same.new (Same.refl _) hq1
        have eq1 : upd H1 q1 (.lst ((w0 :: ns).map V.str)) q1 = some (.lst ((w0 :: ns).map V.str)) := upd_same
        generalize upd H1 q1 (.lst ((w0 :: ns).map V.str)) = H2 at K2 eq1 ⊢
        walk_at "v"
        refine ⟨_, rfl, ?_⟩
        walk_at "v"
        refine ⟨q1, _, rfl, SqL.of eq1, fun q2 hq2 => ?_⟩
        rw [show cutV ((w0 :: ns).map V.str) (some 1) none = ns.map V.str from EL.cut_from (k := 1) (by simp)]
        have K3 : Same H2 (upd H2 q2 (.lst (ns.map V.str))) := Same.new (Same.refl _) hq2
        have eq2 : upd H2 q2 (.lst (ns.map V.str)) q2 = some (.lst (ns.map V.str)) := upd_same
        generalize upd H2 q2 (.lst (ns.map V.str)) = H3 at K3 eq2 ⊢
        walk_at "v"
        refine ⟨rfl, ?_⟩
        walk_at "v"
        refine ⟨q2, rfl, ⟨_, SqL.of eq2⟩, fun D hD => ?_⟩
        refine cgo_list (xs := ns.map V.str) (ρ := []) (fun i ys H' => ys = (zer (ns.take i)).map V.str ∧ Same H3 H') ⟨rfl, Same.new (Same.refl _) hD⟩ (fun i ys H' _ ⟨_, k'⟩ => SqL.of (k' _ _ eq2)) ?_ ?_
        · rintro i y ys H' hy ⟨rfl, K'⟩ hDy R S kR _
          have hyi : (ns.map V.str)[i]? = some y := hy
          rw [List.getElem?_map] at hyi
          cases hn : ns[i]? with
          | none => rw [hn] at hyi; cases hyi
          | some z =>
          have hi : i < ns.length := (List.getElem?_eq_some_iff.mp hn).1
          walk_at "v"
          refine kR _ _ hDy (by unfold zer; rw [List.length_map, List.length_map, List.length_take]; exact small1000 (by omega)) ⟨?_, K'.put hD⟩
          unfold zer
          rw [List.take_add_one, hn, List.map_append, List.map_append]
          rfl
        rintro ys H4 ⟨rfl, K4⟩ e4
        rw [List.take_of_length_le (by rw [List.length_map]; omega)] at e4
        walk_at "v"
        refine ⟨" ", D, zer ns, rfl, rfl, e4, o2, Nat.le_of_lt (small1000 (by omega)), ?_⟩
        walk_at "v"
        refine ⟨_, _, rfl, rfl, Nat.le_of_lt (small1000 (by have : (Str.ofString "begin ").length = 6 := by decide +kernel
                                                            rw [this]; omega)), ?_⟩
        walk_at "v"
        refine ⟨by show 0 ≤ sizeLine; decide, fun q5 hq5 => ?_⟩
        have K5 : Same H4 (upd H4 q5 (.lst [])) := Same.new (Same.refl _) hq5
        have eq5 : upd H4 q5 (.lst []) q5 = some (.lst []) := upd_same
        generalize upd H4 q5 (.lst []) = H5 at K5 eq5 ⊢
        refine ⟨_, _, .lst (K5 _ _ (K4 _ _ eq2)) (rdStrs _), .lst eq5 .nil, by show PyData.canLayAll0 _ = true; exact lay_strs (fun w hw => (o4 w hw).2), rfl, by show PyData.depthAll _ + 1 ≤ 60; rw [depth_strs]; decide, ?_⟩
        rw [eqv_nil]
        have fin : ∀ s : Str, s = outL ns → ∀ q6, H5 q6 = none → ∀ q7, upd H5 q6 (.lst [.str x.1, .str ("begin " ++ Txt.join " " (zer ns)), .str "in", .str s]) q7 = none → Q (.ref q7) (upd (upd H5 q6 (.lst [.str x.1, .str ("begin " ++ Txt.join " " (zer ns)), .str "in", .str s])) q7 (.tup [.ref q6, dv])) := by
          rintro s rfl q6 hq6 q7 hq7
          have KK := ((((K1.trans K2).trans K3).trans K4).trans K5)
          refine k q7 q6 dv _ _ ((KK.new hq6).new hq7) hcm upd_same ?_ ?_
          · rw [upd_ne (fun z => by rw [← z, upd_same] at hq7; cases hq7), upd_same]
            rfl
          · exact ThAt.ks (KS.same (((((K2.trans K3).trans K4).trans K5).new hq6).new hq7)) hdv
        cases ns with
        | nil =>
          walk_at "v"
          refine iteNS rfl ?_
          walk_at "v"
          refine ⟨by show 4 ≤ sizeLine; decide, fun q6 hq6 => ?_⟩
          walk_at "v"
          exact ⟨by show 2 ≤ sizeLine; decide, fun q7 hq7 => fin _ rfl q6 hq6 q7 hq7⟩
        | cons y ns =>
          have hy := (o4 y (by simp)).1
          walk_at "v"
          refine iteNN (fun z => nomatch z) ?_
          walk_at "v"
          refine w_ixL (v := .str y) (K5 _ _ (K4 _ _ eq2)) at0 ?_
          walk_at "v"
          refine ⟨_, _, rfl, rfl, Nat.le_of_lt (small1000 (by have : (Str.ofString "out ").length = 4 := by decide +kernel
                                                              rw [this]; omega)), ?_⟩
          walk_at "v"
          refine ⟨by show 4 ≤ sizeLine; decide, fun q6 hq6 => ?_⟩
          walk_at "v"
          exact ⟨by show 2 ≤ sizeLine; decide, fun q7 hq7 => fin _ rfl q6 hq6 q7 hq7⟩
      refine iteQ (by omega) ?_
      walk_at "v"
      refine ⟨p1, _, rfl, .inl (SqL.of e1), ?_⟩
      walk_at "v"
      rw [l1, show ((n : Int) - ((15 : Nat) : Int)) = ((n - 15 : Nat) : Int) by omega]
      refine ⟨by show 4 ≤ sizeLine; decide, fun q1 hq1 => ?_⟩
      rw [show ([V.str "sorts a b c", V.str "begin 0 0 1", V.str "in b", V.str "out c"] : List V) = base4.map V.str from rfl]
      have K2 : Same H1 (upd H1 q1 (.lst (base4.map V.str))) := Same.new (Same.refl _) hq1
      have eq1 : upd H1 q1 (.lst (base4.map V.str)) q1 = some (.lst (base4.map V.str)) := upd_same
      generalize upd H1 q1 (.lst (base4.map V.str)) = H2 at K2 eq1 ⊢
      walk_at "v"
      refine ⟨rfl, fun p2 us2 H3 K3 n3 e3 h3 => ?_⟩
      have l2 : us2.length = 26 := h3.len
      have eq13 := K3 _ _ eq1
      have KK3 := (K1.trans K2).trans K3
      walk_at "v"
      refine ⟨p2, _, rfl, .inl (SqL.of e3), ?_⟩
      walk_at "v"
      rw [l2]
      by_cases c2 : n < 41
      · refine iteP (by omega) ?_
        obtain ⟨x, hx⟩ : ∃ x, tabH[n - 15]? = some x := ⟨tabH[n - 15]'(by show n - 15 < 26; omega), List.getElem?_eq_getElem _⟩
        obtain ⟨v, hv, hth⟩ := h3.at (i := n - 15) (t := thH x) (by rw [List.getElem?_map, hx]; rfl)
        obtain ⟨a, av, tv, dv, rfl, ea, hat, ht, hdv⟩ := th_trip (a := .int (x.1 : Int)) (b := .str x.2.1) (c := dueI x.2.2) hth
        cases ht
        cases hat
        have hxm := List.mem_of_getElem? hx
        have h4 := tabH_ok x hxm
        have hcm : csB x ∈ allC := List.mem_append_right _ (List.mem_append_left _ (List.mem_map.mpr ⟨x, hxm, rfl⟩))
        walk_at "v"
        refine w_ixL (v := .ref a) e3 (atI_nat hv) ?_
        walk_at "v"
        refine ⟨a, _, rfl, SqT.of ea, rfl, ?_⟩
        refine ⟨_, _, rfl, ?_⟩
        walk_at "v"
        refine ⟨_, _, rfl, ?_⟩
        walk_at "v"
        refine ⟨_, _, rfl, ?_⟩
        walk_at "v"
        refine ⟨rfl, ?_⟩
        walk_at "v"
        refine w_set (j := x.1) eq13 (by rw [List.length_map]; unfold ixN; rw [if_pos (by omega), if_pos (by show (x.1 : Int) < 4; omega)]; simp) ?_
        have nq1 : ∀ b o, b ≠ q1 → H3 b = some o → upd H3 q1 (.lst ((base4.map V.str).set x.1 (.str x.2.1))) b = some o := fun b o hb e => by rw [upd_ne hb]; exact e
        have K4 : Same H (upd H3 q1 (.lst ((base4.map V.str).set x.1 (.str x.2.1)))) := KK3.put (K1.free hq1)
        have e4 : upd H3 q1 (.lst ((base4.map V.str).set x.1 (.str x.2.1))) q1 = some (.lst ((base4.set x.1 x.2.1).map V.str)) := by rw [upd_same, List.map_set]
        generalize upd H3 q1 (.lst ((base4.map V.str).set x.1 (.str x.2.1))) = H4 at K4 e4 ⊢
        walk_at "v"
        refine ⟨by show 1 ≤ sizeLine; decide, fun q2 hq2 => ?_⟩
        have K5 : Same H4 (upd H4 q2 (.lst [.str "rule 1 a to"])) := Same.new (Same.refl _) hq2
        have eq2 : upd H4 q2 (.lst [.str "rule 1 a to"]) q2 = some (.lst [.str "rule 1 a to"]) := upd_same
        generalize upd H4 q2 (.lst [.str "rule 1 a to"]) = H5 at K5 eq2 ⊢
        refine ⟨q1, q2, _, _, rfl, rfl, K5 _ _ e4, eq2, by simp [base4]; decide, fun q3 hq3 => ?_⟩
        have K6 : Same H5 (upd H5 q3 (.lst ((base4.set x.1 x.2.1).map V.str ++ [.str "rule 1 a to"]))) := Same.new (Same.refl _) hq3
        have eq3 : upd H5 q3 (.lst ((base4.set x.1 x.2.1).map V.str ++ [.str "rule 1 a to"])) q3 = some (.lst ((base4.set x.1 x.2.1).map V.str ++ [.str "rule 1 a to"])) := upd_same
        generalize upd H5 q3 (.lst ((base4.set x.1 x.2.1).map V.str ++ [.str "rule 1 a to"])) = H6 at K6 eq3 ⊢
        have KK := (K4.trans K5).trans K6
        walk_at "v"
        refine EL.w_isN ?_
        walk_at "v"
        cases hd : x.2.2 with
        | none =>
          rw [hd] at hdv
          cases hdv
          refine iteP rfl ?_
          walk_at "v"
          refine ⟨by show 2 ≤ sizeLine; decide, fun q4 hq4 => ?_⟩
          refine k q4 q3 .non _ _ (KK.new hq4) hcm upd_same ?_ ?_
          · rw [upd_ne (ne_of_none eq3 hq4), eq3]
            unfold csB
            rw [List.map_append]; rfl
          · unfold csB
            rw [hd]
            exact .non
        | some m =>
          rw [hd] at hdv
          cases hdv
          refine iteQ (fun z => nomatch z) ?_
          walk_at "v"
          refine ⟨by show 2 ≤ sizeLine; decide, fun q5 hq5 => ?_⟩
          have K7 : Same H6 (upd H6 q5 (.tup [.int (x.1 : Int), .int (m : Int)])) := Same.new (Same.refl _) hq5
          have eq5 : upd H6 q5 (.tup [.int (x.1 : Int), .int (m : Int)]) q5 = some (.tup [.int (x.1 : Int), .int (m : Int)]) := upd_same
          generalize upd H6 q5 (.tup [.int (x.1 : Int), .int (m : Int)]) = H7 at K7 eq5 ⊢
          walk_at "v"
          refine ⟨by show 2 ≤ sizeLine; decide, fun q4 hq4 => ?_⟩
          refine k q4 q3 (.ref q5) _ _ ((KK.trans K7).new hq4) hcm upd_same ?_ ?_
          · rw [upd_ne (ne_of_none (K7 _ _ eq3) hq4), K7 _ _ eq3]
            unfold csB
            rw [List.map_append]; rfl
          · unfold csB
            rw [hd]
            exact .tup (by rw [upd_ne (ne_of_none eq5 hq4)]; exact eq5) (.cons (.int _) (.cons (.int _) .nil))
      refine iteQ (by omega) ?_
      walk_at "v"
      refine ⟨p2, _, rfl, .inl (SqL.of e3), ?_⟩
      walk_at "v"
      rw [l2, show (((n - 15 : Nat) : Int) - ((26 : Nat) : Int)) = ((n - 41 : Nat) : Int) by omega]
      refine ⟨rfl, fun p3 us3 H4 K4 n4 e4 h4 => ?_⟩
      have l3 : us3.length = 34 := h4.len
      have eq14 := K4 _ _ eq13
      have KK4 := KK3.trans K4
      walk_at "v"
      refine ⟨p3, _, rfl, .inl (SqL.of e4), ?_⟩
      walk_at "v"
      rw [l3]
      by_cases c3 : n < 75
      · refine iteP (by omega) ?_
        obtain ⟨x, hx⟩ : ∃ x, tabR[n - 41]? = some x := ⟨tabR[n - 41]'(by show n - 41 < 34; omega), List.getElem?_eq_getElem _⟩
        obtain ⟨v, hv, hth⟩ := h4.at (i := n - 41) (t := thR x) (by rw [List.getElem?_map, hx]; rfl)
        obtain ⟨a, tv, dv, rfl, ea, ht, hdv⟩ := th_pair (a := .str x.1) (b := dueI x.2) hth
        cases ht
        have hcm : csC (n - 41) x ∈ allC := List.mem_append_right _ (List.mem_append_right _ (List.mem_append_left _ (List.mem_map.mpr ⟨(x, n - 41), List.mem_iff_getElem?.mpr ⟨n - 41, by rw [List.getElem?_zipIdx, hx]; simp⟩, rfl⟩)))
        generalize hm : n - 41 = m at hcm hv ⊢
        walk_at "v"
        refine w_ixL (v := .ref a) e4 (atI_nat hv) ?_
        walk_at "v"
        refine ⟨a, _, rfl, SqT.of ea, rfl, ?_⟩
        refine ⟨_, _, rfl, ?_⟩
        walk_at "v"
        refine ⟨_, _, rfl, ?_⟩
        walk_at "v"
        refine ⟨rfl, ?_⟩
        walk_at "v"
        refine ⟨by show 1 ≤ sizeLine; decide, fun q2 hq2 => ?_⟩
        have K5 : Same H4 (upd H4 q2 (.lst [.str "rule 1 a to"])) := Same.new (Same.refl _) hq2
        have eq2 : upd H4 q2 (.lst [.str "rule 1 a to"]) q2 = some (.lst [.str "rule 1 a to"]) := upd_same
        generalize upd H4 q2 (.lst [.str "rule 1 a to"]) = H5 at K5 eq2 ⊢
        walk_at "v"
        refine w_rI (by decide) ?_
        rw [show ((m : Int) % 3) = ((m % 3 : Nat) : Int) by omega]
        refine ⟨q2, _, _, rfl, rfl, eq2, by omega, by omega, Nat.le_of_lt (small1000 (by rw [Int.toNat_natCast]; simp only [List.length_cons, List.length_nil]; omega)), fun q3 hq3 => ?_⟩
        rw [Int.toNat_natCast, show (List.replicate (m % 3) [V.str "rule 1 a to"]).flatten = (List.replicate (m % 3) ("rule 1 a to" : Str)).map V.str from rep_strs _ _]
        have K6 : Same H5 (upd H5 q3 (.lst ((List.replicate (m % 3) ("rule 1 a to" : Str)).map V.str))) := Same.new (Same.refl _) hq3
        have eq3 : upd H5 q3 (.lst ((List.replicate (m % 3) ("rule 1 a to" : Str)).map V.str)) q3 = some (.lst ((List.replicate (m % 3) ("rule 1 a to" : Str)).map V.str)) := upd_same
        generalize upd H5 q3 (.lst ((List.replicate (m % 3) ("rule 1 a to" : Str)).map V.str)) = H6 at K6 eq3 ⊢
        walk_at "v"
        refine ⟨q1, q3, _, _, rfl, rfl, K6 _ _ (K5 _ _ eq14), eq3, Nat.le_of_lt (small1000 (by rw [List.length_map, List.length_map, List.length_replicate]; show 4 + _ ≤ 1000; omega)), fun q4 hq4 => ?_⟩
        have K7 : Same H6 (upd H6 q4 (.lst (base4.map V.str ++ (List.replicate (m % 3) ("rule 1 a to" : Str)).map V.str))) := Same.new (Same.refl _) hq4
        have eq4 : upd H6 q4 (.lst (base4.map V.str ++ (List.replicate (m % 3) ("rule 1 a to" : Str)).map V.str)) q4 = some (.lst (base4.map V.str ++ (List.replicate (m % 3) ("rule 1 a to" : Str)).map V.str)) := upd_same
        generalize upd H6 q4 (.lst (base4.map V.str ++ (List.replicate (m % 3) ("rule 1 a to" : Str)).map V.str)) = H7 at K7 eq4 ⊢
        walk_at "v"
        refine ⟨by show 1 ≤ sizeLine; decide, fun q5 hq5 => ?_⟩
        have K8 : Same H7 (upd H7 q5 (.lst [.str x.1])) := Same.new (Same.refl _) hq5
        have eq5 : upd H7 q5 (.lst [.str x.1]) q5 = some (.lst [.str x.1]) := upd_same
        generalize upd H7 q5 (.lst [.str x.1]) = H8 at K8 eq5 ⊢
        refine ⟨q4, q5, _, _, rfl, rfl, K8 _ _ eq4, eq5, Nat.le_of_lt (small1000 (by rw [List.length_append, List.length_map, List.length_map, List.length_replicate]; show 4 + _ + 1 ≤ 1000; omega)), fun q6 hq6 => ?_⟩
        have K9 : Same H8 (upd H8 q6 (.lst (base4.map V.str ++ (List.replicate (m % 3) ("rule 1 a to" : Str)).map V.str ++ [.str x.1]))) := Same.new (Same.refl _) hq6
        have eq6 : upd H8 q6 (.lst (base4.map V.str ++ (List.replicate (m % 3) ("rule 1 a to" : Str)).map V.str ++ [.str x.1])) q6 = some (.lst (base4.map V.str ++ (List.replicate (m % 3) ("rule 1 a to" : Str)).map V.str ++ [.str x.1])) := upd_same
        generalize upd H8 q6 (.lst (base4.map V.str ++ (List.replicate (m % 3) ("rule 1 a to" : Str)).map V.str ++ [.str x.1])) = H9 at K9 eq6 ⊢
        have KK := ((((KK4.trans K5).trans K6).trans K7).trans K8).trans K9
        have elist : base4.map V.str ++ (List.replicate (m % 3) ("rule 1 a to" : Str)).map V.str ++ [.str x.1] = (csC m x).1.map V.str := by unfold csC; rw [List.map_append, List.map_append]; rfl
        rw [elist] at eq6
        walk_at "v"
        refine EL.w_isN ?_
        walk_at "v"
        cases hd : x.2 with
        | none =>
          rw [hd] at hdv
          cases hdv
          refine iteP rfl ?_
          walk_at "v"
          refine ⟨by show 2 ≤ sizeLine; decide, fun q7 hq7 => ?_⟩
          refine k q7 q6 .non _ _ (KK.new hq7) hcm upd_same ?_ ?_
          · rw [upd_ne (ne_of_none eq6 hq7), eq6]
          · unfold csC
            rw [hd]
            exact .non
        | some d =>
          rw [hd] at hdv
          cases hdv
          refine iteQ (fun z => nomatch z) ?_
          walk_at "v"
          refine w_rI (by decide) ?_
          walk_at "v"
          rw [show ((4 : Int) + (m : Int) % 3) = ((4 + m % 3 : Nat) : Int) by omega]
          refine ⟨by show 2 ≤ sizeLine; decide, fun q8 hq8 => ?_⟩
          have K10 : Same H9 (upd H9 q8 (.tup [.int ((4 + m % 3 : Nat) : Int), .int (d : Int)])) := Same.new (Same.refl _) hq8
          have eq8 : upd H9 q8 (.tup [.int ((4 + m % 3 : Nat) : Int), .int (d : Int)]) q8 = some (.tup [.int ((4 + m % 3 : Nat) : Int), .int (d : Int)]) := upd_same
          generalize upd H9 q8 (.tup [.int ((4 + m % 3 : Nat) : Int), .int (d : Int)]) = H10 at K10 eq8 ⊢
          walk_at "v"
          refine ⟨by show 2 ≤ sizeLine; decide, fun q7 hq7 => ?_⟩
          refine k q7 q6 (.ref q8) _ _ ((KK.trans K10).new hq7) hcm upd_same ?_ ?_
          · rw [upd_ne (ne_of_none (K10 _ _ eq6) hq7), K10 _ _ eq6]
          · unfold csC
            rw [hd]
            exact .tup (by rw [upd_ne (ne_of_none eq8 hq7)]; exact eq8) (.cons (.int _) (.cons (.int _) .nil))
      refine iteQ (by omega) ?_
      walk_at "v"
      refine ⟨p3, _, rfl, .inl (SqL.of e4), ?_⟩
      walk_at "v"
      rw [l3, show (((n - 41 : Nat) : Int) - ((34 : Nat) : Int)) = ((n - 75 : Nat) : Int) by omega]
      have hcm : csD (n - 75) ∈ allC := List.mem_append_right _ (List.mem_append_right _ (List.mem_append_right _ (List.mem_map.mpr ⟨n - 75, List.mem_range.mpr (by omega), rfl⟩)))
      have hm6 : n - 75 < 6 := by omega
      generalize n - 75 = m at hcm hm6 ⊢
      by_cases c4 : m < 4
      · refine iteP (by omega) ?_
        walk_at "v"
        refine ⟨_, rfl, ?_⟩
        walk_at "v"
        refine ⟨q1, _, rfl, SqL.of eq14, fun q2 hq2 => ?_⟩
        rw [EL.cut_to (show m ≤ (base4.map V.str).length by show m ≤ 4; omega), ← List.map_take]
        have K5 : Same H4 (upd H4 q2 (.lst ((base4.take m).map V.str))) := Same.new (Same.refl _) hq2
        have eq2 : upd H4 q2 (.lst ((base4.take m).map V.str)) q2 = some (.lst ((base4.take m).map V.str)) := upd_same
        generalize upd H4 q2 (.lst ((base4.take m).map V.str)) = H5 at K5 eq2 ⊢
        walk_at "v"
        refine ⟨by show 2 ≤ sizeLine; decide, fun q3 hq3 => ?_⟩
        have K6 : Same H5 (upd H5 q3 (.tup [.int (m : Int), .int 0])) := Same.new (Same.refl _) hq3
        have eq3 : upd H5 q3 (.tup [.int (m : Int), .int 0]) q3 = some (.tup [.int (m : Int), .int 0]) := upd_same
        generalize upd H5 q3 (.tup [.int (m : Int), .int 0]) = H6 at K6 eq3 ⊢
        walk_at "v"
        refine ⟨by show 2 ≤ sizeLine; decide, fun q7 hq7 => ?_⟩
        have ecd : csD m = (base4.take m, some (m, 0)) := by unfold csD; rw [if_pos c4]
        rw [ecd] at hcm
        refine k q7 q2 (.ref q3) _ _ (((KK4.trans K5).trans K6).new hq7) hcm upd_same ?_ ?_
        · rw [upd_ne (ne_of_none (K6 _ _ eq2) hq7), K6 _ _ eq2]
        · exact .tup (by rw [upd_ne (ne_of_none eq3 hq7)]; exact eq3) (.cons (.int _) (.cons (.int _) .nil))
      refine iteQ (by omega) ?_
      walk_at "v"
      refine ⟨by show 1 ≤ sizeLine; decide, fun q2 hq2 => ?_⟩
      have K5 : Same H4 (upd H4 q2 (.lst [.str "rule 1 a to 1 b"])) := Same.new (Same.refl _) hq2
      have eq2 : upd H4 q2 (.lst [.str "rule 1 a to 1 b"]) q2 = some (.lst [.str "rule 1 a to 1 b"]) := upd_same
      generalize upd H4 q2 (.lst [.str "rule 1 a to 1 b"]) = H5 at K5 eq2 ⊢
      walk_at "v"
      rw [show ((m : Int) + 4) = ((m + 4 : Nat) : Int) by omega]
      refine ⟨q2, _, _, rfl, rfl, eq2, by omega, by omega, Nat.le_of_lt (small1000 (by rw [Int.toNat_natCast]; simp only [List.length_cons, List.length_nil]; omega)), fun q3 hq3 => ?_⟩
      rw [Int.toNat_natCast, show (List.replicate (m + 4) [V.str "rule 1 a to 1 b"]).flatten = (List.replicate (m + 4) ("rule 1 a to 1 b" : Str)).map V.str from rep_strs _ _]
      have K6 : Same H5 (upd H5 q3 (.lst ((List.replicate (m + 4) ("rule 1 a to 1 b" : Str)).map V.str))) := Same.new (Same.refl _) hq3
      have eq3 : upd H5 q3 (.lst ((List.replicate (m + 4) ("rule 1 a to 1 b" : Str)).map V.str)) q3 = some (.lst ((List.replicate (m + 4) ("rule 1 a to 1 b" : Str)).map V.str)) := upd_same
      generalize upd H5 q3 (.lst ((List.replicate (m + 4) ("rule 1 a to 1 b" : Str)).map V.str)) = H6 at K6 eq3 ⊢
      refine ⟨q1, q3, _, _, rfl, rfl, K6 _ _ (K5 _ _ eq14), eq3, Nat.le_of_lt (small1000 (by rw [List.length_map, List.length_map, List.length_replicate]; show 4 + _ ≤ 1000; omega)), fun q4 hq4 => ?_⟩
      have K7 : Same H6 (upd H6 q4 (.lst (base4.map V.str ++ (List.replicate (m + 4) ("rule 1 a to 1 b" : Str)).map V.str))) := Same.new (Same.refl _) hq4
      have eq4 : upd H6 q4 (.lst (base4.map V.str ++ (List.replicate (m + 4) ("rule 1 a to 1 b" : Str)).map V.str)) q4 = some (.lst (base4.map V.str ++ (List.replicate (m + 4) ("rule 1 a to 1 b" : Str)).map V.str)) := upd_same
      generalize upd H6 q4 (.lst (base4.map V.str ++ (List.replicate (m + 4) ("rule 1 a to 1 b" : Str)).map V.str)) = H7 at K7 eq4 ⊢
      have KK := ((KK4.trans K5).trans K6).trans K7
      have ecd : csD m = (base4 ++ List.replicate (m + 4) ("rule 1 a to 1 b" : Str), if m = 4 then none else some (12, 0)) := by unfold csD; rw [if_neg c4]
      rw [ecd] at hcm
      rw [← List.map_append] at eq4
      walk_at "v"
      refine ⟨rfl, ?_⟩
      walk_at "v"
      by_cases c5 : m = 4
      · rw [if_pos c5] at hcm
        refine iteP (by rw [c5]; rfl) ?_
        walk_at "v"
        refine ⟨by show 2 ≤ sizeLine; decide, fun q7 hq7 => ?_⟩
        refine k q7 q4 .non _ _ (KK.new hq7) hcm upd_same ?_ .non
        rw [upd_ne (ne_of_none eq4 hq7), eq4]
      rw [if_neg c5] at hcm
      refine iteQ (fun z => c5 (by have z := V.int.inj z; omega)) ?_
      walk_at "v"
      refine ⟨by show 2 ≤ sizeLine; decide, fun q5 hq5 => ?_⟩
      have K8 : Same H7 (upd H7 q5 (.tup [.int 12, .int 0])) := Same.new (Same.refl _) hq5
      have eq5 : upd H7 q5 (.tup [.int 12, .int 0]) q5 = some (.tup [.int 12, .int 0]) := upd_same
      generalize upd H7 q5 (.tup [.int 12, .int 0]) = H8 at K8 eq5 ⊢
      walk_at "v"
      refine ⟨by show 2 ≤ sizeLine; decide, fun q7 hq7 => ?_⟩
      refine k q7 q4 (.ref q5) _ _ ((KK.trans K8).new hq7) hcm upd_same ?_ ?_
      · rw [upd_ne (ne_of_none (K8 _ _ eq4) hq7), K8 _ _ eq4]
      · exact .tup (by rw [upd_ne (ne_of_none eq5 hq7)]; exact eq5) (.cons (.int _) (.cons (.int _) .nil))
end
end K05

set_option Elab.async false
set_option linter.all false
set_option maxRecDepth 100000
namespace K05
open PySem L2 G2 PT
local macro_rules | `(tactic| walk_at "v") => `(tactic| repeat (with_reducible first
  | refine w_seq ?_ | refine w_asg ?_ | refine w_gname ?_ | refine w_op ?_ | refine w_var rfl ?_ | refine w_c ?_ | refine w_rI0 ?_ | refine w_ifs ?_ | refine w_ife ?_ | refine w_test ?_ | refine w_tb ?_ | refine w_bl ?_ | refine w_not ?_ | refine w_ret ?_ | refine w_retN ?_
  | refine w_nil ?_ | refine w_cons ?_ | refine w_lst ?_ | refine w_tup ?_ | refine w_cb ?_ | refine w_call ?_ | refine w_gsub ?_ | refine w_and ?_ | refine w_or ?_ | refine w_next ?_ | refine w_all ?_ | refine w_vals ?_ | refine w_compR ?_ | refine w_compT ?_ | refine w_forR ?_ | refine w_forT ?_ | refine w_forL ?_ | refine w_drop ?_ | refine w_bm ?_ | refine w_compZ ?_ | refine w_compL ?_ | refine w_chain ?_ | refine w_sl ?_ | refine w_nopart ?_ | refine w_part ?_ | refine w_unI ?_ | refine iteT ?_ | refine iteF ?_))
noncomputable abbrev sINp : Stmt := methOf (top 2) 0
noncomputable abbrev nINp : List Str := ["self", "line", "word"]
theorem nmINp : Nm nINp (defScope sINp) := ⟨by decide +kernel, by decide +kernel⟩
theorem scINp : FnScope nINp ["self", "line", "word"] (defScope sINp) := ⟨rfl, rfl, rfl, by decide +kernel, rfl, by decide +kernel, by decide +kernel⟩
section
variable {P : Program} {w : World} {K : PySem.W.Frag} {mg : Str → Option Value} {base : Heap}
set_option maxHeartbeats 4000000 in
theorem ok_INp {f : Addr} {fd : FuncData} (F : Fun K "__init__" "NoPot.__init__" sINp f fd) : FnOk P w K mg base CX0 1 f fd ["self", "line", "word"] (spXi K ["line", "word"]) := by
  refine F.ok scINp (fun vs H Q E h => ?_) (fun cdv A outer s H vs Q E hr h => ?_)
  · obtain ⟨a, C, v0, us, rfl, hl, _⟩ := h
    show us.length + 1 = 3
    rw [hl]; rfl
  · obtain ⟨a, C, v0, us, rfl, hl, ha, xa, hn, k⟩ := h
    match us, hl, k with
    | [u0, u1], _, k =>
    refine' ⟨_, ?hb, ?rd⟩
    case hb =>
      refine' pss_cons ?s1 ?r1
      case' r1 => refine' pss_one ?s2
      case' s1 => refine' ps_xf ?s3 ?s4
      case s3 => exact pvd nmINp 0
      case s4 => exact pvd nmINp 1
      case' s2 => refine' ps_xf ?s5 ?s6
      case s5 => exact pvd nmINp 0
      case s6 => exact pvd nmINp 2
    case rd =>
      refine w_seq ?_
      refine w_sxf (w_var rfl (w_var rfl ?_))
      refine ⟨a, C, none, v0, rfl, ha, xa, hn _ (by simp), fun dx hd hne => ?_⟩
      refine w_sxf (w_var rfl (w_var rfl ?_))
      refine ⟨a, C, some dx, v0, rfl, upd_same, xa, hn _ (by simp), [("line", u0)], by rw [upd_ne hne, upd_same], (by show (1 : Nat) < 100; decide), ?_⟩
      have z := k dx hd hne
      rw [upd_swap hne]
      exact z
end
noncomputable abbrev sLaw : Stmt := top 42
noncomputable abbrev nLaw : List Str := ["_law_script", "_law_k", "_law_feed_here", "_law_lines", "_law_due"]
theorem nmLaw : Nm nLaw (defScope sLaw) := ⟨by decide +kernel, by decide +kernel⟩
theorem scLaw : FnScope nLaw ["_law_script"] (defScope sLaw) := ⟨rfl, rfl, rfl, by decide +kernel, rfl, by decide +kernel, by decide +kernel⟩
noncomputable def spLaw (K : PySem.W.Frag) : Sp := fun vs H Q _ => ∃ (a : Addr) (ns : List Int), vs = [.ref a] ∧ G2.SqF K H a (ns.map V.int) ∧ ns.length ≤ 63 ∧ ∀ H', Q (.bl true) H'
section
variable {P : Program} {w : World} {K : PySem.W.Frag} {mg : Str → Option Value} {base : Heap}
set_option maxHeartbeats 4000000 in
theorem ok_Law {f : Addr} {fd : FuncData} (B : Bl mg) (fF : Has P w K mg base 1 "_law_feed" ["_law_script", "_law_k"] (spFeed K)) (fD : Has P w K mg base 1 "_law_draw" ["_law_feed_here", "_law_many_here"] spDraw) (fM : Has P w K mg base 2 "_law_many" [] spMy) (fC : Has P w K mg base 2 "_law_case" ["_law_number"] spCs) (fR : Has P w K mg base 7 "_law_right" ["_law_lines", "_law_due"] spRt) (F : Fun K "law" "law" sLaw f fd) : FnOk P w K mg base CX0 8 f fd ["_law_script"] (spLaw K) := by
  refine F.ok scLaw (fun vs H Q E h => ?_) (fun cdv A outer s H vs Q E hr h => ?_)
  · obtain ⟨a, ns, rfl, _⟩ := h
    rfl
  · obtain ⟨a, ns, rfl, hS, hl, k⟩ := h
    refine' ⟨_, ?hb, ?rd⟩
    case' hb => skip
    case' hb => refine' pss_cons ?g1 ?g2
    case' g2 => refine' pss_one ?g3
    case' g1 => refine' ps_for PassesOwn.never rfl ?g4 (pgd nmLaw 1) ?g5
    case g4 => exact pi_r1 B.range (pa_1 pe_int)
    case' g5 => refine' pss_cons ?g6 ?g7
    case' g7 => refine' pss_cons ?g8 ?g9
    case' g9 => refine' pss_one ?g10
    case g6 => exact ps_setD nmLaw 2 (pe_f fF hr (by decide) (pa_2 (pvd nmLaw 0) (pvd nmLaw 1)))
    case g8 => exact ps_asg (pe_f fC hr (by decide) (pa_1 (pe_f fD hr (by decide) (pa_2 (pvd nmLaw 2) (pe_f0 fM hr (by decide)))))) (pg_tup rfl (pgs_cons (pgd nmLaw 3) (pgs_cons (pgd nmLaw 4) pgs_nil)))
    case' g10 => refine' ps_if ?g11 ?g12 pss_nil
    case g11 => exact pt_not (pt_val (pe_f fR hr (by decide) (pa_2 (pvd nmLaw 3) (pvd nmLaw 4))))
    case' g12 => refine' pss_one ?g14
    case g14 => exact ps_ret pe_bl
    case g3 => exact ps_ret pe_bl
    case rd =>
      walk_at "v"
      refine ⟨24, rfl, by decide, by decide, ?_⟩
      refine for_range (n := 24) (fun i σ H' => ∃ (u1 u2 u3 u4 : Option V), σ = [some (.ref a), u1, u2, u3, u4] ∧ Same H H') ⟨none, none, none, none, rfl, Same.refl _⟩ ?_ ?_
      · rintro i σ H1 hi ⟨u1, u2, u3, u4, rfl, K1⟩
        walk_at "v"
        refine ⟨a, ns, i, by rw [Int.zero_add]; rfl, SqL.sm K1 hS.sq, hl, fun p x y z hp => ?_⟩
        have K2 : Same H (upd H1 p (.lst [.int x, .int y, .int z])) := K1.new hp
        have F2 : FeedAt (upd H1 p (.lst [.int x, .int y, .int z])) p := FeedAt.here
        have n0 : H p = none := K1.free hp
        generalize upd H1 p (.lst [.int x, .int y, .int z]) = H2 at K2 F2 ⊢
        walk_at "v"
        refine ⟨rfl, fun H3 K3 => ?_⟩
        have F3 : FeedAt H3 p := let ⟨x, y, z, e⟩ := F2; ⟨x, y, z, K3 _ _ e⟩
        walk_at "v"
        refine ⟨p, 81, rfl, F3, by decide, by decide, fun r x y z r0 r1 => ?_⟩
        have K4 : Same H (upd H3 p (.lst [.int x, .int y, .int z])) := (K2.trans K3).put n0
        generalize upd H3 p (.lst [.int x, .int y, .int z]) = H4 at K4 ⊢
        obtain ⟨n, rfl⟩ : ∃ n : Nat, r = (n : Int) := ⟨r.toNat, by omega⟩
        walk_at "v"
        refine ⟨n, rfl, by omega, fun q l dv c H5 K5 hc e1 e2 hd => ?_⟩
        have hok := List.all_eq_true.mp allC_ok c hc
        simp only [Bool.and_eq_true, decide_eq_true_eq, List.all_eq_true] at hok
        walk_at "v"
        refine ⟨q, _, rfl, SqT.of e1, rfl, ?_⟩
        refine ⟨_, _, rfl, ?_⟩
        walk_at "v"
        refine ⟨_, _, rfl, ?_⟩
        walk_at "v"
        refine ⟨rfl, ?_⟩
        walk_at "v"
        refine ⟨l, c.1, dv, c.2, rfl, e2, hok.2.2, hok.2.1, hd, hok.1, fun H6 K6 => ?_⟩
        walk_at "v"
        refine iteF ?_
        exact ⟨_, _, _, _, rfl, (K4.trans K5).trans K6⟩
      · rintro σ H1 ⟨u1, u2, u3, u4, rfl, K1⟩
        walk_at "v"
        exact k _
end
end K05

set_option Elab.async false
set_option linter.all false
set_option maxRecDepth 100000
namespace K05
open PySem L2 G2 PT
theorem all_mk {l : PySem.W.OpenLaw} {w : World} {K : PySem.W.Frag} {h : Heap} {mg : Str → Option Value} {fa f1 f2 f3 f4 f5 f6 f7 f8 f9 f10 f11 f12 f13 f14 f15 f16 f17 f18 f19 f20 f21 : Addr} (X : K.In h) (G : h.Ns mainGlobals mg) (hfa : mg "law" = some (.ref fa))
    {od1 an1 od2 an2 od3 an3 od4 an4 od5 an5 od6 an6 od7 an7 od8 an8 od9 an9 od10 an10 od11 an11 od12 an12 od13 an13 od14 an14 od15 an15 od16 an16 od17 an17 od18 an18 od19 an19 od20 an20 od21 an21 : Option Addr} {sl1 sl2 sl3 sl4 sl5 sl6 sl7 sl8 sl9 sl10 sl11 sl12 sl13 sl14 sl15 sl16 sl17 sl18 sl19 sl20 sl21 : Array (Option Value)} {oc1 kV1 dc1 pm1 cd1 ct1 oc2 kV2 dc2 pm2 cd2 ct2 oc3 kV3 dc3 pm3 cd3 ct3 oc4 kV4 dc4 pm4 cd4 ct4 oc5 kV5 dc5 pm5 cd5 ct5 oc6 kV6 dc6 pm6 cd6 ct6 oc7 kV7 dc7 pm7 cd7 ct7 oc8 kV8 dc8 pm8 cd8 ct8 oc9 kV9 dc9 pm9 cd9 ct9 oc10 kV10 dc10 pm10 cd10 ct10 oc11 kV11 dc11 pm11 cd11 ct11 oc12 kV12 dc12 pm12 cd12 ct12 oc13 kV13 dc13 pm13 cd13 ct13 oc14 kV14 dc14 pm14 cd14 ct14 oc15 kV15 dc15 pm15 cd15 ct15 oc16 kV16 dc16 pm16 cd16 ct16 oc17 kV17 dc17 pm17 cd17 ct17 oc18 kV18 dc18 pm18 cd18 ct18 oc19 kV19 dc19 pm19 cd19 ct19 oc20 kV20 dc20 pm20 cd20 ct20 oc21 kV21 dc21 pm21 cd21 ct21 : Value} {t1 t2 t3 t4 t5 t6 t7 t8 t9 t10 t11 t12 t13 t14 : Tok} {ta1 : Addr} {td1 : Option Addr} {tn1 : Nat} {ts1 : Array (Option Value)} {tt1_0 tt1_1 tt1_2 tt1_3 tt1_4 tt1_5 : Tok}
    {x0 xN0 x1 xN1 : Addr} {xm0 xq0 xm1 xq1 : Str} {xb0 xu0 xb1 xu1 : List Value} {xn0 xn1 : List Str} {xh0 xh1 : Bool} {xo0 xo1 : Option Bool} {xd0 xd1 : Option Addr} {xk0_0 xk0_1 xk0_2 xk0_3 xk0_5 xk1_0 xk1_1 xk1_2 xk1_3 xk1_5 : Option Value}
    {i1 : Addr} {id1 ia1 : Option Addr} {is1 : Array (Option Value)} {ic1 iV1 iD1 ip1 iC1 iT1 : Value}
    (a1 : PySem.W.nsIn K mainGlobals "_law_feed" = some (some (.ref f1))) (l1 : K.lookup f1 = some ⟨oc1, od1, .func (PySem.W.fnOf "_law_feed" "_law_feed" (defArgs sFeed) (defBody sFeed) (defScope sFeed) .none kV1 dc1 pm1 an1 cd1 ct1), sl1⟩) (c1 : PySem.W.codeIn K cd1 "_law_feed" = true) (k1 : PySem.W.keepIn K (.ref f1) = true)
    (a2 : PySem.W.nsIn K mainGlobals "_law_draw" = some (some (.ref f2))) (l2 : K.lookup f2 = some ⟨oc2, od2, .func (PySem.W.fnOf "_law_draw" "_law_draw" (defArgs sDraw) (defBody sDraw) (defScope sDraw) .none kV2 dc2 pm2 an2 cd2 ct2), sl2⟩) (c2 : PySem.W.codeIn K cd2 "_law_draw" = true) (k2 : PySem.W.keepIn K (.ref f2) = true)
    (a3 : PySem.W.nsIn K mainGlobals "is_figures" = some (some (.ref f3))) (l3 : K.lookup f3 = some ⟨oc3, od3, .func (PySem.W.fnOf "is_figures" "is_figures" (defArgs sFig) (defBody sFig) (defScope sFig) .none kV3 dc3 pm3 an3 cd3 ct3), sl3⟩) (c3 : PySem.W.codeIn K cd3 "is_figures" = true) (k3 : PySem.W.keepIn K (.ref f3) = true)
    (a4 : PySem.W.nsIn K mainGlobals "is_name" = some (some (.ref f4))) (l4 : K.lookup f4 = some ⟨oc4, od4, .func (PySem.W.fnOf "is_name" "is_name" (defArgs sNam) (defBody sNam) (defScope sNam) .none kV4 dc4 pm4 an4 cd4 ct4), sl4⟩) (c4 : PySem.W.codeIn K cd4 "is_name" = true) (k4 : PySem.W.keepIn K (.ref f4) = true)
    (a5 : PySem.W.nsIn K mainGlobals "words_of" = some (some (.ref f5))) (l5 : K.lookup f5 = some ⟨oc5, od5, .func (PySem.W.fnOf "words_of" "words_of" (defArgs sWof) (defBody sWof) (defScope sWof) .none kV5 dc5 pm5 an5 cd5 ct5), sl5⟩) (c5 : PySem.W.codeIn K cd5 "words_of" = true) (k5 : PySem.W.keepIn K (.ref f5) = true)
    (a6 : PySem.W.nsIn K mainGlobals "read_number" = some (some (.ref f6))) (l6 : K.lookup f6 = some ⟨oc6, od6, .func (PySem.W.fnOf "read_number" "read_number" (defArgs sNu) (defBody sNu) (defScope sNu) .none kV6 dc6 pm6 an6 cd6 ct6), sl6⟩) (c6 : PySem.W.codeIn K cd6 "read_number" = true) (k6 : PySem.W.keepIn K (.ref f6) = true)
    (a7 : PySem.W.nsIn K mainGlobals "read_sort" = some (some (.ref f7))) (l7 : K.lookup f7 = some ⟨oc7, od7, .func (PySem.W.fnOf "read_sort" "read_sort" (defArgs sSo) (defBody sSo) (defScope sSo) .none kV7 dc7 pm7 an7 cd7 ct7), sl7⟩) (c7 : PySem.W.codeIn K cd7 "read_sort" = true) (k7 : PySem.W.keepIn K (.ref f7) = true)
    (a8 : PySem.W.nsIn K mainGlobals "read_sorts" = some (some (.ref f8))) (l8 : K.lookup f8 = some ⟨oc8, od8, .func (PySem.W.fnOf "read_sorts" "read_sorts" (defArgs sRs) (defBody sRs) (defScope sRs) .none kV8 dc8 pm8 an8 cd8 ct8), sl8⟩) (c8 : PySem.W.codeIn K cd8 "read_sorts" = true) (k8 : PySem.W.keepIn K (.ref f8) = true)
    (a9 : PySem.W.nsIn K mainGlobals "read_begin" = some (some (.ref f9))) (l9 : K.lookup f9 = some ⟨oc9, od9, .func (PySem.W.fnOf "read_begin" "read_begin" (defArgs sRb) (defBody sRb) (defScope sRb) .none kV9 dc9 pm9 an9 cd9 ct9), sl9⟩) (c9 : PySem.W.codeIn K cd9 "read_begin" = true) (k9 : PySem.W.keepIn K (.ref f9) = true)
    (a10 : PySem.W.nsIn K mainGlobals "read_inputs" = some (some (.ref f10))) (l10 : K.lookup f10 = some ⟨oc10, od10, .func (PySem.W.fnOf "read_inputs" "read_inputs" (defArgs sRi) (defBody sRi) (defScope sRi) .none kV10 dc10 pm10 an10 cd10 ct10), sl10⟩) (c10 : PySem.W.codeIn K cd10 "read_inputs" = true) (k10 : PySem.W.keepIn K (.ref f10) = true)
    (a11 : PySem.W.nsIn K mainGlobals "read_answer" = some (some (.ref f11))) (l11 : K.lookup f11 = some ⟨oc11, od11, .func (PySem.W.fnOf "read_answer" "read_answer" (defArgs sRan) (defBody sRan) (defScope sRan) .none kV11 dc11 pm11 an11 cd11 ct11), sl11⟩) (c11 : PySem.W.codeIn K cd11 "read_answer" = true) (k11 : PySem.W.keepIn K (.ref f11) = true)
    (a12 : PySem.W.nsIn K mainGlobals "read_side" = some (some (.ref f12))) (l12 : K.lookup f12 = some ⟨oc12, od12, .func (PySem.W.fnOf "read_side" "read_side" (defArgs sRsd) (defBody sRsd) (defScope sRsd) .none kV12 dc12 pm12 an12 cd12 ct12), sl12⟩) (c12 : PySem.W.codeIn K cd12 "read_side" = true) (k12 : PySem.W.keepIn K (.ref f12) = true)
    (a13 : PySem.W.nsIn K mainGlobals "read_rule" = some (some (.ref f13))) (l13 : K.lookup f13 = some ⟨oc13, od13, .func (PySem.W.fnOf "read_rule" "read_rule" (defArgs sRr) (defBody sRr) (defScope sRr) .none kV13 dc13 pm13 an13 cd13 ct13), sl13⟩) (c13 : PySem.W.codeIn K cd13 "read_rule" = true) (k13 : PySem.W.keepIn K (.ref f13) = true)
    (a14 : PySem.W.nsIn K mainGlobals "read_pot" = some (some (.ref f14))) (l14 : K.lookup f14 = some ⟨oc14, od14, .func (PySem.W.fnOf "read_pot" "read_pot" (defArgs sRp) (defBody sRp) (defScope sRp) .none kV14 dc14 pm14 an14 cd14 ct14), sl14⟩) (c14 : PySem.W.codeIn K cd14 "read_pot" = true) (k14 : PySem.W.keepIn K (.ref f14) = true)
    (a15 : PySem.W.nsIn K mainGlobals "_law_sorts_lines" = some (some (.ref f15))) (l15 : K.lookup f15 = some ⟨oc15, od15, .func (PySem.W.fnOf "_law_sorts_lines" "_law_sorts_lines" (defArgs sTsl) (defBody sTsl) (defScope sTsl) .none kV15 dc15 pm15 an15 cd15 ct15), sl15⟩) (c15 : PySem.W.codeIn K cd15 "_law_sorts_lines" = true) (k15 : PySem.W.keepIn K (.ref f15) = true)
    (a16 : PySem.W.nsIn K mainGlobals "_law_head_lines" = some (some (.ref f16))) (l16 : K.lookup f16 = some ⟨oc16, od16, .func (PySem.W.fnOf "_law_head_lines" "_law_head_lines" (defArgs sThl) (defBody sThl) (defScope sThl) .none kV16 dc16 pm16 an16 cd16 ct16), sl16⟩) (c16 : PySem.W.codeIn K cd16 "_law_head_lines" = true) (k16 : PySem.W.keepIn K (.ref f16) = true)
    (a17 : PySem.W.nsIn K mainGlobals "_law_rule_lines" = some (some (.ref f17))) (l17 : K.lookup f17 = some ⟨oc17, od17, .func (PySem.W.fnOf "_law_rule_lines" "_law_rule_lines" (defArgs sTrl) (defBody sTrl) (defScope sTrl) .none kV17 dc17 pm17 an17 cd17 ct17), sl17⟩) (c17 : PySem.W.codeIn K cd17 "_law_rule_lines" = true) (k17 : PySem.W.keepIn K (.ref f17) = true)
    (a18 : PySem.W.nsIn K mainGlobals "_law_many" = some (some (.ref f18))) (l18 : K.lookup f18 = some ⟨oc18, od18, .func (PySem.W.fnOf "_law_many" "_law_many" (defArgs sMy) (defBody sMy) (defScope sMy) .none kV18 dc18 pm18 an18 cd18 ct18), sl18⟩) (c18 : PySem.W.codeIn K cd18 "_law_many" = true) (k18 : PySem.W.keepIn K (.ref f18) = true)
    (a19 : PySem.W.nsIn K mainGlobals "_law_case" = some (some (.ref f19))) (l19 : K.lookup f19 = some ⟨oc19, od19, .func (PySem.W.fnOf "_law_case" "_law_case" (defArgs sCs) (defBody sCs) (defScope sCs) .none kV19 dc19 pm19 an19 cd19 ct19), sl19⟩) (c19 : PySem.W.codeIn K cd19 "_law_case" = true) (k19 : PySem.W.keepIn K (.ref f19) = true)
    (a20 : PySem.W.nsIn K mainGlobals "_law_right" = some (some (.ref f20))) (l20 : K.lookup f20 = some ⟨oc20, od20, .func (PySem.W.fnOf "_law_right" "_law_right" (defArgs sRt) (defBody sRt) (defScope sRt) .none kV20 dc20 pm20 an20 cd20 ct20), sl20⟩) (c20 : PySem.W.codeIn K cd20 "_law_right" = true) (k20 : PySem.W.keepIn K (.ref f20) = true)
    (a21 : PySem.W.nsIn K mainGlobals "law" = some (some (.ref f21))) (l21 : K.lookup f21 = some ⟨oc21, od21, .func (PySem.W.fnOf "law" "law" (defArgs sLaw) (defBody sLaw) (defScope sLaw) .none kV21 dc21 pm21 an21 cd21 ct21), sl21⟩) (c21 : PySem.W.codeIn K cd21 "law" = true) (k21 : PySem.W.keepIn K (.ref f21) = true)
    (z1 : PySem.W.nsIn K mainGlobals "len" = some none) (z2 : PySem.W.nsIn K mainGlobals "range" = some none) (z3 : PySem.W.nsIn K mainGlobals "tuple" = some none) (z4 : PySem.W.nsIn K mainGlobals "int" = some none) (z5 : PySem.W.nsIn K mainGlobals "bool" = some none) (z6 : PySem.W.nsIn K mainGlobals "list" = some none) (z7 : PySem.W.nsIn K mainGlobals "str" = some none) (z8 : PySem.W.nsIn K mainGlobals "all" = some none) (z9 : PySem.W.nsIn K mainGlobals "any" = some none) (z10 : PySem.W.nsIn K mainGlobals "isinstance" = some none) (z11 : PySem.W.nsIn K mainGlobals "repr" = some none) (z12 : PySem.W.nsIn K mainGlobals "zip" = some none) (z13 : PySem.W.nsIn K mainGlobals "min" = some none) (z14 : PySem.W.nsIn K mainGlobals "max" = some none) (z15 : PySem.W.nsIn K mainGlobals "sum" = some none) (z16 : PySem.W.nsIn K mainGlobals "enumerate" = some none) (z17 : PySem.W.nsIn K mainGlobals "sorted" = some none) (z18 : PySem.W.nsIn K mainGlobals "set" = some none) (z19 : PySem.W.nsIn K mainGlobals "dict" = some none) (z20 : PySem.W.nsIn K mainGlobals "abs" = some none) (z21 : PySem.W.nsIn K mainGlobals "ValueError" = some none)
    (g1 : PySem.W.nsIn K mainGlobals "FIGURES" = some (some (.str "0123456789" t1))) (g2 : PySem.W.nsIn K mainGlobals "LETTERS" = some (some (.str "abcdefghijklmnopqrstuvwxyz" t2))) (g3 : PySem.W.nsIn K mainGlobals "MOST_LETTERS" = some (some (.int (8) t3))) (g4 : PySem.W.nsIn K mainGlobals "MOST_SORTS" = some (some (.int (8) t4))) (g5 : PySem.W.nsIn K mainGlobals "MOST_BEGIN" = some (some (.int (99) t5))) (g6 : PySem.W.nsIn K mainGlobals "MOST_INPUTS" = some (some (.int (3) t6))) (g7 : PySem.W.nsIn K mainGlobals "MOST_RULES" = some (some (.int (8) t7))) (g8 : PySem.W.nsIn K mainGlobals "MOST_DROPS" = some (some (.int (9) t8))) (g9 : PySem.W.nsIn K mainGlobals "MOST_FIGURES" = some (some (.int (2) t9))) (g10 : PySem.W.nsIn K mainGlobals "SORTS_LINE" = some (some (.int (0) t10))) (g11 : PySem.W.nsIn K mainGlobals "BEGIN_LINE" = some (some (.int (1) t11))) (g12 : PySem.W.nsIn K mainGlobals "IN_LINE" = some (some (.int (2) t12))) (g13 : PySem.W.nsIn K mainGlobals "OUT_LINE" = some (some (.int (3) t13))) (g14 : PySem.W.nsIn K mainGlobals "FIRST_RULE" = some (some (.int (4) t14))) (tg1 : PySem.W.nsIn K mainGlobals "NO_NAMES" = some (some (.ref ta1))) (tl1 : K.lookup ta1 = some ⟨.type "tuple", td1, .seq #[.str "sorts" tt1_0, .str "begin" tt1_1, .str "in" tt1_2, .str "out" tt1_3, .str "rule" tt1_4, .str "to" tt1_5] tn1, ts1⟩)
    (xa0 : PySem.W.nsIn K mainGlobals "DropError" = some (some (.ref x0))) (xl0 : K.lookup x0 = some (excClassObj xm0 xq0 x0 xN0 xb0 bmV true xn0 xu0 xh0 xo0 xd0 xk0_0 xk0_1 xk0_2 xk0_3 xk0_5 "ValueError.__new__"))
    (xa1 : PySem.W.nsIn K mainGlobals "NoPot" = some (some (.ref x1))) (xl1 : K.lookup x1 = some (excClassObj xm1 xq1 x1 xN1 xb1 (.ref x0 :: bmV) true xn1 xu1 xh1 xo1 xd1 xk1_0 xk1_1 xk1_2 xk1_3 xk1_5 "ValueError.__new__"))
    (xg1 : PySem.W.findIn K (.ref x1) "__getattribute__" = some (some (.builtin "BaseException.__getattribute__"))) (xt1 : PySem.W.findIn K (.ref x1) "__getattr__" = some none) (xs1 : PySem.W.findIn K (.ref x1) "__setattr__" = some (some (.builtin "object.__setattr__"))) (xc1 : PySem.W.findIn K (.ref x1) "__class__" = some (some (.builtin "object.__class__")))
    (xsg : PySem.W.specialIn K (.builtin "object.__class__") "__get__" = some (some (.builtin "getset_descriptor.__get__"))) (xtk : PySem.W.takesIn K (.builtin "object.__class__") = some true) (xnd : [x0, x1].Nodup)
    (ii1 : PySem.W.findIn K (.ref x1) "__init__" = some (some (.ref i1))) (il1 : K.lookup i1 = some ⟨ic1, id1, .func (PySem.W.fnOf "__init__" "NoPot.__init__" (defArgs sINp) (defBody sINp) (defScope sINp) .none iV1 iD1 ip1 ia1 iC1 iT1), is1⟩) (ie1 : PySem.W.codeIn K iC1 "NoPot.__init__" = true) (if1 : PySem.W.isFn K (.ref i1) = true) (ik1 : PySem.W.keepIn K (.ref i1) = true) (im1 : PySem.W.keepIn K (.ref x1) = true) (iq1_0 : PySem.W.findIn K (.ref x1) "line" = some none) (iq1_1 : PySem.W.findIn K (.ref x1) "word" = some none) :
    ∃ fd : FuncData, (∀ (s : Shared) (v : Value), BindsTo s fd ⟨[v], []⟩ [("_law_script", v)]) ∧ ∀ base : Heap, K.In base → base.Ns mainGlobals mg → FnOk l.prog w K mg base CX0 8 fa fd ["_law_script"] (spLaw K) := by
  have e := hfa.symm.trans (PySem.W.mg_of X G a21)
  cases e
  have F1 := fun_mk (st := sFeed) l1 c1 k1
  have b1 := F1.binds (ps := ["_law_script", "_law_k"]) fun _ _ _ _ _ _ us hl => match us, hl with | [_, _], _ => rfl
  have m1 := PySem.W.mg_of X G a1
  have F2 := fun_mk (st := sDraw) l2 c2 k2
  have b2 := F2.binds (ps := ["_law_feed_here", "_law_many_here"]) fun _ _ _ _ _ _ us hl => match us, hl with | [_, _], _ => rfl
  have m2 := PySem.W.mg_of X G a2
  have F3 := fun_mk (st := sFig) l3 c3 k3
  have b3 := F3.binds (ps := ["word"]) fun _ _ _ _ _ _ us hl => match us, hl with | [_], _ => rfl
  have m3 := PySem.W.mg_of X G a3
  have F4 := fun_mk (st := sNam) l4 c4 k4
  have b4 := F4.binds (ps := ["thing"]) fun _ _ _ _ _ _ us hl => match us, hl with | [_], _ => rfl
  have m4 := PySem.W.mg_of X G a4
  have F5 := fun_mk (st := sWof) l5 c5 k5
  have b5 := F5.binds (ps := ["lines", "line", "first"]) fun _ _ _ _ _ _ us hl => match us, hl with | [_, _, _], _ => rfl
  have m5 := PySem.W.mg_of X G a5
  have F6 := fun_mk (st := sNu) l6 c6 k6
  have b6 := F6.binds (ps := ["words", "line", "place", "low", "high"]) fun _ _ _ _ _ _ us hl => match us, hl with | [_, _, _, _, _], _ => rfl
  have m6 := PySem.W.mg_of X G a6
  have F7 := fun_mk (st := sSo) l7 c7 k7
  have b7 := F7.binds (ps := ["words", "line", "place", "sorts"]) fun _ _ _ _ _ _ us hl => match us, hl with | [_, _, _, _], _ => rfl
  have m7 := PySem.W.mg_of X G a7
  have F8 := fun_mk (st := sRs) l8 c8 k8
  have b8 := F8.binds (ps := ["lines"]) fun _ _ _ _ _ _ us hl => match us, hl with | [_], _ => rfl
  have m8 := PySem.W.mg_of X G a8
  have F9 := fun_mk (st := sRb) l9 c9 k9
  have b9 := F9.binds (ps := ["lines", "sorts"]) fun _ _ _ _ _ _ us hl => match us, hl with | [_, _], _ => rfl
  have m9 := PySem.W.mg_of X G a9
  have F10 := fun_mk (st := sRi) l10 c10 k10
  have b10 := F10.binds (ps := ["lines", "sorts"]) fun _ _ _ _ _ _ us hl => match us, hl with | [_, _], _ => rfl
  have m10 := PySem.W.mg_of X G a10
  have F11 := fun_mk (st := sRan) l11 c11 k11
  have b11 := F11.binds (ps := ["lines", "sorts"]) fun _ _ _ _ _ _ us hl => match us, hl with | [_, _], _ => rfl
  have m11 := PySem.W.mg_of X G a11
  have F12 := fun_mk (st := sRsd) l12 c12 k12
  have b12 := F12.binds (ps := ["words", "line", "start", "end", "sorts"]) fun _ _ _ _ _ _ us hl => match us, hl with | [_, _, _, _, _], _ => rfl
  have m12 := PySem.W.mg_of X G a12
  have F13 := fun_mk (st := sRr) l13 c13 k13
  have b13 := F13.binds (ps := ["lines", "line", "sorts"]) fun _ _ _ _ _ _ us hl => match us, hl with | [_, _, _], _ => rfl
  have m13 := PySem.W.mg_of X G a13
  have F14 := fun_mk (st := sRp) l14 c14 k14
  have b14 := F14.binds (ps := ["lines"]) fun _ _ _ _ _ _ us hl => match us, hl with | [_], _ => rfl
  have m14 := PySem.W.mg_of X G a14
  have F15 := fun_mk (st := sTsl) l15 c15 k15
  have b15 := F15.binds (ps := []) fun _ _ _ _ _ _ us hl => match us, hl with | [], _ => rfl
  have m15 := PySem.W.mg_of X G a15
  have F16 := fun_mk (st := sThl) l16 c16 k16
  have b16 := F16.binds (ps := []) fun _ _ _ _ _ _ us hl => match us, hl with | [], _ => rfl
  have m16 := PySem.W.mg_of X G a16
  have F17 := fun_mk (st := sTrl) l17 c17 k17
  have b17 := F17.binds (ps := []) fun _ _ _ _ _ _ us hl => match us, hl with | [], _ => rfl
  have m17 := PySem.W.mg_of X G a17
  have F18 := fun_mk (st := sMy) l18 c18 k18
  have b18 := F18.binds (ps := []) fun _ _ _ _ _ _ us hl => match us, hl with | [], _ => rfl
  have m18 := PySem.W.mg_of X G a18
  have F19 := fun_mk (st := sCs) l19 c19 k19
  have b19 := F19.binds (ps := ["_law_number"]) fun _ _ _ _ _ _ us hl => match us, hl with | [_], _ => rfl
  have m19 := PySem.W.mg_of X G a19
  have F20 := fun_mk (st := sRt) l20 c20 k20
  have b20 := F20.binds (ps := ["_law_lines", "_law_due"]) fun _ _ _ _ _ _ us hl => match us, hl with | [_, _], _ => rfl
  have m20 := PySem.W.mg_of X G a20
  have F21 := fun_mk (st := sLaw) l21 c21 k21
  have y1 := PySem.W.mg_none_of X G z1
  have y2 := PySem.W.mg_none_of X G z2
  have y3 := PySem.W.mg_none_of X G z3
  have y4 := PySem.W.mg_none_of X G z4
  have y5 := PySem.W.mg_none_of X G z5
  have y6 := PySem.W.mg_none_of X G z6
  have y7 := PySem.W.mg_none_of X G z7
  have y8 := PySem.W.mg_none_of X G z8
  have y9 := PySem.W.mg_none_of X G z9
  have y10 := PySem.W.mg_none_of X G z10
  have y11 := PySem.W.mg_none_of X G z11
  have y12 := PySem.W.mg_none_of X G z12
  have y13 := PySem.W.mg_none_of X G z13
  have y14 := PySem.W.mg_none_of X G z14
  have y15 := PySem.W.mg_none_of X G z15
  have y16 := PySem.W.mg_none_of X G z16
  have y17 := PySem.W.mg_none_of X G z17
  have y18 := PySem.W.mg_none_of X G z18
  have y19 := PySem.W.mg_none_of X G z19
  have y20 := PySem.W.mg_none_of X G z20
  have y21 := PySem.W.mg_none_of X G z21
  have XC0 : XC K x0 bmV := ⟨⟨_, _, _, _, _, _, _, _, _, _, _, _, _, _, xl0⟩, .base⟩
  have XC1 : XC K x1 (.ref x0 :: bmV) := ⟨⟨_, _, _, _, _, _, _, _, _, _, _, _, _, _, xl1⟩, .own _ .base⟩
  have XA1 : XA K x1 := ⟨⟨_, XC1⟩, xg1, xt1, xs1, xc1, xsg, xtk⟩
  have U : XUni K mg x0 [("NoPot", x1)] := ⟨XC0, PySem.W.mg_of X G xa0, fun c hc => ?_, by simpa using xnd⟩
  rotate_left
  · simp only [List.mem_cons, List.not_mem_nil, or_false] at hc
    rcases hc with rfl
    · exact ⟨PySem.W.mg_of X G xa1, XC1, XA1⟩
  have FI1 := fun_mk (st := sINp) il1 ie1 ik1
  have BI1 := FI1.binds (ps := ["self", "line", "word"]) fun _ _ _ _ _ _ us hl => match us, hl with | [_, _, _], _ => rfl
  have B : Bl mg := ⟨y1, y2, y3, y4, y5, y6, y7, y8, y9, y10, y11, y12, y13, y14, y15, y16, y17, y18, y19, y20⟩
  have C : KR K mg := ⟨⟨_, PySem.W.mg_of X G g1⟩, ⟨_, PySem.W.mg_of X G g2⟩, ⟨ta1, _, _, _, PySem.W.mg_of X G tg1, tl1, rfl, rfl, by show 6 ≤ sizeLine; decide, (.cons ⟨_, rfl⟩ (.cons ⟨_, rfl⟩ (.cons ⟨_, rfl⟩ (.cons ⟨_, rfl⟩ (.cons ⟨_, rfl⟩ (.cons ⟨_, rfl⟩ .nil))))))⟩, ⟨_, PySem.W.mg_of X G g3⟩, ⟨_, PySem.W.mg_of X G g4⟩, ⟨_, PySem.W.mg_of X G g5⟩, ⟨_, PySem.W.mg_of X G g6⟩, ⟨_, PySem.W.mg_of X G g7⟩, ⟨_, PySem.W.mg_of X G g8⟩, ⟨_, PySem.W.mg_of X G g9⟩, ⟨_, PySem.W.mg_of X G g10⟩, ⟨_, PySem.W.mg_of X G g11⟩, ⟨_, PySem.W.mg_of X G g12⟩, ⟨_, PySem.W.mg_of X G g13⟩, ⟨_, PySem.W.mg_of X G g14⟩⟩
  refine ⟨PySem.W.fnOf "law" "law" (defArgs sLaw) (defBody sLaw) (defScope sLaw) .none kV21 dc21 pm21 an21 cd21 ct21, fun s v => .of_eq rfl, fun base _ _ => ?_⟩
  have HC1 : HasC l.prog w K mg base 1 "NoPot" x1 ["self", "line", "word"] (spXi K ["line", "word"]) := ⟨_, _, ⟨ii1, if1, im1, XA1⟩, ok_INp FI1, PySem.W.mg_of X G xa1, BI1⟩
  have hna : ∀ f ∈ (["line", "word"] : List Str), NoAttr K x1 f := fun f hf => by
    simp only [List.mem_cons, List.not_mem_nil, or_false] at hf
    rcases hf with rfl | rfl
    · exact iq1_0
    · exact iq1_1
  have H1 : Has l.prog w K mg base 1 "_law_feed" ["_law_script", "_law_k"] (spFeed K) := ⟨_, _, ok_feed y1 F1, m1, k1, b1⟩
  have H2 : Has l.prog w K mg base 1 "_law_draw" ["_law_feed_here", "_law_many_here"] spDraw := ⟨_, _, ok_draw F2, m2, k2, b2⟩
  have H3 : Has l.prog w K mg base 1 "is_figures" ["word"] spFig := ⟨_, _, ok_Fig B C F3, m3, k3, b3⟩
  have H4 : Has l.prog w K mg base 1 "is_name" ["thing"] spNam := ⟨_, _, ok_Nam B C F4, m4, k4, b4⟩
  have H5 : HasX l.prog w K mg base 3 "words_of" ["lines", "line", "first"] (spWof x1) := ⟨_, _, ok_Wof B C HC1 XA1 hna F5, m5, k5, b5⟩
  have H6 : HasX l.prog w K mg base 3 "read_number" ["words", "line", "place", "low", "high"] (spNu x1) := ⟨_, _, ok_Nu B C HC1 XA1 hna H3 F6, m6, k6, b6⟩
  have H7 : HasX l.prog w K mg base 3 "read_sort" ["words", "line", "place", "sorts"] (spSo x1) := ⟨_, _, ok_So B C HC1 XA1 hna F7, m7, k7, b7⟩
  have H8 : HasX l.prog w K mg base 4 "read_sorts" ["lines"] (spRs x1) := ⟨_, _, ok_Rs B C HC1 XA1 hna H5 H4 F8, m8, k8, b8⟩
  have H9 : HasX l.prog w K mg base 4 "read_begin" ["lines", "sorts"] (spRb x1) := ⟨_, _, ok_Rb B C HC1 XA1 hna H5 H6 F9, m9, k9, b9⟩
  have H10 : HasX l.prog w K mg base 4 "read_inputs" ["lines", "sorts"] (spRi x1) := ⟨_, _, ok_Ri B C HC1 XA1 hna H5 H7 F10, m10, k10, b10⟩
  have H11 : HasX l.prog w K mg base 4 "read_answer" ["lines", "sorts"] (spRan x1) := ⟨_, _, ok_Ran B C HC1 XA1 hna H5 H7 F11, m11, k11, b11⟩
  have H12 : HasX l.prog w K mg base 4 "read_side" ["words", "line", "start", "end", "sorts"] (spRsd x1) := ⟨_, _, ok_Rsd B C HC1 XA1 hna H6 H7 F12, m12, k12, b12⟩
  have H13 : HasX l.prog w K mg base 5 "read_rule" ["lines", "line", "sorts"] (spRr x1) := ⟨_, _, ok_Rr B C HC1 XA1 hna H5 H12 F13, m13, k13, b13⟩
  have H14 : HasX l.prog w K mg base 6 "read_pot" ["lines"] (spRp x1) := ⟨_, _, ok_Rp B C HC1 XA1 hna H8 H9 H10 H11 H13 F14, m14, k14, b14⟩
  have H15 : Has l.prog w K mg base 1 "_law_sorts_lines" [] (spT (tabS.map thS)) := ⟨_, _, ok_Tsl B F15, m15, k15, b15⟩
  have H16 : Has l.prog w K mg base 1 "_law_head_lines" [] (spT (tabH.map thH)) := ⟨_, _, ok_Thl B F16, m16, k16, b16⟩
  have H17 : Has l.prog w K mg base 1 "_law_rule_lines" [] (spT (tabR.map thR)) := ⟨_, _, ok_Trl B F17, m17, k17, b17⟩
  have H18 : Has l.prog w K mg base 2 "_law_many" [] spMy := ⟨_, _, ok_My B H15 H16 H17 F18, m18, k18, b18⟩
  have H19 : Has l.prog w K mg base 2 "_law_case" ["_law_number"] spCs := ⟨_, _, ok_Cs B H15 H16 H17 F19, m19, k19, b19⟩
  have H20 : Has l.prog w K mg base 7 "_law_right" ["_law_lines", "_law_due"] spRt := ⟨_, _, ok_Rt B y21 U H14 hna F20, m20, k20, b20⟩
  exact ok_Law B H1 H2 H18 H19 H20 F21
theorem walk {l : PySem.W.OpenLaw} {q : Program} {loose : List Str} {XP : (Str → Option Value) → Heap → Prop} {YP : World → Heap → Prop} {d : DefRec} {K : Params → PySem.W.Frag} (hn : l.most = some 63) (hdf : d.params.defaults = [])
    (hY : ∀ (w : World) (h : Heap), YP w h → (K w.params).In h)
    (F : ∀ (w : World) (mg : Str → Option Value) (fa : Addr) (h : Heap), (K w.params).In h → h.Ns mainGlobals mg → mg d.name = some (.ref fa) →
      ∃ fd : FuncData, (∀ (s : Shared) (u : Value), BindsTo s fd ⟨[u], []⟩ [("_law_script", u)]) ∧ ∀ base : Heap, (K w.params).In base → base.Ns mainGlobals mg → FnOk l.prog w (K w.params) mg base CX0 8 fa fd ["_law_script"] (spLaw (K w.params))) :
    PySem.W.WalkO q loose XP YP l.row.toRowW d [] (fun f vs => PySem.call f vs) :=
  L2.walk_of (n := 63) (k := 8) (x := "_law_script") (CX := fun _ => CX0) (sp := fun w => spLaw (K w.params)) hn (by decide) hdf ⟨rfl, by decide, by decide, rfl⟩ hY F (fun _ H a ns hl hO hS => ⟨a, ns, rfl, SqF.of hO hS, hl, fun _ => rfl⟩) fun _ _ _ _ _ z => z
end K05
open PySem PySem.W PyProof.Rows
set_option maxRecDepth 100000 in
set_option maxHeartbeats 0 in
theorem PySem.Challenge.cw_dropsums_k05_pot_lines_at_their_bounds_holds : PySem.Challenge.rw_dropsums_k05_pot_lines_at_their_bounds.Holds := by
  w_on; o_law; k_head; (case hw => w_witness2)
  k_fill
  refine K05.walk (l := PySem.Challenge.rw_dropsums_k05_pot_lines_at_their_bounds) rfl rfl (fun w h Y => PySem.W.kIn_of Y) ?F
  case F =>
    intro w mg fa h KX G hmg
    refine' K05.all_mk KX G hmg ?a1 ?l1 ?c1 ?k1 ?a2 ?l2 ?c2 ?k2 ?a3 ?l3 ?c3 ?k3 ?a4 ?l4 ?c4 ?k4 ?a5 ?l5 ?c5 ?k5 ?a6 ?l6 ?c6 ?k6 ?a7 ?l7 ?c7 ?k7 ?a8 ?l8 ?c8 ?k8 ?a9 ?l9 ?c9 ?k9 ?a10 ?l10 ?c10 ?k10 ?a11 ?l11 ?c11 ?k11 ?a12 ?l12 ?c12 ?k12 ?a13 ?l13 ?c13 ?k13 ?a14 ?l14 ?c14 ?k14 ?a15 ?l15 ?c15 ?k15 ?a16 ?l16 ?c16 ?k16 ?a17 ?l17 ?c17 ?k17 ?a18 ?l18 ?c18 ?k18 ?a19 ?l19 ?c19 ?k19 ?a20 ?l20 ?c20 ?k20 ?a21 ?l21 ?c21 ?k21 ?z1 ?z2 ?z3 ?z4 ?z5 ?z6 ?z7 ?z8 ?z9 ?z10 ?z11 ?z12 ?z13 ?z14 ?z15 ?z16 ?z17 ?z18 ?z19 ?z20 ?z21 ?g1 ?g2 ?g3 ?g4 ?g5 ?g6 ?g7 ?g8 ?g9 ?g10 ?g11 ?g12 ?g13 ?g14 ?tg1 ?tl1 ?xa0 ?xl0 ?xa1 ?xl1 ?xg1 ?xt1 ?xs1 ?xc1 ?xsg ?xtk ?xnd ?ii1 ?il1 ?ie1 ?if1 ?ik1 ?im1 ?iq1_0 ?iq1_1
    (case a1 => k_is)
    (case l1 => k_is)
    (case c1 => k_is)
    (case k1 => k_is)
    (case a2 => k_is)
    (case l2 => k_is)
    (case c2 => k_is)
    (case k2 => k_is)
    (case a3 => k_is)
    (case l3 => k_is)
    (case c3 => k_is)
    (case k3 => k_is)
    (case a4 => k_is)
    (case l4 => k_is)
    (case c4 => k_is)
    (case k4 => k_is)
    (case a5 => k_is)
    (case l5 => k_is)
    (case c5 => k_is)
    (case k5 => k_is)
    (case a6 => k_is)
    (case l6 => k_is)
    (case c6 => k_is)
    (case k6 => k_is)
    (case a7 => k_is)
    (case l7 => k_is)
    (case c7 => k_is)
    (case k7 => k_is)
    (case a8 => k_is)
    (case l8 => k_is)
    (case c8 => k_is)
    (case k8 => k_is)
    (case a9 => k_is)
    (case l9 => k_is)
    (case c9 => k_is)
    (case k9 => k_is)
    (case a10 => k_is)
    (case l10 => k_is)
    (case c10 => k_is)
    (case k10 => k_is)
    (case a11 => k_is)
    (case l11 => k_is)
    (case c11 => k_is)
    (case k11 => k_is)
    (case a12 => k_is)
    (case l12 => k_is)
    (case c12 => k_is)
    (case k12 => k_is)
    (case a13 => k_is)
    (case l13 => k_is)
    (case c13 => k_is)
    (case k13 => k_is)
    (case a14 => k_is)
    (case l14 => k_is)
    (case c14 => k_is)
    (case k14 => k_is)
    (case a15 => k_is)
    (case l15 => k_is)
    (case c15 => k_is)
    (case k15 => k_is)
    (case a16 => k_is)
    (case l16 => k_is)
    (case c16 => k_is)
    (case k16 => k_is)
    (case a17 => k_is)
    (case l17 => k_is)
    (case c17 => k_is)
    (case k17 => k_is)
    (case a18 => k_is)
    (case l18 => k_is)
    (case c18 => k_is)
    (case k18 => k_is)
    (case a19 => k_is)
    (case l19 => k_is)
    (case c19 => k_is)
    (case k19 => k_is)
    (case a20 => k_is)
    (case l20 => k_is)
    (case c20 => k_is)
    (case k20 => k_is)
    (case a21 => k_is)
    (case l21 => k_is)
    (case c21 => k_is)
    (case k21 => k_is)
    (case z1 => k_is)
    (case z2 => k_is)
    (case z3 => k_is)
    (case z4 => k_is)
    (case z5 => k_is)
    (case z6 => k_is)
    (case z7 => k_is)
    (case z8 => k_is)
    (case z9 => k_is)
    (case z10 => k_is)
    (case z11 => k_is)
    (case z12 => k_is)
    (case z13 => k_is)
    (case z14 => k_is)
    (case z15 => k_is)
    (case z16 => k_is)
    (case z17 => k_is)
    (case z18 => k_is)
    (case z19 => k_is)
    (case z20 => k_is)
    (case z21 => k_is)
    (case g1 => k_is)
    (case g2 => k_is)
    (case g3 => k_is)
    (case g4 => k_is)
    (case g5 => k_is)
    (case g6 => k_is)
    (case g7 => k_is)
    (case g8 => k_is)
    (case g9 => k_is)
    (case g10 => k_is)
    (case g11 => k_is)
    (case g12 => k_is)
    (case g13 => k_is)
    (case g14 => k_is)
    (case tg1 => k_is)
    (case tl1 => k_is)
    (case xa0 => k_is)
    (case xl0 => k_is)
    (case xa1 => k_is)
    (case xl1 => k_is)
    (case xg1 => k_is)
    (case xt1 => k_is)
    (case xs1 => k_is)
    (case xc1 => k_is)
    (case xsg => k_is)
    (case xtk => k_is)
    (case xnd => decide)
    (case ii1 => k_is)
    (case il1 => k_is)
    (case ie1 => k_is)
    (case if1 => k_is)
    (case ik1 => k_is)
    (case im1 => k_is)
    (case iq1_0 => k_is)
    (case iq1_1 => k_is)

