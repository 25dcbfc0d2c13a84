import PyProof.Rows.All
import Wide.All
import OpenK.AllK
import Wide.FinOn
import Lean
import PyProof.EqAt
import PyProof.EqKinds
import PyProof.TupleCall
import PyProof.Rows.SumAny
import PyProof.Draws
import PyProof.ZipIter
import PyProof.EnumMake
import PyProof.Rows.ZipGen
import PyProof.FitsInt
import PyProof.ReprLen
import KE.IntBitsLaws
import PyProof.NeData
import PyProof.ConsumeWalk
import PyProof.WalkInts
import PyProof.Rows.SeqMore
import PyProof.ListMulRoad
import PyProof.DictUpdate
import KE.KRevSl
import PyProof.MeetsStr
import PyProof.StrBlockG
import PyProof.CallStr
import KE.KIntText
import PyProof.StrLawsTight
import PyProof.StrLawsChain
import PyProof.StrLawsJoin
import PyProof.StrWalks
import KE.KSortTup
import PyProof.TupleOfStr
import PyProof.ListRange
import PyProof.SliceStr
import PyProof.StrBlockI
import PyProof.SeqRoads
import PyProof.NsDelKeeps
import PyProof.RulesAs
import KE.KIsAll
import PyProof.Rows.SetFrom
import PyProof.WalksMore
import PyProof.FactsAll.subtypes_4
import PyProof.MeetsStr2
import PyProof.Rows.Range3
import PyProof.StrLawsRepr
import PyProof.StrOps2
import PyProof.ListStr
import PyProof.StrLawsIn
import PyProof.StrLawsIdx
import PySem.Challenge.RW_dropsums_k23_texts_that_write_no_ask
-- CHANGE: your row's module here, as the last of these rows
set_option Elab.async false
set_option linter.all false
set_option maxRecDepth 100000
/-! THE HAND LAYER, for ints, bools, texts, own classes, LISTS and tuples (index, slices, in, append, pop ..), calls, loops. Paste it whole ahead of your own text; what your proof does not reach may be deleted. -/
namespace L2
open PySem PySem.Spec PyProof.Rows

/-- a key: an int or a str -/
abbrev Key := Sum Int Str
def keyIs : Key → Value → Bool
  | .inl k, v => Value.isInt k v
  | .inr x, v => Value.isStrOf x v
def keyH (w : World) : Key → Int
  | .inl k => hashInt k
  | .inr x => hashStr w x
theorem keyIs_shape : ∀ {k : Key} {v : Value}, keyIs k v = true → (∃ i t, k = Sum.inl i ∧ v = Value.int i t) ∨ (∃ x t, k = Sum.inr x ∧ v = Value.str x t)
  | .inl i, v, h => by
    obtain ⟨t, e⟩ := Value.isInt_shape (k := i) (v := v) h
    exact .inl ⟨i, t, rfl, e⟩
  | .inr x, v, h => by
    obtain ⟨t, e⟩ := Value.isStrOf_shape (x := x) (v := v) h
    exact .inr ⟨x, t, rfl, e⟩
theorem keyIs_int (i : Int) (t : Tok) : keyIs (.inl i) (.int i t) = true := by simp [keyIs, Value.isInt]
theorem keyIs_str (x : Str) (t : Tok) : keyIs (.inr x) (.str x t) = true := by simp [keyIs, Value.isStrOf]
theorem key_ll (a b : Int) : decide ((Sum.inl a : Key) = Sum.inl b) = (a == b) := by
  by_cases e : a = b
  · subst e; simp
  · have h : ¬ (Sum.inl a : Key) = Sum.inl b := fun q => e (Sum.inl.inj q)
    rw [decide_eq_false h]
    exact (beq_eq_false_iff_ne.mpr e).symm
theorem key_rr (a b : Str) : decide ((Sum.inr a : Key) = Sum.inr b) = decide (a = b) := by
  by_cases e : a = b
  · subst e; simp
  · have h : ¬ (Sum.inr a : Key) = Sum.inr b := fun q => e (Sum.inr.inj q)
    rw [decide_eq_false h, decide_eq_false e]
theorem key_lr (a : Int) (b : Str) : decide ((Sum.inl a : Key) = Sum.inr b) = false := decide_eq_false (fun q => nomatch q)
theorem key_rl (a : Str) (b : Int) : decide ((Sum.inr a : Key) = Sum.inl b) = false := decide_eq_false (fun q => nomatch q)

def mixKind (prog : Program) (w : World) : PySem.KeyKind prog w Key where
  is := keyIs
  hash := keyH w
  inj := fun v a b ha hb => by
    rcases keyIs_shape ha with ⟨i, t, rfl, rfl⟩ | ⟨x, t, rfl, rfl⟩
    · rcases keyIs_shape hb with ⟨j, u, rfl, e⟩ | ⟨y, u, rfl, e⟩
      · injection e with e1 _; rw [e1]
      · exact nomatch e
    · rcases keyIs_shape hb with ⟨j, u, rfl, e⟩ | ⟨y, u, rfl, e⟩
      · exact nomatch e
      · injection e with e1 _; rw [e1]
  byValue := fun k v h => by
    rcases keyIs_shape h with ⟨i, t, rfl, rfl⟩ | ⟨x, t, rfl, rfl⟩ <;> rfl
  pyHash := fun hv h => by
    rcases keyIs_shape hv with ⟨i, t, rfl, rfl⟩ | ⟨x, t, rfl, rfl⟩
    · exact wpAny_pyHash_int h
    · exact wpAny_pyHash_str h
  eqBool := fun hu hv h => by
    rcases keyIs_shape hu with ⟨i, t, rfl, rfl⟩ | ⟨x, t, rfl, rfl⟩
    · rcases keyIs_shape hv with ⟨j, u, rfl, rfl⟩ | ⟨y, u, rfl, rfl⟩
      · rw [key_ll] at h; exact wpAny_eqBool_int h
      · rw [key_lr] at h; exact SeqAt.EqAt.int_str i t y u _ _ _ _ h
    · rcases keyIs_shape hv with ⟨j, u, rfl, rfl⟩ | ⟨y, u, rfl, rfl⟩
      · rw [key_rl] at h; exact SeqAt.EqAt.str_int x t j u _ _ _ _ h
      · rw [key_rr] at h; exact wpAny_eqBool_str h
  «strs» := fun k x t v h => by
    rcases keyIs_shape h with ⟨i, u, rfl, e⟩ | ⟨y, u, rfl, e⟩
    · exact nomatch e
    · injection e with e1 _
      subst e1
      cases v <;> rfl

theorem mixKind_int (prog : Program) (w : World) (i : Int) (t : Tok) : (mixKind prog w).is (.inl i) (.int i t) = true := keyIs_int i t
theorem mixKind_str (prog : Program) (w : World) (x : Str) (t : Tok) : (mixKind prog w).is (.inr x) (.str x t) = true := keyIs_str x t
end L2

namespace L2
open PySem PySem.Spec PyProof.Rows

/-- a value, without the heap -/
inductive V where
  | non | bl (b : Bool) | int (i : Int) | str (x : Str) | byt (b : Array UInt8) | flt (b : UInt64) | ref (a : Addr) | ty (n : String)
  deriving DecidableEq

def RelV : V → Value → Prop
  | .non, u => u = Value.none
  | .bl b, u => u = Value.bool b
  | .int i, u => ∃ t, u = Value.int i t
  | .str x, u => ∃ t, u = Value.str x t
  | .byt b, u => ∃ t, u = Value.bytes b t
  | .flt b, u => ∃ t, u = Value.float b t
  | .ref a, u => u = Value.ref a
  | .ty n, u => u = Value.type n

abbrev Vals : List V → List Value → Prop := Paired RelV
theorem Vals.length {xs : List V} {us : List Value} (r : Vals xs us) : xs.length = us.length := Paired.length r
theorem Vals.get : ∀ {xs : List V} {us : List Value} {i : Nat} {x : V}, Vals xs us → xs[i]? = some x → ∃ u, us[i]? = some u ∧ RelV x u
  | _, _, _, _, .nil, e => by simp at e
  | _, _, 0, _, .cons r _, e => by simp at e; subst e; exact ⟨_, rfl, r⟩
  | _, _, i + 1, x, .cons _ t, e => by
    obtain ⟨u, h1, h2⟩ := Vals.get (i := i) (x := x) t (by simpa using e)
    exact ⟨u, by simpa using h1, h2⟩
theorem Vals.set {x : V} {u : Value} (r : RelV x u) : ∀ {xs : List V} {us : List Value} (i : Nat), Vals xs us → Vals (xs.set i x) (us.set i u)
  | _, _, _, .nil => .nil
  | _, _, 0, .cons _ t => .cons r t
  | _, _, i + 1, .cons q t => .cons q (Vals.set r i t)
theorem Vals.append : ∀ {xs ys : List V} {us ws : List Value}, Vals xs us → Vals ys ws → Vals (xs ++ ys) (us ++ ws)
  | _, _, _, _, .nil, s => s
  | _, _, _, _, .cons r t, s => .cons r (Vals.append t s)
theorem Vals.take : ∀ {xs : List V} {us : List Value} (n : Nat), Vals xs us → Vals (xs.take n) (us.take n)
  | _, _, 0, _ => .nil
  | _, _, _ + 1, .nil => .nil
  | _, _, n + 1, .cons r t => .cons r (Vals.take n t)
theorem Vals.drop : ∀ {xs : List V} {us : List Value} (n : Nat), Vals xs us → Vals (xs.drop n) (us.drop n)
  | _, _, 0, r => r
  | _, _, _ + 1, .nil => .nil
  | _, _, n + 1, .cons _ t => Vals.drop n t

def RelO : Option V → Option Value → Prop
  | some v, some u => RelV v u
  | none, none => True
  | _, _ => False
def KV {κ : Type} : List (κ × V) → List (κ × Value) → Prop := Paired fun (p : κ × V) (q : κ × Value) => p.1 = q.1 ∧ RelV p.2 q.2

/-- a key of a dict (00_mix): an int or a text -/
def kV : Key → V
  | .inl i => .int i
  | .inr x => .str x

/-- what stands at a tracked address -/
inductive HO where
  /-- a list -/
  | lst (xs : List V)
  /-- a tuple (never changes) -/
  | tup (xs : List V)
  /-- a dict whose keys are ints and texts; one whose keys are tuples of ints and texts (the empty one is both) -/
  | dK (kvs : List (Key × V)) | dT (kvs : List (List Key × V))
  /-- a set of ints: its members, its size -/
  | set (S : Int → Bool) (n : Nat)
  /-- an instance of the class at C, its dict at dx, its attributes -/
  | ins (C dx : Addr) (fs : List (Str × V))
  /-- the dict of the instance at x -/
  | own (x : Addr)
  /-- the dict of an exception -/
  | xd (fs : List (Str × V))
  /-- a bound method, f of x -/
  | met (f x : Addr)
  /-- a range object lo, lo + 1, .. below hi -/
  | rng (lo hi : Int)
  /-- a thing that is known to the object (the script; a dict while a loop walks it): read, never written while it is so -/
  | frz (o : Obj) (u : HO)
  /-- a code object's table -/
  | tbl (ps : Array Value)
  /-- any other thing, by what is true of its one object (a def of one's own: SetO a S n := HO.ext fun h => ..) -/
  | ext (φ : Heap → Prop)

abbrev Hp := Addr → Option HO
def upd (H : Hp) (a : Addr) (o : HO) : Hp := fun b => if b = a then some o else H b
theorem upd_same {H : Hp} {a : Addr} {o : HO} : upd H a o a = some o := by unfold upd; rw [if_pos rfl]
theorem upd_ne {H : Hp} {a b : Addr} {o : HO} (h : b ≠ a) : upd H a o b = H b := by unfold upd; rw [if_neg h]
theorem upd_upd {H : Hp} {a : Addr} {o u : HO} : upd (upd H a o) a u = upd H a u := by
  funext b; unfold upd; split <;> rfl
/-- two objects of different content stand apart -/
theorem ne_of {H : Hp} {a b : Addr} {o u : HO} (h : H a = some o) (h' : H b = some u) (d : o ≠ u) : a ≠ b := by
  intro e; subst e; rw [h] at h'; exact d (Option.some.inj h')
theorem ne_of_none {H : Hp} {a b : Addr} {o : HO} (h : H a = some o) (h' : H b = none) : a ≠ b := by
  intro e; subst e; rw [h] at h'; cases h'

section
variable (P : Program) (w : World)
def ObjOk (H : Hp) (h : Heap) (a : Addr) : HO → Prop
  | .lst xs => xs.length ≤ sizeLine ∧ ∃ (its : List Value) (n : Nat), Vals xs its ∧ h.get? a = some { cls := .type "list", data := .seq its.toArray n }
  | .tup xs => xs.length ≤ sizeLine ∧ ∃ its : List Value, Vals xs its ∧ IsTup h a its.toArray
  | .dK kvs => kvs.length ≤ sizeLine ∧ (a == sysModules) = false ∧ ∃ vs, KV kvs vs ∧ h.DictOf (mixKind P w) a vs
  | .dT kvs => kvs.length ≤ sizeLine ∧ (a == sysModules) = false ∧ ∃ xs : List (List Key × Addr × Value),
      Paired (fun (p : List Key × V) (q : List Key × Addr × Value) => p.1 = q.1 ∧ H q.2.1 = some (.tup (p.1.map kV)) ∧ RelV p.2 q.2.2) kvs xs ∧
      ∃ o es ep, h.get? a = some o ∧ o.ExactDict ∧ o.data = .dict es ep ∧ es.toList = xs.map (entryOfKey (tupleKind (mixKind P w))) ∧ (xs.map (·.1)).Nodup
  | .set S n => h.SetOf (intKind P w) a S n
  | .ins C dx fs => H dx = some (.own a) ∧ fs.length ≤ 1000 ∧ dx ≠ a ∧ h.get? a = some (PySem.W.instObj C dx) ∧
      ∃ mA, h.Ns1 dx mA ∧ (∀ f, RelO (fs.lookup f) (mA f)) ∧ PySem.Within mA (fs.map (·.1))
  | .own _ => ∃ o, h.get? a = some o
  | .xd fs => ∃ mA, h.Ns1 a mA ∧ ∀ f, RelO (fs.lookup f) (mA f)
  | .rng lo hi => ∃ t u v, h.get? a = some { cls := .type "range", data := .fields #[.int lo t, .int hi u, .int 1 v] }
  | .frz o u => h.get? a = some o ∧ ObjOk H h a u
  | .tbl ps => h.get? a = some { cls := .none, data := .fields ps }
  | .met f x => h.get? a = some (PySem.W.methodObj (.ref f) (.ref x))
  | .ext φ => φ h ∧ (∃ o, h.get? a = some o) ∧ ∀ h1 h2 : Heap, φ h1 → (∀ o, h1.get? a = some o → h2.get? a = some o) → φ h2
/-- the abstract heap is held -/
def HOk (H : Hp) (h : Heap) : Prop := ∀ a o, H a = some o → ObjOk P w H h a o
end

section
variable {P : Program} {w : World} {H H' : Hp} {h h' : Heap} {a : Addr} {o : HO}
theorem ObjOk.lt (x : ObjOk P w H h a o) : a < h.objs.size := by
  cases o with
  | lst xs => obtain ⟨_, _, _, _, e⟩ := x; exact Heap.lt_size e
  | tup xs => obtain ⟨_, _, _, p⟩ := x; exact p.lt
  | dK kvs => obtain ⟨_, _, _, _, o, _, _, e, _⟩ := x; exact Heap.lt_size e
  | dT kvs => obtain ⟨_, _, _, _, o, _, _, e, _⟩ := x; exact Heap.lt_size e
  | set S n => obtain ⟨o, _, _, _, e, _⟩ := x; exact Heap.lt_size e
  | ins C dx fs => obtain ⟨_, _, _, e, _⟩ := x; exact Heap.lt_size e
  | own y => obtain ⟨_, e⟩ := x; exact Heap.lt_size e
  | xd fs => obtain ⟨_, ⟨_, _, _, e, _⟩, _⟩ := x; exact Heap.lt_size e
  | rng lo hi => obtain ⟨_, _, _, e⟩ := x; exact Heap.lt_size e
  | frz ob u => obtain ⟨e, _⟩ := x; exact Heap.lt_size e
  | tbl ps => exact Heap.lt_size (show h.get? a = some _ from x)
  | met f y => exact Heap.lt_size (show h.get? a = some _ from x)
  | ext φ => obtain ⟨_, ⟨_, e⟩, _⟩ := x; exact Heap.lt_size e
theorem Paired.mapP {α β : Type} {F G : α → β → Prop} : ∀ {l₁ : List α} {l₂ : List β}, Paired F l₁ l₂ → (∀ a b, F a b → G a b) → Paired G l₁ l₂
  | _, _, .nil, _ => .nil
  | _, _, .cons r t, f => .cons (f _ _ r) (Paired.mapP t f)
/-- what an object's description leans on: its own object, its own dict, the tuples -/
theorem ObjOk.stay (x : ObjOk P w H h a o) (k : ∀ b u, (b = a ∨ H b = some (.own a)) → h.get? b = some u → h'.get? b = some u)
    (ho : ∀ b, H b = some (.own a) → H' b = some (.own a)) (ht : ∀ b xs, H b = some (.tup xs) → H' b = some (.tup xs)) : ObjOk P w H' h' a o := by
  induction o with
  | lst xs => obtain ⟨z, its, n, r, e⟩ := x; exact ⟨z, its, n, r, k _ _ (.inl rfl) e⟩
  | tup xs => obtain ⟨z, its, r, ob, e, c⟩ := x; exact ⟨z, its, r, ob, k _ _ (.inl rfl) e, c⟩
  | dK kvs => obtain ⟨z, y, vs, r, ob, es, ep, e, c⟩ := x; exact ⟨z, y, vs, r, ob, es, ep, k _ _ (.inl rfl) e, c⟩
  | dT kvs =>
    obtain ⟨z, y, xs, r, ob, es, ep, e, c⟩ := x
    exact ⟨z, y, xs, Paired.mapP r fun p q z => ⟨z.1, ht _ _ z.2.1, z.2.2⟩, ob, es, ep, k _ _ (.inl rfl) e, c⟩
  | set S n => obtain ⟨ob, es, ep, t, e, c⟩ := x; exact ⟨ob, es, ep, t, k _ _ (.inl rfl) e, c⟩
  | ins C dx fs =>
    obtain ⟨d, z, ne, e, mA, ⟨od, es, ep, e2, c⟩, r⟩ := x
    exact ⟨ho _ d, z, ne, k _ _ (.inl rfl) e, mA, ⟨od, es, ep, k _ _ (.inr d) e2, c⟩, r⟩
  | own y => obtain ⟨ob, e⟩ := x; exact ⟨ob, k _ _ (.inl rfl) e⟩
  | xd fs => obtain ⟨mA, ⟨od, es, ep, e, c⟩, r⟩ := x; exact ⟨mA, ⟨od, es, ep, k _ _ (.inl rfl) e, c⟩, r⟩
  | rng lo hi => obtain ⟨t, u, v, e⟩ := x; exact ⟨t, u, v, k _ _ (.inl rfl) e⟩
  | frz ob u ih => obtain ⟨e, q⟩ := x; exact ⟨k _ _ (.inl rfl) e, ih q⟩
  | tbl ps =>
    have e : h.get? a = some { cls := .none, data := .fields ps } := x
    show h'.get? a = some { cls := .none, data := .fields ps }
    exact k a _ (.inl rfl) e
  | met f y =>
    have e : h.get? a = some (PySem.W.methodObj (.ref f) (.ref y)) := x
    show h'.get? a = some (PySem.W.methodObj (.ref f) (.ref y))
    exact k a _ (.inl rfl) e
  | ext φ => obtain ⟨p, ⟨o, e⟩, st⟩ := x; exact ⟨st _ _ p fun o q => k _ _ (.inl rfl) q, ⟨o, k _ _ (.inl rfl) e⟩, st⟩
theorem HOk.lt (x : HOk P w H h) (e : H a = some o) : a < h.objs.size := (x a o e).lt
theorem HOk.fresh (x : HOk P w H h) (e : h.objs.size ≤ a) : H a = none := by
  cases q : H a with
  | none => rfl
  | some u => exact absurd (Nat.lt_of_lt_of_le (x.lt q) e) (Nat.lt_irrefl _)
/-- every object of the heap is kept -/
theorem HOk.kept (x : HOk P w H h) (k : ∀ b u, h.get? b = some u → h'.get? b = some u) : HOk P w H h' := fun a o e =>
  (x a o e).stay (fun b u _ q => k b u q) (fun _ q => q) fun _ _ q => q
/-- a new object is laid and tracked -/
theorem HOk.laid (x : HOk P w H h) (k : ∀ b u, h.get? b = some u → h'.get? b = some u) (hp : h.objs.size ≤ a) (new : ObjOk P w (upd H a o) h' a o) : HOk P w (upd H a o) h' := fun b u e => by
  have hn := x.fresh hp
  by_cases hb : b = a
  · subst hb; rw [upd_same] at e; cases e; exact new
  · rw [upd_ne hb] at e
    exact (x b u e).stay (fun c v _ q => k c v q) (fun c q => by rw [upd_ne (ne_of_none q hn)]; exact q) fun c xs q => by rw [upd_ne (ne_of_none q hn)]; exact q
end

/-- what may be read as u: it is u, or a known u -/
def Rd (H : Hp) (a : Addr) (u : HO) : Prop := H a = some u ∨ ∃ o, H a = some (.frz o u)
theorem Rd.of {H : Hp} {a : Addr} {u : HO} (h : H a = some u) : Rd H a u := .inl h
theorem Rd.ok {P : Program} {w : World} {H : Hp} {h : Heap} {a : Addr} {u : HO} (r : Rd H a u) (x : HOk P w H h) : ObjOk P w H h a u := by
  rcases r with r | ⟨o, r⟩
  · exact x a u r
  · obtain ⟨_, q⟩ := x a _ r
    exact q
/-- what may be written -/
def Mut : Option HO → Prop
  | some (.lst _) => True
  | some (.dK _) => True
  | some (.dT _) => True
  | some (.set _ _) => True
  | some (.ins _ _ _) => True
  | some (.ext _) => True
  | _ => False
section
variable {P : Program} {w : World} {H : Hp} {h h' : Heap} {x e : Addr} {o' : HO}
/-- the object at e is changed: x itself, or the dict of the instance x -/
theorem HOk.write (ok : HOk P w H h) (mu : Mut (H x)) (he : e = x ∨ H e = some (.own x)) (k : ∀ b u, b ≠ e → h.get? b = some u → h'.get? b = some u) (heo : ∃ u, h'.get? e = some u)
    (new : ObjOk P w (upd H x o') h' x o') : HOk P w (upd H x o') h' := fun b u q => by
  have nown : ∀ c y, H c = some (.own y) → c ≠ x := fun c y r z => by subst z; rw [r] at mu; exact mu
  have ntup : ∀ c xs, H c = some (.tup xs) → c ≠ x := fun c xs r z => by subst z; rw [r] at mu; exact mu
  by_cases hb : b = x
  · subst hb; rw [upd_same] at q; cases q; exact new
  · rw [upd_ne hb] at q
    by_cases hbe : b = e
    · have q' : H b = some (.own x) := by
        rcases he with z | z
        · exact absurd (hbe.trans z) hb
        · rw [hbe]; exact z
      rw [q] at q'; cases q'
      obtain ⟨v, hv⟩ := heo
      exact ⟨v, by rw [hbe]; exact hv⟩
    · refine (ok b u q).stay (fun c v hc r => k c v ?_ r) (fun c r => by rw [upd_ne (nown c b r)]; exact r) fun c xs r => by rw [upd_ne (ntup c xs r)]; exact r
      rcases hc with rfl | hc
      · exact hbe
      · rintro rfl
        rcases he with z | z
        · exact nown c b hc z
        · rw [hc] at z; cases z; exact hb rfl
end

/-! ### kept unless tracked; of the frames at fs (the callers') the slots may change (an exception that passes writes there); of the records at ex (iterators) nothing is said -/
structure Un (fs ex : List Addr) (H H' : Hp) (h h' : Heap) : Prop where
  keep : ∀ b o, h.get? b = some o → H b = none → b ∉ fs → b ∉ ex → h'.get? b = some o
  slot : ∀ b o, h.get? b = some o → H b = none → b ∈ fs → b ∉ ex → ∃ sl, h'.get? b = some { o with slots := sl }
  free : ∀ b o, h.get? b = some o → H b = none → b ∉ ex → H' b = none
  there : ∀ b o, h.get? b = some o → b ∉ ex → ∃ o', h'.get? b = some o'
  tups : ∀ b xs, H b = some (.tup xs) → H' b = some (.tup xs)
  frzs : ∀ b o u, H b = some (.frz o u) → H' b = some (.frz o u)
  tbls : ∀ b ps, H b = some (.tbl ps) → ∃ more, H' b = some (.tbl (ps ++ more))
section
variable {fs fs' ex ex' : List Addr} {H H1 H2 : Hp} {h h1 h2 h' : Heap} {a x e : Addr} {o : HO}
theorem Un.any (u : Un fs ex H H1 h h1) {b : Addr} {ob : Obj} (q : h.get? b = some ob) (n : H b = none) (hx : b ∉ ex) : ∃ sl, h1.get? b = some { ob with slots := sl } := by
  by_cases hb : b ∈ fs
  · exact u.slot b ob q n hb hx
  · exact ⟨ob.slots, u.keep b ob q n hb hx⟩
theorem Un.trans (a : Un fs ex H H1 h h1) (b : Un fs ex H1 H2 h1 h2) : Un fs ex H H2 h h2 where
  keep := fun c ob q n hc hx => b.keep c ob (a.keep c ob q n hc hx) (a.free c ob q n hx) hc hx
  slot := fun c ob q n hc hx => by
    obtain ⟨sl, e1⟩ := a.slot c ob q n hc hx
    obtain ⟨sl', e2⟩ := b.slot c _ e1 (a.free c ob q n hx) hc hx
    exact ⟨sl', e2⟩
  free := fun c ob q n hx => by
    obtain ⟨o', e1⟩ := a.there c ob q hx
    exact b.free c o' e1 (a.free c ob q n hx) hx
  there := fun c ob q hx => by
    obtain ⟨o', e1⟩ := a.there c ob q hx
    exact b.there c o' e1 hx
  tups := fun c xs q => b.tups c xs (a.tups c xs q)
  frzs := fun c ob xs q => b.frzs c ob xs (a.frzs c ob xs q)
  tbls := fun c ps q => by
    obtain ⟨m1, e1⟩ := a.tbls c ps q
    obtain ⟨m2, e2⟩ := b.tbls c _ e1
    exact ⟨m1 ++ m2, by rw [e2, Array.append_assoc]⟩
theorem Un.kept (k : ∀ b u, h.get? b = some u → h'.get? b = some u) : Un fs ex H H h h' :=
  ⟨fun b ob q _ _ _ => k b ob q, fun b ob q _ _ _ => ⟨ob.slots, k b ob q⟩, fun _ _ _ n _ => n, fun b ob q _ => ⟨ob, k b ob q⟩, fun _ _ q => q, fun _ _ _ q => q, fun _ ps q => ⟨#[], by rw [q]; simp⟩⟩
theorem Un.refl : Un fs ex H H h h := Un.kept fun _ _ q => q
theorem Un.laid (k : ∀ b u, h.get? b = some u → h'.get? b = some u) (hp : h.objs.size ≤ a) (hn : H a = none) : Un fs ex H (upd H a o) h h' where
  keep := fun b u q _ _ _ => k b u q
  slot := fun b u q _ _ _ => ⟨u.slots, k b u q⟩
  free := fun b u q n _ => by rw [upd_ne (Nat.ne_of_lt (Nat.lt_of_lt_of_le (Heap.lt_size q) hp))]; exact n
  there := fun b u q _ => ⟨u, k b u q⟩
  tups := fun b xs q => by rw [upd_ne (ne_of_none q hn)]; exact q
  frzs := fun b u xs q => by rw [upd_ne (ne_of_none q hn)]; exact q
  tbls := fun b ps q => ⟨#[], by rw [upd_ne (ne_of_none q hn), q]; simp⟩
theorem Un.write (mu : Mut (H x)) (he : e = x ∨ H e = some (.own x)) (k : ∀ b u, b ≠ e → h.get? b = some u → h'.get? b = some u) (heo : ∃ u, h'.get? e = some u) : Un fs ex H (upd H x o) h h' := by
  have hx : ∀ b, H b = none → b ≠ x := fun b n z => by subst z; rw [n] at mu; exact mu
  have hb : ∀ b, H b = none → b ≠ e := fun b n z => by
    subst z
    rcases he with r | r
    · exact hx b n r
    · rw [n] at r; cases r
  have hm : ∀ b u, H b = some u → ¬ Mut (some u) → b ≠ x := fun b u q nm z => by subst z; rw [q] at mu; exact nm mu
  refine ⟨fun b u q n _ _ => k b u (hb b n) q, fun b u q n _ _ => ⟨u.slots, k b u (hb b n) q⟩, fun b u q n _ => by rw [upd_ne (hx b n)]; exact n, fun b u q _ => ?_,
    fun b xs q => by rw [upd_ne (hm b _ q fun z => z)]; exact q, fun b u xs q => by rw [upd_ne (hm b _ q fun z => z)]; exact q, fun b ps q => ⟨#[], by rw [upd_ne (hm b _ q fun z => z), q]; simp⟩⟩
  by_cases hbe : b = e
  · subst hbe; exact heo
  · exact ⟨u, k b u hbe q⟩
theorem Un.mono (u : Un fs ex H H1 h h1) (hs : ∀ b ∈ fs, b ∈ fs') (hx : ∀ b ∈ ex, b ∈ ex') : Un fs' ex' H H1 h h1 :=
  ⟨fun b ob q n hb he => u.keep b ob q n (fun z => hb (hs b z)) fun z => he (hx b z), fun _ _ q n _ he => u.any q n fun z => he (hx _ z), fun b ob q n he => u.free b ob q n fun z => he (hx b z), fun b ob q he => u.there b ob q fun z => he (hx b z), u.tups, u.frzs, u.tbls⟩
end

/-! ### the heap without what is tracked -/
def trk (h : Heap) (H : Hp) : List Addr := (List.range h.objs.size).filter fun a => (H a).isSome
def hidT (h : Heap) (H : Hp) : Heap := PySem.W.hideAll h (trk h H)
theorem hidT_size (h : Heap) (H : Hp) : (hidT h H).objs.size = h.objs.size := PySem.W.hideAll_size _ _
theorem hidT_get {h : Heap} {H : Hp} {b : Addr} {o : Obj} (e : h.get? b = some o) (n : H b = none) : (hidT h H).get? b = some o :=
  PySem.W.hideAll_get _ e fun hm => by
    have q : (H b).isSome = true := (List.mem_filter.mp hm).2
    rw [n] at q; simp at q
theorem of_hidT {h : Heap} {H : Hp} {b : Addr} {o : Obj} (e : (hidT h H).get? b = some o) : h.get? b = some o ∧ H b = none := by
  have e' : h.get? b = some o := PySem.W.of_hideAll (trk h H) e
  refine ⟨e', ?_⟩
  cases q : H b with
  | none => rfl
  | some x =>
    have hm : b ∈ trk h H := List.mem_filter.mpr ⟨List.mem_range.mpr (Heap.lt_size e'), by simp [q]⟩
    have z : (hidT h H).get? b = none := PySem.W.hideAll_none (trk h H) hm
    rw [z] at e; cases e

/-! ### OpenK's ledger, filled with every new object but one -/
def allNews (g h : Heap) (L : Addr) : List (Addr × Obj) := (List.range h.objs.size).filterMap fun a => if a = L ∨ (g.get? a).isSome = true then none else (h.get? a).map fun o => (a, o)
def rest (g h : Heap) (L d : Addr) : List (Addr × Obj) := (allNews g h L).filter fun p => decide (p.1 ≠ d)
end L2

namespace L2
open PySem PySem.Spec PyProof.Rows

/-- the module's facts, over the base: the heap at the law's entry without what is tracked there -/
structure Mod (K : PySem.W.Frag) (mg : Str → Option Value) (base : Heap) : Prop where
  kin : K.In base
  glob : base.Ns mainGlobals mg
  blt : ∃ mb, base.Ns builtinsNs mb ∧ ∀ x : Str, x ≠ "__name__" → mb x = bootBuiltins x
  nolimit : base.NoLimit

/-- the context: a def's body (or a comprehension's block) running. base: fixed through the whole law; s₀, H₀: the entry; outer: the frames whose slots others may change (a def's callers); stack: all frames that run;
   ex: iterators that were made ahead of the entry and are walked here (a comprehension's); fn: the names whose cells were made at the entry (a def: all; a comprehension's block: its own); calm: not within an except suite; pn: pins that every state bears; xe: what is wanted of an exception that leaves the code -/
structure Cx where
  prog : Program
  w : World
  K : PySem.W.Frag
  mg : Str → Option Value
  base : Heap
  A : Around
  N : List Str
  s₀ : Shared
  H₀ : Hp
  env : Env
  outer : List Env
  stack : List Env
  ex : List Addr
  fn : Str → Bool
  calm : Bool
  pn : List (Addr × Obj)
  xe : Value → Shared → Prop
/-- the callers' frames -/
def frs (l : List Env) : List Addr := l.filterMap (·.frame)
abbrev Cx.fs (X : Cx) : List Addr := frs X.outer

def Vis (sc : Scope) (x : Str) : Prop := sc.names.lookup x = some .local ∨ sc.names.lookup x = some .cell ∨ sc.names.lookup x = some .free
def Loc (sc : Scope) (x : Str) : Prop := sc.names.lookup x = some .local ∨ sc.names.lookup x = some .cell
def Look (env : Env) (h : Heap) (m : Str → Option Value) (x : Str) (u : Value) : Prop :=
  (env.kindOf x = some .local ∧ m x = some u) ∨ ((env.kindOf x = some .cell ∨ env.kindOf x = some .free) ∧ ∃ c, env.cells.lookup x = some c ∧ h.IsCell c (some u))

structure Cx.Ok (X : Cx) : Prop where
  mod : Mod X.K X.mg X.base
  kind : X.env.scope.kind = .function
  glob : X.env.globals = mainGlobals
  blt : X.env.builtins = builtinsNs
  above : X.s₀.heap.objs.size ≤ X.env.locals
  inj : ∀ x y c, X.env.cells.lookup x = some c → X.env.cells.lookup y = some c → x = y
  has : ∀ x, (X.env.kindOf x = some .cell ∨ X.env.kindOf x = some .free) → ∃ c, X.env.cells.lookup x = some c
  cab : ∀ x c, X.fn x = true → X.env.cells.lookup x = some c → X.s₀.heap.objs.size ≤ c
  hd : X.calm = true → X.A.handled = none
  frames : X.A.frames = some X.stack
  stk : X.stack = X.outer ∨ (X.stack = X.env :: X.outer ∧ X.env.frame = some X.env.locals)
  exf : ∀ b ∈ X.ex, b ≠ X.env.locals ∧ ∀ x c, X.env.cells.lookup x = some c → c ≠ b
  bs : ∀ b o, X.base.get? b = some o → X.s₀.heap.get? b = some o ∧ X.H₀ b = none
  bsz : X.base.objs.size ≤ X.s₀.heap.objs.size
  noex : ∀ b o, X.base.get? b = some o → b ∉ X.ex
  exfs : ∀ b ∈ X.ex, b ∉ X.fs
  funs : X.s₀.heap.FunFrames X.base X.outer
  frf : ∀ b ∈ X.fs, X.H₀ b = none

structure Inv (X : Cx) (pins : List (Addr × Obj)) (σ : List (Option V)) (H : Hp) (s : Shared) : Prop where
  ok : X.Ok
  os : s.os = X.s₀.os
  bare : AllBare s.gens
  base : Un X.fs X.ex X.H₀ H X.s₀.heap s.heap
  loc : ∃ m, s.heap.Ns X.env.locals m ∧ ∀ (i : Nat) (x : Str) (v : V), X.N[i]? = some x → σ[i]? = some (some v) → Vis X.env.scope x → ∃ u, RelV v u ∧ Look X.env s.heap m x u
  cell : ∀ x c, X.env.cells.lookup x = some c → ∃ v, s.heap.IsCell c v
  free : H X.env.locals = none
  freeC : ∀ x c, X.env.cells.lookup x = some c → H c = none
  pin : ∀ p ∈ X.pn ++ pins, s.heap.get? p.1 = some p.2 ∧ H p.1 = none ∧ p.1 ≠ X.env.locals ∧ p.1 ∉ X.fs ∧ ∀ v, p.2.data ≠ .cell v
  hok : HOk X.prog X.w H s.heap
  len : σ.length = X.N.length

section
variable {X : Cx} {pins : List (Addr × Obj)} {σ : List (Option V)} {H H' : Hp} {s : Shared} {h' : Heap}

theorem Cx.Ok.nofr (ok : X.Ok) {b : Addr} {o : Obj} (e : X.base.get? b = some o) : b ∉ X.fs := fun hb => by
  have := (ok.funs.mem hb).1
  rw [e] at this; cases this
theorem Inv.bs (I : Inv X pins σ H s) : ∀ b o, X.base.get? b = some o → s.heap.get? b = some o ∧ H b = none := fun b o e =>
  ⟨I.base.keep b o (I.ok.bs b o e).1 (I.ok.bs b o e).2 (I.ok.nofr e) (I.ok.noex b o e), I.base.free b o (I.ok.bs b o e).1 (I.ok.bs b o e).2 (I.ok.noex b o e)⟩
theorem Inv.bk (I : Inv X pins σ H s) : ∀ b o, X.base.get? b = some o → s.heap.get? b = some o := fun b o e => (I.bs b o e).1
theorem Inv.mod (I : Inv X pins σ H s) : Mod X.K X.mg X.base := I.ok.mod
theorem Inv.kIn (I : Inv X pins σ H s) : X.K.In s.heap := I.ok.mod.kin.keeps I.bk
theorem Inv.nolimit (I : Inv X pins σ H s) : s.heap.NoLimit := I.ok.mod.nolimit.keeps I.bk
/-- the frame over the base: for OpenK's rules (K.In X.base is I.mod.kin) -/
theorem Inv.fr (I : Inv X pins σ H s) : ∃ m, Fr X.base X.env.locals s.heap m :=
  let ⟨m, hn, _⟩ := I.loc
  ⟨m, hn, I.bk, Nat.le_trans I.ok.bsz I.ok.above⟩
theorem Inv.lt (I : Inv X pins σ H s) : X.env.locals < s.heap.objs.size := let ⟨_, hn, _⟩ := I.loc; hn.lt
theorem Inv.sz (I : Inv X pins σ H s) : X.s₀.heap.objs.size ≤ s.heap.objs.size := Nat.le_trans I.ok.above (Nat.le_of_lt I.lt)
theorem Inv.nofs (I : Inv X pins σ H s) {a : Addr} (h : s.heap.objs.size ≤ a) : a ∉ X.fs := fun hb => by
  obtain ⟨_, o, ho, _⟩ := I.ok.funs.mem hb
  exact absurd (Nat.lt_of_lt_of_le (Heap.lt_size ho) (Nat.le_trans I.sz h)) (Nat.lt_irrefl _)
theorem Inv.cne (I : Inv X pins σ H s) : ∀ x c, X.env.cells.lookup x = some c → c ≠ X.env.locals := fun x c e z => by
  obtain ⟨v, o, ho, hd⟩ := I.cell x c e
  obtain ⟨m, ⟨o', es, ep, ho', hd', _⟩, _⟩ := I.loc
  rw [z, ho'] at ho; cases ho; rw [hd'] at hd; cases hd
theorem Inv.funs (I : Inv X pins σ H s) : s.heap.FunFrames X.base X.outer := by
  have all : ∀ (l : List Env), (∀ b ∈ frs l, b ∈ X.fs) → X.s₀.heap.FunFrames X.base l → s.heap.FunFrames X.base l := by
    intro l
    induction l with
    | nil => intro _ _; trivial
    | cons env r ih =>
      intro hs hl
      obtain ⟨hk, ⟨L, o, hf, hn, ho, hd⟩, hr⟩ := hl
      have hL : L ∈ X.fs := hs L (by unfold frs; rw [List.filterMap_cons, hf]; exact List.mem_cons_self)
      obtain ⟨sl, e⟩ := I.base.slot L o ho (I.ok.frf L hL) hL fun z => I.ok.exfs L z hL
      exact ⟨hk, ⟨L, _, hf, hn, e, hd⟩, ih (fun b hb => hs b (by unfold frs; rw [List.filterMap_cons, hf]; exact List.mem_cons_of_mem _ hb)) hr⟩
  exact all X.outer (fun _ hb => hb) I.ok.funs

/-- the frames that run, for a call -/
theorem Inv.stack (I : Inv X pins σ H s) : s.heap.FunFrames X.base X.stack := by
  rcases I.ok.stk with e | ⟨e, hf⟩
  · rw [e]; exact I.funs
  · rw [e]
    obtain ⟨m, hn, _⟩ := I.loc
    refine .cons (by rw [I.ok.kind]; decide) hf hn ?_ I.funs
    exact Heap.get?_none_of_le (Nat.le_trans I.ok.bsz I.ok.above)
theorem Inv.stkSub (I : Inv X pins σ H s) : ∀ b ∈ frs X.stack, b ∈ X.env.locals :: X.fs := fun b hb => by
  rcases I.ok.stk with e | ⟨e, hf⟩
  · rw [e] at hb; exact List.mem_cons_of_mem _ hb
  · rw [e] at hb
    unfold frs at hb
    rw [List.filterMap_cons, hf] at hb
    exact hb
theorem Inv.stkFree (I : Inv X pins σ H s) : ∀ b ∈ frs X.stack, H b = none := fun b hb => by
  rcases List.mem_cons.mp (I.stkSub b hb) with e | hb
  · rw [e]; exact I.free
  · obtain ⟨_, o, ho, _⟩ := I.ok.funs.mem hb
    exact I.base.free b o ho (I.ok.frf b hb) fun z => I.ok.exfs b z hb

/-- THE STEP: the untracked objects but the frame and the records at ch are kept (the callers' frames up to slots), the frame's map is kept, the new abstract heap is held -/
theorem Inv.step {g' : Array GenState} {t' : Nat} {d' : Drawn} {ch : List Addr} (I : Inv X pins σ H s)
    (hch : ∀ b ∈ ch, (b ∈ X.ex ∨ X.s₀.heap.objs.size ≤ b) ∧ b ≠ X.env.locals ∧ (∀ x c, X.env.cells.lookup x = some c → c ≠ b) ∧ ∀ p ∈ X.pn ++ pins, p.1 ≠ b)
    (keep : ∀ b o, b ≠ X.env.locals → b ∉ X.fs → b ∉ ch → s.heap.get? b = some o → H b = none → h'.get? b = some o)
    (slot : ∀ b o, b ≠ X.env.locals → b ∈ X.fs → b ∉ ch → s.heap.get? b = some o → H b = none → ∃ sl, h'.get? b = some { o with slots := sl }) (free : ∀ b o, b ∉ ch → s.heap.get? b = some o → H b = none → H' b = none)
    (there : ∀ b o, b ∉ ch → s.heap.get? b = some o → ∃ o', h'.get? b = some o')
    (tups : ∀ b xs, H b = some (.tup xs) → H' b = some (.tup xs)) (frzs : ∀ b o u, H b = some (.frz o u) → H' b = some (.frz o u)) (tbls : ∀ b ps, H b = some (.tbl ps) → ∃ more, H' b = some (.tbl (ps ++ more)))
    (ns : ∀ m, s.heap.Ns X.env.locals m → h'.Ns X.env.locals m) (hok : HOk X.prog X.w H' h') (hg : AllBare g') :
    Inv X pins σ H' { s with heap := h', gens := g', drawn := d', toks := t' } := by
  have neL : ∀ b o, X.s₀.heap.get? b = some o → b ≠ X.env.locals := fun b o e => Nat.ne_of_lt (Nat.lt_of_lt_of_le (Heap.lt_size e) I.ok.above)
  have neC : ∀ b o, X.s₀.heap.get? b = some o → b ∉ X.ex → b ∉ ch := fun b o e hx hb => by
    rcases (hch b hb).1 with z | z
    · exact hx z
    · exact absurd (Nat.lt_of_lt_of_le (Heap.lt_size e) z) (Nat.lt_irrefl _)
  have cellK : ∀ x c, X.env.cells.lookup x = some c → ∀ v, s.heap.IsCell c v → h'.IsCell c v := fun x c e v ⟨o, ho, hd⟩ => by
    have nch : c ∉ ch := fun z => (hch c z).2.2.1 x c e rfl
    by_cases hc : c ∈ X.fs
    · obtain ⟨sl, q⟩ := slot c o (I.cne x c e) hc nch ho (I.freeC x c e)
      exact ⟨_, q, hd⟩
    · exact ⟨o, keep c o (I.cne x c e) hc nch ho (I.freeC x c e), hd⟩
  refine ⟨I.ok, I.os, hg, ⟨fun b o e n hb hx => ?_, fun b o e n hb hx => ?_, fun b o e n hx => ?_, fun b o e hx => ?_, fun b xs e => tups b xs (I.base.tups b xs e), fun b o xs e => frzs b o xs (I.base.frzs b o xs e), fun b ps e => ?_⟩, ?_, fun x c e => ?_, ?_, fun x c e => ?_, fun p hp => ?_, hok, I.len⟩
  · exact keep b o (neL b o e) hb (neC b o e hx) (I.base.keep b o e n hb hx) (I.base.free b o e n hx)
  · obtain ⟨sl, e1⟩ := I.base.slot b o e n hb hx
    obtain ⟨sl', e2⟩ := slot b _ (neL b o e) hb (neC b o e hx) e1 (I.base.free b o e n hx)
    exact ⟨sl', e2⟩
  · obtain ⟨o', e1⟩ := I.base.there b o e hx
    exact free b o' (neC b o e hx) e1 (I.base.free b o e n hx)
  · obtain ⟨o', e1⟩ := I.base.there b o e hx
    exact there b o' (neC b o e hx) e1
  · obtain ⟨m1, e1⟩ := I.base.tbls b ps e
    obtain ⟨m2, e2⟩ := tbls b _ e1
    exact ⟨m1 ++ m2, by rw [e2, Array.append_assoc]⟩
  · obtain ⟨m, hn, hl⟩ := I.loc
    refine ⟨m, ns m hn, fun i x v e1 e2 e3 => ?_⟩
    obtain ⟨u, r, l⟩ := hl i x v e1 e2 e3
    refine ⟨u, r, ?_⟩
    rcases l with l | ⟨k, c, e, z⟩
    · exact .inl l
    · exact .inr ⟨k, c, e, cellK x c e _ z⟩
  · obtain ⟨v, z⟩ := I.cell x c e
    exact ⟨v, cellK x c e v z⟩
  · obtain ⟨m, ⟨o, _, _, ho, _⟩, _⟩ := I.loc
    exact free _ o (fun z => (hch _ z).2.1 rfl) ho I.free
  · obtain ⟨v, o, ho, hd⟩ := I.cell x c e
    exact free c o (fun z => (hch c z).2.2.1 x c e rfl) ho (I.freeC x c e)
  · obtain ⟨e, n, ne, nf, d⟩ := I.pin p hp
    have nch : p.1 ∉ ch := fun z => (hch p.1 z).2.2.2 p hp rfl
    exact ⟨keep p.1 p.2 ne nf nch e n, free p.1 p.2 nch e n, ne, nf, d⟩
/-- .. where the frame's own object is kept too -/
theorem Inv.un {t' : Nat} (I : Inv X pins σ H s) (u : Un X.fs [] H H' s.heap h') (hok : HOk X.prog X.w H' h') : Inv X pins σ H' { s with heap := h', toks := t' } := by
  obtain ⟨m, ⟨o, es, ep, ho, r⟩, _⟩ := id I.loc
  obtain ⟨sl, hL⟩ := u.any ho I.free (by simp)
  exact I.step (g' := s.gens) (d' := s.drawn) (ch := []) (fun _ z => nomatch z) (fun b o _ hb _ e n => u.keep b o e n hb (by simp)) (fun b o _ hb _ e n => u.slot b o e n hb (by simp)) (fun b o _ e n => u.free b o e n (by simp)) (fun b o _ e => u.there b o e (by simp)) u.tups u.frzs u.tbls (fun m' hm => by
    obtain ⟨o', es', ep', ho', r'⟩ := hm
    rw [ho] at ho'; cases ho'
    exact ⟨_, es', ep', hL, r'⟩) hok I.bare
/-- behind a call (or a comprehension's block): the slots of this frame may have changed too, the records at ch may have turned -/
theorem Inv.call {g' : Array GenState} {t' : Nat} {d' : Drawn} {ch : List Addr} (I : Inv X pins σ H s) (u : Un (frs X.stack) ch H H' s.heap h') (hok : HOk X.prog X.w H' h') (hg : AllBare g')
    (hch : ∀ b ∈ ch, (b ∈ X.ex ∨ X.s₀.heap.objs.size ≤ b) ∧ b ≠ X.env.locals ∧ (∀ x c, X.env.cells.lookup x = some c → c ≠ b) ∧ ∀ p ∈ X.pn ++ pins, p.1 ≠ b) :
    Inv X pins σ H' { s with heap := h', gens := g', drawn := d', toks := t' } := by
  obtain ⟨m, ⟨o, es, ep, ho, r⟩, _⟩ := id I.loc
  obtain ⟨sl, hL⟩ := u.any ho I.free fun z => (hch _ z).2.1 rfl
  exact I.step (ch := ch) hch (fun b o hL hb hc e n => u.keep b o e n (fun z => (List.mem_cons.mp (I.stkSub b z)).elim hL hb) hc) (fun b o _ _ hc e n => u.any e n hc) (fun b o hc e n => u.free b o e n hc) (fun b o hc e => u.there b o e hc) u.tups u.frzs u.tbls (fun m' hm => by
    obtain ⟨o', es', ep', ho', r'⟩ := hm
    rw [ho] at ho'; cases ho'
    exact ⟨_, es', ep', hL, r'⟩) hok hg
/-- an untracked record of ours (an iterator) has turned -/
theorem Inv.turned {t' : Nat} {it : Addr} (I : Inv X pins σ H s) (k : ∀ b o, b ≠ it → s.heap.get? b = some o → h'.get? b = some o) (hn : H it = none) (hL : it ≠ X.env.locals)
    (h1 : it ∈ X.ex ∨ X.s₀.heap.objs.size ≤ it) (h2 : ∀ x c, X.env.cells.lookup x = some c → c ≠ it) (h3 : ∀ p ∈ X.pn ++ pins, p.1 ≠ it) : Inv X pins σ H { s with heap := h', toks := t' } := by
  have nit : ∀ b u, H b = some u → b ≠ it := fun b u e z => by rw [z, hn] at e; cases e
  refine I.step (g' := s.gens) (d' := s.drawn) (ch := [it]) (fun b hb => ?_) (fun b o _ _ hc e _ => k b o (fun z => hc (by simp [z])) e) (fun b o _ _ hc e _ => ⟨o.slots, k b o (fun z => hc (by simp [z])) e⟩) (fun _ _ _ _ n => n)
    (fun b o hc e => ⟨o, k b o (fun z => hc (by simp [z])) e⟩) (fun _ _ e => e) (fun _ _ _ e => e) (fun b ps e => ⟨#[], by rw [e]; simp⟩) (fun m hm => ?_) (fun b u e => ?_) I.bare
  · have e : b = it := by simpa using hb
    subst e
    exact ⟨h1, hL, h2, h3⟩
  · obtain ⟨o, es, ep, ho, r⟩ := hm
    exact ⟨o, es, ep, k _ o (Ne.symm hL) ho, r⟩
  · refine (I.hok b u e).stay (fun c v hc q => k c v ?_ q) (fun _ q => q) fun _ _ q => q
    rcases hc with z | z
    · rw [z]; exact nit b u e
    · exact nit c _ z
theorem Inv.tok (I : Inv X pins σ H s) (t : Nat) : Inv X pins σ H { s with toks := t } := I.un (h' := s.heap) (t' := t) Un.refl I.hok
/-- all objects kept -/
theorem Inv.kept {t' : Nat} (I : Inv X pins σ H s) (k : ∀ b u, s.heap.get? b = some u → h'.get? b = some u) : Inv X pins σ H { s with heap := h', toks := t' } := I.un (Un.kept k) (I.hok.kept k)
/-- a new object laid and tracked -/
theorem Inv.laid {a : Addr} {o : HO} {t' : Nat} (I : Inv X pins σ H s) (k : ∀ b u, s.heap.get? b = some u → h'.get? b = some u) (hp : s.heap.objs.size ≤ a) (new : ObjOk X.prog X.w (upd H a o) h' a o) :
    Inv X pins σ (upd H a o) { s with heap := h', toks := t' } := I.un (Un.laid k hp (I.hok.fresh hp)) (I.hok.laid k hp new)
/-- an object written -/
theorem Inv.write {x e : Addr} {o : HO} {t' : Nat} (I : Inv X pins σ H s) (mu : Mut (H x)) (he : e = x ∨ H e = some (.own x)) (k : ∀ b u, b ≠ e → s.heap.get? b = some u → h'.get? b = some u) (heo : ∃ u, h'.get? e = some u)
    (new : ObjOk X.prog X.w (upd H x o) h' x o) : Inv X pins σ (upd H x o) { s with heap := h', toks := t' } := I.un (Un.write mu he k heo) (I.hok.write mu he k heo new)
theorem Inv.pins_of {pins' : List (Addr × Obj)} (I : Inv X pins σ H s) (h : ∀ p ∈ pins', s.heap.get? p.1 = some p.2 ∧ H p.1 = none ∧ p.1 ≠ X.env.locals ∧ p.1 ∉ X.fs ∧ ∀ v, p.2.data ≠ .cell v) : Inv X pins' σ H s :=
  ⟨I.ok, I.os, I.bare, I.base, I.loc, I.cell, I.free, I.freeC, fun p hp => (List.mem_append.mp hp).elim (fun z => I.pin p (List.mem_append_left _ z)) (h p), I.hok, I.len⟩

theorem nodup_ix {N : List Str} (hN : N.Nodup) {i j : Nat} {x : Str} (a : N[i]? = some x) (b : N[j]? = some x) : i = j := by
  obtain ⟨h1, e1⟩ := List.getElem?_eq_some_iff.mp a
  obtain ⟨h2, e2⟩ := List.getElem?_eq_some_iff.mp b
  exact (List.getElem_inj hN).mp (e1.trans e2.symm)

/-- a name is stored; what changed -/
theorem store_ok2 {M : Model} {A : Around} {E : Value → Shared → Prop} {i : Nat} {x : Str} {v : V} {u : Value} {Q : Unit → Shared → Prop} (I : Inv X pins σ H s) (hN : X.N.Nodup) (hi : X.N[i]? = some x) (hx : Loc X.env.scope x) (r : RelV v u)
    (h : ∀ s', Inv X pins (σ.set i (some v)) H s' → (∃ a, Heap.SameBut a s.heap s'.heap ∧ (a = X.env.locals ∨ X.env.cells.lookup x = some a)) → Q () s') (hf : X.fn x = true ∨ X.env.scope.names.lookup x = some .local := by first | exact .inl rfl | exact .inr rfl | assumption) : wpAny M A (storeName X.env x u) Q E s := by
  obtain ⟨m, hn, hl⟩ := id I.loc
  have hcls : (X.env.scope.kind == .class || (X.env.scope.kind == .module && X.env.locals != X.env.globals)) = false := by rw [I.ok.kind]; rfl
  have hiσ : i < σ.length := by rw [I.len]; exact (List.getElem?_eq_some_iff.mp hi).1
  have cne := I.cne
  have tracked : ∀ {a : Addr} {h' : Heap}, (∃ o, s.heap.get? a = some o ∧ H a = none) → Heap.SameBut a s.heap h' → HOk X.prog X.w H h' := fun {a h'} ha hs b ob e => by
    obtain ⟨_, _, hfree⟩ := ha
    refine (I.hok b ob e).stay (fun c w' hc q => (hs.2 c ?_).trans q) (fun _ q => q) fun _ _ q => q
    rintro rfl
    rcases hc with rfl | hc
    · rw [hfree] at e; cases e
    · rw [hfree] at hc; cases hc
  rcases hx with hk | hk
  · refine wpAny_storeName_local hk hn (fun h' hn' hs => ?_) hcls
    obtain ⟨oL, _, _, hoL, _⟩ := id hn
    refine h _ ⟨I.ok, I.os, I.bare, ⟨fun b o e n hb hx => ?_, fun b o e n hb hx => ?_, I.base.free, fun b o e hx => ?_, I.base.tups, I.base.frzs, I.base.tbls⟩, ⟨_, hn', fun j y v' e1 e2 e3 => ?_⟩, fun y c e => ?_, I.free, I.freeC, fun p hp => ?_, tracked ⟨oL, hoL, I.free⟩ hs, by simpa using I.len⟩ ⟨_, hs, .inl rfl⟩
    · exact (hs.2 b (Nat.ne_of_lt (Nat.lt_of_lt_of_le (Heap.lt_size e) I.ok.above))).trans (I.base.keep b o e n hb hx)
    · obtain ⟨sl, e1⟩ := I.base.slot b o e n hb hx
      exact ⟨sl, (hs.2 b (Nat.ne_of_lt (Nat.lt_of_lt_of_le (Heap.lt_size e) I.ok.above))).trans e1⟩
    · obtain ⟨o', e1⟩ := I.base.there b o e hx
      exact ⟨o', (hs.2 b (Nat.ne_of_lt (Nat.lt_of_lt_of_le (Heap.lt_size e) I.ok.above))).trans e1⟩
    · by_cases hj : j = i
      · subst hj
        rw [hi] at e1; cases e1
        rw [List.getElem?_set_self hiσ] at e2
        cases e2
        exact ⟨u, r, .inl ⟨hk, by simp⟩⟩
      · rw [List.getElem?_set_ne (Ne.symm hj)] at e2
        obtain ⟨u', r', q⟩ := hl j y v' e1 e2 e3
        refine ⟨u', r', ?_⟩
        rcases q with ⟨k, e⟩ | ⟨k, c, e, z⟩
        · refine .inl ⟨k, ?_⟩
          have : y ≠ x := fun e => hj (nodup_ix hN e1 (e ▸ hi))
          simp [this, e]
        · exact .inr ⟨k, c, e, z.sameBut hs (cne y c e)⟩
    · obtain ⟨w', z⟩ := I.cell y c e
      exact ⟨w', z.sameBut hs (cne y c e)⟩
    · obtain ⟨e, n, ne, nf, d⟩ := I.pin p hp
      exact ⟨(hs.2 p.1 ne).trans e, n, ne, nf, d⟩
  · have hfn : X.fn x = true := by
      rcases hf with z | z
      · exact z
      · rw [z] at hk; cases hk
    obtain ⟨c, hc⟩ := I.ok.has x (.inl hk)
    obtain ⟨w', z⟩ := I.cell x c hc
    refine wpAny_storeName_cell I.ok.kind hk hc z (fun h' hc' hs => ?_)
    obtain ⟨oc, hoc, hocd⟩ := id z
    refine h { s with heap := h' } ⟨I.ok, I.os, I.bare, ⟨fun b o e n hb hx => ?_, fun b o e n hb hx => ?_, I.base.free, fun b o e hx => ?_, I.base.tups, I.base.frzs, I.base.tbls⟩, ⟨m, hn.sameBut hs (Ne.symm (cne x c hc)), fun j y v' e1 e2 e3 => ?_⟩, fun y c' e => ?_, I.free, I.freeC, fun p hp => ?_, tracked ⟨oc, hoc, I.freeC x c hc⟩ hs, by simpa using I.len⟩ ⟨c, hs, .inr hc⟩
    · exact (hs.2 b (Nat.ne_of_lt (Nat.lt_of_lt_of_le (Heap.lt_size e) (I.ok.cab x c hfn hc)))).trans (I.base.keep b o e n hb hx)
    · obtain ⟨sl, e1⟩ := I.base.slot b o e n hb hx
      exact ⟨sl, (hs.2 b (Nat.ne_of_lt (Nat.lt_of_lt_of_le (Heap.lt_size e) (I.ok.cab x c hfn hc)))).trans e1⟩
    · obtain ⟨o', e1⟩ := I.base.there b o e hx
      exact ⟨o', (hs.2 b (Nat.ne_of_lt (Nat.lt_of_lt_of_le (Heap.lt_size e) (I.ok.cab x c hfn hc)))).trans e1⟩
    · by_cases hj : j = i
      · subst hj
        rw [hi] at e1; cases e1
        rw [List.getElem?_set_self hiσ] at e2
        cases e2
        exact ⟨u, r, .inr ⟨.inl hk, c, hc, hc'⟩⟩
      · rw [List.getElem?_set_ne (Ne.symm hj)] at e2
        obtain ⟨u', r', q⟩ := hl j y v' e1 e2 e3
        refine ⟨u', r', ?_⟩
        rcases q with q | ⟨k, c', e, z'⟩
        · exact .inl q
        · refine .inr ⟨k, c', e, z'.sameBut hs ?_⟩
          rintro rfl
          exact hj (nodup_ix hN e1 (I.ok.inj _ _ _ e hc ▸ hi))
    · by_cases hcc : c' = c
      · subst hcc; exact ⟨_, hc'⟩
      · obtain ⟨w2, z2⟩ := I.cell y c' e
        exact ⟨w2, z2.sameBut hs hcc⟩
    · obtain ⟨e, n, ne, nf, d⟩ := I.pin p hp
      refine ⟨(hs.2 p.1 ?_).trans e, n, ne, nf, d⟩
      intro q
      rw [q, hoc] at e
      have q' : oc = p.2 := Option.some.inj e
      exact d w' (by rw [← q']; exact hocd)
theorem store_ok {M : Model} {A : Around} {E : Value → Shared → Prop} {i : Nat} {x : Str} {v : V} {u : Value} {Q : Unit → Shared → Prop} (I : Inv X pins σ H s) (hN : X.N.Nodup) (hi : X.N[i]? = some x) (hx : Loc X.env.scope x) (r : RelV v u)
    (h : ∀ s', Inv X pins (σ.set i (some v)) H s' → Q () s') (hf : X.fn x = true ∨ X.env.scope.names.lookup x = some .local := by first | exact .inl rfl | exact .inr rfl | assumption) : wpAny M A (storeName X.env x u) Q E s :=
  store_ok2 I hN hi hx r (fun s' I' _ => h s' I') hf
/-- behind a call or a block, the state as it is -/
theorem Inv.call' {s' : Shared} {ch : List Addr} (I : Inv X pins σ H s) (ho : s'.os = s.os) (u : Un (frs X.stack) ch H H' s.heap s'.heap) (hok : HOk X.prog X.w H' s'.heap) (hg : AllBare s'.gens)
    (hch : ∀ b ∈ ch, (b ∈ X.ex ∨ X.s₀.heap.objs.size ≤ b) ∧ b ≠ X.env.locals ∧ (∀ x c, X.env.cells.lookup x = some c → c ≠ b) ∧ ∀ p ∈ X.pn ++ pins, p.1 ≠ b) : Inv X pins σ H' s' := by
  obtain ⟨h', g', d', t', o'⟩ := s'
  have e : o' = s.os := ho
  subst e
  exact I.call (g' := g') (t' := t') (d' := d') u hok hg hch
end

/-! ### the judgements -/
/-- an exception: its class, its own dict's address (where it has one), the abstract heap behind it -/
abbrev XK := Value → Option Addr → Hp → Prop
abbrev St := List (Option V)
abbrev VK := V → Hp → Prop
/-- an expression's reading; a test's; an argument list's -/
abbrev TE := St → Hp → VK → Prop
abbrev TT := St → Hp → (Bool → Hp → Prop) → Prop
abbrev TA := St → Hp → (List V → Hp → Prop) → Prop
/-- what is wanted behind a statement -/
structure Ends where
  nx : St → Hp → Prop
  rt : VK
  bk : St → Hp → Prop := fun _ _ => False
  ct : St → Hp → Prop := fun _ _ => False
abbrev TS := Ends → St → Hp → Prop

def EP (X : Cx) (pins : List (Addr × Obj)) (σ : St) (Q : VK) (u : Value) (s' : Shared) : Prop := ∃ v H', Inv X pins σ H' s' ∧ RelV v u ∧ Q v H'
def TP (X : Cx) (pins : List (Addr × Obj)) (σ : St) (Q : Bool → Hp → Prop) (b : Bool) (s' : Shared) : Prop := ∃ H', Inv X pins σ H' s' ∧ Q b H'
def AP (X : Cx) (pins : List (Addr × Obj)) (σ : St) (Q : List V → Hp → Prop) (us : List Value) (s' : Shared) : Prop := ∃ vs H', Inv X pins σ H' s' ∧ Vals vs us ∧ Q vs H'
def SP (X : Cx) (pins : List (Addr × Obj)) (D : Ends) (f : Flow) (s' : Shared) : Prop :=
  match f with
  | .next => ∃ σ' H', Inv X pins σ' H' s' ∧ D.nx σ' H'
  | .brk => ∃ σ' H', Inv X pins σ' H' s' ∧ D.bk σ' H'
  | .cont => ∃ σ' H', Inv X pins σ' H' s' ∧ D.ct σ' H'
  | .ret u => ∃ v σ' H', Inv X pins σ' H' s' ∧ RelV v u ∧ D.rt v H'

def PE (X : Cx) (e : Expr) (t : TE) : Prop :=
  ∀ (pins : List (Addr × Obj)) (s : Shared) (σ : St) (H : Hp) (Q : VK), Inv X pins σ H s → t σ H Q → wpAny (model X.prog X.w) X.A (eval e X.env) (EP X pins σ Q) X.xe s
def PT (X : Cx) (e : Expr) (t : TT) : Prop :=
  ∀ (pins : List (Addr × Obj)) (s : Shared) (σ : St) (H : Hp) (Q : Bool → Hp → Prop), Inv X pins σ H s → t σ H Q → wpAny (model X.prog X.w) X.A (isTrue e X.env (eval e X.env)) (TP X pins σ Q) X.xe s
/-- a test whatever its 'whole' is (and, or) -/
def PW (X : Cx) (e : Expr) (t : TT) : Prop :=
  ∀ (whole : Sem Value) (pins : List (Addr × Obj)) (s : Shared) (σ : St) (H : Hp) (Q : Bool → Hp → Prop), Inv X pins σ H s → t σ H Q → wpAny (model X.prog X.w) X.A (isTrue e X.env whole) (TP X pins σ Q) X.xe s
theorem PW.pt {X : Cx} {e : Expr} {t : TT} (h : PW X e t) : PT X e t := h _
/-- an argument list (no star), from the left -/
def PA (X : Cx) (es : List Expr) (t : TA) : Prop :=
  ∀ (pos : Pos) (pins : List (Addr × Obj)) (s : Shared) (σ : St) (H : Hp) (Q : List V → Hp → Prop), Inv X pins σ H s → t σ H Q → wpAny (model X.prog X.w) X.A (spliced (backTo pos (starEach es X.env))) (AP X pins σ Q) X.xe s
def PS (X : Cx) (st : Stmt) (t : TS) : Prop :=
  ∀ (pins : List (Addr × Obj)) (s : Shared) (σ : St) (H : Hp) (D : Ends), Inv X pins σ H s → t D σ H → wpAny (model X.prog X.w) X.A (exec st X.env) (SP X pins D) X.xe s
def PSs (X : Cx) (st : List Stmt) (t : TS) : Prop :=
  ∀ (pins : List (Addr × Obj)) (s : Shared) (σ : St) (H : Hp) (D : Ends), Inv X pins σ H s → t D σ H → wpAny (model X.prog X.w) X.A (execs st X.env) (SP X pins D) X.xe s
/-- weaken the end -/
theorem thn {α : Type} {t : Sem α} {Q Q' : α → Shared → Prop} {M : Model} {A : Around} {E : Value → Shared → Prop} {s : Shared} (h : wpAny M A t Q E s) (hQ : ∀ a s, Q a s → Q' a s) : wpAny M A t Q' E s := wpAny_mono h hQ fun _ _ x => x
end L2

namespace L2
open PySem PySem.Spec PyProof.Rows
section
variable {X : Cx}


/-! ### names and constants -/
def tVar (i : Nat) : TE := fun σ H Q => ∃ v, σ[i]? = some (some v) ∧ Q v H
def tC (v : V) : TE := fun _ H Q => Q v H
theorem pe_var {i : Nat} {x : Str} {pos : Pos} (hN : X.N[i]? = some x) (hv : Vis X.env.scope x) (hd : (x == ("__debug__" : Str)) = false := by decide) (hcd : (x == ("__classdict__" : Str)) = false := by decide) : PE X (.Name x pos) (tVar i) := by
  intro pins s σ H Q I h
  obtain ⟨v, e, h⟩ := h
  obtain ⟨m, hn, hl⟩ := I.loc
  obtain ⟨u, r, l⟩ := hl i x v hN e hv
  have fin : EP X pins σ Q u s := ⟨v, H, I, r, h⟩
  rcases l with ⟨hk, hm⟩ | ⟨hk, c, hc, hcell⟩
  · exact wpAny_Name (wpAny_loadName_local I.ok.kind hk hn hm fin) hd
  · rcases hk with hk | hk
    · exact wpAny_Name (wpAny_loadName_cell I.ok.kind hk hc hcell fin) hd
    · exact wpAny_Name (wpAny_loadName_free I.ok.kind hk hc hcell fin hcd) hd
theorem pe_int {i j pos} : PE X (.Constant (.int i) j pos) (tC (.int i)) := fun _ _ _ H _ I h => wpAny_Constant_int ⟨.int i, H, I.tok _, ⟨_, rfl⟩, h⟩
theorem pe_bl {b j pos} : PE X (.Constant (.bool b) j pos) (tC (.bl b)) := fun _ _ _ H _ I h => Constant_bool ⟨.bl b, H, I, rfl, h⟩
theorem pe_non {j pos} : PE X (.Constant .none j pos) (tC .non) := fun _ _ _ H _ I h => Constant_none ⟨.non, H, I, rfl, h⟩
theorem pe_str {x j pos} : PE X (.Constant (.str x) j pos) (tC (.str x)) := fun _ _ _ H _ I h => Calls.Constant_str ⟨.str x, H, I.tok _, ⟨_, rfl⟩, h⟩

/-- a global name of the def -/
def Gl (X : Cx) (x : Str) : Prop := X.env.kindOf x = some .globalImplicit
theorem ld_glob {E : Value → Shared → Prop} {pins : List (Addr × Obj)} {s : Shared} {σ : St} {H : Hp} {x : Str} {u : Value} {pos : Pos} {Q : Value → Shared → Prop} (I : Inv X pins σ H s) (hg : Gl X x) (hm : X.mg x = some u) (h : Q u s)
    (hd : (x == ("__debug__" : Str)) = false := by decide) : wpAny (model X.prog X.w) X.A (eval (.Name x pos) X.env) Q E s :=
  Calls.Name_function_global I.ok.kind hg (Calls.loadGlobal_global (by rw [I.ok.glob]; exact I.mod.glob.keeps I.bk) hm h) hd
theorem ld_blt {E : Value → Shared → Prop} {pins : List (Addr × Obj)} {s : Shared} {σ : St} {H : Hp} {x : Str} {u : Value} {pos : Pos} {Q : Value → Shared → Prop} (I : Inv X pins σ H s) (hg : Gl X x) (hm : X.mg x = none) (hv : bootBuiltins x = some u) (h : Q u s)
    (hn : x ≠ "__name__" := by decide) (hd : (x == ("__debug__" : Str)) = false := by decide) : wpAny (model X.prog X.w) X.A (eval (.Name x pos) X.env) Q E s := by
  obtain ⟨mb, h1, h2⟩ := I.mod.blt
  exact Calls.Name_function_global I.ok.kind hg (Calls.loadGlobal_builtin (by rw [I.ok.glob]; exact I.mod.glob.keeps I.bk) hm (by rw [I.ok.blt]; exact h1.keeps I.bk) ((h2 x hn).trans hv) h) hd
/-- a module's constant, a class, a function, as a value -/
theorem pe_glob {x : Str} {v : V} {u : Value} {pos : Pos} (hg : Gl X x) (hm : X.mg x = some u) (r : RelV v u) (hd : (x == ("__debug__" : Str)) = false := by decide) : PE X (.Name x pos) (tC v) :=
  fun _ _ _ H _ I h => ld_glob I hg hm ⟨v, H, I, r, h⟩ hd
theorem pe_bltn {x : Str} {v : V} {u : Value} {pos : Pos} (hg : Gl X x) (hm : X.mg x = none) (hv : bootBuiltins x = some u) (r : RelV v u) (hn : x ≠ "__name__" := by decide) (hd : (x == ("__debug__" : Str)) = false := by decide) : PE X (.Name x pos) (tC v) :=
  fun _ _ _ H _ I h => ld_blt I hg hm hv ⟨v, H, I, r, h⟩ hn hd

/-! ### arithmetic -/
/-- two ints -/
def t2I (ta tb : TE) (k : Int → Int → Hp → Prop) : St → Hp → Prop := fun σ H => ta σ H fun x H1 => tb σ H1 fun y H2 => ∃ i j, x = .int i ∧ y = .int j ∧ k i j H2
def tAdd (ta tb : TE) : TE := fun σ H Q => t2I ta tb (fun i j H2 => Q (.int (i + j)) H2) σ H
def tSub (ta tb : TE) : TE := fun σ H Q => t2I ta tb (fun i j H2 => Q (.int (i - j)) H2) σ H
/-- the left factor below 2^64 -/
def tMul (ta tb : TE) : TE := fun σ H Q => t2I ta tb (fun i j H2 => (-(2 ^ 64) < i ∧ i < 2 ^ 64) ∧ Q (.int (i * j)) H2) σ H
variable {a b : Expr} {ta tb : TE} {pos : Pos}

/-! ### comparisons -/
def PC (X : Cx) (op : CmpOp) (a b : Expr) (t : TE) : Prop :=
  ∀ (pins : List (Addr × Obj)) (s : Shared) (σ : St) (H : Hp) (Q : VK), Inv X pins σ H s → t σ H Q →
    wpAny (model X.prog X.w) X.A (eval a X.env) (fun v s₁ => wpAny (model X.prog X.w) X.A (eval b X.env) (fun u s₂ => wpAny (model X.prog X.w) X.A (compareOp op v u) (EP X pins σ Q) X.xe s₂) X.xe s₁) X.xe s
theorem nobehind (b : Expr) {op : CmpOp} (h : op ≠ .In) (h2 : op ≠ .NotIn) : behindInMarks op b = false := by
  have e1 : (op == CmpOp.In) = false := by cases op <;> first | rfl | exact absurd rfl h
  have e2 : (op == CmpOp.NotIn) = false := by cases op <;> first | rfl | exact absurd rfl h2
  cases b <;> simp [behindInMarks, e1, e2]
def tCmp (p : Int → Int → Bool) (ta tb : TE) : TE := fun σ H Q => t2I ta tb (fun i j H2 => Q (.bl (p i j)) H2) σ H
abbrev tLt : TE → TE → TE := tCmp fun i j => decide (i < j)
abbrev tLe : TE → TE → TE := tCmp fun i j => decide (i ≤ j)
abbrev tGt : TE → TE → TE := tCmp fun i j => decide (j < i)
abbrev tGe : TE → TE → TE := tCmp fun i j => decide (j ≤ i)
abbrev tEqI : TE → TE → TE := tCmp fun i j => decide (i = j)
abbrev tNeI : TE → TE → TE := tCmp fun i j => !decide (i = j)
/-- is None -/
def tIsN (ta : TE) : TE := fun σ H Q => ta σ H fun x H1 => Q (.bl (decide (x = .non))) H1
def tNotN (ta : TE) : TE := fun σ H Q => ta σ H fun x H1 => Q (.bl (!decide (x = .non))) H1
theorem RelV.none_iff {x : V} {v : Value} (r : RelV x v) : (v == Value.none) = decide (x = .non) := by
  cases x with
  | non => cases r; rfl
  | bl _ => cases r; rfl
  | int _ => obtain ⟨t, rfl⟩ := r; rfl
  | str _ => obtain ⟨t, rfl⟩ := r; rfl
  | byt _ => obtain ⟨t, rfl⟩ := r; rfl
  | flt _ => obtain ⟨t, rfl⟩ := r; rfl
  | ref _ => cases r; rfl
  | ty _ => cases r; rfl
theorem pc_isN {j pos'} (ha : PE X a ta) : PC X .Is a (.Constant .none j pos') (tIsN ta) := by
  intro pins s σ H Q I h
  refine thn (ha pins s σ H _ I h) fun v s1 ⟨x, H1, I1, r1, q1⟩ => ?_
  exact Constant_none (is_none_gen ⟨.bl _, H1, I1, by rw [r1.none_iff]; rfl, q1⟩)
/-- a comparison as a value, as a test -/
def tB (t : TE) : TT := fun σ H Q => t σ H fun x H1 => ∃ c, x = .bl c ∧ Q c H1
theorem pt_cmp {op : CmpOp} {t : TE} (h : PC X op a b t) (h1 : behindInMarks op b = false := by first | exact nobehind _ (by decide) (by decide) | rfl) : PT X (.Compare a [op] [b] pos) (tB t) := by
  intro pins s σ H Q I hw
  refine wpAny_isTrue_Compare1 (thn (h pins s σ H _ I hw) fun v s1 h1 => thn h1 fun u s2 h2 => thn h2 fun c s3 ⟨x, H1, I1, r1, q1⟩ => ?_) h1
  obtain ⟨d, rfl, q⟩ := q1
  cases r1
  exact wpAny_truthy_bool ⟨H1, I1, q⟩
/-- an expression whose value is a bool, as a test -/
theorem pt_val {e : Expr} {t : TE} (h : PE X e t) (he : ∀ whole, isTrue e X.env whole = (do let v ← whole; standAt e.pos; holding [v] (truthy v)) := by intro _; rfl) : PT X e (tB t) := by
  intro pins s σ H Q I hw
  refine isTrue_plain (thn (h pins s σ H _ I hw) fun v s1 ⟨x, H1, I1, r1, q1⟩ => ?_) (he _)
  obtain ⟨d, rfl, q⟩ := q1
  cases r1
  exact wpAny_truthy_bool ⟨H1, I1, q⟩

/-! ### and, or, not -/
variable {tA tB' : TT} {rest : List Expr}
def tAnd (t u : TT) : TT := fun σ H Q => t σ H fun c H1 => if c = true then u σ H1 Q else Q false H1
def tOr (t u : TT) : TT := fun σ H Q => t σ H fun c H1 => if c = true then Q true H1 else u σ H1 Q
def tNot (t : TT) : TT := fun σ H Q => t σ H fun c H1 => Q (!c) H1
theorem pw_and1 (ha : PT X a tA) : PW X (.BoolOp .And [a] pos) tA := by
  intro wh pins s σ H Q I h
  refine isTrue_and (thn (ha pins s σ H Q I h) fun c s1 e => ?_)
  cases c with
  | true => exact isTrue_and_nil e
  | false => exact e
theorem pw_or1 (ha : PT X a tA) : PW X (.BoolOp .Or [a] pos) tA := by
  intro wh pins s σ H Q I h
  refine isTrue_or (thn (ha pins s σ H Q I h) fun c s1 e => ?_)
  cases c with
  | false => exact isTrue_or_nil e
  | true => exact e
theorem pw_and (ha : PT X a tA) (hb : PW X (.BoolOp .And (b :: rest) pos) tB') : PW X (.BoolOp .And (a :: b :: rest) pos) (tAnd tA tB') := by
  intro wh pins s σ H Q I h
  refine isTrue_and (thn (ha pins s σ H _ I h) fun c s1 ⟨H1, I1, q1⟩ => ?_)
  cases c with
  | true => exact hb wh pins s1 σ H1 Q I1 q1
  | false => exact ⟨H1, I1, q1⟩
theorem pw_or (ha : PT X a tA) (hb : PW X (.BoolOp .Or (b :: rest) pos) tB') : PW X (.BoolOp .Or (a :: b :: rest) pos) (tOr tA tB') := by
  intro wh pins s σ H Q I h
  refine isTrue_or (thn (ha pins s σ H _ I h) fun c s1 ⟨H1, I1, q1⟩ => ?_)
  cases c with
  | true => exact ⟨H1, I1, q1⟩
  | false => exact hb wh pins s1 σ H1 Q I1 q1
theorem pt_not (ha : PT X a tA) : PT X (.UnaryOp .Not a pos) (tNot tA) := by
  intro pins s σ H Q I h
  exact isTrue_not (ha pins s σ H (fun c H1 => Q (!c) H1) I h)
/-- .. as values (bools) -/
def tAndV (ta tb : TE) : TE := fun σ H Q => ta σ H fun x H1 => ∃ c, x = .bl c ∧ if c = true then tb σ H1 Q else Q (.bl false) H1
def tOrV (ta tb : TE) : TE := fun σ H Q => ta σ H fun x H1 => ∃ c, x = .bl c ∧ if c = true then Q (.bl true) H1 else tb σ H1 Q
def tNotV (ta : TE) : TE := fun σ H Q => ta σ H fun x H1 => ∃ c, x = .bl c ∧ Q (.bl (!c)) H1
theorem pe_one {op} {t : TE} (h : PE X a t) : PE X (.BoolOp op [a] pos) t := fun pins s σ H Q I hw => BoolOp_one (h pins s σ H Q I hw)
theorem pe_and (ha : PE X a ta) (hb : PE X (.BoolOp .And (b :: rest) pos) tb) : PE X (.BoolOp .And (a :: b :: rest) pos) (tAndV ta tb) := by
  intro pins s σ H Q I h
  refine BoolOp_and (thn (ha pins s σ H _ I h) fun v s1 ⟨x, H1, I1, r1, q1⟩ => ?_)
  obtain ⟨c, rfl, q1⟩ := q1
  cases r1
  refine wpAny_truthy_bool ?_
  cases c with
  | true => exact hb pins s1 σ H1 Q I1 q1
  | false => exact ⟨.bl false, H1, I1, rfl, q1⟩
theorem pe_or (ha : PE X a ta) (hb : PE X (.BoolOp .Or (b :: rest) pos) tb) : PE X (.BoolOp .Or (a :: b :: rest) pos) (tOrV ta tb) := by
  intro pins s σ H Q I h
  refine BoolOp_or (thn (ha pins s σ H _ I h) fun v s1 ⟨x, H1, I1, r1, q1⟩ => ?_)
  obtain ⟨c, rfl, q1⟩ := q1
  cases r1
  refine wpAny_truthy_bool ?_
  cases c with
  | false => exact hb pins s1 σ H1 Q I1 q1
  | true => exact ⟨.bl true, H1, I1, rfl, q1⟩
/-- a if t else b -/
def tIf (t : TT) (ta tb : TE) : TE := fun σ H Q => t σ H fun c H1 => if c = true then ta σ H1 Q else tb σ H1 Q
theorem pe_ifExp {c : Expr} (hc : PT X c tA) (ha : PE X a ta) (hb : PE X b tb) : PE X (.IfExp c a b pos) (tIf tA ta tb) := by
  intro pins s σ H Q I h
  refine wpAny_IfExp (thn (hc pins s σ H _ I h) fun d s1 ⟨H1, I1, q1⟩ => ?_)
  cases d with
  | true => exact ha pins s1 σ H1 Q I1 q1
  | false => exact hb pins s1 σ H1 Q I1 q1
end
end L2

namespace L2
open PySem PySem.Spec PyProof.Rows

/-! ### a list, a tuple that is read: tracked, frozen, or an object of the module -/
def SqL (K : PySem.W.Frag) (H : Hp) (a : Addr) (xs : List V) : Prop :=
  Rd H a (.lst xs) ∨
    ∃ (o : Obj) (its : Array Value) (n : Nat), K.lookup a = some o ∧ o.cls = .type "list" ∧ o.dict = none ∧ o.data = .seq its n ∧ its.size ≤ sizeLine ∧ Vals xs its.toList
def SqT (K : PySem.W.Frag) (H : Hp) (a : Addr) (xs : List V) : Prop :=
  Rd H a (.tup xs) ∨
    ∃ (o : Obj) (its : Array Value) (n : Nat), K.lookup a = some o ∧ o.cls = .type "tuple" ∧ o.data = .seq its n ∧ its.size ≤ sizeLine ∧ Vals xs its.toList
def absV : Value → Option V
  | .none => some .non
  | .bool b => some (.bl b)
  | .int i _ => some (.int i)
  | .str x _ => some (.str x)
  | .bytes b _ => some (.byt b)
  | .float b _ => some (.flt b)
  | .ref a => some (.ref a)
  | .type n => some (.ty n)
  | _ => none
theorem RelV.abs {x : V} {u : Value} (r : RelV x u) : absV u = some x := by
  cases x with
  | non => cases r; rfl
  | bl _ => cases r; rfl
  | int _ => obtain ⟨t, rfl⟩ := r; rfl
  | str _ => obtain ⟨t, rfl⟩ := r; rfl
  | byt _ => obtain ⟨t, rfl⟩ := r; rfl
  | flt _ => obtain ⟨t, rfl⟩ := r; rfl
  | ref _ => cases r; rfl
  | ty _ => cases r; rfl
theorem RelV.inj {x y : V} {u : Value} (r : RelV x u) (q : RelV y u) : x = y := Option.some.inj (r.abs.symm.trans q.abs)
theorem Vals.inj : ∀ {xs ys : List V} {us : List Value}, Vals xs us → Vals ys us → xs = ys
  | _, _, _, .nil, .nil => rfl
  | _, _, _, .cons r t, .cons r' t' => by rw [r.inj r', Vals.inj t t']
section
variable {X : Cx} {pins : List (Addr × Obj)} {σ : St} {H : Hp} {s : Shared} {a : Addr} {xs ys : List V}
theorem SqL.of {K : PySem.W.Frag} (h : H a = some (.lst xs)) : SqL K H a xs := .inl (.inl h)
theorem SqT.of {K : PySem.W.Frag} (h : H a = some (.tup xs)) : SqT K H a xs := .inl (.inl h)
theorem Inv.list (I : Inv X pins σ H s) (h : SqL X.K H a xs) : ∃ its : List Value, Vals xs its ∧ PlainL s.heap a its.toArray ∧ xs.length ≤ sizeLine := by
  rcases h with h | ⟨o, its, n, hk, hc, hd, hs, hz, r⟩
  · obtain ⟨z, its, n, r, e⟩ := h.ok I.hok
    exact ⟨its, r, ⟨_, n, e, rfl, rfl, rfl⟩, z⟩
  · refine ⟨its.toList, r, ⟨o, n, I.kIn a o hk, hc, hd, by simpa using hs⟩, ?_⟩
    have e := r.length
    simp only [Array.length_toList] at e
    omega
theorem Inv.tuple (I : Inv X pins σ H s) (h : SqT X.K H a xs) : ∃ its : List Value, Vals xs its ∧ IsTup s.heap a its.toArray ∧ xs.length ≤ sizeLine := by
  rcases h with h | ⟨o, its, n, hk, hc, hs, hz, r⟩
  · obtain ⟨z, its, r, p⟩ := h.ok I.hok
    exact ⟨its, r, p, z⟩
  · refine ⟨its.toList, r, ⟨o, I.kIn a o hk, hc, n, by simpa using hs⟩, ?_⟩
    have e := r.length
    simp only [Array.length_toList] at e
    omega
theorem Inv.list_inj (I : Inv X pins σ H s) (h : SqL X.K H a xs) (h' : SqL X.K H a ys) : xs = ys := by
  obtain ⟨its, r, ⟨o, n, e, _, _, d⟩, _⟩ := I.list h
  obtain ⟨its', r', ⟨o', n', e', _, _, d'⟩, _⟩ := I.list h'
  rw [e] at e'; cases e'
  rw [d] at d'
  injection d' with d1 _
  have : its = its' := by simpa using congrArg Array.toList d1
  subst this
  exact r.inj r'
theorem Inv.tuple_inj (I : Inv X pins σ H s) (h : SqT X.K H a xs) (h' : SqT X.K H a ys) : xs = ys := by
  obtain ⟨its, r, ⟨o, e, _, n, d⟩, _⟩ := I.tuple h
  obtain ⟨its', r', ⟨o', e', _, n', d'⟩, _⟩ := I.tuple h'
  rw [e] at e'; cases e'
  rw [d] at d'
  injection d' with d1 _
  have : its = its' := by simpa using congrArg Array.toList d1
  subst this
  exact r.inj r'
end

/-! ### another wish about exceptions -/
abbrev Cx.wish (X : Cx) (E : Value → Shared → Prop) : Cx := { X with xe := E }
/-- no exception leaves -/
abbrev Cx.nox (X : Cx) : Cx := X.wish fun _ _ => False
theorem Cx.Ok.wish {X : Cx} (ok : X.Ok) (E : Value → Shared → Prop) : (X.wish E).Ok :=
  ⟨ok.mod, ok.kind, ok.glob, ok.blt, ok.above, ok.inj, ok.has, ok.cab, ok.hd, ok.frames, ok.stk, ok.exf, ok.bs, ok.bsz, ok.noex, ok.exfs, ok.funs, ok.frf⟩
theorem Cx.Ok.unwish {X : Cx} {E : Value → Shared → Prop} (ok : (X.wish E).Ok) : X.Ok :=
  ⟨ok.mod, ok.kind, ok.glob, ok.blt, ok.above, ok.inj, ok.has, ok.cab, ok.hd, ok.frames, ok.stk, ok.exf, ok.bs, ok.bsz, ok.noex, ok.exfs, ok.funs, ok.frf⟩
section
variable {X : Cx} {pins : List (Addr × Obj)} {σ : St} {H : Hp} {s : Shared} {E : Value → Shared → Prop}
theorem Inv.wish (I : Inv X pins σ H s) (E : Value → Shared → Prop) : Inv (X.wish E) pins σ H s := ⟨I.ok.wish E, I.os, I.bare, I.base, I.loc, I.cell, I.free, I.freeC, I.pin, I.hok, I.len⟩
theorem Inv.unwish (I : Inv (X.wish E) pins σ H s) : Inv X pins σ H s := ⟨I.ok.unwish, I.os, I.bare, I.base, I.loc, I.cell, I.free, I.freeC, I.pin, I.hok, I.len⟩
theorem SP.unwish {D : Ends} {f : Flow} {s' : Shared} (h : SP (X.wish E) pins D f s') : SP X pins D f s' := by
  cases f with
  | next => obtain ⟨σ', H', I, q⟩ := h; exact ⟨σ', H', I.unwish, q⟩
  | brk => obtain ⟨σ', H', I, q⟩ := h; exact ⟨σ', H', I.unwish, q⟩
  | cont => obtain ⟨σ', H', I, q⟩ := h; exact ⟨σ', H', I.unwish, q⟩
  | ret u => obtain ⟨v, σ', H', I, r, q⟩ := h; exact ⟨v, σ', H', I.unwish, r, q⟩
theorem PE.nox {e : Expr} {t : TE} (h : PE X.nox e t) : PE X e t := fun pins s σ H Q I hw =>
  wpAny_mono (h pins s σ H Q (I.wish _) hw) (fun _ _ ⟨v, H', I', r, q⟩ => ⟨v, H', I'.unwish, r, q⟩) fun _ _ z => False.elim z
theorem PT.nox {e : Expr} {t : TT} (h : PT X.nox e t) : PT X e t := fun pins s σ H Q I hw =>
  wpAny_mono (h pins s σ H Q (I.wish _) hw) (fun _ _ ⟨H', I', q⟩ => ⟨H', I'.unwish, q⟩) fun _ _ z => False.elim z
theorem PSs.nox {st : List Stmt} {t : TS} (h : PSs X.nox st t) : PSs X st t := fun pins s σ H D I hw =>
  wpAny_mono (h pins s σ H D (I.wish _) hw) (fun _ _ q => q.unwish) fun _ _ z => False.elim z
end

/-! ### blocks and small statements -/
section
variable {X : Cx} {st : Stmt} {rest : List Stmt} {t u : TS} {e : Expr} {te : TE} {pos : Pos}
def tNext : TS := fun D σ H => D.nx σ H
def tSeq (t u : TS) : TS := fun D σ H => t { D with nx := u D } σ H
theorem pss_nil : PSs X [] tNext := fun _ _ σ H _ I h => wpAny_execs_nil ⟨σ, H, I, h⟩
theorem pss_cons (h1 : PS X st t) (h2 : PSs X rest u) : PSs X (st :: rest) (tSeq t u) := by
  intro pins s σ H D I h
  refine wpAny_execs_cons (thn (h1 pins s σ H { D with nx := u D } I h) fun f s1 q => ?_)
  cases f with
  | next =>
    obtain ⟨σ', H', I', q⟩ := q
    exact h2 pins s1 σ' H' D I' q
  | ret v => exact q
  | brk => exact q
  | cont => exact q
theorem pss_one (h1 : PS X st t) : PSs X [st] t := by
  intro pins s σ H D I h
  refine wpAny_execs_cons (thn (h1 pins s σ H D I h) fun f s1 q => ?_)
  cases f with
  | next => exact wpAny_execs_nil q
  | ret v => exact q
  | brk => exact q
  | cont => exact q
def tBreak : TS := fun D σ H => D.bk σ H
def tCont : TS := fun D σ H => D.ct σ H
/-- in a def's body nothing is shown -/
theorem Inv.quiet {pins : List (Addr × Obj)} {σ : St} {H : Hp} {s : Shared} (I : Inv X pins σ H s) : interactive X.env = false := by simp [interactive, I.ok.kind]
/-- an expression whose value is dropped -/
def tDrop (te : TE) : TS := fun D σ H => te σ H fun _ H1 => D.nx σ H1
theorem ps_expr (he : PE X e te) (hs : swapsWith e none pos.line X.env = pure false := by rfl) : PS X (.Expr e pos) (tDrop te) := by
  intro pins s σ H D I h
  exact wpAny_Expr_any (thn (he pins s σ H _ I h) fun v s1 ⟨x, H1, I1, r1, q1⟩ => ⟨σ, H1, I1, q1⟩) I.quiet hs
def tRet (te : TE) : TS := fun D σ H => te σ H D.rt
theorem ps_ret (he : PE X e te) : PS X (.Return (some e) pos) (tRet te) := by
  intro pins s σ H D I h
  exact wpAny_Return_some (thn (he pins s σ H _ I h) fun v s1 ⟨x, H1, I1, r1, q1⟩ => ⟨x, σ, H1, I1, r1, q1⟩)
def tRetN : TS := fun D _ H => D.rt .non H
def tIfS (c : TT) (t u : TS) : TS := fun D σ H => c σ H fun b H1 => if b = true then t D σ H1 else u D σ H1
theorem ps_if {c : Expr} {a b : List Stmt} {tc : TT} (hc : PT X c tc) (ha : PSs X a t) (hb : PSs X b u) : PS X (.If c a b pos) (tIfS tc t u) := by
  intro pins s σ H D I h
  refine wpAny_If (thn (hc pins s σ H _ I h) fun d s1 ⟨H1, I1, q1⟩ => ?_)
  cases d with
  | true => exact ha pins s1 σ H1 D I1 q1
  | false => exact hb pins s1 σ H1 D I1 q1
/-- code that the proof never comes to -/
def tNever : TS := fun _ _ _ => False
end

/-! ### targets -/
abbrev TG := V → St → Hp → (St → Hp → Prop) → Prop
abbrev TGs := List V → St → Hp → (St → Hp → Prop) → Prop
def PG (X : Cx) (target : Expr) (t : TG) : Prop :=
  ∀ (pins : List (Addr × Obj)) (s : Shared) (σ : St) (H : Hp) (v : V) (u : Value) (Q : St → Hp → Prop), Inv X pins σ H s → RelV v u → t v σ H Q →
    wpAny (model X.prog X.w) X.A (assign target X.env u) (fun _ s' => ∃ σ' H', Inv X pins σ' H' s' ∧ Q σ' H') X.xe s
/-- several targets, one after another -/
def PGs (X : Cx) (ts : List Expr) (t : TGs) : Prop :=
  ∀ (pins : List (Addr × Obj)) (s : Shared) (σ : St) (H : Hp) (vs : List V) (us : List Value) (Q : St → Hp → Prop), Inv X pins σ H s → Vals vs us → t vs σ H Q →
    wpAny (model X.prog X.w) X.A (assignInOrder ((assignEach ts X.env).map (·.2)) us) (fun _ s' => ∃ σ' H', Inv X pins σ' H' s' ∧ Q σ' H') X.xe s
/-- o[i] = v, by values -/
abbrev TSet := V → V → V → Hp → (Hp → Prop) → Prop
def PSet (X : Cx) (t : TSet) : Prop :=
  ∀ (pins : List (Addr × Obj)) (s : Shared) (σ : St) (H : Hp) (o i v : V) (ov iv u : Value) (Q : Hp → Prop), Inv X pins σ H s → RelV o ov → RelV i iv → RelV v u → t o i v H Q →
    wpAny (model X.prog X.w) X.A (setItem ov iv u) (fun _ s' => ∃ H', Inv X pins σ H' s' ∧ Q H') X.xe s
/-- a op= b, by values -/
abbrev TIp := V → V → Hp → VK → Prop
def PIp (X : Cx) (op : Operator) (t : TIp) : Prop :=
  ∀ (pins : List (Addr × Obj)) (s : Shared) (σ : St) (H : Hp) (x y : V) (v u : Value) (Q : VK), Inv X pins σ H s → RelV x v → RelV y u → t x y H Q →
    wpAny (model X.prog X.w) X.A (inplaceOp op v u) (EP X pins σ Q) X.xe s
section
variable {X : Cx} {pos : Pos}
def gName (i : Nat) : TG := fun v σ H Q => Q (σ.set i (some v)) H
theorem pg_name {i : Nat} {x : Str} (hN : X.N.Nodup) (hi : X.N[i]? = some x) (hx : Loc X.env.scope x) (hf : X.fn x = true ∨ X.env.scope.names.lookup x = some .local := by first | exact .inl rfl | exact .inr rfl | assumption) : PG X (.Name x pos) (gName i) := by
  intro pins s σ H v u Q I r h
  exact wpAny_assign_Name (store_ok I hN hi hx r (fun s' I' => ⟨_, H, I', h⟩) hf)
def gNil : TGs := fun vs σ H Q => vs = [] ∧ Q σ H
def gCons (t : TG) (u : TGs) : TGs := fun vs σ H Q => ∃ v r, vs = v :: r ∧ t v σ H fun σ' H' => u r σ' H' Q
/-- (a, b, ..) = a tuple of that length -/
def gTup (K : PySem.W.Frag) (n : Nat) (t : TGs) : TG := fun v σ H Q => ∃ a xs, v = .ref a ∧ SqT K H a xs ∧ xs.length = n ∧ t xs σ H Q
/-- o[i] = .. -/
def gSub (to ti : TE) (t : TSet) : TG := fun v σ H Q => to σ H fun o H1 => ti σ H1 fun i H2 => t o i v H2 fun H3 => Q σ H3
theorem pg_sub {o i : Expr} {to ti : TE} {t : TSet} (ho : PE X o to) (hi : PE X i ti) (hs : PSet X t)
    (ha : ∀ v, assign (.Subscript o i pos) X.env v = (do
      let ov ← holding [v] (eval o X.env)
      let iv ← holding [v, ov] (eval i X.env)
      standAt pos
      holding [v, ov, iv] (setItem ov iv v)
      release [v, ov, iv] []) := by intro _; rfl) : PG X (.Subscript o i pos) (gSub to ti t) := by
  intro pins s σ H v u Q I r h
  rw [ha]
  refine wpAny_bind (wpAny_holding (thn (ho pins s σ H _ I h) fun ov s1 ⟨x, H1, I1, r1, q1⟩ => ?_))
  refine wpAny_bind (wpAny_holding (thn (hi pins s1 σ H1 _ I1 q1) fun iv s2 ⟨y, H2, I2, r2, q2⟩ => ?_))
  refine wpAny_bind (wpAny_standAt (wpAny_bind (wpAny_holding (thn (hs pins s2 σ H2 x y v ov iv u _ I2 r1 r2 r q2) fun _ s3 ⟨H3, I3, q3⟩ => ?_))))
  exact wpAny_release ⟨σ, H3, I3, q3⟩
/-- target = value -/
def tAsg (te : TE) (g : TG) : TS := fun D σ H => te σ H fun x H1 => g x σ H1 D.nx
theorem ps_asg {tg e : Expr} {te : TE} {g : TG} (he : PE X e te) (hg : PG X tg g) (hs : swapsWithSole [tg] e pos.line X.env = pure false := by rfl) (hw : swappedStores [tg] e X.env = pure none := by rfl)
    (h1 : (assignEach [tg] X.env).map (·.2) = [assign tg X.env] := by rfl) : PS X (.Assign [tg] e pos) (tAsg te g) := by
  intro pins s σ H D I h
  refine wpAny_Assign_stores (thn (he pins s σ H _ I h) fun v s1 ⟨x, H1, I1, r1, q1⟩ => ?_) hs hw
  rw [h1]
  exact thn (hg pins s1 σ H1 x v _ I1 r1 q1) fun _ s2 q => q
/-- name = value -/
theorem ps_set {i : Nat} {x : Str} {e : Expr} {te : TE} {pos' : Pos} (hN : X.N.Nodup) (hi : X.N[i]? = some x) (hx : Loc X.env.scope x) (he : PE X e te) (hs : swapsWith e (some (.Name x pos')) pos.line X.env = pure false := by rfl) (hf : X.fn x = true ∨ X.env.scope.names.lookup x = some .local := by first | exact .inl rfl | exact .inr rfl | assumption) :
    PS X (.Assign [.Name x pos'] e pos) (tAsg te (gName i)) := by
  intro pins s σ H D I h
  refine wpAny_Assign_Name (thn (he pins s σ H _ I h) fun v s1 ⟨y, H1, I1, r1, q1⟩ => ?_) hs
  exact store_ok I1 hN hi hx r1 (fun s2 I2 => ⟨_, H1, I2, q1⟩) hf
/-- a, b = x, y with plain local names: stored from the right; the pair itself is not tracked (the opening rows as in PyProof/Rows/TupAssign.lean:23) -/
def tPar (i j : Nat) (ta : TA) : TS := fun D σ H => ta σ H fun vs H1 => ∃ v w, vs = [v, w] ∧ D.nx ((σ.set i (some v)).set j (some w)) H1
/-- name op= e -/
def tAug (i : Nat) (te : TE) (ti : TIp) : TS := fun D σ H => ∃ x, σ[i]? = some (some x) ∧ te σ H fun y H1 => ti x y H1 fun z H2 => D.nx (σ.set i (some z)) H2
/-- o[i] op= e -/
def tAugS (to ti te : TE) (tget : V → V → Hp → VK → Prop) (tip : TIp) (tset : TSet) : TS := fun D σ H => to σ H fun o H1 => ti σ H1 fun i H2 => tget o i H2 fun x H3 => te σ H3 fun y H4 => tip x y H4 fun z H5 => tset o i z H5 fun H6 => D.nx σ H6
/-- o[i], by values -/
def PGet (X : Cx) (t : V → V → Hp → VK → Prop) : Prop :=
  ∀ (pins : List (Addr × Obj)) (s : Shared) (σ : St) (H : Hp) (o i : V) (ov iv : Value) (Q : VK), Inv X pins σ H s → RelV o ov → RelV i iv → t o i H Q →
    wpAny (model X.prog X.w) X.A (getItem ov iv) (EP X pins σ Q) X.xe s
/-- ints -/
def ipI (f : Int → Int → Int) : TIp := fun x y H Q => ∃ i j, x = .int i ∧ y = .int j ∧ Q (.int (f i j)) H
end

/-! ### while -/
section
variable {X : Cx} {pos : Pos}
/-- the invariant W with its measure -/
def tWhile (c : TT) (tb : TS) : TS := fun D σ H => ∃ W : Nat → St → Hp → Prop, (∃ m, W m σ H) ∧ ∀ m σ H, W m σ H →
  c σ H fun b H1 => if b = true then ∃ N : St → Hp → Prop, (∀ σ' H', N σ' H' → ∃ m', m' < m ∧ W m' σ' H') ∧ tb { D with nx := N, ct := N, bk := D.nx } σ H1 else D.nx σ H1
end

/-! ### what a loop or a comprehension walks -/
/-- at turn i: it yields x (the heap may grow), or it stops -/
structure It where
  go : Nat → Hp → Prop
  yld : Nat → Hp → V → Hp → Prop
  stop : Nat → Hp → Prop
/-- the iterator's own objects may turn: they are not the frame's, not pinned, younger than the entry (or a comprehension's own) -/
def FpOk (X : Cx) (pins : List (Addr × Obj)) (H : Hp) (b : Addr) : Prop :=
  H b = none ∧ b ≠ X.env.locals ∧ b ∉ X.fs ∧ (b ∈ X.ex ∨ X.s₀.heap.objs.size ≤ b) ∧ (∀ x c, X.env.cells.lookup x = some c → c ≠ b) ∧ ∀ p ∈ X.pn ++ pins, p.1 ≠ b
theorem Inv.fpOk {X : Cx} {pins : List (Addr × Obj)} {σ : St} {H H' : Hp} {s : Shared} {b : Addr} (I : Inv X pins σ H s) (hb : s.heap.objs.size ≤ b) (hn : H' b = none) : FpOk X pins H' b := by
  refine ⟨hn, Nat.ne_of_gt (Nat.lt_of_lt_of_le I.lt hb), I.nofs hb, .inr (Nat.le_trans I.sz hb), fun x c e z => ?_, fun p hp z => ?_⟩
  · obtain ⟨v, q⟩ := I.cell x c e
    exact absurd (Nat.lt_of_lt_of_le q.lt (by rw [z]; exact hb)) (Nat.lt_irrefl _)
  · exact absurd (Nat.lt_of_lt_of_le (Heap.lt_size (I.pin p hp).1) (by rw [z]; exact hb)) (Nat.lt_irrefl _)
structure Turn (P : Program) (w : World) (K : PySem.W.Frag) (tg : Expr) (J : It) (fp : List Addr) (it : Addr) (tn : Nat → Heap → Prop) : Prop where
  mem : it ∈ fp
  obj : ∀ i h, tn i h → ∀ b ∈ fp, ∃ o, h.get? b = some o ∧ ∀ v, o.data ≠ .cell v
  keep : ∀ i h h', tn i h → (∀ b ∈ fp, ∀ o, h.get? b = some o → h'.get? b = some o) → tn i h'
  item : ∀ (X : Cx), X.prog = P → X.w = w → X.K = K → X.calm = true → ∀ (i : Nat) (pins : List (Addr × Obj)) (s : Shared) (σ : St) (H : Hp) (E : Value → Shared → Prop), Inv X pins σ H s → (∀ b ∈ fp, FpOk X pins H b) → tn i s.heap → J.go i H →
    wpAny (model P w) X.A (pyNext (.ref it)) (fun r s1 => ∃ u, r = some u ∧
      wpAny (model P w) X.A (letOwnedTupleGo tg (.ref it) u) (fun _ s2 => ∃ x H', Inv X pins σ H' s2 ∧ RelV x u ∧ J.yld i H x H' ∧ tn (i + 1) s2.heap ∧ ∀ b ∈ fp, H' b = none) E s1) E s
  done : ∀ (X : Cx), X.prog = P → X.w = w → X.K = K → X.calm = true → ∀ (i : Nat) (pins : List (Addr × Obj)) (s : Shared) (σ : St) (H : Hp) (E : Value → Shared → Prop), Inv X pins σ H s → (∀ b ∈ fp, FpOk X pins H b) → tn i s.heap → J.stop i H →
    wpAny (model P w) X.A (pyNext (.ref it)) (fun r s1 => r = none ∧ Inv X pins σ H s1) E s
  self : ∀ (A : Around) (i : Nat) (s : Shared) (Q : Value → Shared → Prop) (E : Value → Shared → Prop), tn i s.heap → Q (.ref it) s → wpAny (model P w) A (pyIter (.ref it)) Q E s
abbrev TI := St → Hp → (It → Hp → Prop) → Prop
/-- an iterator has come -/
def PIE (X : Cx) (pins : List (Addr × Obj)) (σ : St) (tg : Expr) (R : It → Hp → Prop) (itv : Value) (s2 : Shared) : Prop :=
  ∃ (it : Addr) (fp : List Addr) (tn : Nat → Heap → Prop) (J : It) (H' : Hp), itv = .ref it ∧ Inv X pins σ H' s2 ∧ Turn X.prog X.w X.K tg J fp it tn ∧ tn 0 s2.heap ∧ (∀ b ∈ fp, FpOk X pins H' b) ∧ R J H'
def PI (X : Cx) (tg iter : Expr) (wi : TI) : Prop :=
  ∀ (pins : List (Addr × Obj)) (s : Shared) (σ : St) (H : Hp) (R : It → Hp → Prop), Inv X pins σ H s → wi σ H R →
    wpAny (model X.prog X.w) X.A (eval iter X.env) (fun v s1 => wpAny (model X.prog X.w) X.A (pyIter v) (PIE X pins σ tg R) X.xe s1) X.xe s

/-- the step ahead of the store is nothing for an iterator that keeps no tuple -/
theorem go_of {M : Model} {A : Around} {E : Value → Shared → Prop} {s : Shared} {tg : Expr} {it : Addr} {u : Value} {o : Obj} {n : String} {vs : Array Value} {Q : Unit → Shared → Prop} (ho : s.heap.get? it = some o) (hc : o.cls = .type n) (hd : o.data = .fields vs)
    (hn : ["enumerate", "zip", "dict_itemiterator", "dict_reverseitemiterator", "odict_iterator", "itertools.zip_longest", "itertools.pairwise"].contains n = false) (hQ : Q () s) : wpAny M A (letOwnedTupleGo tg (.ref it) u) Q E s := by
  unfold letOwnedTupleGo
  cases tg <;> first
    | exact wpAny_pure hQ
    | (cases u <;> first
        | exact wpAny_pure hQ
        | (refine wpAny_bind (wpAny_load ho ?_)
           rw [hc, hd]
           show wpAny M A (if (["enumerate", "zip", "dict_itemiterator", "dict_reverseitemiterator", "odict_iterator", "itertools.zip_longest", "itertools.pairwise"].contains n && vs[0]? == some (rawInt _)) = true then _ else _) Q E s
           rw [if_neg (by intro h; rw [hn, Bool.false_and] at h; cases h)]
           exact wpAny_pure hQ))

/-- the list at a, as it stands at each turn (a loop may append to it) -/
def Itl (K : PySem.W.Frag) (a : Addr) : It :=
  ⟨fun i H => ∃ xs x, SqL K H a xs ∧ xs[i]? = some x, fun i H x H' => H' = H ∧ ∀ xs, SqL K H a xs → xs[i]? = some x, fun i H => ∃ xs, SqL K H a xs ∧ xs.length ≤ i⟩
def Itt (K : PySem.W.Frag) (a : Addr) : It :=
  ⟨fun i H => ∃ xs x, SqT K H a xs ∧ xs[i]? = some x, fun i H x H' => H' = H ∧ ∀ xs, SqT K H a xs → xs[i]? = some x, fun i H => ∃ xs, SqT K H a xs ∧ xs.length ≤ i⟩
/-- lo, lo + 1, .. (n of them) -/
def Itr (lo : Int) (n : Nat) : It := ⟨fun i _ => i < n, fun i H x H' => H' = H ∧ x = .int (lo + i), fun i _ => n ≤ i⟩
theorem turn_list {P : Program} {w : World} {K : PySem.W.Frag} {tg : Expr} (a it : Addr) : Turn P w K tg (Itl K a) [it] it (fun i h => h.IsListIter it a i) where
  mem := by simp
  obj := fun i h st b hb => by
    have e : b = it := by simpa using hb
    subst e
    obtain ⟨o, e, c, d⟩ := st
    exact ⟨o, e, fun v z => by rw [d] at z; cases z⟩
  keep := fun i h h' st k => st.at fun o e => k it (by simp) o e
  item := by
    intro X hP hw hK hc i pins s σ H E I hf st hg
    subst hP hw hK
    obtain ⟨xs, x, hq, hx⟩ := hg
    obtain ⟨its, rv, p, hz⟩ := I.list hq
    obtain ⟨u, hu, ru⟩ := rv.get hx
    obtain ⟨f0, f1, f2, f3, f4, f5⟩ := hf it (by simp)
    refine wpAny_pyNext_list_item st p.isList (x := u) (by simpa using hu) fun h' st' sb => ?_
    have I1 : Inv X pins σ H { s with heap := h' } := I.turned (t' := s.toks) (fun b o hb e => (sb.2 b hb).trans e) f0 f1 f3 f4 f5
    obtain ⟨o, e, c, d⟩ := id st'
    exact ⟨u, rfl, go_of (s := { s with heap := h' }) e c d (by decide) ⟨x, H, I1, ru, ⟨rfl, fun ys hy => by rw [I.list_inj hy hq]; exact hx⟩, st', fun b hb => (hf b hb).1⟩⟩
  done := by
    intro X hP hw hK hc i pins s σ H E I hf st hg
    subst hP hw hK
    obtain ⟨xs, hq, hx⟩ := hg
    obtain ⟨its, rv, p, hz⟩ := I.list hq
    obtain ⟨f0, f1, f2, f3, f4, f5⟩ := hf it (by simp)
    have hl := rv.length
    exact wpAny_pyNext_list_end (I.ok.hd hc) st p.isList (by simp; omega) fun h' eb => ⟨rfl, I.turned (t' := s.toks) (fun b o hb e => eb b o hb e) f0 f1 f3 f4 f5⟩
  self := fun _ _ _ _ _ st h => wpAny_pyIter_listiter st h
theorem turn_tuple {P : Program} {w : World} {K : PySem.W.Frag} {tg : Expr} (a it : Addr) : Turn P w K tg (Itt K a) [it] it (fun i h => h.IsTupleIter it a i) where
  mem := by simp
  obj := fun i h st b hb => by
    have e : b = it := by simpa using hb
    subst e
    obtain ⟨o, e, c, d⟩ := st
    exact ⟨o, e, fun v z => by rw [d] at z; cases z⟩
  keep := fun i h h' st k => st.at fun o e => k it (by simp) o e
  item := by
    intro X hP hw hK hc i pins s σ H E I hf st hg
    subst hP hw hK
    obtain ⟨xs, x, hq, hx⟩ := hg
    obtain ⟨its, rv, p, hz⟩ := I.tuple hq
    obtain ⟨u, hu, ru⟩ := rv.get hx
    obtain ⟨f0, f1, f2, f3, f4, f5⟩ := hf it (by simp)
    refine wpAny_pyNext_tuple_item st (show s.heap.IsTuple a its.toArray from p) (x := u) (by simpa using hu) fun h' st' sb => ?_
    have I1 : Inv X pins σ H { s with heap := h' } := I.turned (t' := s.toks) (fun b o hb e => (sb.2 b hb).trans e) f0 f1 f3 f4 f5
    obtain ⟨o, e, c, d⟩ := id st'
    exact ⟨u, rfl, go_of (s := { s with heap := h' }) e c d (by decide) ⟨x, H, I1, ru, ⟨rfl, fun ys hy => by rw [I.tuple_inj hy hq]; exact hx⟩, st', fun b hb => (hf b hb).1⟩⟩
  done := by
    intro X hP hw hK hc i pins s σ H E I hf st hg
    subst hP hw hK
    obtain ⟨xs, hq, hx⟩ := hg
    obtain ⟨its, rv, p, hz⟩ := I.tuple hq
    obtain ⟨f0, f1, f2, f3, f4, f5⟩ := hf it (by simp)
    have hl := rv.length
    exact wpAny_pyNext_tuple_end (I.ok.hd hc) st (show s.heap.IsTuple a its.toArray from p) (by simp; omega) fun h' eb => ⟨rfl, I.turned (t' := s.toks) (fun b o hb e => eb b o hb e) f0 f1 f3 f4 f5⟩
  self := fun _ _ _ _ _ st h => wpAny_pyIter_tupleiter st h
theorem turn_range {P : Program} {w : World} {K : PySem.W.Frag} {tg : Expr} (it : Addr) (lo : Int) (n : Nat) : Turn P w K tg (Itr lo n) [it] it (fun i h => IsRangeIter h it (lo + (i : Nat) * 1) ((n : Int) - (i : Nat)) 1) where
  mem := by simp
  obj := fun i h st b hb => by
    have e : b = it := by simpa using hb
    subst e
    exact ⟨_, st, fun v z => by
      have z' : Data.fields _ = Data.cell v := z
      cases z'⟩
  keep := fun i h h' st k => k it (by simp) _ st
  item := by
    intro X hP hw hK hc i pins s σ H E I hf st hg
    subst hP hw hK
    obtain ⟨f0, f1, f2, f3, f4, f5⟩ := hf it (by simp)
    have W := Walks.range (prog := X.prog) (w := X.w) (I.ok.hd hc) it lo 1 n
    refine W.item i s _ _ hg st fun v h' tk hv st' kk => ?_
    obtain ⟨t, rfl⟩ := hv
    have I1 : Inv X pins σ H { s with heap := h', toks := tk } := I.turned (fun b o hb e => kk b o (by simpa using hb) e) f0 f1 f3 f4 f5
    refine ⟨_, rfl, go_of (s := { s with heap := h', toks := tk }) (n := "range_iterator") st' rfl rfl (by decide) ⟨.int (lo + i), H, I1, ⟨t, ?_⟩, ⟨rfl, rfl⟩, st', fun b hb => (hf b hb).1⟩⟩
    rw [Int.mul_one]
  done := by
    intro X hP hw hK hc i pins s σ H E I hf st hg
    subst hP hw hK
    obtain ⟨f0, f1, f2, f3, f4, f5⟩ := hf it (by simp)
    exact wpAny_pyNext_range_end (I.ok.hd hc) st (by have : n ≤ i := hg; omega) fun h' eb => ⟨rfl, I.turned (t' := s.toks) (fun b o hb e => eb b o hb e) f0 f1 f3 f4 f5⟩
  self := fun _ _ _ _ _ st h => wpAny_pyIter_rangeiter st h
end L2

namespace L2
open PySem PySem.Spec PyProof.Rows
section
variable {X : Cx} {tg : Expr}
def iList (K : PySem.W.Frag) (tl : TE) : TI := fun σ H R => tl σ H fun x H1 => ∃ a, x = .ref a ∧ (∃ xs, SqL K H1 a xs) ∧ R (Itl K a) H1
def iTup (K : PySem.W.Frag) (tl : TE) : TI := fun σ H R => tl σ H fun x H1 => ∃ a, x = .ref a ∧ (∃ xs, SqT K H1 a xs) ∧ R (Itt K a) H1
theorem pi_list {l : Expr} {tl : TE} (hl : PE X l tl) : PI X tg l (iList X.K tl) := by
  intro pins s σ H R I h
  refine thn (hl pins s σ H _ I h) fun v s1 ⟨x, H1, I1, r1, q1⟩ => ?_
  obtain ⟨a, e, ⟨xs, hq⟩, q⟩ := q1
  subst e
  cases r1
  obtain ⟨its, rv, p, hz⟩ := I1.list hq
  refine wpAny_pyIter_list p.isList ?_
  refine ⟨s1.heap.objs.size, [s1.heap.objs.size], _, _, H1, rfl, I1.kept (t' := s1.toks) fun b o e => Heap.get?_push_of_some _ e, turn_list a _, ⟨_, Heap.get?_push_size _ rfl, rfl, rfl⟩, fun b hb => ?_, q⟩
  have e : b = s1.heap.objs.size := by simpa using hb
  subst e
  exact I1.fpOk (Nat.le_refl _) (I1.hok.fresh (Nat.le_refl _))
theorem pi_tup {l : Expr} {tl : TE} (hl : PE X l tl) : PI X tg l (iTup X.K tl) := by
  intro pins s σ H R I h
  refine thn (hl pins s σ H _ I h) fun v s1 ⟨x, H1, I1, r1, q1⟩ => ?_
  obtain ⟨a, e, ⟨xs, hq⟩, q⟩ := q1
  subst e
  cases r1
  obtain ⟨its, rv, p, hz⟩ := I1.tuple hq
  refine wpAny_pyIter_tuple (show s1.heap.IsTuple a its.toArray from p) ?_
  refine ⟨s1.heap.objs.size, [s1.heap.objs.size], _, _, H1, rfl, I1.kept (t' := s1.toks) fun b o e => Heap.get?_push_of_some _ e, turn_tuple a _, ⟨_, Heap.get?_push_size _ rfl, rfl, rfl⟩, fun b hb => ?_, q⟩
  have e : b = s1.heap.objs.size := by simpa using hb
  subst e
  exact I1.fpOk (Nat.le_refl _) (I1.hok.fresh (Nat.le_refl _))
/-- a range object just made, walked -/
theorem range_it {pins : List (Addr × Obj)} {σ : St} {H : Hp} {s : Shared} {R : It → Hp → Prop} {E : Value → Shared → Prop} {lo hi : Int} {t u v : Tok} {tk : Nat} (I : Inv X pins σ H s) (h1 : -(2 ^ 62) ≤ lo) (h2 : lo < 2 ^ 62) (h3 : -(2 ^ 62) ≤ hi) (h4 : hi < 2 ^ 62)
    (q : R (Itr lo (hi - lo).toNat) H) : wpAny (model X.prog X.w) X.A (pyIter (.ref s.heap.objs.size)) (PIE X pins σ tg R) E { s with heap := s.heap.push { cls := .type "range", data := .fields #[.int lo t, .int hi u, .int 1 v] }, toks := tk } := by
  refine wpAny_pyIter_range (IsRange.new ..) (small_one h1 h2 h3 h4) ?_
  have I1 : Inv X pins σ H { s with heap := s.heap.push { cls := .type "range", data := .fields #[.int lo t, .int hi u, .int 1 v] }, toks := tk } := I.kept fun b o e => Heap.get?_push_of_some _ e
  refine ⟨(s.heap.push { cls := .type "range", data := .fields #[.int lo t, .int hi u, .int 1 v] }).objs.size, [(s.heap.push { cls := .type "range", data := .fields #[.int lo t, .int hi u, .int 1 v] }).objs.size], _, _, H, rfl,
    I1.kept (t' := tk) fun b o e => Heap.get?_push_of_some _ e, turn_range _ lo (hi - lo).toNat, ?_, fun b hb => ?_, q⟩
  · have e1 : lo + ((0 : Nat) : Int) * 1 = lo := by simp
    have e2 : (((hi - lo).toNat : Nat) : Int) - ((0 : Nat) : Int) = Builtin.Range.rangeSize lo hi 1 := by rw [rangeSize_one]; split <;> omega
    show IsRangeIter _ _ (lo + ((0 : Nat) : Int) * 1) ((((hi - lo).toNat : Nat) : Int) - ((0 : Nat) : Int)) 1
    rw [e1, e2]
    exact Heap.get?_push_size _ rfl
  · have e : b = (s.heap.push { cls := .type "range", data := .fields #[.int lo t, .int hi u, .int 1 v] }).objs.size := by simpa using hb
    subst e
    exact I1.fpOk (Nat.le_refl _) (I1.hok.fresh (Nat.le_refl _))
def iRng1 (ta : TA) : TI := fun σ H R => ta σ H fun vs H1 => ∃ j : Int, vs = [.int j] ∧ -(2 ^ 62) ≤ j ∧ j < 2 ^ 62 ∧ R (Itr 0 j.toNat) H1
def iRng2 (ta : TA) : TI := fun σ H R => ta σ H fun vs H1 => ∃ i j : Int, vs = [.int i, .int j] ∧ (-(2 ^ 62) ≤ i ∧ i < 2 ^ 62 ∧ -(2 ^ 62) ≤ j ∧ j < 2 ^ 62) ∧ R (Itr i (j - i).toNat) H1
theorem pi_range1 {a : Expr} {ta : TA} {p pos : Pos} (hg : Gl X "range") (hm : X.mg "range" = none) (ha : PA X [a] ta) (hs : starEach [a] X.env = [(false, eval a X.env)] := by rfl) : PI X tg (.Call (.Name "range" p) [a] [] pos) (iRng1 ta) := by
  intro pins s σ H R I h
  refine Call_ (ld_blt I hg hm boot_range (PyProof.Rows.callWith_type1 (thn (ha pos pins s σ H _ I h) fun us s1 ⟨vs, H1, I1, r1, q1⟩ => ?_) hs rfl))
  obtain ⟨j, e, q1, q2, q⟩ := q1
  subst e
  cases r1 with
  | cons r rr =>
    cases rr
    obtain ⟨t, rfl⟩ := r
    exact call_range_1 (range_it I1 (by omega) (by omega) q1 q2 (by simpa using q))
theorem pi_range2 {a b : Expr} {ta : TA} {p pos : Pos} (hg : Gl X "range") (hm : X.mg "range" = none) (ha : PA X [a, b] ta) (hs : starEach [a, b] X.env = [(false, eval a X.env), (false, eval b X.env)] := by rfl) (hs2 : starEach [b] X.env = [(false, eval b X.env)] := by rfl) :
    PI X tg (.Call (.Name "range" p) [a, b] [] pos) (iRng2 ta) := by
  intro pins s σ H R I h
  refine Call_ (ld_blt I hg hm boot_range (PyProof.Rows.callWith_type1 (thn (ha pos pins s σ H _ I h) fun us s1 ⟨vs, H1, I1, r1, q1⟩ => ?_) (by rw [hs, hs2]) (by rw [hs2]; rfl)))
  obtain ⟨i, j, e, ⟨q1, q2, q3, q4⟩, q⟩ := q1
  subst e
  cases r1 with
  | cons r rr =>
    cases rr with
    | cons r' rr =>
      cases rr
      obtain ⟨t, rfl⟩ := r
      obtain ⟨t', rfl⟩ := r'
      exact call_range_2 (range_it I1 q1 q2 q3 q4 q)

/-! ### for -/
/-- W: the invariant by the turn and a measure; N: what the body is to reach -/
def tFor (wi : TI) (g : TG) (tb : TS) : TS := fun D σ H => wi σ H fun J H1 => ∃ W : Nat → Nat → St → Hp → Prop, (∃ m, W 0 m σ H1) ∧ ∀ i m σ H, W i m σ H →
  (J.stop i H ∧ D.nx σ H) ∨ (J.go i H ∧ ∃ N : St → Hp → Prop, (∀ σ' H', N σ' H' → ∃ m', m' < m ∧ W (i + 1) m' σ' H') ∧ ∀ x H', J.yld i H x H' → g x σ H' fun σ2 H2 => tb { D with nx := N, ct := N, bk := D.nx } σ2 H2)
/-- the records at fp as they stand -/
def pinsAt (fp : List Addr) (h : Heap) : List (Addr × Obj) := fp.filterMap fun b => (h.get? b).map fun o => (b, o)
theorem mem_pinsAt {fp : List Addr} {h : Heap} {b : Addr} {o : Obj} (hb : b ∈ fp) (e : h.get? b = some o) : (b, o) ∈ pinsAt fp h := List.mem_filterMap.mpr ⟨b, hb, by rw [e]; rfl⟩
theorem of_pinsAt {fp : List Addr} {h : Heap} {p : Addr × Obj} (hp : p ∈ pinsAt fp h) : p.1 ∈ fp ∧ h.get? p.1 = some p.2 := by
  obtain ⟨b, hb, e⟩ := List.mem_filterMap.mp hp
  cases q : h.get? b with
  | none => rw [q] at e; cases e
  | some o =>
    rw [q] at e
    have e' : (b, o) = p := Option.some.inj e
    subst e'
    exact ⟨hb, q⟩
theorem Inv.pinned {pins : List (Addr × Obj)} {σ : St} {H : Hp} {s : Shared} {fp : List Addr} (I : Inv X pins σ H s) (hf : ∀ b ∈ fp, FpOk X pins H b) (ho : ∀ b ∈ fp, ∃ o, s.heap.get? b = some o ∧ ∀ v, o.data ≠ .cell v) : Inv X (pins ++ pinsAt fp s.heap) σ H s :=
  I.pins_of fun p hp => (List.mem_append.mp hp).elim (fun z => I.pin p (List.mem_append_right _ z)) fun z => by
    obtain ⟨hb, e⟩ := of_pinsAt z
    obtain ⟨f0, f1, f2, _⟩ := hf p.1 hb
    obtain ⟨o, e', d⟩ := ho p.1 hb
    rw [e] at e'; cases e'
    exact ⟨e, f0, f1, f2, d⟩
theorem Inv.unpinned {pins pl : List (Addr × Obj)} {σ : St} {H : Hp} {s : Shared} (I : Inv X (pins ++ pl) σ H s) : Inv X pins σ H s := I.pins_of fun p hp => I.pin p (List.mem_append_right _ (List.mem_append_left _ hp))
theorem ps_for {iter : Expr} {body : List Stmt} {wi : TI} {g : TG} {tb : TS} {pos : Pos} (hp : PassesOwn (model X.prog X.w) X.A X.env X.xe) (hc : X.calm = true) (hi : PI X tg iter wi) (hg : PG X tg g) (hb : PSs X body tb)
    (hs : ∀ x, foldedSetIterable iter X.env x = pure x := by intro _; rfl) : PS X (.For tg iter body [] pos) (tFor wi g tb) := by
  intro pins s σ H D I h
  refine wpAny_For (thn (hi pins s σ H _ I h) fun v s1 h1 => thn h1 fun itv s2 h2 => ?_) hs
  obtain ⟨it, fp, tn, J, H2, e, I2, T, st2, f2, W, ⟨m0, w0⟩, turn⟩ := h2
  subst e
  -- what stays true of the iterator's objects through the loop
  have stat : ∀ {H' : Hp}, (∀ b ∈ fp, H' b = none) → ∀ b ∈ fp, FpOk X pins H' b := fun hn b hb => ⟨hn b hb, (f2 b hb).2⟩
  refine codeAny_forLoop_any (fun n s' => ∃ i σ' H', Inv X pins σ' H' s' ∧ tn i s'.heap ∧ (∀ b ∈ fp, H' b = none) ∧ W i n σ' H') ?_ m0 ⟨0, σ, H2, I2, st2, fun b hb => (f2 b hb).1, w0⟩
  rintro n s3 ⟨i, σ3, H3, I3, st3, fr3, w3⟩
  rcases turn i n σ3 H3 w3 with ⟨stop, qn⟩ | ⟨go, N, hN, step⟩
  · refine wpAny_passesOwn hp (thn (T.done X rfl rfl rfl hc i pins s3 σ3 H3 X.xe I3 (stat fr3) st3 stop) fun r s4 ⟨hr, I4⟩ => ?_)
    subst hr
    exact wpAny_execs_nil ⟨σ3, H3, I4, qn⟩
  · refine wpAny_passesOwn hp (thn (T.item X rfl rfl rfl hc i pins s3 σ3 H3 X.xe I3 (stat fr3) st3 go) fun r s4 ⟨u, hr, h4⟩ => ?_)
    subst hr
    refine wpAny_passesOwn hp (thn h4 fun _ s5 ⟨x, H5, I5, r5, y5, st5, fr5⟩ => ?_)
    have I5' := I5.pinned (stat fr5) (T.obj _ _ st5)
    refine wpAny_passesOwn hp (thn (hg _ s5 σ3 H5 x u _ I5' r5 (step x H5 y5)) fun _ s6 ⟨σ6, H6, I6, q6⟩ => ?_)
    refine wpAny_passesOwn hp (thn (hb _ s6 σ6 H6 _ I6 q6) fun f s7 q7 => ?_)
    have again : ∀ {σ7 : St} {H7 : Hp}, Inv X (pins ++ pinsAt fp s5.heap) σ7 H7 s7 → N σ7 H7 → ∃ m, m < n ∧ ∃ i σ' H', Inv X pins σ' H' s7 ∧ tn i s7.heap ∧ (∀ b ∈ fp, H' b = none) ∧ W i m σ' H' := fun {σ7 H7} I7 n7 => by
      obtain ⟨m', hm, w7⟩ := hN σ7 H7 n7
      refine ⟨m', hm, i + 1, σ7, H7, I7.unpinned, T.keep _ _ _ st5 fun b hb o e => (I7.pin (b, o) (List.mem_append_right _ (List.mem_append_right _ (mem_pinsAt hb e)))).1, fun b hb => ?_, w7⟩
      obtain ⟨o, e, d⟩ := T.obj _ _ st5 b hb
      exact (I7.pin (b, o) (List.mem_append_right _ (List.mem_append_right _ (mem_pinsAt hb e)))).2.1
    cases f with
    | next => obtain ⟨σ7, H7, I7, n7⟩ := q7; exact again I7 n7
    | cont => obtain ⟨σ7, H7, I7, n7⟩ := q7; exact again I7 n7
    | brk => obtain ⟨σ7, H7, I7, q7⟩ := q7; exact ⟨σ7, H7, I7.unpinned, q7⟩
    | ret v => obtain ⟨x7, σ7, H7, I7, r7, q7⟩ := q7; exact ⟨x7, σ7, H7, I7.unpinned, r7, q7⟩
end

/-! ### the forms one uses -/
/-- over a list that the body leaves as it is -/
theorem for_list {K : PySem.W.Frag} {a : Addr} {xs : List V} {g : TG} {tb : TS} {D : Ends} {σ : St} {H : Hp} (Pv : Nat → St → Hp → Prop) (h0 : Pv 0 σ H) (hl : ∀ i σ H, i ≤ xs.length → Pv i σ H → SqL K H a xs)
    (hs : ∀ i x σ H, xs[i]? = some x → Pv i σ H → g x σ H fun σ2 H2 => tb { D with nx := Pv (i + 1), ct := Pv (i + 1), bk := D.nx } σ2 H2) (hd : ∀ σ H, Pv xs.length σ H → D.nx σ H) :
    ∃ W : Nat → Nat → St → Hp → Prop, (∃ m, W 0 m σ H) ∧ ∀ i m σ H, W i m σ H →
      ((Itl K a).stop i H ∧ D.nx σ H) ∨ ((Itl K a).go i H ∧ ∃ N : St → Hp → Prop, (∀ σ' H', N σ' H' → ∃ m', m' < m ∧ W (i + 1) m' σ' H') ∧ ∀ x H', (Itl K a).yld i H x H' → g x σ H' fun σ2 H2 => tb { D with nx := N, ct := N, bk := D.nx } σ2 H2) := by
  refine ⟨fun i m σ H => m = xs.length - i ∧ i ≤ xs.length ∧ Pv i σ H, ⟨xs.length, by simp, Nat.zero_le _, h0⟩, ?_⟩
  rintro i m σ H ⟨rfl, hi, p⟩
  have q := hl i σ H hi p
  by_cases hlt : i < xs.length
  · refine .inr ⟨⟨xs, xs[i], q, by simp [hlt]⟩, Pv (i + 1), fun σ' H' p' => ⟨xs.length - (i + 1), by omega, rfl, hlt, p'⟩, fun x H' y => ?_⟩
    obtain ⟨e, y⟩ := y
    subst e
    exact hs i x σ _ (y xs q) p
  · have e : i = xs.length := by omega
    subst e
    exact .inl ⟨⟨xs, q, Nat.le_refl _⟩, hd σ H p⟩
theorem for_range {lo : Int} {n : Nat} {g : TG} {tb : TS} {D : Ends} {σ : St} {H : Hp} (Pv : Nat → St → Hp → Prop) (h0 : Pv 0 σ H)
    (hs : ∀ i σ H, i < n → Pv i σ H → g (.int (lo + i)) σ H fun σ2 H2 => tb { D with nx := Pv (i + 1), ct := Pv (i + 1), bk := D.nx } σ2 H2) (hd : ∀ σ H, Pv n σ H → D.nx σ H) :
    ∃ W : Nat → Nat → St → Hp → Prop, (∃ m, W 0 m σ H) ∧ ∀ i m σ H, W i m σ H →
      ((Itr lo n).stop i H ∧ D.nx σ H) ∨ ((Itr lo n).go i H ∧ ∃ N : St → Hp → Prop, (∀ σ' H', N σ' H' → ∃ m', m' < m ∧ W (i + 1) m' σ' H') ∧ ∀ x H', (Itr lo n).yld i H x H' → g x σ H' fun σ2 H2 => tb { D with nx := N, ct := N, bk := D.nx } σ2 H2) := by
  refine ⟨fun i m σ H => m = n - i ∧ i ≤ n ∧ Pv i σ H, ⟨n, by simp, Nat.zero_le _, h0⟩, ?_⟩
  rintro i m σ H ⟨rfl, hi, p⟩
  by_cases hlt : i < n
  · refine .inr ⟨hlt, Pv (i + 1), fun σ' H' p' => ⟨n - (i + 1), by omega, rfl, hlt, p'⟩, fun x H' y => ?_⟩
    obtain ⟨e, y⟩ := y
    subst e y
    exact hs i σ _ hlt p
  · have e : i = n := by omega
    subst e
    exact .inl ⟨Nat.le_refl _, hd σ H p⟩
end L2

namespace L2
open PySem PySem.Spec PyProof.Rows

abbrev R2 := V → V → Hp → VK → Prop
/-- a two-place operation on values: f is binaryOp op, inplaceOp op or compareOp op -/
def OpR (X : Cx) (f : Value → Value → Sem Value) (r : R2) : Prop :=
  ∀ (pins : List (Addr × Obj)) (s : Shared) (σ : St) (H : Hp) (x y : V) (v u : Value) (Q : VK), Inv X pins σ H s → RelV x v → RelV y u → r x y H Q →
    wpAny (model X.prog X.w) X.A (f v u) (EP X pins σ Q) X.xe s
/-- a one-place operation -/
def UnR (X : Cx) (f : Value → Sem Value) (r : V → Hp → VK → Prop) : Prop :=
  ∀ (pins : List (Addr × Obj)) (s : Shared) (σ : St) (H : Hp) (x : V) (v : Value) (Q : VK), Inv X pins σ H s → RelV x v → r x H Q →
    wpAny (model X.prog X.w) X.A (f v) (EP X pins σ Q) X.xe s
/-- a call of a value that is known (a builtin, a type) with values -/
def CallR (X : Cx) (f : Value) (r : List V → Hp → VK → Prop) : Prop :=
  ∀ (pins : List (Addr × Obj)) (s : Shared) (σ : St) (H : Hp) (xs : List V) (us : List Value) (Q : VK), Inv X pins σ H s → Vals xs us → r xs H Q →
    wpAny (model X.prog X.w) X.A (call f us) (EP X pins σ Q) X.xe s
/-- a value's truth -/
def TruR (X : Cx) (r : V → Hp → (Bool → Hp → Prop) → Prop) : Prop :=
  ∀ (pins : List (Addr × Obj)) (s : Shared) (σ : St) (H : Hp) (x : V) (v : Value) (Q : Bool → Hp → Prop), Inv X pins σ H s → RelV x v → r x H Q →
    wpAny (model X.prog X.w) X.A (truthy v) (TP X pins σ Q) X.xe s

def tOp (r : R2) (ta tb : TE) : TE := fun σ H Q => ta σ H fun x H1 => tb σ H1 fun y H2 => r x y H2 Q
def tUn (r : V → Hp → VK → Prop) (ta : TE) : TE := fun σ H Q => ta σ H fun x H1 => r x H1 Q
/-- ints in, under C, and a value out -/
def rI (C : Int → Int → Prop) (g : Int → Int → V) : R2 := fun x y H Q => ∃ i j, x = .int i ∧ y = .int j ∧ C i j ∧ Q (g i j) H
def rI0 (g : Int → Int → V) : R2 := fun x y H Q => ∃ i j, x = .int i ∧ y = .int j ∧ Q (g i j) H
def rU (g : Int → V) : V → Hp → VK → Prop := fun x H Q => ∃ i, x = .int i ∧ Q (g i) H

section
variable {X : Cx} {a b c : Expr} {ta tb tc : TE} {pos : Pos}

theorem binT (ha : PE X a ta) (hb : PE X b tb) {pins : List (Addr × Obj)} {s : Shared} {σ : St} {H : Hp} {R : V → V → Hp → Prop} (I : Inv X pins σ H s)
    (h : ta σ H fun x H1 => tb σ H1 fun y H2 => R x y H2) {Q : Value → Shared → Prop} {f : Value → Value → Sem Value}
    (hf : ∀ v u s2 x y H2, Inv X pins σ H2 s2 → RelV x v → RelV y u → R x y H2 → wpAny (model X.prog X.w) X.A (f v u) Q X.xe s2) :
    wpAny (model X.prog X.w) X.A (eval a X.env) (fun v s₁ => wpAny (model X.prog X.w) X.A (eval b X.env) (fun u s₂ => wpAny (model X.prog X.w) X.A (f v u) Q X.xe s₂) X.xe s₁) X.xe s := by
  refine thn (ha pins s σ H _ I h) fun v s1 ⟨x, H1, I1, r1, q1⟩ => ?_
  refine thn (hb pins s1 σ H1 _ I1 q1) fun u s2 ⟨y, H2, I2, r2, q2⟩ => ?_
  exact hf v u s2 x y H2 I2 r1 r2 q2

theorem pe_op {op : Operator} {r : R2} (ho : OpR X (binaryOp op) r) (ha : PE X a ta) (hb : PE X b tb) : PE X (.BinOp a op b pos) (tOp r ta tb) := by
  intro pins s σ H Q I h
  exact wpAny_BinOp (binT ha hb I h fun v u s2 x y H2 I2 rx ry q => ho pins s2 σ H2 x y v u Q I2 rx ry q)
theorem pe_un {op : UnaryOp} {r : V → Hp → VK → Prop} (ho : UnR X (unaryOp op) r) (ha : PE X a ta) : PE X (.UnaryOp op a pos) (tUn r ta) := by
  intro pins s σ H Q I h
  exact UnaryOp_ (thn (ha pins s σ H _ I h) fun v s1 ⟨x, H1, I1, r1, q1⟩ => ho pins s1 σ H1 x v Q I1 r1 q1)

/-! ### ints -/
theorem opI {f : Value → Value → Sem Value} {C : Int → Int → Prop} {g : Int → Int → Int}
    (rule : ∀ (i j : Int) (t u : Tok) (s : Shared) (Q : Value → Shared → Prop) (E : Value → Shared → Prop), C i j → Q (.int (g i j) s.toks) { s with toks := s.toks + 1 } → wpAny (model X.prog X.w) X.A (f (.int i t) (.int j u)) Q E s) :
    OpR X f (rI C fun i j => .int (g i j)) := by
  intro pins s σ H x y v u Q I rx ry h
  obtain ⟨i, j, rfl, rfl, hc, q⟩ := h
  obtain ⟨t, rfl⟩ := rx
  obtain ⟨t', rfl⟩ := ry
  exact rule i j t t' s _ _ hc ⟨.int (g i j), H, I.tok _, ⟨_, rfl⟩, q⟩
theorem opI0 {f : Value → Value → Sem Value} {g : Int → Int → Int}
    (rule : ∀ (i j : Int) (t u : Tok) (s : Shared) (Q : Value → Shared → Prop) (E : Value → Shared → Prop), Q (.int (g i j) s.toks) { s with toks := s.toks + 1 } → wpAny (model X.prog X.w) X.A (f (.int i t) (.int j u)) Q E s) :
    OpR X f (rI0 fun i j => .int (g i j)) := by
  intro pins s σ H x y v u Q I rx ry h
  obtain ⟨i, j, rfl, rfl, q⟩ := h
  obtain ⟨t, rfl⟩ := rx
  obtain ⟨t', rfl⟩ := ry
  exact rule i j t t' s _ _ ⟨.int (g i j), H, I.tok _, ⟨_, rfl⟩, q⟩
theorem opB0 {f : Value → Value → Sem Value} {g : Int → Int → Bool}
    (rule : ∀ (i j : Int) (t u : Tok) (s : Shared) (Q : Value → Shared → Prop) (E : Value → Shared → Prop), Q (.bool (g i j)) s → wpAny (model X.prog X.w) X.A (f (.int i t) (.int j u)) Q E s) :
    OpR X f (rI0 fun i j => .bl (g i j)) := by
  intro pins s σ H x y v u Q I rx ry h
  obtain ⟨i, j, rfl, rfl, q⟩ := h
  obtain ⟨t, rfl⟩ := rx
  obtain ⟨t', rfl⟩ := ry
  exact rule i j t t' s _ _ ⟨.bl (g i j), H, I, rfl, q⟩

def CDiv (i j : Int) : Prop := 0 < j ∧ j < 1073741824
def CDivN (i j : Int) : Prop := j ≠ 0 ∧ j.natAbs < 1073741824
def CPow (i j : Int) : Prop := 0 ≤ j ∧ j ≤ 1000000 ∧ i.natAbs < 2 ^ 64
def CMul (i j : Int) : Prop := (-(2 ^ 64) < i ∧ i < 2 ^ 64) ∨ (-(2 ^ 64) < j ∧ j < 2 ^ 64)
theorem CMul.ok {i j : Int} (h : CMul i j) : IntMulOk i j := by
  rcases h with ⟨h1, h2⟩ | ⟨h1, h2⟩
  · exact .of_left (intBits_le_64 h1 h2)
  · exact .of_right (intBits_le_64 h1 h2)

theorem op_add : OpR X (binaryOp .Add) (rI0 fun i j => .int (i + j)) := opI0 fun _ _ _ _ _ _ _ q => add_int q
theorem op_sub : OpR X (binaryOp .Sub) (rI0 fun i j => .int (i - j)) := opI0 fun _ _ _ _ _ _ _ q => sub_int q
theorem op_mul : OpR X (binaryOp .Mult) (rI CMul fun i j => .int (i * j)) := opI fun _ _ _ _ _ _ _ hc q => mul_int q hc.ok
/-- // by a positive divisor -/
theorem op_fdiv : OpR X (binaryOp .FloorDiv) (rI CDiv fun i j => .int (i / j)) := opI fun i j _ _ _ _ _ hc q => by
  have h1 : (0 : Int) < j := hc.1
  have h2 : j < 1073741824 := hc.2
  exact floordiv_int (by omega) (by rw [Int.fdiv_eq_ediv_of_nonneg i (by omega)]; exact q) (.inl (PyProof.noPylong_small (by omega)))
/-- % by a positive divisor of any size -/
theorem op_mod : OpR X (binaryOp .Mod) (rI (fun _ j => 0 < j) fun i j => .int (i % j)) := opI fun i j _ _ _ _ _ hc q => by
  have h1 : (0 : Int) < j := hc
  exact mod_int' (by omega) (by rw [Int.fmod_eq_emod_of_nonneg i (by omega)]; exact q)
theorem op_pow : OpR X (binaryOp .Pow) (rI CPow fun i j => .int (i ^ j.toNat)) := opI fun _ _ _ _ _ _ _ hc q => pow_int_small hc.1 hc.2.1 hc.2.2 q


theorem unI {f : Value → Sem Value} {g : Int → Int}
    (rule : ∀ (i : Int) (t : Tok) (s : Shared) (Q : Value → Shared → Prop) (E : Value → Shared → Prop), Q (.int (g i) s.toks) { s with toks := s.toks + 1 } → wpAny (model X.prog X.w) X.A (f (.int i t)) Q E s) :
    UnR X f (rU fun i => .int (g i)) := by
  intro pins s σ H x v Q I rx h
  obtain ⟨i, rfl, q⟩ := h
  obtain ⟨t, rfl⟩ := rx
  exact rule i t s _ _ ⟨.int (g i), H, I.tok _, ⟨_, rfl⟩, q⟩
theorem un_neg : UnR X (unaryOp .USub) (rU fun i => .int (-i)) := unI fun _ _ _ _ _ q => neg_int q

/-! ### bools among ints: n += (a < b) -/
end

/-! ### comparisons -/
/-- the scalars that == tells apart as data does -/
def scal : V → V → Bool
  | .non, .non => true | .non, .int _ => true | .int _, .non => true | .non, .bl _ => true | .bl _, .non => true | .non, .str _ => true | .str _, .non => true
  | .int _, .int _ => true | .bl _, .bl _ => true | .str _, .str _ => true | .byt _, .byt _ => true
  | .int _, .str _ => true | .str _, .int _ => true | .bl _, .str _ => true | .str _, .bl _ => true
  | _, _ => false
def rEq : R2 := fun x y H Q => scal x y = true ∧ Q (.bl (decide (x = y))) H
def rNe : R2 := fun x y H Q => scal x y = true ∧ Q (.bl (!decide (x = y))) H

theorem dec_int {i j : Int} : decide (V.int i = V.int j) = (i == j) := by
  rw [Bool.eq_iff_iff]
  simp
theorem dec_bl {i j : Bool} : decide (V.bl i = V.bl j) = (i == j) := by
  rw [Bool.eq_iff_iff]
  simp
theorem dec_str {i j : Str} : decide (V.str i = V.str j) = (i == j) := by
  rw [Bool.eq_iff_iff]
  simp
theorem dec_byt {i j : Array UInt8} : decide (V.byt i = V.byt j) = (i.toList == j.toList) := by
  rw [Bool.eq_iff_iff]
  cases i
  cases j
  simp

section
variable {X : Cx} {a b c : Expr} {ta tb tc : TE} {pos : Pos}
theorem fin_bl {pins : List (Addr × Obj)} {σ : St} {H : Hp} {s : Shared} {Q : VK} {k k' : Bool} (I : Inv X pins σ H s) (q : Q (.bl k) H) (e : k = k') : EP X pins σ Q (.bool k') s := by
  subst e
  exact ⟨.bl k, H, I, rfl, q⟩
theorem op_eq : OpR X (compareOp .Eq) rEq := by
  intro pins s σ H x y v u Q I rx ry h
  obtain ⟨hs, q⟩ := h
  cases x with
  | non =>
    cases rx
    cases y with
    | non => cases ry; exact PySem.EqNone.eq_none_none (fin_bl I q (by simp))
    | bl j => cases ry; exact PySem.EqNone.eq_none_bool (fin_bl I q (by simp))
    | int j => obtain ⟨t', rfl⟩ := ry; exact PySem.EqNone.eq_none_int (fin_bl I q (by simp))
    | str j => obtain ⟨t', rfl⟩ := ry; exact PySem.EqNone.eq_none_str (fin_bl I q (by simp))
    | _ => exact absurd (show false = true from hs) Bool.false_ne_true
  | bl i =>
    cases rx
    cases y with
    | non => cases ry; exact PySem.EqNone.eq_bool_none (fin_bl I q (by simp))
    | bl j => cases ry; exact eq_bool (fin_bl I q dec_bl)
    | str j => obtain ⟨t', rfl⟩ := ry; exact PySem.EqMixed.eq_bool_str (fin_bl I q (by simp))
    | _ => exact absurd (show false = true from hs) Bool.false_ne_true
  | int i =>
    obtain ⟨t, rfl⟩ := rx
    cases y with
    | non => cases ry; exact PySem.EqNone.eq_int_none (fin_bl I q (by simp))
    | int j => obtain ⟨t', rfl⟩ := ry; exact eq_int (fin_bl I q dec_int)
    | str j => obtain ⟨t', rfl⟩ := ry; exact PySem.EqMixed.eq_int_str (fin_bl I q (by simp))
    | _ => exact absurd (show false = true from hs) Bool.false_ne_true
  | str i =>
    obtain ⟨t, rfl⟩ := rx
    cases y with
    | non => cases ry; exact PySem.EqNone.eq_str_none (fin_bl I q (by simp))
    | bl j => cases ry; exact PySem.EqMixed.eq_str_bool (fin_bl I q (by simp))
    | int j => obtain ⟨t', rfl⟩ := ry; exact PySem.EqMixed.eq_str_int (fin_bl I q (by simp))
    | str j => obtain ⟨t', rfl⟩ := ry; exact eq_str (fin_bl I q dec_str)
    | _ => exact absurd (show false = true from hs) Bool.false_ne_true
  | byt i =>
    obtain ⟨t, rfl⟩ := rx
    cases y with
    | byt j => obtain ⟨t', rfl⟩ := ry; exact PySem.W.eq_bytes (fin_bl I q dec_byt)
    | _ => exact absurd (show false = true from hs) Bool.false_ne_true
  | _ => cases y <;> exact absurd (show false = true from hs) Bool.false_ne_true
theorem op_ne : OpR X (compareOp .NotEq) rNe := by
  intro pins s σ H x y v u Q I rx ry h
  obtain ⟨hs, q⟩ := h
  cases x with
  | non =>
    cases rx
    cases y with
    | non => cases ry; exact PySem.EqNone.ne_none_none (fin_bl I q (by simp))
    | bl j => cases ry; exact PySem.EqNone.ne_none_bool (fin_bl I q (by simp))
    | int j => obtain ⟨t', rfl⟩ := ry; exact PySem.EqNone.ne_none_int (fin_bl I q (by simp))
    | str j => obtain ⟨t', rfl⟩ := ry; exact PySem.EqNone.ne_none_str (fin_bl I q (by simp))
    | _ => exact absurd (show false = true from hs) Bool.false_ne_true
  | bl i =>
    cases rx
    cases y with
    | non => cases ry; exact PySem.EqNone.ne_bool_none (fin_bl I q (by simp))
    | bl j => cases ry; exact ne_bool (fin_bl I q (congrArg not dec_bl))
    | str j => obtain ⟨t', rfl⟩ := ry; exact PySem.EqMixed.ne_bool_str (fin_bl I q (by simp))
    | _ => exact absurd (show false = true from hs) Bool.false_ne_true
  | int i =>
    obtain ⟨t, rfl⟩ := rx
    cases y with
    | non => cases ry; exact PySem.EqNone.ne_int_none (fin_bl I q (by simp))
    | int j => obtain ⟨t', rfl⟩ := ry; exact ne_int (fin_bl I q (congrArg not dec_int))
    | str j => obtain ⟨t', rfl⟩ := ry; exact PySem.EqMixed.ne_int_str (fin_bl I q (by simp))
    | _ => exact absurd (show false = true from hs) Bool.false_ne_true
  | str i =>
    obtain ⟨t, rfl⟩ := rx
    cases y with
    | non => cases ry; exact PySem.EqNone.ne_str_none (fin_bl I q (by simp))
    | bl j => cases ry; exact PySem.EqMixed.ne_str_bool (fin_bl I q (by simp))
    | int j => obtain ⟨t', rfl⟩ := ry; exact PySem.EqMixed.ne_str_int (fin_bl I q (by simp))
    | str j => obtain ⟨t', rfl⟩ := ry; exact ne_str (fin_bl I q (congrArg not dec_str))
    | _ => exact absurd (show false = true from hs) Bool.false_ne_true
  | byt i =>
    obtain ⟨t, rfl⟩ := rx
    cases y with
    | byt j => obtain ⟨t', rfl⟩ := ry; exact PySem.W.ne_bytes (fin_bl I q (congrArg not dec_byt))
    | _ => exact absurd (show false = true from hs) Bool.false_ne_true
  | _ => cases y <;> exact absurd (show false = true from hs) Bool.false_ne_true

theorem op_lt : OpR X (compareOp .Lt) (rI0 fun i j => .bl (decide (i < j))) := opB0 fun _ _ _ _ _ _ _ q => lt_int q
theorem op_le : OpR X (compareOp .LtE) (rI0 fun i j => .bl (decide (i ≤ j))) := opB0 fun _ _ _ _ _ _ _ q => le_int q
theorem op_gt : OpR X (compareOp .Gt) (rI0 fun i j => .bl (decide (j < i))) := opB0 fun _ _ _ _ _ _ _ q => gt_int q
theorem op_ge : OpR X (compareOp .GtE) (rI0 fun i j => .bl (decide (j ≤ i))) := opB0 fun _ _ _ _ _ _ _ q => ge_int q
/-- the one string within the other -/
theorem op_in_str : OpR X (compareOp .In) (fun x y H Q => ∃ i j, x = .str i ∧ y = .str j ∧ Q (.bl (!(Builtin.Str.occurrences j i 0 j.length 1).isEmpty)) H) := by
  intro pins s σ H x y v u Q I rx ry h
  obtain ⟨i, j, rfl, rfl, q⟩ := h
  obtain ⟨t, rfl⟩ := rx
  obtain ⟨t', rfl⟩ := ry
  exact in_str (fin_bl I q rfl)


/-- is, is not of two objects that are tracked lists or instances -/
def isObj : HO → Bool
  | .lst _ => true
  | .ins _ _ _ => true
  | _ => false

/-- two rules for one operation: by cases -/
theorem OpR.or {f : Value → Value → Sem Value} {r r' : R2} (h : OpR X f r) (h' : OpR X f r') : OpR X f (fun x y H Q => r x y H Q ∨ r' x y H Q) := by
  intro pins s σ H x y v u Q I rx ry q
  rcases q with q | q
  · exact h pins s σ H x y v u Q I rx ry q
  · exact h' pins s σ H x y v u Q I rx ry q

theorem nomark (b : Expr) {op : CmpOp} (h : op ≠ .In := by decide) (h2 : op ≠ .NotIn := by decide) : behindInMarks op b = false := by
  have e1 : (op == CmpOp.In) = false := by cases op <;> first | rfl | exact absurd rfl h
  have e2 : (op == CmpOp.NotIn) = false := by cases op <;> first | rfl | exact absurd rfl h2
  cases b <;> simp [behindInMarks, e1, e2]
/-- a comparison as a value; hm: nomark b, or (for in, not in) by with_unfolding_all rfl -/
theorem pe_cmpR {op : CmpOp} {r : R2} (ho : OpR X (compareOp op) r) (ha : PE X a ta) (hb : PE X b tb) (hm : behindInMarks op b = false) : PE X (.Compare a [op] [b] pos) (tOp r ta tb) := by
  intro pins s σ H Q I h
  exact wpAny_Compare1 (binT ha hb I h fun v u s2 x y H2 I2 rx ry q => ho pins s2 σ H2 x y v u Q I2 rx ry q) hm
/-- a reading of a value as a test -/
def tTest (t : TE) : TT := fun σ H Q => t σ H fun x H' => ∃ k, x = .bl k ∧ Q k H'
theorem pt_cmpR {op : CmpOp} {r : R2} (ho : OpR X (compareOp op) r) (ha : PE X a ta) (hb : PE X b tb) (hm : behindInMarks op b = false) : PT X (.Compare a [op] [b] pos) (tTest (tOp r ta tb)) := by
  intro pins s σ H Q I h
  refine wpAny_isTrue_Compare1 (thn (ha pins s σ H _ I h) fun v s1 ⟨x, H1, I1, r1, q1⟩ => thn (hb pins s1 σ H1 _ I1 q1) fun u s2 ⟨y, H2, I2, r2, q2⟩ =>
    thn (ho pins s2 σ H2 x y v u _ I2 r1 r2 q2) fun c s3 ⟨z, H3, I3, r3, k, e, q3⟩ => ?_) hm
  subst e
  cases r3
  exact wpAny_truthy_bool ⟨H3, I3, q3⟩
/-- a op1 b op2 c -/
def tChain (r r' : R2) (ta tb tc : TE) : TE := fun σ H Q => ta σ H fun x H1 => tb σ H1 fun y H2 => r x y H2 fun z H3 => ∃ k, z = .bl k ∧
  (if k = true then tc σ H3 fun w' H4 => r' y w' H4 Q else Q (.bl false) H3)
theorem pe_chain {op op' : CmpOp} {r r' : R2} (ho : OpR X (compareOp op) r) (ho' : OpR X (compareOp op') r') (ha : PE X a ta) (hb : PE X b tb) (hc : PE X c tc)
    (hm : lastMarks [op, op'] [b, c] = false := by with_unfolding_all rfl) : PE X (.Compare a [op, op'] [b, c] pos) (tChain r r' ta tb tc) := by
  intro pins s σ H Q I h
  refine Compare_chain (thn (ha pins s σ H _ I h) fun v s1 ⟨x, H1, I1, r1, q1⟩ => chain_link (thn (hb pins s1 σ H1 _ I1 q1) fun u s2 ⟨y, H2, I2, r2, q2⟩ =>
    thn (ho pins s2 σ H2 x y v u _ I2 r1 r2 q2) fun d s3 ⟨z, H3, I3, r3, k, e, q3⟩ => ?_)) hm
  subst e
  cases r3
  refine wpAny_truthy_bool ?_
  cases k with
  | false => exact ite_ff ⟨.bl false, H3, I3, rfl, q3⟩
  | true => exact ite_tt (chain_last (thn (hc pins s3 σ H3 _ I3 q3) fun w' s4 ⟨z', H4, I4, r4, q4⟩ => ho' pins s4 σ H4 y z' u w' Q I4 r2 r4 q4))

/-! ### truth -/
/-- a value's truth by the abstract heap -/
def TruV (K : PySem.W.Frag) (x : V) (H : Hp) (k : Bool) : Prop :=
  match x with
  | .non => k = false
  | .bl b => k = b
  | .int i => k = (i != 0)
  | .str y => y.length ≤ sizeLine ∧ k = ((y.length : Int) != 0)
  | .byt y => y.size ≤ sizeLine ∧ k = ((y.size : Int) != 0)
  | .ref p => (∃ xs, SqL K H p xs ∧ k = !xs.isEmpty) ∨ (∃ xs, SqT K H p xs ∧ k = !xs.isEmpty) ∨ ∃ kvs, H p = some (.dK kvs) ∧ k = !kvs.isEmpty
  | _ => False
theorem line63 : (sizeLine : Nat) < 2 ^ 63 := by rw [sizeLine_eq]; decide

/-! ### strs and bytes -/
theorem op_add_str : OpR X (binaryOp .Add) (fun x y H Q => ∃ i j, x = .str i ∧ y = .str j ∧ i.length + j.length ≤ sizeLine ∧ Q (.str (i ++ j)) H) := by
  intro pins s σ H x y v u Q I rx ry h
  obtain ⟨i, j, rfl, rfl, hz, q⟩ := h
  obtain ⟨t, rfl⟩ := rx
  obtain ⟨t', rfl⟩ := ry
  exact add_str (fun t' tk => ⟨.str (i ++ j), H, I.tok _, ⟨_, rfl⟩, q⟩) hz

def PlainIxT (b : Expr) : Prop := ∀ o i, subscripted b false o i = operate [o, i] (getItem o i)

/-! ### scalar builtins, by CallR -/
theorem vals1 {x : V} {us : List Value} (r : Vals [x] us) : ∃ u, us = [u] ∧ RelV x u := by
  cases r with
  | cons r1 r2 => cases r2; exact ⟨_, rfl, r1⟩
theorem vals2 {x y : V} {us : List Value} (r : Vals [x, y] us) : ∃ u w', us = [u, w'] ∧ RelV x u ∧ RelV y w' := by
  cases r with
  | cons r1 r2 =>
    cases r2 with
    | cons r3 r4 => cases r4; exact ⟨_, _, rfl, r1, r3⟩
theorem call_min2 (hc : X.calm = true) : CallR X (.builtin "min") (fun xs H Q => ∃ i j, xs = [.int i, .int j] ∧ Q (.int (if j < i then j else i)) H) := by
  intro pins s σ H xs us Q I r h
  obtain ⟨i, j, rfl, q⟩ := h
  obtain ⟨u, w', rfl, ⟨t, rfl⟩, ⟨t', rfl⟩⟩ := vals2 r
  refine min_two_ints (I.ok.hd hc) fun h' tk k => ⟨_, H, I.kept k, ?_, q⟩
  by_cases hj : j < i
  · rw [if_pos hj, if_pos hj]; exact ⟨_, rfl⟩
  · rw [if_neg hj, if_neg hj]; exact ⟨_, rfl⟩
/-- len of a str, a bytes, a list, a tuple -/
def LenV (K : PySem.W.Frag) (x : V) (H : Hp) (n : Nat) : Prop :=
  match x with
  | .str y => y.length ≤ sizeLine ∧ n = y.length
  | .byt y => y.size ≤ sizeLine ∧ n = y.size
  | .ref p => (∃ xs, SqL K H p xs ∧ n = xs.length) ∨ ∃ xs, SqT K H p xs ∧ n = xs.length
  | _ => False
end
end L2

namespace L2
open PySem PySem.Spec PyProof.Rows

/-! ### an instance, its attributes a map -/
structure ObjM (h : Heap) (x dx C : Addr) (mA : Str → Option Value) : Prop where
  obj : h.get? x = some (PySem.W.instObj C dx)
  ns : h.Ns1 dx mA
  ne : dx ≠ x

theorem lookIn_ns {h : Heap} {dx : Addr} {mA : Str → Option Value} (n : h.Ns1 dx mA) : ∃ od, h.get? dx = some od ∧ ∀ name, PySem.W.lookIn name od = some (mA name) := by
  obtain ⟨o, es, ep, ho, hd, hk, _, hm⟩ := n
  refine ⟨o, ho, fun name => ?_⟩
  have e := hm name
  unfold nsFind findBy at e
  rw [← Array.find?_toList] at e
  unfold PySem.W.lookIn
  rw [hd]
  dsimp only
  split
  · rename_i y q
    rw [q] at e
    exact congrArg some e
  · rename_i q
    rw [q] at e
    have a : es.toList.any (·.refKey) = false := by
      rw [List.any_eq_false]
      intro y hy
      obtain ⟨z, t, hkey⟩ := hk y (Array.mem_toList_iff.mp hy)
      simp [DictEntry.refKey, hkey]
    have a' : ¬ es.toList.any (·.refKey) = true := by rw [a]; exact Bool.false_ne_true
    rw [if_neg a']
    exact congrArg some e

theorem ObjM.look {h : Heap} {x dx C : Addr} {mA : Str → Option Value} (I : ObjM h x dx C mA) : ∃ od, PySem.W.InstAt h x (PySem.W.instObj C dx) C (some od) ∧ ∀ name, PySem.W.lookIn name od = some (mA name) :=
  let ⟨od, ho, hl⟩ := lookIn_ns I.ns
  ⟨od, ⟨I.obj, rfl, rfl, ho⟩, hl⟩

section
variable {prog : Program} {w : World} {A : Around} {E : Value → Shared → Prop} {s : Shared} {K : PySem.W.Frag} {x dx C f : Addr} {mA : Str → Option Value} {name : Str} {v : Value}





end

/-! ### the attributes as a list of pairs -/
def putF (f : Str) (v : V) : List (Str × V) → List (Str × V)
  | [] => [(f, v)]
  | (g, x) :: r => if g = f then (g, v) :: r else (g, x) :: putF f v r
theorem lookup_putF (f g : Str) (v : V) : ∀ fs : List (Str × V), (putF f v fs).lookup g = if g = f then some v else fs.lookup g
  | [] => by
    show List.lookup g [(f, v)] = _
    by_cases h : g = f
    · have hb : (g == f) = true := beq_iff_eq.mpr h
      simp only [List.lookup, hb, if_pos h]
    · have hb : (g == f) = false := beq_eq_false_iff_ne.mpr h
      simp only [List.lookup, hb, if_neg h]
  | (k, x) :: r => by
    have ih := lookup_putF f g v r
    rw [show putF f v ((k, x) :: r) = (if k = f then (k, v) :: r else (k, x) :: putF f v r) from rfl]
    by_cases hk : k = f
    · rw [if_pos hk]
      by_cases h : g = k
      · have hb : (g == k) = true := beq_iff_eq.mpr h
        simp only [List.lookup, hb, if_pos (h.trans hk)]
      · have hb : (g == k) = false := beq_eq_false_iff_ne.mpr h
        simp only [List.lookup, hb, if_neg (fun e : g = f => h (e.trans hk.symm))]
    · rw [if_neg hk]
      by_cases h : g = k
      · have hb : (g == k) = true := beq_iff_eq.mpr h
        simp only [List.lookup, hb, if_neg (fun e : g = f => hk (h.symm.trans e))]
      · have hb : (g == k) = false := beq_eq_false_iff_ne.mpr h
        simp only [List.lookup, hb]
        exact ih
theorem keys_putF (f : Str) (v : V) : ∀ fs : List (Str × V), f ∈ (putF f v fs).map (·.1) ∧ ∀ g, g ∈ fs.map (·.1) → g ∈ (putF f v fs).map (·.1)
  | [] => ⟨by simp [putF], fun g h => by simp at h⟩
  | (k, x) :: r => by
    obtain ⟨i1, i2⟩ := keys_putF f v r
    rw [show putF f v ((k, x) :: r) = (if k = f then (k, v) :: r else (k, x) :: putF f v r) from rfl]
    by_cases hk : k = f
    · rw [if_pos hk]
      subst hk
      exact ⟨by simp, fun g h => by simpa using h⟩
    · rw [if_neg hk]
      refine ⟨?_, fun g h => ?_⟩
      · rw [List.map_cons]
        exact List.mem_cons_of_mem _ i1
      · rw [List.map_cons] at h ⊢
        rcases List.mem_cons.mp h with e | e
        · exact List.mem_cons.mpr (.inl e)
        · exact List.mem_cons_of_mem _ (i2 g e)

theorem RelO.some_of {v : V} {o : Option Value} (r : RelO (some v) o) : ∃ u, o = some u ∧ RelV v u := by
  cases o with
  | none => exact (show False from r).elim
  | some u => exact ⟨u, rfl, r⟩
theorem handed_of {v : V} {u : Value} (r : RelV v u) : PySem.W.handedIn u = true := by
  cases v with
  | non => cases (show u = Value.none from r); rfl
  | bl b => cases (show u = Value.bool b from r); rfl
  | int i => obtain ⟨t, e⟩ := (show ∃ t, u = Value.int i t from r); cases e; rfl
  | str x => obtain ⟨t, e⟩ := (show ∃ t, u = Value.str x t from r); cases e; rfl
  | byt b => obtain ⟨t, e⟩ := (show ∃ t, u = Value.bytes b t from r); cases e; rfl
  | flt b => obtain ⟨t, e⟩ := (show ∃ t, u = Value.float b t from r); cases e; rfl
  | ref a => cases (show u = Value.ref a from r); rfl
  | ty n => cases (show u = Value.type n from r); rfl

section
variable {P : Program} {w : World} {H H' : Hp} {h h' : Heap} {a C dx : Addr} {fs fs' : List (Str × V)}
theorem ins_get (hok : HOk P w H h) (e : H a = some (.ins C dx fs)) : ∃ mA, ObjM h a dx C mA ∧ (∀ f, RelO (fs.lookup f) (mA f)) ∧ PySem.Within mA (fs.map (·.1)) ∧ fs.length ≤ 1000 ∧ H dx = some (.own a) := by
  obtain ⟨d, z, ne, ob, mA, n, r, q⟩ := (show ObjOk P w H h a (.ins C dx fs) from hok a _ e)
  exact ⟨mA, ⟨ob, n, ne⟩, r, q, z, d⟩
end

/-! ### what of the text a class must have -/
structure Cls (K : PySem.W.Frag) (C : Addr) : Prop where
  pg : PySem.W.plainGet K C Str.empty = true
  hd : PySem.W.hasDictIn K C = true
  po : PySem.W.plainOver K C = true
  sa : PySem.W.findIn K (.ref C) "__setattr__" = some (some (.builtin "object.__setattr__"))
theorem Cls.get {K : PySem.W.Frag} {C : Addr} (c : Cls K C) (f : Str) : PySem.W.plainGet K C f = true := c.pg
/-- no class of it has the name -/
def NoAttr (K : PySem.W.Frag) (C : Addr) (f : Str) : Prop := PySem.W.findIn K (.ref C) f = some none
/-- a constant of the class -/
structure Con (K : PySem.W.Frag) (C : Addr) (f : Str) (v : V) (u : Value) : Prop where
  at_ : PySem.W.findIn K (.ref C) f = some (some u)
  rel : RelV v u
  get : PySem.W.specialIn K u "__get__" = some none
  cp : PySem.W.copiedNames.contains f = false
/-- a method: a plain def of the class or of one above it -/
structure Meth (K : PySem.W.Frag) (C : Addr) (m : Str) (f : Addr) : Prop where
  at_ : PySem.W.findIn K (.ref C) m = some (some (.ref f))
  fn : PySem.W.isFn K (.ref f) = true
  kp : PySem.W.keepIn K (.ref f) = true

section
variable {X : Cx} {pins : List (Addr × Obj)} {σ : St} {H : Hp} {s : Shared} {a C dx : Addr} {fs : List (Str × V)} {f : Str} {v : V} {A : Around} {E : Value → Shared → Prop}





/-- a new instance, tracked, without attributes -/
theorem Inv.made (I : Inv X pins σ H s) : Inv X pins σ (upd (upd H s.heap.objs.size (.own (s.heap.objs.size + 1))) (s.heap.objs.size + 1) (.ins C s.heap.objs.size []))
    { s with heap := (s.heap.push PySem.W.emptyDict).push (PySem.W.instObj C s.heap.objs.size) } := by
  have e1 : (s.heap.push PySem.W.emptyDict).get? s.heap.objs.size = some PySem.W.emptyDict := Heap.get?_push_size s.heap rfl
  have e2 : ((s.heap.push PySem.W.emptyDict).push (PySem.W.instObj C s.heap.objs.size)).get? (s.heap.objs.size + 1) = some (PySem.W.instObj C s.heap.objs.size) := by
    have := Heap.get?_push_size (s.heap.push PySem.W.emptyDict) (o := PySem.W.instObj C s.heap.objs.size) rfl
    rwa [Heap.size_push] at this
  have e3 : (s.heap.push PySem.W.emptyDict).Ns s.heap.objs.size (fun _ => none) := ⟨PySem.W.emptyDict, #[], _, e1, rfl, (fun e he => absurd he (by simp)), fun _ => rfl⟩
  have I1 := I.laid (a := s.heap.objs.size) (o := .own (s.heap.objs.size + 1)) (h' := s.heap.push PySem.W.emptyDict) (t' := s.toks) (fun b u q => Heap.get?_push_of_some _ q) (Nat.le_refl _) ⟨_, e1⟩
  refine I1.laid (a := s.heap.objs.size + 1) (o := .ins C s.heap.objs.size []) (t' := s.toks) (fun b u q => Heap.get?_push_of_some _ q) (Nat.le_of_eq (Heap.size_push _ _)) ?_
  have ne : s.heap.objs.size ≠ s.heap.objs.size + 1 := Nat.ne_of_lt (Nat.lt_succ_self _)
  refine ⟨by rw [upd_ne ne, upd_same], Nat.zero_le _, ne, e2, fun _ => none, (Heap.Ns1.of_empty e3).at fun o q => Heap.get?_push_of_some _ q, fun _ => True.intro, fun y hy => absurd rfl hy⟩

/-- e.f where nothing but the object is asked: through attributeBase (super) and the last hold -/
theorem attr_of {prog : Program} {w : World} {env : Env} {e : Expr} {f : Str} {pos : Pos} {s : Shared} {Q : Value → Shared → Prop} (hb : attributeBase e f env (eval e env) = eval e env)
    (h : wpAny (model prog w) A (eval e env) (fun o s₁ => wpAny (model prog w) A (getAttr o f true) Q E s₁) E s) : wpAny (model prog w) A (eval (.Attribute e f pos) env) Q E s :=
  Attribute_any_ h (by rw [arm_eval_Attribute, hb])
end

/-! ### readings and rules -/
/-- e.f, an attribute of the instance -/
def tFld (K : PySem.W.Frag) (ta : TE) (f : Str) : TE := fun σ H Q => ta σ H fun x H1 => ∃ a C dx fs v, x = .ref a ∧ H1 a = some (.ins C dx fs) ∧ Cls K C ∧ NoAttr K C f ∧ fs.lookup f = some v ∧ Q v H1
/-- e.f, a constant of the class -/
def tCon (K : PySem.W.Frag) (ta : TE) (f : Str) : TE := fun σ H Q => ta σ H fun x H1 => ∃ a C dx fs v u, x = .ref a ∧ H1 a = some (.ins C dx fs) ∧ Cls K C ∧ Con K C f v u ∧ fs.lookup f = none ∧ Q v H1
/-- e.f = value -/
def sFld (K : PySem.W.Frag) (ta tv : TE) (f : Str) : TS := fun D σ H => tv σ H fun y H1 => ta σ H1 fun x H2 => ∃ a C dx fs, x = .ref a ∧ H2 a = some (.ins C dx fs) ∧ Cls K C ∧ NoAttr K C f ∧ fs.length < 1000 ∧
  D.nx σ (upd H2 a (.ins C dx (putF f y fs)))
/-- an augmented operator on two values -/
def InOp (X : Cx) (op : Operator) (rd : V → V → Hp → VK → Prop) : Prop :=
  ∀ (pins : List (Addr × Obj)) (s : Shared) (σ : St) (H : Hp) (x y : V) (u v : Value) (Q : VK), Inv X pins σ H s → RelV x u → RelV y v → rd x y H Q → wpAny (model X.prog X.w) X.A (inplaceOp op u v) (EP X pins σ Q) X.xe s
/-- e.f op= value -/
def sFldAug (K : PySem.W.Frag) (ta tv : TE) (rd : V → V → Hp → VK → Prop) (f : Str) : TS := fun D σ H => ta σ H fun x H1 => ∃ a C dx fs v, x = .ref a ∧ H1 a = some (.ins C dx fs) ∧ Cls K C ∧ NoAttr K C f ∧ fs.lookup f = some v ∧
  tv σ H1 fun y H2 => rd v y H2 fun z H3 => ∃ dx' fs', H3 a = some (.ins C dx' fs') ∧ fs'.length < 1000 ∧ D.nx σ (upd H3 a (.ins C dx' (putF f z fs')))

section
variable {X : Cx} {o e value : Expr} {f : Str} {pos pos' tpos : Pos} {ta tv : TE}
def rAdd : V → V → Hp → VK → Prop := fun x y H Q => ∃ i j, x = .int i ∧ y = .int j ∧ Q (.int (i + j)) H
def rSub : V → V → Hp → VK → Prop := fun x y H Q => ∃ i j, x = .int i ∧ y = .int j ∧ Q (.int (i - j)) H

end

/-! ### isinstance -/
section
variable {X : Cx} {pins : List (Addr × Obj)} {σ : St} {H : Hp} {s : Shared} {A : Around} {E : Value → Shared → Prop} {Q : Value → Shared → Prop} {c : Value} {b : Bool}
/-- the type of a value, as the fragment's deciders take it; for an instance its class -/
inductive TyOf (K : PySem.W.Frag) (H : Hp) : V → Value → Prop where
  | non : TyOf K H .non (.type "NoneType")
  | bl (x : Bool) : TyOf K H (.bl x) (.type "bool")
  | int (i : Int) : TyOf K H (.int i) (.type "int")
  | str (x : Str) : TyOf K H (.str x) (.type "str")
  | flt (x : UInt64) : TyOf K H (.flt x) (.type "float")
  | lst {a : Addr} {xs : List V} (e : H a = some (.lst xs)) : TyOf K H (.ref a) (.type "list")
  | frz {a : Addr} {o : Obj} {xs : List V} (e : H a = some (.frz o (.lst xs))) : TyOf K H (.ref a) (.type "list")
  | tup {a : Addr} {xs : List V} (e : H a = some (.tup xs)) : TyOf K H (.ref a) (.type "tuple")
  | dK {a : Addr} {kvs : List (Key × V)} (e : H a = some (.dK kvs)) : TyOf K H (.ref a) (.type "dict")
  | dT {a : Addr} {kvs : List (List Key × V)} (e : H a = some (.dT kvs)) : TyOf K H (.ref a) (.type "dict")
  | ins {a C dx : Addr} {fs : List (Str × V)} (e : H a = some (.ins C dx fs)) (cl : Cls K C) (ha : PySem.W.findIn K (.ref C) "__class__" = some (some (.builtin "object.__class__")))
      (hn : PySem.W.specialIn K (.builtin "object.__class__") "__get__" = some (some (.builtin "getset_descriptor.__get__"))) (htk : PySem.W.takesIn K (.builtin "object.__class__") = some true)
      (hm : PySem.W.mroIn K C (.type "object") = some true) : TyOf K H (.ref a) (.ref C)
/-- isinstance(x, c) for one class c, a built-in or an own one: kitOne's answer -/
theorem isinst_ok {x : V} {u t : Value} (I : Inv X pins σ H s) (rx : RelV x u) (ty : TyOf X.K H x t) (e : PySem.W.kitOne X.K t c = some b) (h : ∀ tk, Q (.bool b) { s with toks := tk }) :
    wpAny (model X.prog X.w) A (call (.builtin "isinstance") [u, c]) Q E s := by
  cases ty with
  | non => cases (show u = Value.none from rx); exact PySem.W.kia_one PySem.W.kitx_none I.kIn True.intro e (fun z => nomatch z) h
  | bl y => cases (show u = Value.bool y from rx); exact PySem.W.kia_one PySem.W.kitx_bool I.kIn True.intro e (fun z => nomatch z) h
  | int i => obtain ⟨t, q⟩ := (show ∃ t, u = Value.int i t from rx); cases q; exact PySem.W.kia_one PySem.W.kitx_int I.kIn True.intro e (fun z => nomatch z) h
  | str y => obtain ⟨t, q⟩ := (show ∃ t, u = Value.str y t from rx); cases q; exact PySem.W.kia_one PySem.W.kitx_str I.kIn True.intro e (fun z => nomatch z) h
  | flt y => obtain ⟨t, q⟩ := (show ∃ t, u = Value.float y t from rx); cases q; exact PySem.W.kia_one PySem.W.kitx_float I.kIn True.intro e (fun z => nomatch z) h
  | @lst a xs ea =>
    cases (show u = Value.ref a from rx)
    obtain ⟨_, _, n, _, h1⟩ := (show ObjOk X.prog X.w H s.heap a (.lst xs) from I.hok a _ ea)
    exact PySem.W.kia_one PySem.W.kitx_list I.kIn ⟨_, h1, rfl⟩ e (fun z => nomatch z) h
  | @frz a ob xs ea =>
    cases (show u = Value.ref a from rx)
    obtain ⟨_, _, _, n, _, h1⟩ := (show ObjOk X.prog X.w H s.heap a (.frz ob (.lst xs)) from I.hok a _ ea)
    exact PySem.W.kia_one PySem.W.kitx_list I.kIn ⟨_, h1, rfl⟩ e (fun z => nomatch z) h
  | @tup a xs ea =>
    cases (show u = Value.ref a from rx)
    obtain ⟨_, _, _, p⟩ := (show ObjOk X.prog X.w H s.heap a (.tup xs) from I.hok a _ ea)
    obtain ⟨o, h1, h2, _⟩ := p
    exact PySem.W.kia_one PySem.W.kitx_tuple I.kIn ⟨o, h1, h2⟩ e (fun z => nomatch z) h
  | @dK a kvs ea =>
    cases (show u = Value.ref a from rx)
    obtain ⟨_, _, vs, _, p⟩ := (show ObjOk X.prog X.w H s.heap a (.dK kvs) from I.hok a _ ea)
    obtain ⟨o, es, ep, h1, h2, _⟩ := p
    exact PySem.W.kia_one PySem.W.kitx_dict I.kIn ⟨o, h1, h2.1⟩ e (fun z => nomatch z) h
  | @dT a kvs ea =>
    cases (show u = Value.ref a from rx)
    obtain ⟨_, _, xs, _, o, es, ep, h1, h2, _⟩ := (show ObjOk X.prog X.w H s.heap a (.dT kvs) from I.hok a _ ea)
    exact PySem.W.kia_one PySem.W.kitx_dict I.kIn ⟨o, h1, h2.1⟩ e (fun z => nomatch z) h
  | @ins a C dx fs ea cl ha hn htk hm =>
    cases (show u = Value.ref a from rx)
    obtain ⟨mA, O, _⟩ := ins_get I.hok ea
    obtain ⟨od, J, _⟩ := O.look
    exact PySem.W.kia_one (PySem.W.kitx_own (cl.get _) cl.hd ha hn htk hm) I.kIn J e (fun z => nomatch z) h
end
end L2

namespace L2
open PySem PySem.Spec PyProof.Rows

/-! ### room -/
structure Room (k : Nat) (A : Around) : Prop where
  hd : A.handled = none
  dp : A.depth + 3 * k + 5 < recursionLimit
  un : A.units + 16 * k + 200 < cLine
  gd : A.guards = some []
theorem Room.mono {j k : Nat} {A : Around} (r : Room k A) (h : j ≤ k) : Room j A := ⟨r.hd, by have := r.dp; omega, by have := r.un; omega, r.gd⟩
theorem Room.deeper {k : Nat} {A : Around} (r : Room (k + 1) A) (env : Env) : Room k (A.deeper env) :=
  ⟨r.hd, by have := r.dp; show A.depth + 1 + 3 * k + 5 < _; omega, by have := r.un; show A.units + 3 + 16 * k + 200 < _; omega, r.gd⟩
theorem Room.in1 {k : Nat} {A : Around} (r : Room (k + 1) A) : Room k A.in1 :=
  ⟨r.hd, by have := r.dp; show A.depth + 3 * k + 5 < _; omega, by have := r.un; show A.units + 1 + 16 * k + 200 < _; omega, r.gd⟩
theorem make_depth {A : Around} {C : Addr} {us : List Value} {kw : List (Str × Value)} : (A.under (.builtin "type.__call__" ⟨.ref C :: us, kw⟩)).depth = A.depth + 1 := by
  first | rfl | simp [Around.under, Code.weight, Code.isCreation, Code.isGuard, Code.isCaller, Code.frames, Code.isFrame, guardIds]
theorem make_units {A : Around} {C : Addr} {us : List Value} {kw : List (Str × Value)} : (A.under (.builtin "type.__call__" ⟨.ref C :: us, kw⟩)).units = A.units + 1 := by
  first | rfl | simp [Around.under, Code.cUnits, Code.frames, Code.isFrame]
theorem Room.make {k : Nat} {A : Around} (r : Room (k + 1) A) (C : Addr) (us : List Value) (kw : List (Str × Value)) : Room k (A.under (.builtin "type.__call__" ⟨.ref C :: us, kw⟩)) :=
  ⟨r.hd, by have := r.dp; rw [make_depth]; omega, by have := r.un; rw [make_units]; omega, by first | exact r.gd | simpa [Around.under, Code.isGuard, Code.isFrame, guardIds] using r.gd⟩
theorem Room.depth {k : Nat} {A : Around} (r : Room k A) : A.depth < recursionLimit := by have := r.dp; omega
theorem Room.units {k : Nat} {A : Around} (r : Room k A) : A.units + 64 < cLine := by have := r.un; omega

/-! ### argument lists and displays -/
def tNil : TA := fun _ H Q => Q [] H
def tCons (ta : TE) (tr : TA) : TA := fun σ H Q => ta σ H fun x H1 => tr σ H1 fun xs H2 => Q (x :: xs) H2
section
variable {X : Cx} {e : Expr} {es : List Expr} {te : TE} {t : TA} {pos : Pos}
theorem pa_nil : PA X [] tNil := fun _ _ _ _ H Q I h => Calls.spliced_nil ⟨[], H, I, .nil, h⟩
theorem pa_cons (ha : PE X e te) (hr : PA X es t) (hs : starEach (e :: es) X.env = (false, eval e X.env) :: starEach es X.env := by rfl) : PA X (e :: es) (tCons te t) := by
  intro pos pins s σ H Q I h
  rw [hs]
  show wpAny _ _ (spliced ((false, eval e X.env) :: backTo pos (starEach es X.env))) _ _ s
  refine Calls.spliced_cons (thn (ha pins s σ H _ I h) fun u s1 ⟨x, H1, I1, r1, q1⟩ => ?_)
  exact thn (hr pos pins s1 σ H1 _ I1 q1) fun us s2 ⟨xs, H2, I2, r2, q2⟩ => ⟨x :: xs, H2, I2, .cons r1 r2, q2⟩

/-- a tuple, a list of written items -/
def tTup (t : TA) : TE := fun σ H Q => t σ H fun xs H1 => xs.length ≤ sizeLine ∧ ∀ p, H1 p = none → Q (.ref p) (upd H1 p (.tup xs))
def tLst (t : TA) : TE := fun σ H Q => t σ H fun xs H1 => xs.length ≤ sizeLine ∧ ∀ p, H1 p = none → Q (.ref p) (upd H1 p (.lst xs))
theorem pe_tup {x1} (h : PA X es t) : PE X (.Tuple es x1 pos) (tTup t) := by
  intro pins s σ H Q I hq
  refine wpAny_Tuple_spliced (thn (h pos pins s σ H _ I hq) fun us s1 ⟨xs, H1, I1, r, z, q⟩ => ⟨by rw [← r.length]; exact z, ?_⟩)
  have hf : H1 s1.heap.objs.size = none := I1.hok.fresh (Nat.le_refl _)
  refine ⟨.ref s1.heap.objs.size, upd H1 s1.heap.objs.size (.tup xs), I1.laid (t' := s1.toks) (fun b u e => Heap.get?_push_of_some _ e) (Nat.le_refl _) ?_, rfl, q _ hf⟩
  exact ⟨z, us, r, ⟨_, Heap.get?_push_size _ rfl, rfl, _, rfl⟩⟩
theorem pe_lst (h : PA X es t) : PE X (.List es pos) (tLst t) := by
  intro pins s σ H Q I hq
  refine wpAny_List_spliced (thn (h pos pins s σ H _ I hq) fun us s1 ⟨xs, H1, I1, r, z, q⟩ => ⟨by rw [← r.length]; exact z, ?_⟩)
  have hf : H1 s1.heap.objs.size = none := I1.hok.fresh (Nat.le_refl _)
  refine ⟨.ref s1.heap.objs.size, upd H1 s1.heap.objs.size (.lst xs), I1.laid (t' := s1.toks) (fun b u e => Heap.get?_push_of_some _ e) (Nat.le_refl _) ?_, rfl, q _ hf⟩
  exact ⟨z, us, 0, r, Heap.get?_push_size _ rfl⟩
end

/-! ### what a def promises -/
/-- a def's promise: the bound arguments in the parameters' order, the heap, the wanted end, the wanted exception -/
abbrev Sp := List V → Hp → VK → XK → Prop
/-- how an exception lies behind a call (file 08 gives it): the callers' frames, abstract heap and state ahead of the call, the wish, the exception, the state -/
abbrev CXT := List Env → Hp → Shared → XK → Value → Shared → Prop

/-- the state at a call -/
structure Env0 (P : Program) (w : World) (K : PySem.W.Frag) (mg : Str → Option Value) (base : Heap) (A : Around) (outer : List Env) (s : Shared) (H : Hp) : Prop where
  frames : A.frames = some outer
  mod : Mod K mg base
  bs : ∀ b o, base.get? b = some o → s.heap.get? b = some o ∧ H b = none
  bsz : base.objs.size ≤ s.heap.objs.size
  funs : s.heap.FunFrames base outer
  frf : ∀ b ∈ frs outer, H b = none
  hok : HOk P w H s.heap
  bare : AllBare s.gens
/-- a call's end -/
def CE (outer : List Env) (P : Program) (w : World) (H : Hp) (s : Shared) (Q : VK) (u : Value) (s' : Shared) : Prop :=
  ∃ v H', s'.os = s.os ∧ AllBare s'.gens ∧ Un (frs outer) [] H H' s.heap s'.heap ∧ HOk P w H' s'.heap ∧ RelV v u ∧ Q v H'
def CR (CX : CXT) (outer : List Env) (P : Program) (w : World) (H : Hp) (s : Shared) (Q : VK) (E : XK) (r : Result) (s' : Shared) : Prop :=
  match r with
  | .ok (.ret u) => CE outer P w H s Q u s'
  | .ok _ => False
  | .error e => CX outer H s E e s'
structure FnOk (P : Program) (w : World) (K : PySem.W.Frag) (mg : Str → Option Value) (base : Heap) (CX : CXT) (k : Nat) (f : Addr) (fd : FuncData) (ps : List Str) (sp : Sp) : Prop where
  len : ∀ vs H Q E, sp vs H Q E → vs.length = ps.length
  run : ∀ (A : Around) (outer : List Env) (s : Shared) (H : Hp) (args : Args) (us : List Value) (vs : List V) (Q : VK) (E : XK), Room k A → Env0 P w K mg base A outer s H → BindsTo s fd args (ps.zip us) → Vals vs us → sp vs H Q E →
    codeAny (model P w) A (.call (.ref f) args) (CR CX outer P w H s Q E) s
theorem FnOk.mono {P : Program} {w : World} {K : PySem.W.Frag} {mg : Str → Option Value} {base : Heap} {CX : CXT} {j k : Nat} {f : Addr} {fd : FuncData} {ps : List Str} {sp : Sp} (F : FnOk P w K mg base CX j f fd ps sp) (h : j ≤ k) :
    FnOk P w K mg base CX k f fd ps sp := ⟨F.len, fun A outer s H args us vs Q E hr => F.run A outer s H args us vs Q E (hr.mono h)⟩

theorem Env0.make {P : Program} {w : World} {K : PySem.W.Frag} {mg : Str → Option Value} {base : Heap} {A : Around} {outer : List Env} {s : Shared} {H : Hp} (e : Env0 P w K mg base A outer s H) (C : Addr) (us : List Value) (kw : List (Str × Value)) :
    Env0 P w K mg base (A.under (.builtin "type.__call__" ⟨.ref C :: us, kw⟩)) outer s H := ⟨by first | exact e.frames | (simpa [Around.under, Code.envs, Code.isFrame, pushEnvs] using e.frames), e.mod, e.bs, e.bsz, e.funs, e.frf, e.hok, e.bare⟩
theorem Env0.in1 {P : Program} {w : World} {K : PySem.W.Frag} {mg : Str → Option Value} {base : Heap} {A : Around} {outer : List Env} {s : Shared} {H : Hp} (e : Env0 P w K mg base A outer s H) :
    Env0 P w K mg base A.in1 outer s H := ⟨e.frames, e.mod, e.bs, e.bsz, e.funs, e.frf, e.hok, e.bare⟩

section
variable {X : Cx} {pins : List (Addr × Obj)} {σ : St} {H : Hp} {s s' : Shared}
/-- from a body: what a callee wants -/
theorem Inv.env0 (I : Inv X pins σ H s) : Env0 X.prog X.w X.K X.mg X.base X.A X.stack s H :=
  ⟨I.ok.frames, I.ok.mod, I.bs, Nat.le_trans I.ok.bsz I.sz, I.stack, I.stkFree, I.hok, I.bare⟩
/-- behind a call -/
theorem Inv.after {Q : VK} {u : Value} (I : Inv X pins σ H s) (h : CE X.stack X.prog X.w H s Q u s') : EP X pins σ Q u s' := by
  obtain ⟨v, H', os, bare, un, hok, r, q⟩ := h
  obtain ⟨hh, g, d, t, os'⟩ := s'
  obtain rfl : os' = s.os := os
  exact ⟨v, H', I.call (h' := hh) (g' := g) (d' := d) (t' := t) (ch := []) un hok bare (fun b z => absurd z (by simp)), r, q⟩
end

/-! ### calls -/
/-- f(..): the written arguments, then the defaults dvs; E: what is wanted of an exception -/
def tCall (sp : Sp) (dvs : List V) (E : XK) (t : TA) : TE := fun σ H Q => t σ H fun vs H1 => sp (vs ++ dvs) H1 Q E
/-- o.m(..) of an instance of the class at C -/
def tMeth (C : Addr) (m : Str) (sp : Sp) (dvs : List V) (E : XK) (ta : TE) (t : TA) : TE := fun σ H Q => ta σ H fun x H1 => ∃ a dx fs, x = .ref a ∧ H1 a = some (.ins C dx fs) ∧ fs.lookup m = none ∧
  t σ H1 fun vs H2 => sp (x :: (vs ++ dvs)) H2 Q E
/-- C(..): a new instance and its dict, then __init__ -/
def tMake (C : Addr) (sp : Sp) (dvs : List V) (E : XK) (t : TA) : TE := fun σ H Q => t σ H fun vs H1 => ∀ x dx, H1 x = none → H1 dx = none → dx ≠ x →
  sp (.ref x :: (vs ++ dvs)) (upd (upd H1 dx (.own x)) x (.ins C dx [])) (fun v H2 => v = .non ∧ Q (.ref x) H2) E

/-- how the parameters are bound: us the positional arguments, kw the keywords' values by name, ds the defaults that fill up -/
def Binds (K : PySem.W.Frag) (fd : FuncData) (ps : List Str) (ds : List Value) : Prop :=
  ∀ (s : Shared) (us : List Value), K.In s.heap → (us ++ ds).length = ps.length → BindsTo s fd ⟨us, []⟩ (ps.zip (us ++ ds))
/-- every parameter is given -/
theorem Binds.all {K : PySem.W.Frag} {fd : FuncData} {ps : List Str} (h : ∀ us : List Value, us.length = ps.length → bindArgs fd ⟨us, []⟩ = pure (ps.zip us)) : Binds K fd ps [] := fun s us _ hl => by
  rw [List.append_nil] at hl ⊢
  exact .of_eq (h us hl)

/-- an exception of a callee reaches what this body wants of exceptions -/
def Passes (CX : CXT) (X : Cx) (E : XK) : Prop := ∀ (pins : List (Addr × Obj)) (σ : St) (H : Hp) (s : Shared) (e : Value) (s' : Shared), Inv X pins σ H s → CX X.stack H s E e s' → X.xe e s'

section
variable {X : Cx} {CX : CXT} {k : Nat} {f C : Addr} {fd : FuncData} {ps : List Str} {sp : Sp} {dvs : List V} {ds : List Value} {E : XK} {x m : Str} {p pos apos : Pos} {e o : Expr} {es : List Expr} {ta : TE} {t : TA}

/-- the callee runs -/
theorem run_fn {pins : List (Addr × Obj)} {σ : St} {H : Hp} {s : Shared} {Q : VK} {us : List Value} {vs : List V} (F : FnOk X.prog X.w X.K X.mg X.base CX k f fd ps sp) (hr : Room k X.A) (hb : Binds X.K fd ps ds) (hd : Vals dvs ds) (hx : Passes CX X E)
    (I : Inv X pins σ H s) (r : Vals vs us) (h : sp (vs ++ dvs) H Q E) : wpAny (model X.prog X.w) X.A (call (.ref f) us) (EP X pins σ Q) X.xe s := by
  have r2 : Vals (vs ++ dvs) (us ++ ds) := r.append hd
  have hl : (us ++ ds).length = ps.length := by rw [← r2.length]; exact F.len _ _ _ _ h
  refine wpAny_call (codeAny_mono (F.run X.A X.stack s H ⟨us, []⟩ (us ++ ds) (vs ++ dvs) Q E hr I.env0 (hb s us I.kIn hl) r2 h) fun r s' hq => ?_)
  cases r with
  | error e => exact hx pins σ H s e s' I hq
  | ok fl =>
    cases fl with
    | ret u => exact I.after hq
    | next => exact False.elim hq
    | brk => exact False.elim hq
    | cont => exact False.elim hq

theorem pe_call (F : FnOk X.prog X.w X.K X.mg X.base CX k f fd ps sp) (hr : Room k X.A) (hg : Gl X x) (hm : X.mg x = some (.ref f)) (hk : PySem.W.keepIn X.K (.ref f) = true) (hb : Binds X.K fd ps ds) (hd : Vals dvs ds) (hx : Passes CX X E)
    (ha : PA X (e :: es) t) (hdb : (x == ("__debug__" : Str)) = false := by decide) (he : starEach (e :: es) X.env = (false, eval e X.env) :: starEach es X.env := by rfl) (hpl : (backTo pos (starEach es X.env)).any (·.1) = false := by rfl) :
    PE X (.Call (.Name x p) (e :: es) [] pos) (tCall sp dvs E t) := by
  intro pins s σ H Q I h
  refine wpAny_Call_Name_kw (ld_glob I hg hm ?_ hdb)
  refine PySem.W.callWith_K (h₀ := X.base) I.ok.mod.kin hk (thn (ha pos pins s σ H _ I h) fun us s1 ⟨vs, H1, I1, r, q⟩ => ⟨I1.kIn, ?_⟩) he hpl
  exact run_fn F hr hb hd hx I1 r q


/-- what a class must have to be made -/
structure Mk (K : PySem.W.Frag) (C f : Addr) : Prop where
  makes : PySem.W.makesIn K C = true
  init : PySem.W.findIn K (.ref C) "__init__" = some (some (.ref f))
  fn : PySem.W.isFn K (.ref f) = true
  kp : PySem.W.keepIn K (.ref C) = true

end

/-! ### keywords -/
/-- the values of the keywords, from the left -/
def PK (X : Cx) (kws : List Keyword) (t : TA) : Prop :=
  ∀ (pos : Pos) (pins : List (Addr × Obj)) (s : Shared) (σ : St) (H : Hp) (Q : List V → Hp → Prop), Inv X pins σ H s → t σ H Q → wpAny (model X.prog X.w) X.A (evalAll ((backToKw pos (keywordEach kws X.env)).map (·.2))) (AP X pins σ Q) X.xe s
section
variable {X : Cx} {CX : CXT} {k : Nat} {f C : Addr} {fd : FuncData} {ps ks : List Str} {sp : Sp} {E : XK} {x m : Str} {p pos apos kpos : Pos} {e o : Expr} {es : List Expr} {kws : List Keyword} {te ta : TE} {t tk : TA} {nm : Option Str}

/-- how a call with keywords binds: g puts the positional values us and the keywords' values ws (names ks) in the parameters' order, defaults among them -/
structure KBinds (K : PySem.W.Frag) (fd : FuncData) (ps ks : List Str) (g : List Value → List Value → List Value) (gV : List V → List V → List V) : Prop where
  to : ∀ (s : Shared) (us ws : List Value), K.In s.heap → (g us ws).length = ps.length → BindsTo s fd ⟨us, ks.zip ws⟩ (ps.zip (g us ws))
  rel : ∀ {vs : List V} {us : List Value} {zs : List V} {ws : List Value}, Vals vs us → Vals zs ws → Vals (gV vs zs) (g us ws)
def tCallK (sp : Sp) (gV : List V → List V → List V) (E : XK) (t tk : TA) : TE := fun σ H Q => t σ H fun vs H1 => tk σ H1 fun zs H2 => sp (gV vs zs) H2 Q E
variable {g : List Value → List Value → List Value} {gV : List V → List V → List V}
end

/-! ### a def's body keeps its promise -/
/-- names: the parameters first -/
structure FnScope (N P : List Str) (sc : Scope) : Prop where
  kind : sc.kind = .function
  co : sc.isCoroutine = false
  gen : sc.isGenerator = false
  nd : N.Nodup
  pre : N.take P.length = P
  par : ∀ x ∈ P, sc.names.lookup x = some .local ∨ sc.names.lookup x = some .cell
  nofree : ∀ y ∈ sc.names, y.2 ≠ .free

theorem bindL_out {kindOf : Str → Option NameKind} {x : Str} : ∀ {binds : List (Str × Value)} {m : Str → Option Value}, (∀ v, (x, v) ∉ binds) → bindL kindOf binds m x = m x
  | [], _, _ => rfl
  | (n, v) :: r, m, h => by
    unfold bindL
    rw [bindL_out fun w hw => h w (List.mem_cons_of_mem _ hw)]
    split
    · have : x ≠ n := by rintro rfl; exact h v List.mem_cons_self
      simp [this]
    · rfl
theorem bindC_out {kindOf : Str → Option NameKind} {x : Str} : ∀ {binds : List (Str × Value)} {m : Str → Option Value}, (∀ v, (x, v) ∉ binds) → bindC kindOf binds m x = m x
  | [], _, _ => rfl
  | (n, v) :: r, m, h => by
    unfold bindC
    rw [bindC_out fun w hw => h w (List.mem_cons_of_mem _ hw)]
    split
    · rfl
    · have : x ≠ n := by rintro rfl; exact h v List.mem_cons_self
      simp [this]
theorem bindL_get {kindOf : Str → Option NameKind} {x : Str} {v : Value} : ∀ {P : List Str} {vs : List Value} {i : Nat} {m : Str → Option Value}, P.Nodup → P[i]? = some x → vs[i]? = some v → kindOf x = some .local →
    bindL kindOf (P.zip vs) m x = some v
  | [], _, _, _, _, h, _, _ => by simp at h
  | _ :: _, [], _, _, _, _, h, _ => by simp at h
  | p :: P, w :: vs, 0, m, nd, h1, h2, hk => by
    simp at h1 h2; subst h1; subst h2
    show bindL kindOf ((p, w) :: P.zip vs) m p = _
    unfold bindL
    rw [bindL_out fun v hv => (List.nodup_cons.mp nd).1 (List.of_mem_zip hv).1, if_pos hk]
    simp
  | p :: P, w :: vs, i + 1, m, nd, h1, h2, hk => by
    show bindL kindOf ((p, w) :: P.zip vs) m x = _
    unfold bindL
    exact bindL_get (i := i) (List.nodup_cons.mp nd).2 (by simpa using h1) (by simpa using h2) hk
theorem bindC_get {kindOf : Str → Option NameKind} {x : Str} {v : Value} : ∀ {P : List Str} {vs : List Value} {i : Nat} {m : Str → Option Value}, P.Nodup → P[i]? = some x → vs[i]? = some v → kindOf x ≠ some .local →
    bindC kindOf (P.zip vs) m x = some v
  | [], _, _, _, _, h, _, _ => by simp at h
  | _ :: _, [], _, _, _, _, h, _ => by simp at h
  | p :: P, w :: vs, 0, m, nd, h1, h2, hk => by
    simp at h1 h2; subst h1; subst h2
    show bindC kindOf ((p, w) :: P.zip vs) m p = _
    unfold bindC
    rw [bindC_out fun v hv => (List.nodup_cons.mp nd).1 (List.of_mem_zip hv).1, if_neg hk]
    simp
  | p :: P, w :: vs, i + 1, m, nd, h1, h2, hk => by
    show bindC kindOf ((p, w) :: P.zip vs) m x = _
    unfold bindC
    exact bindC_get (i := i) (List.nodup_cons.mp nd).2 (by simpa using h1) (by simpa using h2) hk

/-- the names' values at the entry -/
def start (N : List Str) (vs : List V) : St := vs.map some ++ List.replicate (N.length - vs.length) none

/-- the context of a def's body, at its entry; an exception leaves the frame, then lies as CX says -/
def cxOf (CX : CXT) (P : Program) (w : World) (K : PySem.W.Frag) (mg : Str → Option Value) (base : Heap) (N : List Str) (qual : Str) (scope : Scope) (f : Addr) (cd : Value) (A : Around) (outer : List Env) (s : Shared) (H : Hp) (E : XK) : Cx where
  prog := P
  w := w
  K := K
  mg := mg
  base := base
  A := A.deeper (envOfC qual scope s.heap.objs.size f cd)
  N := N
  s₀ := s
  H₀ := H
  env := envOfC qual scope s.heap.objs.size f cd
  outer := outer
  stack := envOfC qual scope s.heap.objs.size f cd :: outer
  ex := []
  calm := true
  fn := fun _ => true
  pn := []
  xe := fun e s' => wpAny (model P w) (A.deeper (envOfC qual scope s.heap.objs.size f cd)) (leaving (envOfC qual scope s.heap.objs.size f cd) e) (fun _ s'' => CX outer H s E e s'') (fun e' s'' => CX outer H s E e' s'') s'

theorem cell_has {sc : Scope} {n : Nat} {x : Str} (h : sc.names.lookup x = some .cell) : ∃ c, (cellsFrom n sc.names []).lookup x = some c := by
  have q := PySem.W.cellsFrom_some sc.names n [] (.inl h)
  exact Option.isSome_iff_exists.mp q

theorem inv_start {CX : CXT} {P : Program} {w : World} {K : PySem.W.Frag} {mg : Str → Option Value} {base : Heap} {N ps : List Str} {qual : Str} {scope : Scope} {f : Addr} {cd : Value} {A : Around} {outer : List Env} {s s1 : Shared} {H : Hp} {E : XK} {us : List Value} {vs : List V}
    (S : FnScope N ps scope) (hd : A.handled = none) (e0 : Env0 P w K mg base A outer s H) (hl : vs.length = ps.length) (r : Vals vs us)
    (x : InCallC s s.heap.objs.size (bindL (envOfC qual scope s.heap.objs.size f cd).kindOf (ps.zip us) fun _ => none) (cellsFrom (s.heap.objs.size + 1) scope.names []) (bindC (envOfC qual scope s.heap.objs.size f cd).kindOf (ps.zip us) fun _ => none) s1) :
    Inv (cxOf CX P w K mg base N qual scope f cd A outer s H E) [] (start N vs) H s1 := by
  have hpl : ps.length ≤ N.length := by have := congrArg List.length S.pre; rw [List.length_take] at this; omega
  obtain ⟨h1, tk, rfl, hk⟩ := x.done
  have noA : ∀ b : Addr, b ∉ (cxOf CX P w K mg base N qual scope f cd A outer s H E).ex := fun b z => absurd (show b ∈ ([] : List Addr) from z) (by simp)
  refine ⟨⟨e0.mod, S.kind, rfl, rfl, Nat.le_refl _, fun y z c h1 h2 => ?_, fun y hy => ?_, fun y c _ h => ?_, fun _ => hd, Around.frames_deeper e0.frames, .inr ⟨rfl, rfl⟩, fun b z => absurd z (noA b), e0.bs, e0.bsz, fun b _ _ => noA b, fun b z => absurd z (noA b), e0.funs, e0.frf⟩,
    rfl, e0.bare, Un.kept hk, ⟨_, x.toInCall.ns, fun i y v h1 h2 h3 => ?_⟩, fun y c h => ⟨_, x.cell y c h⟩, e0.hok.fresh (Nat.le_refl _), fun y c h => ?_, fun p hp => absurd (show p ∈ ([] : List (Addr × Obj)) from hp) (by simp), e0.hok.kept hk, ?_⟩
  · exact name_of_addr x.apart (PySem.mem_of_lookup h1) (PySem.mem_of_lookup h2)
  · have hy : scope.names.lookup y = some .cell ∨ scope.names.lookup y = some .free := hy
    rcases hy with hy | hy
    · exact cell_has hy
    · exact absurd rfl (S.nofree _ (PySem.mem_of_lookup hy))
  · exact Nat.le_of_lt (x.above y c (PySem.mem_of_lookup h))
  · have hi : i < vs.length := by
      unfold start at h2
      by_cases hi : i < vs.length
      · exact hi
      · rw [List.getElem?_append_right (by simpa using hi)] at h2
        rw [List.getElem?_replicate] at h2
        split at h2 <;> cases h2
    have ha : vs[i]? = some v := by
      unfold start at h2
      rw [List.getElem?_append_left (by simpa using hi), List.getElem?_map] at h2
      cases e : vs[i]? with
      | none => rw [e] at h2; cases h2
      | some a => rw [e] at h2; cases h2; rfl
    obtain ⟨u, hu, rv⟩ := r.get ha
    have hp : ps[i]? = some y := by
      rw [← S.pre, List.getElem?_take_of_lt (by omega)]; exact h1
    have ndP : ps.Nodup := by rw [← S.pre]; exact S.nd.sublist (List.take_sublist _ _)
    refine ⟨u, rv, ?_⟩
    rcases S.par y (List.mem_of_getElem? hp) with k | k
    · exact .inl ⟨k, bindL_get ndP hp hu k⟩
    · obtain ⟨c, e⟩ := cell_has (n := s.heap.objs.size + 1) k
      refine .inr ⟨.inl k, c, e, ?_⟩
      have q := x.cell y c e
      rw [bindC_get ndP hp hu (by show scope.names.lookup y ≠ _; rw [k]; decide)] at q
      exact q
  · exact e0.hok.fresh (Nat.le_of_lt (x.above y c (PySem.mem_of_lookup h)))
  · unfold start
    show _ = N.length
    rw [List.length_append, List.length_map, List.length_replicate]
    omega

/-- THE RULE: a def (or a method) of the text, by its body. The body's reading t is chosen for each entry; it is run at the parameters' values -/
theorem fn_of {CX : CXT} {P : Program} {w : World} {K : PySem.W.Frag} {mg : Str → Option Value} {base : Heap} {k : Nat} {f : Addr} {name qual : Str} {params : Arguments} {body : List Stmt} {scope : Scope} {dV kV doc pm cdv ct oc : Value} {an od : Option Addr}
    {osl : Array (Option Value)} {N ps : List Str} {sp : Sp} (lk : K.lookup f = some ⟨oc, od, .func (PySem.W.fnOf name qual params body scope dV kV doc pm an cdv ct), osl⟩) (hcd : PySem.W.codeIn K cdv qual = true) (S : FnScope N ps scope)
    (len : ∀ vs H Q E, sp vs H Q E → vs.length = ps.length)
    (hbody : ∀ (A : Around) (outer : List Env) (s : Shared) (H : Hp) (vs : List V) (Q : VK) (E : XK), Room k (A.deeper (envOfC qual scope s.heap.objs.size f cdv)) → sp vs H Q E →
      ∃ t, PSs (cxOf CX P w K mg base N qual scope f cdv A outer s H E) body t ∧ t { nx := fun _ H' => Q .non H', rt := Q } (start N vs) H) :
    FnOk P w K mg base CX (k + 1) f (PySem.W.fnOf name qual params body scope dV kV doc pm an cdv ct) ps sp := by
  refine ⟨len, fun A outer s H args us vs Q E hr e0 hb r hsp => ?_⟩
  have hl := len _ _ _ _ hsp
  have KX : K.In s.heap := e0.mod.kin.keeps fun b o e => (e0.bs b o e).1
  have lim : s.heap.NoLimit := e0.mod.nolimit.keeps fun b o e => (e0.bs b o e).1
  have hkind : ∀ y ∈ ps.zip us, scope.names.lookup y.1 = some .local ∨ (scope.names.lookup y.1 = some .cell ∧ ((cellsFrom (s.heap.objs.size + 1) scope.names []).lookup y.1).isSome = true) := fun ⟨n, v⟩ hy => by
    rcases S.par n (List.of_mem_zip hy).1 with q | q
    · exact .inl q
    · exact .inr ⟨q, PySem.W.cellsFrom_some _ _ _ (.inl q)⟩
  refine codeAny_call_function hr.depth (KX _ _ lk) rfl S.co S.gen rfl (PySem.W.codeRec_of KX hcd) (hb _ _ _ _ ?_)
  refine wpAny_newFunctionEnv_cells S.kind hkind fun env he s1 x => ?_
  subst he
  refine ⟨lim.keeps x.toInCall.keep, codeAny_func ?_⟩
  obtain ⟨t, ht, hq⟩ := hbody A outer s H vs Q E (hr.deeper _) hsp
  have I : Inv (cxOf CX P w K mg base N qual scope f cdv A outer s H E) [] (start N vs) H s1 := inv_start S hr.hd e0 hl r x
  refine wpAny_mono (ht [] s1 (start N vs) H _ I hq) (fun fl s' hs => ?_) fun e s' hs => hs
  have fin : ∀ {σ' : St} {H' : Hp} {v : V} {u : Value}, Inv (cxOf CX P w K mg base N qual scope f cdv A outer s H E) [] σ' H' s' → RelV v u → Q v H' → CE outer P w H s Q u s' :=
    fun {σ' H' v u} J rv q => ⟨v, H', J.os, J.bare, J.base, J.hok, rv, q⟩
  cases fl with
  | ret u =>
    obtain ⟨v, σ', H', J, rv, q⟩ := hs
    exact fin J rv q
  | next =>
    obtain ⟨σ', H', J, q⟩ := hs
    exact fin (v := V.non) (u := Value.none) J rfl q
  | brk =>
    obtain ⟨_, _, _, q⟩ := hs
    exact False.elim q
  | cont =>
    obtain ⟨_, _, _, q⟩ := hs
    exact False.elim q
end L2

namespace L2
open PySem PySem.Spec PyProof.Rows
section
variable {X : Cx} {x : Str} {p pos : Pos} {e : Expr} {es : List Expr} {t : TA} {id T : String} {r : List V → Hp → VK → Prop}

def tCB (r : List V → Hp → VK → Prop) (t : TA) : TE := fun σ H Q => t σ H fun vs H1 => r vs H1 Q
/-- f(e, ..), f a built-in function -/
theorem pe_callB (hc : CallR X (.builtin id) r) (hg : Gl X x) (hm : X.mg x = none) (hv : bootBuiltins x = some (.builtin id)) (ha : PA X (e :: es) t) (hn : x ≠ "__name__" := by decide) (hdb : (x == ("__debug__" : Str)) = false := by decide)
    (he : starEach (e :: es) X.env = (false, eval e X.env) :: starEach es X.env := by rfl) (hpl : (backTo pos (starEach es X.env)).any (·.1) = false := by rfl) : PE X (.Call (.Name x p) (e :: es) [] pos) (tCB r t) := by
  intro pins s σ H Q I h
  refine wpAny_Call_Name_kw (ld_blt I hg hm hv ?_ hn hdb)
  exact PyProof.Rows.callWith_builtin1 (thn (ha pos pins s σ H _ I h) fun us s1 ⟨vs, H1, I1, r1, q1⟩ => hc pins s1 σ H1 vs us Q I1 r1 q1) he hpl
/-- T(e, ..), T a built-in type -/
theorem pe_callTy (hc : CallR X (.type T) r) (hg : Gl X x) (hm : X.mg x = none) (hv : bootBuiltins x = some (.type T)) (ha : PA X (e :: es) t) (hn : x ≠ "__name__" := by decide) (hdb : (x == ("__debug__" : Str)) = false := by decide)
    (he : starEach (e :: es) X.env = (false, eval e X.env) :: starEach es X.env := by rfl) (hpl : (backTo pos (starEach es X.env)).any (·.1) = false := by rfl) : PE X (.Call (.Name x p) (e :: es) [] pos) (tCB r t) := by
  intro pins s σ H Q I h
  refine wpAny_Call_Name_kw (ld_blt I hg hm hv ?_ hn hdb)
  exact PyProof.Rows.callWith_type1 (thn (ha pos pins s σ H _ I h) fun us s1 ⟨vs, H1, I1, r1, q1⟩ => hc pins s1 σ H1 vs us Q I1 r1 q1) he hpl
end
end L2

namespace HT
open PySem PyProof.Rows

/-- t < u of tuples of ints -/
def lexLt : List Int → List Int → Bool
  | [], [] => false
  | [], _ :: _ => true
  | _ :: _, [] => false
  | x :: xs, y :: ys => if x = y then lexLt xs ys else decide (x < y)


section
open PySem.SeqAt
open PySem.AutoSeq1 (wpAny_loadPart')
open PySem.MeetsSeq PySem.MeetsSeq2 PySem.MeetsSeq3

end

section
variable {prog : Program} {w : World} {A : Around} {E : Value → Shared → Prop} {s : Shared}


/-- t + u, t not empty -/
theorem cat_tup {t b : Addr} {vs ws : List Value} {Q : Value → Shared → Prop} (ht : IsTup s.heap t vs.toArray) (hb : IsTup s.heap b ws.toArray) (hv : vs ≠ [])
    (h1 : ws = [] → Q (.ref t) s) (h2 : ws ≠ [] → Q (.ref s.heap.objs.size) { s with heap := s.heap.push { cls := .type "tuple", data := .seq (vs ++ ws).toArray } })
    (hsz : vs.length + ws.length ≤ sizeLine) : wpAny (model prog w) A (binaryOp .Add (.ref t) (.ref b)) Q E s := by
  obtain ⟨⟨cls, dd, data, sl⟩, ho, hc, n, hd⟩ := id ht
  obtain ⟨⟨cls2, dd2, data2, sl2⟩, ho2, hc2, n2, hd2⟩ := id hb
  simp only at hc hd hc2 hd2
  subst hc hd hc2 hd2
  have e : vs.toArray ++ ws.toArray = (vs ++ ws).toArray := by simp
  by_cases hw : ws = []
  · exact concat_meets ⟨_, ho, rfl⟩ ⟨_, ho2, rfl⟩ noFill_tuple_add seq_tuple_add PySem.F.slot_tuple_add PySem.F.entry_tuple_add (PySem.F.args_tuple_add_2 _ _)
      (tuple_addW1 t b vs.toArray ws.toArray n n2 dd dd2 sl sl2 (by simpa using hv) (by simp [hw])) ⟨ho, ho2, h1 hw⟩
  · refine concat_meets ⟨_, ho, rfl⟩ ⟨_, ho2, rfl⟩ noFill_tuple_add seq_tuple_add PySem.F.slot_tuple_add PySem.F.entry_tuple_add (PySem.F.args_tuple_add_2 _ _)
      (tuple_addW2 t b vs.toArray ws.toArray n n2 dd dd2 sl sl2 (by simpa using hv) (by simpa using hw) (by rw [List.size_toArray, List.size_toArray]; exact hsz)) ⟨ho, ho2, ?_⟩
    rw [e]
    exact h2 hw

/-! ### t[a:b], not the whole -/
/-- a slice's bound as a place among n (d where it is left out) -/
def sIx (n d : Nat) : Option Int → Nat
  | none => d
  | some v => if v < 0 then (v + (n : Int)).toNat else min v.toNat n
theorem sIx_none (n d : Nat) : sIx n d none = d := rfl
theorem sIx_nat (n d k : Nat) : sIx n d (some (k : Int)) = min k n := by
  show (if (k : Int) < 0 then ((k : Int) + (n : Int)).toNat else min (k : Int).toNat n) = min k n
  rw [if_neg (by omega), Int.toNat_natCast]

end
end HT

namespace L2
open PySem PySem.Spec PyProof.Rows

/-! ### the parts of a slice -/
abbrev TO := St → Hp → (Option Int → Hp → Prop) → Prop
/-- a slice's part (left out, or an int) -/
def PO (X : Cx) (e : Option Expr) (t : TO) : Prop :=
  ∀ (pins : List (Addr × Obj)) (s : Shared) (σ : St) (H : Hp) (Q : Option Int → Hp → Prop), Inv X pins σ H s → t σ H Q →
    wpAny (model X.prog X.w) X.A (evalPart e X.env) (fun u s' => ∃ o H', Inv X pins σ H' s' ∧ IsPart u o ∧ Q o H') X.xe s
def tNoPart : TO := fun _ H Q => Q none H
def tPart (t : TE) : TO := fun σ H Q => t σ H fun x H1 => ∃ i, x = .int i ∧ Q (some i) H1


section
variable {X : Cx} {e : Expr} {te : TE} {lo hi : Option Expr} {tl th : TO} {pos p2 : Pos}

theorem po_none : PO X none tNoPart := by
  intro pins s σ H Q I h
  rw [evalPart_none]
  exact wpAny_pure ⟨none, H, I, .none, h⟩
theorem po_some (h : PE X e te) : PO X (some e) (tPart te) := by
  intro pins s σ H Q I hw
  rw [evalPart_some]
  refine thn (h pins s σ H _ I hw) fun u s1 ⟨x, H1, I1, r1, q1⟩ => ?_
  obtain ⟨i, rfl, q⟩ := q1
  obtain ⟨t, rfl⟩ := r1
  exact ⟨some i, H1, I1, .int i t, q⟩

/-- what a slice of a value is, by values: the slice object stands at sl -/
def SlR (X : Cx) (r : V → Option Int → Option Int → Hp → VK → Prop) : Prop :=
  ∀ (pins : List (Addr × Obj)) (s : Shared) (σ : St) (H : Hp) (x : V) (v vl vu : Value) (lo hi : Option Int) (sl : Addr) (Q : VK), Inv X pins σ H s → RelV x v → s.heap.IsSliceOf sl vl vu .none → IsPart vl lo → IsPart vu hi → r x lo hi H Q →
    ∃ T id, typeLookup (.type T) "__getitem__" = pure (some (.builtin id)) ∧ s.TypeIs v T ∧ wpAny (model X.prog X.w) X.A (getItem v (.ref sl)) (EP X pins σ Q) X.xe s
theorem SlR.or {r r' : V → Option Int → Option Int → Hp → VK → Prop} (h : SlR X r) (h' : SlR X r') : SlR X (fun x lo hi H Q => r x lo hi H Q ∨ r' x lo hi H Q) := by
  intro pins s σ H x v vl vu lo hi sl Q I rx hs pl pu q
  rcases q with q | q
  · exact h pins s σ H x v vl vu lo hi sl Q I rx hs pl pu q
  · exact h' pins s σ H x v vl vu lo hi sl Q I rx hs pl pu q
def tSl (r : V → Option Int → Option Int → Hp → VK → Prop) (te : TE) (tl th : TO) : TE := fun σ H Q => te σ H fun x H1 => tl σ H1 fun l H2 => th σ H2 fun u H3 => r x l u H3 Q
/-- a[lo:hi], any a -/
theorem pe_slice {r : V → Option Int → Option Int → Hp → VK → Prop} (hr : SlR X r) (he : PE X e te) (hl : PO X lo tl) (hu : PO X hi th) : PE X (.Subscript e (.Slice lo hi none p2) pos) (tSl r te tl th) := by
  intro pins s σ H Q I h
  refine Subscript_ (thn (he pins s σ H _ I h) fun v s1 ⟨x, H1, I1, r1, q1⟩ => ?_)
  refine wpAny_Slice (thn (hl pins s1 σ H1 _ I1 q1) fun vl s2 ⟨l, H2, I2, pl, q2⟩ => thn (hu pins s2 σ H2 _ I2 q2) fun vu s3 ⟨u, H3, I3, pu, q3⟩ => ?_)
  rw [evalPart_none]
  refine wpAny_pure ?_
  have I4 : Inv X pins σ H3 { s3 with heap := s3.heap.push { cls := .type "slice", data := .fields #[vl, vu, .none] } } := I3.kept (t' := s3.toks) fun b ob q => Heap.get?_push_of_some _ q
  obtain ⟨T, id, hT, ht, hg⟩ := hr pins { s3 with heap := s3.heap.push { cls := .type "slice", data := .fields #[vl, vu, .none] } } σ H3 x v vl vu l u s3.heap.objs.size Q I4 r1 (Heap.IsSliceOf.new ..) pl pu q3
  show wpAny (model X.prog X.w) X.A (subscriptTail e (.Slice lo hi none p2) v (.ref s3.heap.objs.size)) (EP X pins σ Q) X.xe { s3 with heap := s3.heap.push { cls := .type "slice", data := .fields #[vl, vu, .none] } }
  exact tail_any (ops := [.ref s3.heap.objs.size, v]) ht hT hg (by with_unfolding_all rfl)

/-- the items of xs[lo:hi] -/
def cutV (xs : List V) (lo hi : Option Int) : List V := (xs.drop (HT.sIx xs.length 0 lo)).take (HT.sIx xs.length xs.length hi - HT.sIx xs.length 0 lo)
theorem cutV_length (xs : List V) (lo hi : Option Int) : (cutV xs lo hi).length ≤ xs.length := by
  unfold cutV
  rw [List.length_take, List.length_drop]
  omega
/-- t[lo:hi], not the whole of it (the whole would be t itself) -/
def rSlT (K : PySem.W.Frag) : V → Option Int → Option Int → Hp → VK → Prop := fun x lo hi H Q => ∃ a xs, x = .ref a ∧ SqT K H a xs ∧
  ¬ (HT.sIx xs.length 0 lo = 0 ∧ HT.sIx xs.length xs.length hi = xs.length) ∧ ∀ p, H p = none → Q (.ref p) (upd H p (.tup (cutV xs lo hi)))

/-! ### t < u, t + u -/
def rLtT (K : PySem.W.Frag) : R2 := fun x y H Q => ∃ a b ns ms, x = .ref a ∧ y = .ref b ∧ SqT K H a (ns.map V.int) ∧ SqT K H b (ms.map V.int) ∧ Q (.bl (HT.lexLt ns ms)) H
/-- t + u, t not empty: u empty gives t itself -/
def rCatT (K : PySem.W.Frag) : R2 := fun x y H Q => ∃ a b xs ys, x = .ref a ∧ y = .ref b ∧ SqT K H a xs ∧ SqT K H b ys ∧ xs ≠ [] ∧ xs.length + ys.length ≤ sizeLine ∧
  (ys = [] → Q (.ref a) H) ∧ (ys ≠ [] → ∀ p, H p = none → Q (.ref p) (upd H p (.tup (xs ++ ys))))
theorem Vals.nil_iff {xs : List V} {us : List Value} (r : Vals xs us) : us = [] ↔ xs = [] := by
  cases r with
  | nil => simp
  | cons _ _ => simp
theorem op_catT : OpR X (binaryOp .Add) (rCatT X.K) := by
  intro pins s σ H x y v u Q I rx ry h
  obtain ⟨a, b, xs, ys, rfl, rfl, ha, hb, hx, hz, q1, q2⟩ := h
  cases rx
  cases ry
  obtain ⟨its, r1, p1, _⟩ := I.tuple ha
  obtain ⟨its2, r2, p2, _⟩ := I.tuple hb
  refine HT.cat_tup p1 p2 (fun z => hx (r1.nil_iff.mp z)) (fun z => ⟨.ref a, H, I, rfl, q1 (r2.nil_iff.mp z)⟩) (fun z => ?_) (by rw [← r1.length, ← r2.length]; exact hz)
  refine ⟨.ref s.heap.objs.size, _, I.laid (t' := s.toks) (o := .tup (xs ++ ys)) (fun b ob q => Heap.get?_push_of_some _ q) (Nat.le_refl _) ?_, rfl, q2 (fun w => z (r2.nil_iff.mpr w)) _ (I.hok.fresh (Nat.le_refl _))⟩
  exact ⟨by rw [List.length_append]; exact hz, _, r1.append r2, IsTup.new _ _⟩
end
end L2

namespace L2
open PySem PySem.Spec PyProof.Rows

/-! ### places -/
/-- the place that an index of any sign means -/
def ixN (n : Nat) (i : Int) : Option Nat := if 0 ≤ i then (if i < n then some i.toNat else none) else if -(n : Int) ≤ i then some (i + n).toNat else none
def atI {α : Type} (xs : List α) (i : Int) : Option α := (ixN xs.length i).bind fun j => xs[j]?
theorem ixN_seq {n : Nat} {i : Int} {j : Nat} (h : ixN n i = some j) : seqIndex? i n = some j ∧ j < n ∧ -(n : Int) ≤ i ∧ i < n := by
  unfold ixN at h
  by_cases h0 : 0 ≤ i
  · rw [if_pos h0] at h
    by_cases h1 : i < n
    · rw [if_pos h1] at h
      have e : i.toNat = j := Option.some.inj h
      exact ⟨by rw [seqIndex_of h0 h1, e], by omega, by omega, h1⟩
    · rw [if_neg h1] at h; cases h
  · rw [if_neg h0] at h
    by_cases h1 : -(n : Int) ≤ i
    · rw [if_pos h1] at h
      have e : (i + n).toNat = j := Option.some.inj h
      exact ⟨by rw [seqIndex_neg (by omega) h1, e], by omega, h1, by omega⟩
    · rw [if_neg h1] at h; cases h
theorem atI_get {α : Type} {xs : List α} {i : Int} {v : α} (h : atI xs i = some v) : ∃ j, seqIndex? i xs.length = some j ∧ xs[j]? = some v ∧ j < xs.length ∧ -(xs.length : Int) ≤ i ∧ i < xs.length := by
  unfold atI at h
  cases e : ixN xs.length i with
  | none => rw [e] at h; cases h
  | some j =>
    rw [e] at h
    obtain ⟨h1, h2, h3, h4⟩ := ixN_seq e
    exact ⟨j, h1, h, h2, h3, h4⟩
theorem atI_nat {α : Type} {xs : List α} {j : Nat} {v : α} (h : xs[j]? = some v) : atI xs (j : Int) = some v := by
  have hj : j < xs.length := (List.getElem?_eq_some_iff.mp h).1
  have e : ixN xs.length (j : Int) = some j := by
    unfold ixN
    rw [if_pos (by omega), if_pos (by omega)]; simp
  unfold atI; rw [e]; exact h
theorem atI_last {α : Type} (xs : List α) (v : α) : atI (xs ++ [v]) (-1) = some v := by
  have hl : (xs ++ [v]).length = xs.length + 1 := by simp
  have e : ixN (xs ++ [v]).length (-1) = some xs.length := by
    unfold ixN
    rw [hl, if_neg (by decide), if_pos (by omega)]
    congr 1
    omega
  unfold atI
  rw [e]
  show (xs ++ [v])[xs.length]? = some v
  simp

/-! ### what may be subscripted -/
/-- what stands as an index of a plain subscript -/
def PlainIx (b : Expr) : Prop := ∀ o i, subscripted b false o i = operate [o, i] (getItem o i)
/-- a subscript by values -/
def IxR (X : Cx) (r : R2) : Prop :=
  ∀ (value slice : Expr) (pins : List (Addr × Obj)) (s : Shared) (σ : St) (H : Hp) (x y : V) (v u : Value) (Q : VK), Inv X pins σ H s → RelV x v → RelV y u → r x y H Q →
    subscripted slice false v u = operate [v, u] (getItem v u) → wpAny (model X.prog X.w) X.A (subscriptTail value slice v u) (EP X pins σ Q) X.xe s
/-- a call of a builtin's method by values: the receiver, the arguments -/
def MtR (X : Cx) (id : String) (r : V → List V → Hp → VK → Prop) : Prop :=
  ∀ (pins : List (Addr × Obj)) (s : Shared) (σ : St) (H : Hp) (x : V) (xs : List V) (v : Value) (us : List Value) (Q : VK), Inv X pins σ H s → RelV x v → Vals xs us → r x xs H Q →
    wpAny (model X.prog X.w) X.A (call (.builtin id) (v :: us)) (EP X pins σ Q) X.xe s
section
variable {X : Cx} {a b : Expr} {ta tb : TE} {pos : Pos}
theorem IxR.or {r r' : R2} (h : IxR X r) (h' : IxR X r') : IxR X (fun x y H Q => r x y H Q ∨ r' x y H Q) := by
  intro value slice pins s σ H x y v u Q I rx ry q hs
  rcases q with q | q
  · exact h value slice pins s σ H x y v u Q I rx ry q hs
  · exact h' value slice pins s σ H x y v u Q I rx ry q hs
theorem MtR.or {id : String} {r r' : V → List V → Hp → VK → Prop} (h : MtR X id r) (h' : MtR X id r') : MtR X id (fun x xs H Q => r x xs H Q ∨ r' x xs H Q) := by
  intro pins s σ H x xs v us Q I rx rs q
  rcases q with q | q
  · exact h pins s σ H x xs v us Q I rx rs q
  · exact h' pins s σ H x xs v us Q I rx rs q
/-- a[b] -/
theorem pe_ix {r : R2} (hr : IxR X r) (ha : PE X a ta) (hb : PE X b tb) (hs : PlainIx b) : PE X (.Subscript a b pos) (tOp r ta tb) := by
  intro pins s σ H Q I h
  exact Subscript_ (binT ha hb I h fun v u s2 x y H2 I2 rx ry q => hr a b pins s2 σ H2 x y v u Q I2 rx ry q (hs _ _))

def rIxL (K : PySem.W.Frag) : R2 := fun x y H Q => ∃ p xs i v, x = .ref p ∧ y = .int i ∧ SqL K H p xs ∧ atI xs i = some v ∧ Q v H
def rIxT (K : PySem.W.Frag) : R2 := fun x y H Q => ∃ p xs i v, x = .ref p ∧ y = .int i ∧ SqT K H p xs ∧ atI xs i = some v ∧ Q v H
def rIxS : R2 := fun x y H Q => ∃ z i c, x = .str z ∧ y = .int i ∧ z.length ≤ sizeLine ∧ atI z.cps.toList i = some c ∧ Q (.str ⟨#[c]⟩) H
theorem ix_list : IxR X (rIxL X.K) := by
  intro value slice pins s σ H x y v u Q I rx ry h hs
  obtain ⟨p, xs, i, z, rfl, rfl, hq, he, q⟩ := h
  cases rx
  obtain ⟨t, rfl⟩ := ry
  obtain ⟨its, r, pl, hz⟩ := I.list hq
  obtain ⟨j, h1, h2, h3, h4, h5⟩ := atI_get he
  obtain ⟨w, ew, rw'⟩ := r.get h2
  have hl := r.length
  have hn := line63
  have fin : EP X pins σ Q w s := ⟨z, H, I, rw', q⟩
  by_cases h0 : 0 ≤ i
  · have hj : i.toNat = j := by
      rw [seqIndex_of h0 h5] at h1
      exact Option.some.inj h1
    exact item_listR pl.isList h0 (by omega) (by rw [hj]; simpa using ew) fin hs
  · have hj : (i + (its.toArray.size : Int)).toNat = j := by
      rw [seqIndex_neg (by omega) h4] at h1
      rw [List.size_toArray, ← hl]
      exact Option.some.inj h1
    exact subscriptTail_builtinR (x := w) pl.isList.typeIs slot_list_getitem.lookup
      (wpAny_getItem_list_neg (Q := fun r s' => r = w ∧ EP X pins σ Q r s') pl.isList (by omega) (by rw [List.size_toArray] <;> omega) (by omega) (by rw [hj]; simpa using ew) ⟨rfl, fin⟩) hs
theorem ix_tup : IxR X (rIxT X.K) := by
  intro value slice pins s σ H x y v u Q I rx ry h hs
  obtain ⟨p, xs, i, z, rfl, rfl, hq, he, q⟩ := h
  cases rx
  obtain ⟨t, rfl⟩ := ry
  obtain ⟨its, r, pl, hz⟩ := I.tuple hq
  obtain ⟨j, h1, h2, h3, h4, h5⟩ := atI_get he
  obtain ⟨w, ew, rw'⟩ := r.get h2
  have hl := r.length
  have hn := line63
  have fin : EP X pins σ Q w s := ⟨z, H, I, rw', q⟩
  exact subscriptTail_builtinR (x := w) pl.typeIs slot_tuple_getitem.lookup
    (getItem_tuple (j := j) (Q := fun r s' => r = w ∧ EP X pins σ Q r s') pl (by omega) (by omega) (by rw [List.size_toArray, ← hl]; exact h1) (by simpa using ew) ⟨rfl, fin⟩) hs
theorem ix_str : IxR X rIxS := by
  intro value slice pins s σ H x y v u Q I rx ry h hs
  obtain ⟨z, i, c, rfl, rfl, hz, he, q⟩ := h
  obtain ⟨t, rfl⟩ := rx
  obtain ⟨t', rfl⟩ := ry
  obtain ⟨j, h1, h2, h3, h4, h5⟩ := atI_get he
  have hl : z.cps.toList.length = z.length := by simp [Str.length]
  rw [hl] at h1 h4 h5
  have hn := line63
  exact tail_any (typeIs_str s z t) slot_str_getitem.lookup (getItem_str (c := c) (by
    have e1 : decide (i < -(2 ^ 63 : Int)) = false := decide_eq_false (by omega)
    have e2 : decide (i ≥ 2 ^ 63) = false := decide_eq_false (by omega)
    rw [e1, e2, Bool.or_false]) (by rw [h1]; simpa using h2) ⟨.str ⟨#[c]⟩, H, I.tok _, ⟨_, rfl⟩, q⟩) hs
/-- list, tuple or str -/
def rIx (K : PySem.W.Frag) : R2 := fun x y H Q => rIxL K x y H Q ∨ rIxT K x y H Q ∨ rIxS x y H Q
theorem ix_seq : IxR X (rIx X.K) := ix_list.or (ix_tup.or ix_str)

/-! ### xs[i] = v, any sign -/
/-- the list's object behind a store -/
theorem mapSeq_set (its : List Value) (n j : Nat) (u : Value) : Obj.mapSeq (·.setIfInBounds j u) { cls := .type "list", data := .seq its.toArray n } = { cls := .type "list", data := .seq (its.set j u).toArray n } := by
  simp [Obj.mapSeq]
theorem Inv.lst {pins : List (Addr × Obj)} {σ : St} {H : Hp} {s : Shared} {p : Addr} {xs : List V} (I : Inv X pins σ H s) (h : H p = some (.lst xs)) :
    ∃ (its : List Value) (n : Nat), Vals xs its ∧ s.heap.get? p = some { cls := .type "list", data := .seq its.toArray n } ∧ xs.length ≤ sizeLine := by
  obtain ⟨z, its, n, r, e⟩ := I.hok p _ h
  exact ⟨its, n, r, e, z⟩
/-- the list at p is written by an update of its object -/
theorem Inv.lstUpd {pins : List (Addr × Obj)} {σ : St} {H : Hp} {s : Shared} {p : Addr} {xs ys : List V} {its its' : List Value} {n n' : Nat} {f : Obj → Obj} (I : Inv X pins σ H s) (h : H p = some (.lst xs))
    (ho : s.heap.get? p = some { cls := .type "list", data := .seq its.toArray n }) (hf : f { cls := .type "list", data := .seq its.toArray n } = { cls := .type "list", data := .seq its'.toArray n' }) (r : Vals ys its') (hz : ys.length ≤ sizeLine) (t : Nat) :
    Inv X pins σ (upd H p (.lst ys)) { s with heap := s.heap.update p f, toks := t } := by
  have e : (s.heap.update p f).get? p = some { cls := .type "list", data := .seq its'.toArray n' } := by
    rw [Heap.get?_update_self f ho (by rw [hf] <;> rfl), hf]
  refine I.write (x := p) (e := p) (by rw [h]; trivial) (.inl rfl) (fun b u hb q => (Heap.get?_update_other _ _ (Ne.symm hb)).trans q) ⟨_, e⟩ ?_
  exact ⟨hz, its', n', r, e⟩
def rSetL : V → V → V → Hp → (Hp → Prop) → Prop := fun o i v H Q => ∃ p xs k j, o = .ref p ∧ i = .int k ∧ H p = some (.lst xs) ∧ ixN xs.length k = some j ∧ Q (upd H p (.lst (xs.set j v)))
theorem set_list : PSet X rSetL := by
  intro pins s σ H o i v ov iv u Q I ro ri rv h
  obtain ⟨p, xs, k, j, rfl, rfl, hp, hj, q⟩ := h
  cases ro
  obtain ⟨t, rfl⟩ := ri
  obtain ⟨its, n, r, ho, hz⟩ := I.lst hp
  obtain ⟨h1, h2, h3, h4⟩ := ixN_seq hj
  have hl := r.length
  have hn := line63
  have I' : Inv X pins σ (upd H p (.lst (xs.set j v))) { s with heap := s.heap.update p (Obj.mapSeq (·.setIfInBounds j u)) } :=
    I.lstUpd hp ho (mapSeq_set its n j u) (r.set rv j) (by rw [List.length_set]; exact hz) s.toks
  by_cases h0 : 0 ≤ k
  · have hk : k.toNat = j := by
      rw [seqIndex_of h0 h4] at h1
      exact Option.some.inj h1
    exact PySem.W.ki_setAt ho h0 (by omega) (by rw [List.size_toArray, ← hl]; exact h4) (by rw [hk]; exact ⟨_, I', q⟩)
  · have hk : (k + (its.toArray.size : Int)).toNat = j := by
      rw [seqIndex_neg (by omega) h3] at h1
      rw [List.size_toArray, ← hl]
      exact Option.some.inj h1
    exact PySem.W.ki_setBack ho (by omega) (by rw [List.size_toArray, ← hl]; exact h3) (by omega) (by rw [hk]; exact ⟨_, I', q⟩)

/-! ### slices -/
theorem slice_bounds (lo hi : Option Int) (n : Nat) : (sliceBounds lo hi none n).1 = ((HT.sIx n 0 lo : Nat) : Int) ∧ (sliceBounds lo hi none n).2.1 = ((HT.sIx n n hi : Nat) : Int) ∧ (sliceBounds lo hi none n).2.2 = 1 := by
  refine ⟨?_, ?_, rfl⟩
  · cases lo with
    | none => simp [sliceBounds, HT.sIx]
    | some i =>
      simp only [sliceBounds, HT.sIx, Option.getD_none, show (1 : Int) > 0 by decide, if_true]
      by_cases h : i < 0
      · simp only [h, if_true] <;> omega
      · simp only [h, if_false] <;> omega
  · cases hi with
    | none => simp [sliceBounds, HT.sIx]
    | some i =>
      simp only [sliceBounds, HT.sIx, Option.getD_none, show (1 : Int) > 0 by decide, if_true]
      by_cases h : i < 0
      · simp only [h, if_true] <;> omega
      · simp only [h, if_false] <;> omega
theorem slicePick_cut (its : List Value) (lo hi : Option Int) : slicePick its.toArray lo hi none = ((its.drop (HT.sIx its.length 0 lo)).take (HT.sIx its.length its.length hi - HT.sIx its.length 0 lo)).toArray := by
  obtain ⟨h1, h2, h3⟩ := slice_bounds lo hi its.toArray.size
  unfold slicePick
  rw [h1, h2, h3]
  simp only [sliceRange_one, pick_run, List.size_toArray] <;> rfl
/-- xs[lo:hi] of a list: a new list -/
def rSlL (K : PySem.W.Frag) : V → Option Int → Option Int → Hp → VK → Prop := fun x lo hi H Q => ∃ a xs, x = .ref a ∧ SqL K H a xs ∧ ∀ p, H p = none → Q (.ref p) (upd H p (.lst (cutV xs lo hi)))
theorem sl_list : SlR X (rSlL X.K) := by
  intro pins s σ H x v vl vu lo hi sl Q I rx hs pl pu h
  obtain ⟨a, xs, rfl, hx, q⟩ := h
  cases rx
  obtain ⟨its, r, ht, hz⟩ := I.list hx
  have hlen := r.length
  refine ⟨"list", _, slot_list_getitem.lookup, ht.isList.typeIs, ?_⟩
  refine wpAny_getItem_list_slice ht.isList hs pl pu .none (by simp) ?_ (by rw [List.size_toArray] <;> omega)
  rw [slicePick_cut, ← hlen]
  refine ⟨.ref s.heap.objs.size, _, I.laid (t' := s.toks) (o := .lst (cutV xs lo hi)) (fun b ob q => Heap.get?_push_of_some _ q) (Nat.le_refl _) ?_, rfl, q _ (I.hok.fresh (Nat.le_refl _))⟩
  exact ⟨Nat.le_trans (cutV_length xs lo hi) hz, _, 0, (r.drop (HT.sIx xs.length 0 lo)).take (HT.sIx xs.length xs.length hi - HT.sIx xs.length 0 lo), Heap.get?_push_size _ rfl⟩

/-! ### in, not in: flat items -/
def flatV : V → Bool
  | .non => true
  | .bl _ => true
  | .int _ => true
  | .str _ => true
  | _ => false
/-- == of flat values -/
def eqV : V → V → Bool
  | .non, .non => true
  | .bl a, .bl b => a == b
  | .bl a, .int b => (if a then 1 else 0) == b
  | .int a, .bl b => a == (if b then 1 else 0)
  | .int a, .int b => a == b
  | .str a, .str b => a == b
  | _, _ => false
theorem eqAt_V {A : Around} {s : Shared} {y x : V} {u v : Value} (ry : RelV y u) (rx : RelV x v) (fy : flatV y = true) (fx : flatV x = true) : SeqAt.EqAt A s u v (eqV y x) := by
  cases y with
  | non =>
    cases ry
    cases x with
    | non => cases rx; exact SeqAt.EqAt.same _
    | bl b => cases rx; exact SeqAt.EqAt.none_bool b
    | int b => obtain ⟨t, rfl⟩ := rx; exact SeqAt.EqAt.none_int b t
    | str b => obtain ⟨t, rfl⟩ := rx; exact SeqAt.EqAt.none_str b t
    | _ => exact absurd (show false = true from fx) Bool.false_ne_true
  | bl a =>
    cases ry
    cases x with
    | non => cases rx; exact SeqAt.EqAt.bool_none a
    | bl b => cases rx; exact SeqAt.EqAt.bool_bool a b
    | int b => obtain ⟨t, rfl⟩ := rx; exact SeqAt.EqAt.bool_int a b t
    | str b => obtain ⟨t, rfl⟩ := rx; exact SeqAt.EqAt.bool_str a b t
    | _ => exact absurd (show false = true from fx) Bool.false_ne_true
  | int a =>
    obtain ⟨t', rfl⟩ := ry
    cases x with
    | non => cases rx; exact SeqAt.EqAt.int_none a t'
    | bl b => cases rx; exact SeqAt.EqAt.int_bool a t' b
    | int b => obtain ⟨t, rfl⟩ := rx; exact SeqAt.EqAt.int_int a t' b t
    | str b => obtain ⟨t, rfl⟩ := rx; exact SeqAt.EqAt.int_str a t' b t
    | _ => exact absurd (show false = true from fx) Bool.false_ne_true
  | str a =>
    obtain ⟨t', rfl⟩ := ry
    cases x with
    | non => cases rx; exact SeqAt.EqAt.str_none a t'
    | bl b => cases rx; exact SeqAt.EqAt.str_bool a t' b
    | int b => obtain ⟨t, rfl⟩ := rx; exact SeqAt.EqAt.str_int a t' b t
    | str b => obtain ⟨t, rfl⟩ := rx; exact SeqAt.EqAt.str_str a t' b t
    | _ => exact absurd (show false = true from fx) Bool.false_ne_true
  | _ => exact absurd (show false = true from fy) Bool.false_ne_true
/-- the items' answers, read off the values (a value's own answer does not lean on its token) -/
def eqU (x : V) (u : Value) : Bool := match u with
  | .none => eqV .non x
  | .bool b => eqV (.bl b) x
  | .int i _ => eqV (.int i) x
  | .str z _ => eqV (.str z) x
  | _ => false
theorem eqU_of {x y : V} {u : Value} (r : RelV y u) (f : flatV y = true) : eqU x u = eqV y x := by
  cases y with
  | non => cases r; rfl
  | bl b => cases r; rfl
  | int i => obtain ⟨t, rfl⟩ := r; rfl
  | str z => obtain ⟨t, rfl⟩ := r; rfl
  | _ => exact absurd (show false = true from f) Bool.false_ne_true
theorem any_eqU {x : V} : ∀ {xs : List V} {us : List Value}, Vals xs us → xs.all flatV = true → us.any (eqU x) = xs.any fun y => eqV y x
  | _, _, .nil, _ => rfl
  | y :: xs, u :: us, .cons r t, f => by
    rw [List.all_cons, Bool.and_eq_true] at f
    rw [List.any_cons, List.any_cons, eqU_of r f.1, any_eqU t f.2]
theorem mem_eqAt {A : Around} {s : Shared} {x : V} {v : Value} (rx : RelV x v) (fx : flatV x = true) : ∀ {xs : List V} {us : List Value}, Vals xs us → xs.all flatV = true → ∀ u ∈ us, SeqAt.EqAt A s u v (eqU x u)
  | _, _, .nil, _ => fun u hu => by cases hu
  | y :: xs, u :: us, .cons r t, f => fun u' hu => by
    rw [List.all_cons, Bool.and_eq_true] at f
    rcases List.mem_cons.mp hu with rfl | hu
    · rw [eqU_of r f.1]; exact eqAt_V r rx f.1 fx
    · exact mem_eqAt rx fx t f.2 u' hu
def inV (x : V) (xs : List V) : Bool := xs.any fun y => eqV y x
/-- x in a list or tuple of flat items -/
def rIn (K : PySem.W.Frag) (neg : Bool) : R2 := fun x y H Q => ∃ p xs, y = .ref p ∧ (SqL K H p xs ∨ SqT K H p xs) ∧ flatV x = true ∧ xs.all flatV = true ∧ Q (.bl (if neg then !inV x xs else inV x xs)) H
theorem op_in_seq : OpR X (compareOp .In) (rIn X.K false) := by
  intro pins s σ H x y v u Q I rx ry h
  obtain ⟨p, xs, rfl, hq, fx, fs, q⟩ := h
  cases ry
  rcases hq with hq | hq
  · obtain ⟨its, r, pl, hz⟩ := I.list hq
    refine SeqAt.in_listAt (eqU x) pl.isList (fun w hw => mem_eqAt rx fx r fs w (by simpa using hw)) ⟨.bl _, H, I, rfl, ?_⟩
    rw [show its.toArray.any (eqU x) = its.any (eqU x) by simp, any_eqU r fs]
    exact q
  · obtain ⟨its, r, pl, hz⟩ := I.tuple hq
    refine SeqAt.in_tupleAt (eqU x) pl (fun w hw => mem_eqAt rx fx r fs w (by simpa using hw)) ⟨.bl _, H, I, rfl, ?_⟩
    rw [show its.toArray.any (eqU x) = its.any (eqU x) by simp, any_eqU r fs]
    exact q
theorem op_notIn_seq : OpR X (compareOp .NotIn) (rIn X.K true) := by
  intro pins s σ H x y v u Q I rx ry h
  obtain ⟨p, xs, rfl, hq, fx, fs, q⟩ := h
  cases ry
  rcases hq with hq | hq
  · obtain ⟨its, r, pl, hz⟩ := I.list hq
    refine SeqAt.notIn_listAt (eqU x) pl.isList (fun w hw => mem_eqAt rx fx r fs w (by simpa using hw)) ⟨.bl _, H, I, rfl, ?_⟩
    rw [show its.toArray.any (eqU x) = its.any (eqU x) by simp, any_eqU r fs]
    exact q
  · obtain ⟨its, r, pl, hz⟩ := I.tuple hq
    refine SeqAt.notIn_tupleAt (eqU x) pl (fun w hw => mem_eqAt rx fx r fs w (by simpa using hw)) ⟨.bl _, H, I, rfl, ?_⟩
    rw [show its.toArray.any (eqU x) = its.any (eqU x) by simp, any_eqU r fs]
    exact q
theorem op_notIn_str : OpR X (compareOp .NotIn) (fun x y H Q => ∃ i j, x = .str i ∧ y = .str j ∧ Q (.bl (!(!(Builtin.Str.occurrences j i 0 j.length 1).isEmpty))) H) := by
  intro pins s σ H x y v u Q I rx ry h
  obtain ⟨i, j, rfl, rfl, q⟩ := h
  obtain ⟨t, rfl⟩ := rx
  obtain ⟨t', rfl⟩ := ry
  exact notIn_str ⟨.bl _, H, I, rfl, q⟩

/-! ### len, list(x), tuple(x) of any list or tuple that is read -/
theorem call_len_seq : CallR X (.builtin "len") (fun xs H Q => ∃ p ys, xs = [.ref p] ∧ (SqL X.K H p ys ∨ SqT X.K H p ys) ∧ Q (.int ys.length) H) := by
  intro pins s σ H xs us Q I r h
  obtain ⟨p, ys, rfl, hq, q⟩ := h
  obtain ⟨u, rfl, rx⟩ := vals1 r
  cases rx
  have hn := line63
  rcases hq with hq | hq
  · obtain ⟨its, r', pl, hz⟩ := I.list hq
    have hlen := r'.length
    exact Calls.call_len_list pl.isList (by simp only [List.size_toArray] <;> omega) ⟨.int ys.length, H, I.tok _, ⟨s.toks + 1, by rw [List.size_toArray, hlen]⟩, q⟩
  · obtain ⟨its, r', pl, hz⟩ := I.tuple hq
    have hlen := r'.length
    exact len_tuple pl (by simp only [List.size_toArray] <;> omega) ⟨.int ys.length, H, I.tok _, ⟨s.toks + 1, by rw [List.size_toArray, hlen]⟩, q⟩
theorem call_len_str : CallR X (.builtin "len") (fun xs H Q => ∃ z, xs = [.str z] ∧ z.length ≤ sizeLine ∧ Q (.int z.length) H) := by
  intro pins s σ H xs us Q I r h
  obtain ⟨z, rfl, hz, q⟩ := h
  obtain ⟨u, rfl, t, rfl⟩ := vals1 r
  have hn := line63
  exact len_str (by omega) ⟨.int z.length, H, I.tok _, ⟨_, rfl⟩, q⟩
theorem CallR.or {f : Value} {r r' : List V → Hp → VK → Prop} (h : CallR X f r) (h' : CallR X f r') : CallR X f (fun xs H Q => r xs H Q ∨ r' xs H Q) := by
  intro pins s σ H xs us Q I rs q
  rcases q with q | q
  · exact h pins s σ H xs us Q I rs q
  · exact h' pins s σ H xs us Q I rs q
theorem call_tuple_of : CallR X (.type "tuple") (fun xs H Q => ∃ p ys, xs = [.ref p] ∧ ((SqL X.K H p ys ∧ ∀ l, H l = none → Q (.ref l) (upd H l (.tup ys))) ∨ (SqT X.K H p ys ∧ Q (.ref p) H))) := by
  intro pins s σ H xs us Q I r h
  obtain ⟨p, ys, rfl, h⟩ := h
  obtain ⟨u, rfl, rx⟩ := vals1 r
  cases rx
  rcases h with ⟨hq, q⟩ | ⟨hq, q⟩
  · obtain ⟨its, r', pl, hz⟩ := I.list hq
    have hlen := r'.length
    refine call_tuple_list pl.isList (fun h' kp => ?_) (by simp only [List.size_toArray] <;> omega)
    have I1 : Inv X pins σ H { s with heap := h' } := I.kept (t' := s.toks) kp
    have I2 : Inv X pins σ (upd H h'.objs.size (.tup ys)) { s with heap := h'.push { cls := .type "tuple", data := .seq its.toArray } } :=
      I1.laid (t' := s.toks) (fun b o e => Heap.get?_push_of_some _ e) (Nat.le_refl _) (show ObjOk X.prog X.w _ _ _ (.tup ys) from ⟨hz, its, r', IsTup.new _ _⟩)
    exact ⟨.ref h'.objs.size, _, I2, rfl, q _ (I1.hok.fresh (Nat.le_refl _))⟩
  · obtain ⟨its, r', pl, hz⟩ := I.tuple hq
    exact call_tuple_same pl ⟨.ref p, H, I, rfl, q⟩

/-! ### the call of a builtin's method: o.m(..) -/
/-- the value is of that builtin type -/
def tyV (K : PySem.W.Frag) (T : String) (x : V) (H : Hp) : Prop := match x with
  | .str _ => T = "str"
  | .int _ => T = "int"
  | .ref p => (T = "list" ∧ ∃ xs, SqL K H p xs) ∨ (T = "tuple" ∧ ∃ o, K.lookup p = some o ∧ o.cls = .type "tuple" ∧ o.dict = none) ∨
      (T = "dict" ∧ ((∃ kvs, H p = some (.dK kvs)) ∨ ∃ kvs, H p = some (.dT kvs))) ∨ (T = "set" ∧ ∃ S n, H p = some (.set S n))
  | _ => False
theorem tyV_is {pins : List (Addr × Obj)} {σ : St} {H : Hp} {s : Shared} {T : String} {x : V} {v : Value} (I : Inv X pins σ H s) (r : RelV x v) (ty : tyV X.K T x H) :
    s.TypeIs v T ∧ ∀ a, v = .ref a → ∃ ob, s.heap.get? a = some ob ∧ ob.dict = none := by
  cases x with
  | str z =>
    obtain ⟨t, rfl⟩ := r
    cases (show T = "str" from ty)
    exact ⟨typeIs_str s z t, fun _ e => nomatch e⟩
  | int i =>
    obtain ⟨t, rfl⟩ := r
    cases (show T = "int" from ty)
    exact ⟨typeIs_int s i t, fun _ e => nomatch e⟩
  | ref p =>
    cases r
    rcases ty with ⟨rfl, xs, hq⟩ | ⟨rfl, o, hk, hc, hd⟩ | ⟨rfl, hk⟩ | ⟨rfl, S, n, hk⟩
    · obtain ⟨its, _, pl, _⟩ := I.list hq
      refine ⟨pl.isList.typeIs, fun a e => ?_⟩
      cases e
      obtain ⟨o, n, e, c, hd, _⟩ := pl
      exact ⟨o, e, hd⟩
    · refine ⟨⟨o, I.kIn p o hk, hc⟩, fun a e => ?_⟩
      cases e
      exact ⟨o, I.kIn _ o hk, hd⟩
    · have z : ∃ o, s.heap.get? p = some o ∧ o.ExactDict := by
        rcases hk with ⟨kvs, hk⟩ | ⟨kvs, hk⟩
        · obtain ⟨_, _, _, _, o, _, _, e, ex, _⟩ := I.hok p _ hk
          exact ⟨o, e, ex⟩
        · obtain ⟨_, _, _, _, o, _, _, e, ex, _⟩ := I.hok p _ hk
          exact ⟨o, e, ex⟩
      obtain ⟨o, e, ex⟩ := z
      refine ⟨⟨o, e, ex.1⟩, fun a e2 => ?_⟩
      cases e2
      exact ⟨o, e, ex.2.1⟩
    · obtain ⟨o, _, _, _, e, ex, _⟩ := I.hok p _ hk
      refine ⟨⟨o, e, ex.1⟩, fun a e2 => ?_⟩
      cases e2
      exact ⟨o, e, ex.2.1⟩
  | _ => exact False.elim ty
def tBM0 (K : PySem.W.Frag) (T : String) (r : V → List V → Hp → VK → Prop) (to : TE) : TE := fun σ H Q => to σ H fun x H1 => tyV K T x H1 ∧ r x [] H1 Q
def tBM (K : PySem.W.Frag) (T : String) (r : V → List V → Hp → VK → Prop) (to : TE) (t : TA) : TE := fun σ H Q => to σ H fun x H1 => tyV K T x H1 ∧ t σ H1 fun xs H2 => r x xs H2 Q
variable {o e : Expr} {es : List Expr} {to : TE} {t : TA} {name : Str} {apos cpos : Pos} {T id : String} {r : V → List V → Hp → VK → Prop}
theorem pe_bm (pa : PlainAttrs T) (slot : Slot T name id) (hty : typeOf (.builtin id) = pure (.type "method_descriptor")) (hm : MtR X id r) (ho : PE X o to) (ha : PA X (e :: es) t)
    (hbase : attributeBase o name X.env (eval o X.env) = eval o X.env := by rfl)
    (hfew : ((backTo cpos (starEach (e :: es) X.env)).all (fun x => !x.1) && (backToKw cpos (keywordEach [] X.env)).all (fun x => x.1.isSome)
      && decide ((e :: es).length + ([] : List Keyword).length + (if ([] : List Keyword).isEmpty then 0 else 1) < 30)) = true := by rfl)
    (hline : (apos.endLine == cpos.line) = true := by rfl) (hs : starEach (e :: es) X.env = (false, eval e X.env) :: starEach es X.env := by rfl) (hplain : (backTo cpos (starEach es X.env)).any (·.1) = false := by rfl) :
    PE X (.Call (.Attribute o name apos) (e :: es) [] cpos) (tBM X.K T r to t) := by
  intro pins s σ H Q I h
  refine wpAny_Call_method_late hbase hfew hline rfl (thn (ho pins s σ H _ I h) fun v s1 ⟨x, H1, I1, r1, ty, q1⟩ => ?_)
  obtain ⟨h1, h2⟩ := tyV_is I1 r1 ty
  refine ⟨T, id, pa, slot, hty, h1, h2, ?_⟩
  have hA := ha cpos pins s1 σ H1 _ I1 q1
  rw [hs] at hA ⊢
  refine Calls.callWith_builtin (by show (false || (backTo cpos (starEach es X.env)).any (·.1)) = false; rw [hplain] <;> rfl) (Calls.evalArgs_plain ?_)
  exact thn hA fun us s2 ⟨vs, H2, I2, r2, q2⟩ => hm pins s2 σ H2 x vs v us Q I2 r1 r2 q2
/- xs.append(e), list.index on a module's tuple .. are MtR facts of 06m -/
end
end L2

namespace L2
open PySem PySem.Spec PyProof.Rows

def MtM (X : Cx) (id : String) (r : V → List V → Hp → VK → Prop) : Prop :=
  ∀ (pins : List (Addr × Obj)) (s : Shared) (σ : St) (H : Hp) (x : V) (xs : List V) (v : Value) (us : List Value) (Q : VK), Inv X pins σ H s → RelV x v → Vals xs us → r x xs H Q →
    wpAny (model X.prog X.w) X.A (call (.builtin id) (v :: us)) (EP X pins σ Q) X.xe s

/-! ### lists of values -/
theorem Vals.one : ∀ {x : V} {us : List Value}, Vals [x] us → ∃ u, us = [u] ∧ RelV x u
  | _, _, .cons r .nil => ⟨_, rfl, r⟩
theorem Vals.two : ∀ {x y : V} {us : List Value}, Vals [x, y] us → ∃ u v, us = [u, v] ∧ RelV x u ∧ RelV y v
  | _, _, _, .cons r (.cons q .nil) => ⟨_, _, rfl, r, q⟩
theorem Vals.zero : ∀ {us : List Value}, Vals [] us → us = []
  | _, .nil => rfl
theorem Vals.dropLast {xs : List V} {us : List Value} (h : Vals xs us) : Vals xs.dropLast us.dropLast := by
  induction h with
  | nil => exact .nil
  | cons r t ih =>
    cases t with
    | nil => exact .nil
    | cons q t' => exact .cons r ih
theorem Vals.eraseIdx : ∀ {xs : List V} {us : List Value} (i : Nat), Vals xs us → Vals (xs.eraseIdx i) (us.eraseIdx i)
  | _, _, _, .nil => .nil
  | _, _, 0, .cons _ t => t
  | _, _, i + 1, .cons r t => .cons r (Vals.eraseIdx i t)
theorem Vals.reverse {xs : List V} {us : List Value} (h : Vals xs us) : Vals xs.reverse us.reverse := by
  induction h with
  | nil => exact .nil
  | cons r t ih => rw [List.reverse_cons, List.reverse_cons]; exact Vals.append ih (.cons r .nil)

section
variable {X : Cx} {pins : List (Addr × Obj)} {σ : St} {H : Hp} {s : Shared} {l b : Addr} {xs ys zs : List V}

/-! ### the two steps: a tracked list is rewritten, a new list is laid -/
theorem Inv.lset {its its' : List Value} {n : Nat} {f : Array Value → Array Value} {t' : Nat} (I : Inv X pins σ H s) (hH : H l = some (.lst xs))
    (e : s.heap.get? l = some { cls := .type "list", data := .seq its.toArray n }) (hf : f its.toArray = its'.toArray) (hv : Vals ys its') (hz : ys.length ≤ sizeLine) :
    Inv X pins σ (upd H l (.lst ys)) { s with heap := s.heap.update l (Obj.mapSeq f), toks := t' } := by
  have q := PySem.IsL.update e f
  rw [hf] at q
  refine I.write (x := l) (e := l) (by rw [hH]; exact trivial) (.inl rfl) (fun b' u hb hu => (Heap.get?_update_other s.heap (Obj.mapSeq f) (Ne.symm hb)).trans hu) ⟨_, q⟩ ?_
  exact ⟨hz, its', _, hv, q⟩
theorem Inv.lnew {its : List Value} {t' : Nat} (I : Inv X pins σ H s) (hv : Vals ys its) (hz : ys.length ≤ sizeLine) :
    Inv X pins σ (upd H s.heap.objs.size (.lst ys)) { s with heap := s.heap.push { cls := .type "list", data := .seq its.toArray }, toks := t' } :=
  I.laid (fun _ _ q => Heap.get?_push_of_some _ q) (Nat.le_refl _) ⟨hz, its, 0, hv, Heap.get?_push_size _ rfl⟩
theorem Inv.fresh (I : Inv X pins σ H s) : H s.heap.objs.size = none := I.hok.fresh (Nat.le_refl _)
theorem Inv.lstM (I : Inv X pins σ H s) (hH : H l = some (.lst xs)) : xs.length ≤ sizeLine ∧ ∃ (its : List Value) (n : Nat), Vals xs its ∧ xs.length = its.length ∧ s.heap.get? l = some { cls := .type "list", data := .seq its.toArray n } := by
  obtain ⟨z, its, n, r, e⟩ := I.hok l _ hH
  exact ⟨z, its, n, r, r.length, e⟩

theorem notLongL {n : Nat} (h : n ≤ sizeLine) : Builtin.List.listTooLong n = false := by
  unfold Builtin.List.listTooLong
  exact decide_eq_false (by omega)
end

section
variable {X : Cx}

/-! ### methods -/
def rAppend : V → List V → Hp → VK → Prop := fun x vs H Q => ∃ l xs y, x = .ref l ∧ vs = [y] ∧ H l = some (.lst xs) ∧ xs.length < sizeLine ∧ Q .non (upd H l (.lst (xs ++ [y])))
theorem mt_append : MtM X "list.append" rAppend := by
  intro pins s σ H x vs v us Q I rx rv h
  obtain ⟨l, xs, y, rfl, rfl, hH, hz, q⟩ := h
  cases rx
  obtain ⟨u, rfl, ru⟩ := rv.one
  obtain ⟨z, its, n, r, hl, e⟩ := I.lstM hH
  refine call_meets F.slot_list_append ⟨_, e, rfl⟩ F.entry_list_append (F.args_list_append_2 _ _) (PySem.list_append l its.toArray n u (by rw [List.size_toArray]; omega)) ⟨e, ?_⟩
  refine ⟨.non, _, I.lset (its' := its ++ [u]) hH e (by simp) (r.append (.cons ru .nil)) ?_, rfl, q⟩
  rw [List.length_append, List.length_singleton]
  omega

def rExtend : V → List V → Hp → VK → Prop := fun x vs H Q => ∃ l b xs zs, x = .ref l ∧ vs = [.ref b] ∧ H l = some (.lst xs) ∧ H b = some (.lst zs) ∧ xs.length + zs.length ≤ sizeLine ∧ Q .non (upd H l (.lst (xs ++ zs)))
theorem mt_extend : MtM X "list.extend" rExtend := by
  intro pins s σ H x vs v us Q I rx rv h
  obtain ⟨l, b, xs, zs, rfl, rfl, hH, hB, hz, q⟩ := h
  cases rx
  obtain ⟨u, rfl, ru⟩ := rv.one
  cases ru
  obtain ⟨z, its, n, r, hl, e⟩ := I.lstM hH
  obtain ⟨z2, its2, n2, r2, hl2, e2⟩ := I.lstM hB
  have hsz : its.toArray.size + its2.toArray.size ≤ sizeLine := by rw [List.size_toArray, List.size_toArray]; omega
  have hlong : ¬ (!its.toArray.isEmpty && Builtin.List.listTooLong (its.toArray.size + its2.toArray.size)) = true := by
    rw [notLongL hsz, Bool.and_false]
    exact Bool.false_ne_true
  refine call_meets F.slot_list_extend ⟨_, e, rfl⟩ F.entry_list_extend (F.args_list_extend_2 _ _)
    (AutoSeq1.list_extend_list_list_0 l its.toArray n b its2.toArray n2 hlong (by rw [List.size_toArray]; omega) (by omega)) ⟨e, e2, ?_⟩
  refine ⟨.non, _, I.lset (its' := its ++ its2) hH e (by simp) (r.append r2) ?_, rfl, q⟩
  rw [List.length_append]
  omega

def rPop : V → List V → Hp → VK → Prop := fun x vs H Q => ∃ l xs y, x = .ref l ∧ vs = [] ∧ H l = some (.lst xs) ∧ xs[xs.length - 1]? = some y ∧ Q y (upd H l (.lst xs.dropLast))

def rPopAt : V → List V → Hp → VK → Prop := fun x vs H Q => ∃ l xs i k y, x = .ref l ∧ vs = [.int i] ∧ H l = some (.lst xs) ∧ -(2 ^ 63) ≤ i ∧ i < 2 ^ 63 ∧ seqIndex? i xs.length = some k ∧ xs[k]? = some y ∧ Q y (upd H l (.lst (xs.eraseIdx k)))

def rReverse : V → List V → Hp → VK → Prop := fun x vs H Q => ∃ l xs, x = .ref l ∧ vs = [] ∧ H l = some (.lst xs) ∧ Q .non (upd H l (.lst xs.reverse))

def rClear : V → List V → Hp → VK → Prop := fun x vs H Q => ∃ l xs, x = .ref l ∧ vs = [] ∧ H l = some (.lst xs) ∧ Q .non (upd H l (.lst []))

/-! ### list + list, list += list, list * int -/
def rCat : R2 := fun x y H Q => ∃ l b xs zs, x = .ref l ∧ y = .ref b ∧ H l = some (.lst xs) ∧ H b = some (.lst zs) ∧ xs.length + zs.length ≤ sizeLine ∧ ∀ p, H p = none → Q (.ref p) (upd H p (.lst (xs ++ zs)))
theorem op_cat : OpR X (binaryOp .Add) rCat := by
  intro pins s σ H x y v u Q I rx ry h
  obtain ⟨l, b, xs, zs, rfl, rfl, hH, hB, hz, q⟩ := h
  cases rx
  cases ry
  obtain ⟨z, its, n, r, hl, e⟩ := I.lstM hH
  obtain ⟨z2, its2, n2, r2, hl2, e2⟩ := I.lstM hB
  refine PySem.P.add_list e e2 ?_ (by rw [List.size_toArray, List.size_toArray]; omega)
  have ea : its.toArray ++ its2.toArray = (its ++ its2).toArray := by simp
  rw [ea]
  exact ⟨.ref _, _, I.lnew (t' := s.toks) (r.append r2) (by rw [List.length_append]; omega), rfl, q _ I.fresh⟩
/-- a list times an int (a negative one is nothing) -/
def rRep : R2 := fun x y H Q => ∃ l k xs, x = .ref l ∧ y = .int k ∧ H l = some (.lst xs) ∧ -(2 ^ 63) ≤ k ∧ k < 2 ^ 63 ∧ xs.length * k.toNat ≤ sizeLine ∧
  ∀ p, H p = none → Q (.ref p) (upd H p (.lst (List.replicate k.toNat xs).flatten))

/-! ### del xs[i] -/
end

/-! ### xs[a:b] = ys -/
section
variable {prog : Program} {w : World} {A : Around} {E : Value → Shared → Prop} {s : Shared}
end

section
variable {X : Cx}
end
end L2

namespace Att
open PySem PySem.W PySem.Calls PyProof.Rows

/-! ### the script -/
theorem ints_of_wellAll {P : Params} {h : Heap} : ∀ (ns : List Int) (vs : List Value), WellAll P h vs (ns.map WData.int) → IntsAre vs ns := by
  intro ns
  induction ns with
  | nil =>
    intro vs w
    rw [List.map_nil] at w
    cases w
    exact .nil
  | cons n ns ih =>
    intro vs w
    rw [List.map_cons] at w
    cases w with
    | cons a b =>
      cases a
      exact .cons _ _ (ih _ b)

theorem script_of {l : OpenLaw} {n : Nat} (hn : l.most = some n) {P : Params} {h : Heap} {args : List WData} {vals : List Value}
    (hpre : l.row.toRowW.claim.pre args = true) (hwl : WellAll P h vals args) :
    ∃ a vs ns, vals = [Value.ref a] ∧ args = [WData.list (ns.map WData.int)] ∧ h.get? a = some { cls := .type "list", data := .seq vs.toArray } ∧ IntsAre vs ns ∧ ns.length ≤ n := by
  have hsh : WShape.hasAll [] args [.list .int] = true := (pre_splitW hpre).1
  have hc : l.pre.holds [] { args := args } = true := (pre_splitW hpre).2
  obtain ⟨d, r, rfl, h1, h2⟩ := hasAllW_cons hsh
  obtain rfl := hasAllW_nil h2
  obtain ⟨xs, rfl, h3⟩ := hasW_list h1
  obtain ⟨ns, rfl⟩ := items_int h3
  have hlen : ns.length ≤ n := by
    unfold OpenLaw.pre at hc
    have h4 : (WTm.not (.lt (.lit (.int (n : Int))) (.len (.arg 0)))).holds [] { args := [.list (ns.map .int)] } = true := by
      have h4 := (holds_andW hc).1
      rw [hn] at h4
      exact h4
    have h5 := condW_of h4 (w_not (w_lt w_lit (w_len_list (w_arg rfl))))
    rw [List.length_map] at h5
    refine Nat.le_of_not_lt fun q => ?_
    have q' : (n : Int) < ((ns.length : Nat) : Int) := by omega
    first
      | (rw [decide_eq_true q'] at h5; exact absurd h5 (by decide))
      | (simp at h5; omega)
  cases hwl with
  | cons w1 w2 =>
    cases w2
    cases w1 with
    | list ho hall => exact ⟨_, _, ns, rfl, rfl, ho, ints_of_wellAll ns _ hall, hlen⟩

theorem post_true (l : OpenLaw) (args : List WData) : l.row.toRowW.claim.post args (.bool true) args = true :=
  postW_of (r := l.row.toRowW) (X := (true == true))
    (show WShape.has [] (.bool true) .bool = true by first | rfl | decide | simp [WShape.has, WShape.arms, WShape.armsAll])
    (show (WTm.eq .res (.lit (.bool true))).value [] { args := args, res := some (.bool true), after := args } = some (.bool (true == true)) from w_eq_bool (w_res rfl) w_lit) rfl

/-! ### the attachment: holds_open's last premise (the goal 'hc' behind k_head) from a wpAny of the law's body -/

/-- the same from a codeAny of the CALL (for a layer whose function contracts speak of calls) -/
theorem attach_call {l : OpenLaw} {n : Nat} {q : Program} {loose : List Str} {XP : (Str → Option Value) → Heap → Prop} {YP : World → Heap → Prop} {d : DefRec}
    (hn : l.most = some n) (hdf : d.params.defaults = [])
    (call : ∀ (w : World) (s₀ s₁ : Shared) (mg mb : Str → Option Value) (fa : Addr) (o : Obj) (pm cd doc : Value) (a : Addr) (vs : List Value) (ns : List Int),
      Ground q loose [] XP w s₀ mg mb s₁.heap → YP w s₁.heap →
      s₁.heap.get? fa = some o → o.data = .func (docDef d.name d.params d.body d.scope pm cd doc) → s₁.heap.CodeRec cd d.name → mg d.name = some (.ref fa) →
      s₁.heap.get? a = some { cls := .type "list", data := .seq vs.toArray } → IntsAre vs ns → ns.length ≤ n → s₁.gens = #[] →
      codeAny (model l.prog w) callerA (.call (.ref fa) ⟨[.ref a], []⟩) (fun r s' => r = .ok (.ret (.bool true)) ∧ OldK s₁.heap s'.heap ∧ s'.os = s₁.os ∧ AllBare s'.gens) s₁) :
    WalkO q loose XP YP l.row.toRowW d [] (fun f vs => PySem.call f vs) := by
  intro w s₀ s₁ mg mb G Y fa o pm cd doc dV kV ho hd hcd hD hmg hg args vals as hpre hlay hrd hwl hlo
  obtain rfl : dV = .none := Dflts.none hD hdf
  obtain rfl : kV = .none := Dflts.noKw hD
  obtain ⟨a, vs, ns, rfl, rfl, hobj, hints, hlen⟩ := script_of hn hpre hwl
  refine enter_call (codeAny_mono (call w s₀ s₁ mg mb fa o pm cd doc a vs ns G Y ho (fd_plain hd) hcd hmg hobj hints hlen hg) fun r s' hq => ?_)
  obtain ⟨rfl, h2, h3, h4⟩ := hq
  exact ⟨.inl ⟨.bool true, .bool true, [], rfl, fun _ => rfl, .bool true, post_true l _, fun _ => ⟨List.Pairwise.nil, fun _ hm => (nomatch hm)⟩⟩, h2, h3, h4⟩


/-! ### rules over ANY heap (no ledger) from facts about the written part K: the library's own take a ledger (News) for what they write -/
section
variable {prog : Program} {w : World} {A : Around} {E : Value → Shared → Prop} {s : Shared} {K : Frag}





/-! the whole heap as the ledger: makes every rule that writes through a ledger a rule over any heap -/
def noObjs (h : Heap) : Heap := { h with objs := #[] }
def ledger (h : Heap) (L d : Addr) : List (Addr × Obj) := (List.range h.objs.size).filterMap fun a => if a = L ∨ a = d then none else (h.get? a).map fun o => (a, o)

end
end Att

namespace L2
open PySem PySem.Spec PyProof.Rows

theorem vals_ints : ∀ {vs : List Value} {ns : List Int}, IntsAre vs ns → Vals (ns.map V.int) vs
  | _, _, .nil => .nil
  | _, _, .cons n t h => .cons ⟨t, rfl⟩ (vals_ints h)

/-- nothing is tracked but the script, known to the object (or it is an object of the module) -/
def Only (H : Hp) : Prop := ∀ b, H b = none ∨ ∃ o xs, H b = some (.frz o (.lst xs))

/-- THE HEAD: the law's promise, at the heap behind the top. F, the promise of the law's def, may use that base is part of the heap (so K.In base, base.Ns mainGlobals mg stand in Mod) -/
theorem law_call {P : Program} {w : World} {K : PySem.W.Frag} {mg mb : Str → Option Value} {CX : CXT} {k : Nat} {fa a : Addr} {fd : FuncData} {x : Str} {sp : Sp} {s₁ : Shared} {vs : List Value} {ns : List Int}
    (KX : K.In s₁.heap) (hns : s₁.heap.Ns mainGlobals mg) (hb : s₁.heap.Ns builtinsNs mb) (hbb : ∀ x : Str, x ≠ "__name__" → mb x = bootBuiltins x) (hlim : s₁.heap.NoLimit) (hg : s₁.gens = #[])
    (ha : s₁.heap.get? a = some { cls := .type "list", data := .seq vs.toArray }) (hi : IntsAre vs ns) (hl : ns.length ≤ sizeLine) (hr : Room k callerA)
    (F : ∀ base : Heap, K.In base → base.Ns mainGlobals mg → FnOk P w K mg base CX k fa fd [x] sp) (hbind : ∀ (s : Shared) (u : Value), BindsTo s fd ⟨[u], []⟩ [(x, u)])
    (hsp : ∀ H : Hp, Only H → SqL K H a (ns.map V.int) → sp [.ref a] H (fun v _ => v = .bl true) fun _ _ _ => False)
    (hCX : ∀ H e s', CX [] H s₁ (fun _ _ _ => False) e s' → False) :
    codeAny (model P w) callerA (.call (.ref fa) ⟨[.ref a], []⟩) (fun r s' => r = .ok (.ret (.bool true)) ∧ OldK s₁.heap s'.heap ∧ s'.os = s₁.os ∧ AllBare s'.gens) s₁ := by
  have rv := vals_ints hi
  have lenV := hi.length
  -- from an abstract heap in which nothing but the script may be tracked
  have core : ∀ H : Hp, Only H → SqL K H a (ns.map V.int) → HOk P w H s₁.heap → (∀ b, H b ≠ none → b = a) → (H a ≠ none → K.lookup a = none) →
      codeAny (model P w) callerA (.call (.ref fa) ⟨[.ref a], []⟩) (fun r s' => r = .ok (.ret (.bool true)) ∧ OldK s₁.heap s'.heap ∧ s'.os = s₁.os ∧ AllBare s'.gens) s₁ := by
    intro H hO hS hok hA hK
    have base_of : ∀ {b : Addr} {o : Obj}, s₁.heap.get? b = some o → H b = none → (hidT s₁.heap H).get? b = some o := fun e n => hidT_get e n
    have noA : ∀ {b : Addr} {o : Obj} {es : Array DictEntry} {ep : Nat}, s₁.heap.get? b = some o → o.data = .dict es ep → H b = none := fun {b o es ep} e d => by
      cases q : H b with
      | none => rfl
      | some u =>
        have e' : b = a := hA b (by rw [q]; simp)
        subst e'
        rw [ha] at e; cases e
        have d' : Data.seq vs.toArray _ = Data.dict es ep := d
        cases d'
    have nsK : ∀ {b : Addr} {m : Str → Option Value}, s₁.heap.Ns b m → (hidT s₁.heap H).Ns b m := fun {b m} ⟨o, es, ep, e, d, r⟩ => ⟨o, es, ep, base_of e (noA e d), d, r⟩
    have hKb : K.In (hidT s₁.heap H) := fun b o e => base_of (KX b o e) (by
      cases q : H b with
      | none => rfl
      | some u =>
        have e' : b = a := hA b (by rw [q]; simp)
        subst e'
        rw [hK (by rw [q]; simp)] at e; cases e)
    have hM : Mod K mg (hidT s₁.heap H) := ⟨hKb, nsK hns, ⟨mb, nsK hb, hbb⟩, let ⟨mc, h1, h2⟩ := hlim; ⟨mc, nsK h1, h2⟩⟩
    have e0 : Env0 P w K mg (hidT s₁.heap H) callerA [] s₁ H := ⟨rfl, hM, fun b o e => of_hidT e, Nat.le_of_eq (hidT_size _ _), trivial, fun b hb => absurd (show b ∈ ([] : List Addr) from hb) (by simp), hok, .of_eq hg⟩
    refine codeAny_mono ((F _ hKb (nsK hns)).run callerA [] s₁ H ⟨[.ref a], []⟩ [.ref a] [.ref a] _ _ hr e0 (hbind s₁ (.ref a)) (.cons rfl .nil) (hsp H hO hS)) fun r s' h => ?_
    cases r with
    | error e => exact (hCX H e s' h).elim
    | ok fl =>
      cases fl with
      | next => exact False.elim h
      | brk => exact False.elim h
      | cont => exact False.elim h
      | ret u =>
        obtain ⟨v, H', os, bare, un, hok', r', q⟩ := h
        have q' : v = .bl true := q
        subst q'
        obtain rfl : u = Value.bool true := r'
        refine ⟨rfl, OldK.of_keep fun b o e => ?_, os, bare⟩
        cases q : H b with
        | none => exact un.keep b o e q (by intro z; exact absurd (show b ∈ ([] : List Addr) from z) (by simp)) (by simp)
        | some u =>
          rcases hO b with z | ⟨ob, xs, z⟩
          · rw [q] at z; cases z
          · have z2 := un.frzs b ob _ z
            obtain ⟨e1, _⟩ := hok b _ z
            obtain ⟨e2, _⟩ := hok' b _ z2
            rw [e] at e1; cases e1
            exact e2
  cases hk : K.lookup a with
  | some o =>
    -- the script is one of the module's own objects
    have e := KX a o hk
    rw [ha] at e
    cases e
    refine core (fun _ => none) (fun _ => .inl rfl) (.inr ⟨_, vs.toArray, _, hk, rfl, rfl, rfl, by rw [List.size_toArray, lenV]; exact hl, by simpa using rv⟩) (fun b u z => by have z' : (none : Option HO) = some u := z; cases z') (fun b z => absurd rfl z) fun z => absurd rfl z
  | none =>
    refine core (fun b => if b = a then some (.frz { cls := .type "list", data := .seq vs.toArray } (.lst (ns.map V.int))) else none) (fun b => ?_) (.inl (.inr ⟨{ cls := .type "list", data := .seq vs.toArray }, if_pos rfl⟩)) (fun b u z => ?_) (fun b z => ?_) fun _ => hk
    · by_cases hb : b = a
      · exact .inr ⟨_, _, if_pos hb⟩
      · exact .inl (if_neg hb)
    · by_cases hb : b = a
      · have z' := (if_pos hb).symm.trans z
        cases z'
        subst hb
        exact ⟨ha, by rw [List.length_map]; exact hl, vs, _, rv, ha⟩
      · have z' := (if_neg hb).symm.trans z
        cases z'
    · by_cases hb : b = a
      · exact hb
      · exact absurd (if_neg hb) z
end L2

namespace L2
open PySem PySem.Spec PyProof.Rows

abbrev KOf {K : PySem.W.Frag} {h : Heap} (_ : K.In h) : PySem.W.Frag := K

/-- the goal that k_head leaves (case hc), from the law's promise. F gives the function object fd (K's own) once, then the promise over every base -/
theorem walk_of {l : PySem.W.OpenLaw} {n k : Nat} {q : Program} {loose : List Str} {XP : (Str → Option Value) → Heap → Prop} {YP : World → Heap → Prop} {d : DefRec} {K : Params → PySem.W.Frag} {CX : World → CXT} {sp : World → Sp} {x : Str}
    (hn : l.most = some n) (hn2 : n ≤ sizeLine) (hdf : d.params.defaults = []) (hr : Room k callerA)
    (hY : ∀ (w : World) (h : Heap), YP w h → (K w.params).In h)
    (F : ∀ (w : World) (mg : Str → Option Value) (fa : Addr) (h : Heap), (K w.params).In h → h.Ns mainGlobals mg → mg d.name = some (.ref fa) →
      ∃ fd : FuncData, (∀ (s : Shared) (u : Value), BindsTo s fd ⟨[u], []⟩ [(x, u)]) ∧
        ∀ base : Heap, (K w.params).In base → base.Ns mainGlobals mg → FnOk l.prog w (K w.params) mg base (CX w) k fa fd [x] (sp w))
    (hsp : ∀ (w : World) (H : Hp) (a : Addr) (ns : List Int), ns.length ≤ n → Only H → SqL (K w.params) H a (ns.map V.int) → sp w [.ref a] H (fun v _ => v = .bl true) fun _ _ _ => False)
    (hCX : ∀ (w : World) (H : Hp) (s : Shared) (e : Value) (s' : Shared), CX w [] H s (fun _ _ _ => False) e s' → False) :
    PySem.W.WalkO q loose XP YP l.row.toRowW d [] (fun f vs => PySem.call f vs) := by
  refine Att.attach_call hn hdf fun w s₀ s₁ mg mb fa o pm cd doc a vs ns G Y ho hd hcd hmg hobj hints hlen hg => ?_
  have KX := hY w _ Y
  obtain ⟨fd, hb, hF⟩ := F w mg fa _ KX G.T.g hmg
  exact law_call KX G.T.g G.T.b G.T.builtins G.T.nolimit hg hobj hints (Nat.le_trans hlen hn2) hr hF hb (fun H hO hS => hsp w H a ns hlen hO hS) fun H e s' => hCX w H s₁ e s'
end L2

/- THE LAST THEOREM (shape; LID, My.* are yours):
   My.Adr: a structure of the addresses that your layer names (classes, functions); My.Txt K t: a structure (Prop) of the equations over K;
   My.txt_mk : {K} {implicit addresses ..} (e1 : nsIn K mainGlobals "law" = some (some (.ref f))) (e2 : K.lookup f = some ⟨oc, od, .func (fnOf "law" "law" params body scope dV kV doc pm an cdv ct), sl⟩) (e3 : codeIn K cdv "law" = true) .. : ∃ t, My.Txt K t

set_option maxRecDepth 100000 in
set_option maxHeartbeats 0 in
theorem PySem.Challenge.cw_LID_holds : PySem.Challenge.rw_LID.Holds := by
  w_on; o_law; k_head; (case hw => w_witness2)
  k_fill
  refine L2.walk_of (l := PySem.Challenge.rw_LID) (n := 63) (k := 40) (x := "script") (CX := fun w => ..) (sp := fun _ => My.sp_law) rfl (by decide) rfl ⟨rfl, by decide, by decide⟩ (fun w h Y => PySem.W.kIn_of Y) ?F ?S ?C
  case F =>
    intro w mg fa h KX G hmg
    have T : ∃ t, My.Txt (L2.KOf KX) t := by
      dsimp only [L2.KOf]                          -- K must stand as «<heap const> w.params» for k_is
      refine' My.txt_mk ?e1 ?e2 ?e3 ..
      (case e1 => PySem.W.k_is)                    -- in the order: a name -> its address -> its object -> its parts
      (case e2 => PySem.W.k_is)
      ..
    obtain ⟨t, T⟩ := T
    have e0 := hmg.symm.trans (PySem.W.mg_of KX G T.law)
    cases e0                                       -- fa is the law's own address
    exact ⟨_, fun s u => .of_eq rfl, fun base kb nb => My.law_fn T kb nb⟩     -- if «.of_eq rfl» comes too early: refine' ⟨_, ?b, fun base kb nb => My.law_fn T kb nb⟩; exact fun s u => .of_eq rfl
  case S => exact fun w H a ns hl hO hS => ..
  case C => exact ..
(the tactic k_is has no namespace: write k_is) -/

/-! SHORT WORDS over the layer: a def of the text, its body, what a loop and a test want. -/
namespace L2
open PySem PySem.Spec PyProof.Rows

/-! ### the text by places -/
/-- the j-th statement of a class's body -/
def inClass (s : Stmt) (j : Nat) : Stmt := match s with
  | .ClassDef _ _ _ body _ _ _ _ _ _ _ => body.getD j (.Pass ⟨0, 0, 0, 0⟩)
  | _ => .Pass ⟨0, 0, 0, 0⟩
def defArgs (s : Stmt) : Arguments := match s with
  | .FunctionDef _ a _ _ _ _ _ _ _ _ => a
  | _ => { posonlyargs := [], args := [], vararg := none, kwonlyargs := [], kw_defaults := [], kwarg := none, defaults := [] }
def defBody (s : Stmt) : List Stmt := match s with
  | .FunctionDef _ _ b _ _ _ _ _ _ _ => b
  | _ => []
def defScope (s : Stmt) : Scope := match s with
  | .FunctionDef _ _ _ _ _ _ sc _ _ _ => sc
  | _ => { kind := .function, names := [], isGenerator := false, isCoroutine := false }

/-! ### no exception leaves a def -/
abbrev CX0 : CXT := fun _ _ _ _ _ _ => False
abbrev E0 : XK := fun _ _ _ => False
theorem pass0 {X : Cx} : Passes CX0 X E0 := fun _ _ _ _ _ _ _ h => h.elim

/-! ### a def (or method) of the text as it stands behind the top -/
structure Fun (K : PySem.W.Frag) (x qual : Str) (st : Stmt) (f : Addr) (fd : FuncData) : Prop where
  ex : ∃ (oc : Value) (od : Option Addr) (kV doc pm : Value) (an : Option Addr) (cdv ct : Value) (osl : Array (Option Value)),
    fd = PySem.W.fnOf x qual (defArgs st) (defBody st) (defScope st) .none kV doc pm an cdv ct ∧ K.lookup f = some ⟨oc, od, .func fd, osl⟩ ∧ PySem.W.codeIn K cdv qual = true
  kp : PySem.W.keepIn K (.ref f) = true
section
variable {P : Program} {w : World} {K : PySem.W.Frag} {mg : Str → Option Value} {base : Heap}
/-- THE RULE for a def: its body as a term of rules, and the reading of that term -/
theorem Fun.ok {x qual : Str} {st : Stmt} {f : Addr} {fd : FuncData} {N ps : List Str} {k : Nat} {sp : Sp} (F : Fun K x qual st f fd) (S : FnScope N ps (defScope st)) (len : ∀ vs H Q E, sp vs H Q E → vs.length = ps.length)
    (hbody : ∀ (cdv : Value) (A : Around) (outer : List Env) (s : Shared) (H : Hp) (vs : List V) (Q : VK) (E : XK), Room k (A.deeper (envOfC qual (defScope st) s.heap.objs.size f cdv)) → sp vs H Q E →
      ∃ t, PSs (cxOf CX0 P w K mg base N qual (defScope st) f cdv A outer s H E).nox (defBody st) t ∧ t { nx := fun _ H' => Q .non H', rt := Q } (start N vs) H) : FnOk P w K mg base CX0 (k + 1) f fd ps sp := by
  obtain ⟨oc, od, kV, doc, pm, an, cdv, ct, osl, rfl, lk, hcd⟩ := F.ex
  refine fn_of lk hcd S len fun A outer s H vs Q E hr hsp => ?_
  obtain ⟨t, h, q⟩ := hbody cdv A outer s H vs Q E hr hsp
  exact ⟨t, h.nox, q⟩
/-- how its arguments bind (no defaults): h is «fun _ _ _ _ _ _ us hl => match us, hl with | [_, _], _ => rfl», one _ a parameter -/
theorem Fun.binds {x qual : Str} {st : Stmt} {f : Addr} {fd : FuncData} {ps : List Str} (F : Fun K x qual st f fd)
    (h : ∀ (kV doc pm : Value) (an : Option Addr) (cdv ct : Value) (us : List Value), us.length = ps.length → bindArgs (PySem.W.fnOf x qual (defArgs st) (defBody st) (defScope st) .none kV doc pm an cdv ct) ⟨us, []⟩ = pure (ps.zip us)) : Binds K fd ps [] := by
  obtain ⟨oc, od, kV, doc, pm, an, cdv, ct, osl, rfl, lk, hcd⟩ := F.ex
  exact .all (h kV doc pm an cdv ct)
theorem fun_mk {x qual : Str} {st : Stmt} {f : Addr} {oc : Value} {od an : Option Addr} {osl : Array (Option Value)} {kV doc pm cdv ct : Value} (l : K.lookup f = some ⟨oc, od, .func (PySem.W.fnOf x qual (defArgs st) (defBody st) (defScope st) .none kV doc pm an cdv ct), osl⟩)
    (c : PySem.W.codeIn K cdv qual = true) (k : PySem.W.keepIn K (.ref f) = true) : Fun K x qual st f (PySem.W.fnOf x qual (defArgs st) (defBody st) (defScope st) .none kV doc pm an cdv ct) := ⟨⟨oc, od, kV, doc, pm, an, cdv, ct, osl, rfl, l, c⟩, k⟩
end
theorem small1000 {n : Nat} (h : n ≤ 1000) : n < sizeLine := Nat.lt_of_le_of_lt h (by decide)

/-! ### expressions in short: the name that stands in the i-th slot -/
section
variable {X : Cx}
end

/-! ### tests -/
theorem iteF {A B : Prop} (h : B) : if false = true then A else B := by
  rw [if_neg Bool.false_ne_true]
  exact h
theorem iteT {A B : Prop} (h : A) : if true = true then A else B := by
  rw [if_pos rfl]
  exact h
theorem iteNS {c A B : Prop} [Decidable c] (hc : c) (h : B) : if (!decide c) = true then A else B := by
  rw [decide_eq_true hc]
  exact iteF h

/-! ### heaps -/
/-- all that was tracked is as it was -/
def Same (H H' : Hp) : Prop := ∀ b o, H b = some o → H' b = some o
theorem Same.refl (H : Hp) : Same H H := fun _ _ h => h
theorem Same.trans {H H1 H2 : Hp} (a : Same H H1) (b : Same H1 H2) : Same H H2 := fun c o h => b c o (a c o h)
theorem Same.free {H H' : Hp} (e : Same H H') {l : Addr} (h : H' l = Option.none) : H l = Option.none := by
  cases q : H l with
  | none => rfl
  | some o =>
    rw [e l o q] at h
    cases h
theorem Same.seq {K : PySem.W.Frag} {H H' : Hp} {a : Addr} {xs : List V} (e : Same H H') (h : SqL K H a xs) : SqL K H' a xs := by
  rcases h with (h | ⟨o, h⟩) | h
  · exact .inl (.inl (e _ _ h))
  · exact .inl (.inr ⟨o, e _ _ h⟩)
  · exact .inr h

end L2

set_option Elab.async false
set_option linter.all false
set_option maxRecDepth 100000
namespace L2
open PySem PySem.Spec PyProof.Rows

/-! ### comprehensions -/
section
variable {P : Program} {w : World} {A : Around} {R : Result → Shared → Prop} {s : Shared}
/-- the loop of a comprehension, the step ahead of the store with it -/
theorem comp_loop {elt tgt iter : Expr} {ifs : List Expr} {scope : Scope} {pos : Pos} {it acc : Value} {env : Env} (J : Nat → Shared → Prop)
    (turn : ∀ n s, J n s → wpAny (model P w) A (pyNext it) (fun r c₁ => match r with
      | none => R (.ok .next) c₁
      | some v => wpAny (model P w) A (letOwnedTupleGo tgt it v) (fun _ d₁ => wpAny (model P w) A (assign tgt env v) (fun _ c₂ =>
          wpAny (model P w) A (forIn ifs true fun c r => if r = true then do let ok ← isTrue c env (eval c env); pure (ForInStep.yield ok) else pure (ForInStep.yield r)) (fun ok c₃ =>
            if ok = true then wpAny (model P w) A (eval elt env) (fun x c₄ =>
              wpAny (model P w) A (call (.builtin "list.append") [acc, x]) (fun _ c₅ => ∃ m, m < n ∧ J m c₅) (notedBy (model P w) A env fun e s' => R (.error e) s') c₄) (notedBy (model P w) A env fun e s' => R (.error e) s') c₃
            else ∃ m, m < n ∧ J m c₃) (notedBy (model P w) A env fun e s' => R (.error e) s') c₂) (notedBy (model P w) A env fun e s' => R (.error e) s') d₁) (notedBy (model P w) A env fun e s' => R (.error e) s') c₁) (notedBy (model P w) A env fun e s' => R (.error e) s') s)
    (n : Nat) (hn : J n s) :
    codeAny (model P w) A (.compLoop (.ListComp elt [⟨tgt, iter, ifs, 0⟩] scope pos) 0 it acc env) R s := by
  refine codeAny_loop rfl J (fun n s hJ => ?_) n hn
  show wpAny _ A ((compTurn (.ListComp elt [⟨tgt, iter, ifs, 0⟩] scope pos) 0 it acc env).onRaise (fun x => do noteFrame x env; theTreesLotGoes x)) _ _ s
  refine wpAny_noted ?_
  rw [compTurn_list]
  refine wpAny_bind (wpAny_standAt (wpAny_bind (wpAny_mono (turn n s hJ) (fun r c₁ e₁ => ?_) fun _ _ z => z)))
  cases r with
  | none => exact wpAny_pure e₁
  | some v =>
    refine wpAny_bind (wpAny_mono e₁ (fun _ d₁ f₁ => ?_) fun _ _ z => z)
    refine wpAny_bind (wpAny_mono f₁ (fun _ c₂ e₂ => wpAny_bind (wpAny_mono e₂ (fun ok c₃ e₃ => ?_) fun _ _ z => z)) fun _ _ z => z)
    cases ok with
    | false => exact wpAny_pure ⟨rfl, e₃⟩
    | true =>
      exact wpAny_bind (wpAny_bind (wpAny_mono e₃ (fun x c₄ e₄ => wpAny_bind (wpAny_mono e₄ (fun _ c₅ e₅ => wpAny_pure (wpAny_pure ⟨rfl, e₅⟩)) fun _ _ z => z)) fun _ _ z => z))
end

/-- the cells that a block is given -/
def cloF (env : Env) : List (Str × NameKind) → List (Str × Addr) → List (Str × Addr)
  | [], acc => acc
  | (n, k) :: r, acc => if k = .free then cloF env r ((n, (env.cells.lookup n).getD 0) :: acc) else cloF env r acc
theorem closure_go {env : Env} : ∀ (names : List (Str × NameKind)) (acc : List (Str × Addr)), (∀ x ∈ names, x.2 = .free → ∃ c, env.cells.lookup x.1 = some c) →
    (forIn names acc (fun (x : Str × NameKind) (cs : List (Str × Addr)) => (if (x.2 == NameKind.free) = true then do let a ← cellOf env x.1; pure (ForInStep.yield ((x.1, a) :: cs)) else pure (ForInStep.yield cs) : Sem (ForInStep (List (Str × Addr))))) : Sem (List (Str × Addr))) = pure (cloF env names acc)
  | [], acc, _ => by simp [cloF]
  | (n, k) :: r, acc, h => by
    have ih := fun acc => closure_go (env := env) r acc fun x hx => h x (List.mem_cons_of_mem _ hx)
    rw [List.forIn_cons]
    by_cases hk : k = .free
    · subst hk
      obtain ⟨c, hc⟩ := h (n, .free) List.mem_cons_self rfl
      have hc' : env.cells.lookup n = some c := hc
      have e : cellOf env n = pure c := by unfold cellOf; rw [hc']
      simp only [cloF, if_true, hc', Option.getD_some, beq_self_eq_true, e, pure_bind]
      exact ih _
    · have hb : (k == NameKind.free) = false := by simpa using hk
      simp only [cloF, hk, if_false, hb, Bool.false_eq_true, pure_bind]
      exact ih _
theorem closure_eq {env : Env} {scope : Scope} (h : ∀ x ∈ scope.names, x.2 = .free → ∃ c, env.cells.lookup x.1 = some c) : closureFor scope env = pure (cloF env scope.names []) := by
  rw [← closure_go scope.names [] h]
  unfold closureFor
  simp only [bind_pure]
theorem cloF_lookup {env : Env} {y : Str} : ∀ (names : List (Str × NameKind)) (acc : List (Str × Addr)), (cloF env names acc).lookup y = if (y, NameKind.free) ∈ names then some ((env.cells.lookup y).getD 0) else acc.lookup y
  | [], acc => by simp [cloF]
  | (n, k) :: r, acc => by
    unfold cloF
    by_cases hk : k = .free
    · subst hk
      rw [if_pos rfl, cloF_lookup r]
      by_cases hy : y = n
      · subst hy
        simp [List.lookup_cons]
      · have hb : (y == n) = false := by simpa using hy
        simp [List.lookup_cons, hb, hy]
    · rw [if_neg hk, cloF_lookup r]
      have : ¬ ((y, NameKind.free) = (n, k)) := by
        intro e
        exact hk (Prod.mk.inj e).2.symm
      simp [this]

/-- what a block's scope is like: o the def's own scope, TN the targets' names, F the def's names that the block reads -/
structure CScope (o sc : Scope) (TN F : List Str) : Prop where
  okind : o.kind = .function
  kind : sc.kind = .function
  nocell : ∀ y ∈ sc.names, y.2 ≠ .cell
  names : ∀ y ∈ sc.names, y.2 = .local → sc.names.lookup y.1 = some .local
  fr : ∀ y ∈ sc.names, y.2 = .free → o.names.lookup y.1 = some .cell ∧ sc.names.lookup y.1 = some .free
  ff : ∀ y ∈ F, (y, NameKind.free) ∈ sc.names

theorem relabel_free {env : Env} {y : Str} (hk : env.scope.kind = .function) (hc : env.kindOf y = some .cell) : ∀ {names : List (Str × NameKind)}, names.lookup y = some .free →
    (names.map fun (n, k) => if (k == NameKind.free && env.scope.kind == .function && env.kindOf n == some .cell) then (n, NameKind.cell) else (n, k)).lookup y = some .cell
  | [], h => by simp at h
  | (n, k) :: r, h => by
    have ih := @relabel_free env y hk hc r
    show List.lookup y ((if (k == NameKind.free && env.scope.kind == .function && env.kindOf n == some .cell) = true then (n, NameKind.cell) else (n, k)) :: _) = _
    cases hx : y == n with
    | true =>
      rw [List.lookup_cons, hx] at h
      cases h
      have e : y = n := by simpa using hx
      subst e
      rw [if_pos (by simp [hk, hc])]
      simp [List.lookup_cons]
    | false =>
      rw [List.lookup_cons, hx] at h
      by_cases hc' : (k == NameKind.free && env.scope.kind == .function && env.kindOf n == some .cell) = true
      · rw [if_pos hc']; simp only [List.lookup_cons, hx]; exact ih h
      · rw [if_neg hc']; simp only [List.lookup_cons, hx]; exact ih h
theorem relabel_from {env : Env} {y : Str} : ∀ {names : List (Str × NameKind)}, (∀ z ∈ names, z.2 ≠ .cell) →
    ((names.map fun (n, k) => if (k == NameKind.free && env.scope.kind == .function && env.kindOf n == some .cell) then (n, NameKind.cell) else (n, k)).lookup y = some .cell ∨
     (names.map fun (n, k) => if (k == NameKind.free && env.scope.kind == .function && env.kindOf n == some .cell) then (n, NameKind.cell) else (n, k)).lookup y = some .free) → (y, NameKind.free) ∈ names
  | [], _, h => by simp at h
  | (n, k) :: r, hn, h => by
    have ih := @relabel_from env y r fun z hz => hn z (List.mem_cons_of_mem _ hz)
    have h' : List.lookup y ((if (k == NameKind.free && env.scope.kind == .function && env.kindOf n == some .cell) = true then (n, NameKind.cell) else (n, k)) :: (r.map fun (n, k) => if (k == NameKind.free && env.scope.kind == .function && env.kindOf n == some .cell) then (n, NameKind.cell) else (n, k))) = some .cell ∨
      List.lookup y ((if (k == NameKind.free && env.scope.kind == .function && env.kindOf n == some .cell) = true then (n, NameKind.cell) else (n, k)) :: (r.map fun (n, k) => if (k == NameKind.free && env.scope.kind == .function && env.kindOf n == some .cell) then (n, NameKind.cell) else (n, k))) = some .free := h
    clear h
    cases hx : y == n with
    | true =>
      have e : y = n := by simpa using hx
      subst e
      by_cases hc' : (k == NameKind.free && env.scope.kind == .function && env.kindOf y == some .cell) = true
      · have hk : k = .free := by
          have := (Bool.and_eq_true _ _ ▸ (Bool.and_eq_true _ _ ▸ hc').1).1
          simpa using this
        subst hk
        exact List.mem_cons_self
      · rw [if_neg hc'] at h'
        simp only [List.lookup_cons, beq_self_eq_true] at h'
        rcases h' with h' | h'
        · cases h'
          exact absurd rfl (hn _ List.mem_cons_self)
        · cases h'
          exact List.mem_cons_self
    | false =>
      by_cases hc' : (k == NameKind.free && env.scope.kind == .function && env.kindOf n == some .cell) = true
      · rw [if_pos hc'] at h'; simp only [List.lookup_cons, hx] at h'; exact List.mem_cons_of_mem _ (ih h')
      · rw [if_neg hc'] at h'; simp only [List.lookup_cons, hx] at h'; exact List.mem_cons_of_mem _ (ih h')

/-- the context of a comprehension's block -/
def cxC (X : Cx) (N : List Str) (sc : Scope) (cl : List (Str × Addr)) (C : Addr) (fp : List Addr) (s₃ : Shared) (H₃ : Hp) (xe : Value → Shared → Prop) : Cx :=
  { X with N := N, s₀ := s₃, H₀ := H₃, env := compEnvC sc cl C X.env, outer := X.stack, ex := fp, fn := fun _ => false, pn := [], xe := xe }
/-- the def's names that a block reads -/
def sub (ix : List Nat) (σ : St) : St := ix.map fun i => (σ[i]?).join

theorem inv_comp {X : Cx} {pins : List (Addr × Obj)} {σ : St} {H : Hp} {s : Shared} {sc : Scope} {TN F : List Str} {ix : List Nat} {fp : List Addr} {h4 : Heap} {tk : Nat} {m : Str → Option Value} {xe : Value → Shared → Prop}
    (S : CScope X.env.scope sc TN F) (hix : ix.map (fun i => X.N[i]?) = F.map some) (I : Inv X pins σ H s) (hf : ∀ b ∈ fp, FpOk X pins H b) (ho : ∀ b ∈ fp, ∃ o, s.heap.get? b = some o)
    (hk : ∀ b o, s.heap.get? b = some o → h4.get? b = some o) (hn : h4.Ns s.heap.objs.size m) :
    Inv (cxC X (TN ++ F) sc (cloF X.env sc.names []) s.heap.objs.size fp s H xe) [] (List.replicate TN.length none ++ sub ix σ) H { s with heap := h4, toks := tk } := by
  have cl : ∀ x c, (cloF X.env sc.names []).lookup x = some c → X.env.cells.lookup x = some c := fun x c e => by
    rw [cloF_lookup] at e
    by_cases hx : (x, NameKind.free) ∈ sc.names
    · rw [if_pos hx] at e
      obtain ⟨c', hc'⟩ := I.ok.has x (.inl (S.fr _ hx rfl).1)
      rw [hc'] at e ⊢
      exact e
    · rw [if_neg hx] at e
      cases e
  have cl' : ∀ x, (x, NameKind.free) ∈ sc.names → (cloF X.env sc.names []).lookup x = X.env.cells.lookup x := fun x hx => by
    rw [cloF_lookup, if_pos hx]
    obtain ⟨c', hc'⟩ := I.ok.has x (.inl (S.fr _ hx rfl).1)
    rw [hc']
    rfl
  have hlen : ix.length = F.length := by
    have := congrArg List.length hix
    simpa using this
  refine ⟨⟨I.ok.mod, S.kind, I.ok.glob, I.ok.blt, Nat.le_refl _, fun x y c h1 h2 => I.ok.inj x y c (cl x c h1) (cl y c h2), fun x hx => ?_, fun x c z => (nomatch z), I.ok.hd, I.ok.frames, .inl rfl, fun b hb => ⟨?_, fun x c e => (hf b hb).2.2.2.2.1 x c (cl x c e)⟩,
    I.bs, Nat.le_trans I.ok.bsz I.sz, fun b o e hb => ?_, fun b hb hfs => ?_, I.stack, I.stkFree⟩, rfl, I.bare, Un.kept hk, ⟨m, hn, fun i x v h1 h2 h3 => ?_⟩, fun x c e => ?_, I.hok.fresh (Nat.le_refl _), fun x c e => I.freeC x c (cl x c e), fun p hp => absurd (show p ∈ ([] : List (Addr × Obj)) from hp) (by simp), I.hok.kept hk, ?_⟩
  · have hx' : (x, NameKind.free) ∈ sc.names := relabel_from (env := X.env) S.nocell hx
    obtain ⟨c, hc⟩ := I.ok.has x (.inl (S.fr _ hx' rfl).1)
    exact ⟨c, (cl' x hx').trans hc⟩
  · obtain ⟨o, e⟩ := ho b hb
    exact Nat.ne_of_lt (Heap.lt_size e)
  · rcases (hf b hb).2.2.2.1 with z | z
    · exact I.ok.noex b o e z
    · exact absurd (Nat.lt_of_lt_of_le (Heap.lt_size e) (Nat.le_trans I.ok.bsz z)) (Nat.lt_irrefl _)
  · rcases List.mem_cons.mp (I.stkSub b hfs) with z | z
    · exact (hf b hb).2.1 z
    · exact (hf b hb).2.2.1 z
  · have hi : TN.length ≤ i := by
      apply Nat.le_of_not_lt
      intro hlt
      rw [List.getElem?_append_left (by simpa using hlt), List.getElem?_replicate] at h2
      split at h2 <;> cases h2
    rw [List.getElem?_append_right (by simpa using hi), List.length_replicate] at h2
    have h1' : F[i - TN.length]? = some x := by
      have : (TN ++ F)[i]? = some x := h1
      rw [List.getElem?_append_right hi] at this
      exact this
    have e3 := congrArg (fun l => l[i - TN.length]?) hix
    simp only [List.getElem?_map, h1', Option.map_some] at e3
    unfold sub at h2
    rw [List.getElem?_map] at h2
    cases ej : ix[i - TN.length]? with
    | none => rw [ej] at h2; cases h2
    | some k =>
      rw [ej] at h2 e3
      have h2' : (σ[k]?).join = some v := Option.some.inj h2
      have e3' : X.N[k]? = some x := Option.some.inj e3
      have hσ : σ[k]? = some (some v) := by
        cases e : σ[k]? with
        | none => rw [e] at h2'; cases h2'
        | some q =>
          rw [e] at h2'
          have : q = some v := h2'
          rw [this]
      have hfr := S.ff x (List.mem_of_getElem? h1')
      have hcell := (S.fr _ hfr rfl).1
      obtain ⟨m0, hn0, hl0⟩ := I.loc
      obtain ⟨u, r, l⟩ := hl0 k x v e3' hσ (.inr (.inl hcell))
      refine ⟨u, r, ?_⟩
      rcases l with ⟨l1, _⟩ | ⟨_, c, hc, o, ho', hd⟩
      · have l1' : X.env.scope.names.lookup x = some .local := l1
        rw [hcell] at l1'
        cases l1'
      · exact .inr ⟨.inl (relabel_free (env := X.env) S.okind hcell (S.fr _ hfr rfl).2), c, (cl' x hfr).trans hc, o, hk c o ho', hd⟩
  · obtain ⟨v, o, ho', hd⟩ := I.cell x c (cl x c e)
    exact ⟨v, o, hk c o ho', hd⟩
  · show _ = (TN ++ F).length
    rw [List.length_append, List.length_append, List.length_replicate]
    unfold sub
    rw [List.length_map, hlen]

/-- the tests of a comprehension -/
def PTs (X : Cx) (ifs : List Expr) (tc : TT) : Prop :=
  ∀ (pins : List (Addr × Obj)) (s : Shared) (σ : St) (H : Hp) (Q : Bool → Hp → Prop), Inv X pins σ H s → tc σ H Q →
    wpAny (model X.prog X.w) X.A (forIn ifs true fun c r => if r = true then do let ok ← isTrue c X.env (eval c X.env); pure (ForInStep.yield ok) else pure (ForInStep.yield r)) (TP X pins σ Q) X.xe s
def tAll : TT := fun _ H Q => Q true H
theorem pts_nil {X : Cx} : PTs X [] tAll := fun _ _ _ H _ I h => wpAny_tests_nil ⟨H, I, h⟩
theorem pts_one {X : Cx} {c : Expr} {tc : TT} (hc : PT X c tc) : PTs X [c] tc := fun pins s σ H Q I h => wpAny_tests_one (hc pins s σ H Q I h)

/-- how a block goes: W by the turn, a measure, the block's names, the items so far, the heap -/
def CGo (J : It) (D : Addr) (g : TG) (tc : TT) (te : TE) (Q : VK) (σ : St) (H : Hp) : Prop :=
  ∃ W : Nat → Nat → St → List V → Hp → Prop, (∃ m, W 0 m σ [] (upd H D (.lst []))) ∧ ∀ i m τ ys H, W i m τ ys H → H D = some (.lst ys) ∧
    ((J.stop i H ∧ Q (.ref D) H) ∨ (J.go i H ∧ ∀ v H', J.yld i H v H' → g v τ H' fun τ2 H2 => tc τ2 H2 fun b H3 =>
      if b = true then te τ2 H3 fun y H4 => H4 D = some (.lst ys) ∧ ys.length < sizeLine ∧ ∃ m', m' < m ∧ W (i + 1) m' τ2 (ys ++ [y]) (upd H4 D (.lst (ys ++ [y])))
      else ∃ m', m' < m ∧ W (i + 1) m' τ2 ys H3))
def tComp (wi : TI) (n : Nat) (ix : List Nat) (g : TG) (tc : TT) (te : TE) : TE := fun σ H Q => wi σ H fun J H1 => ∀ D, H1 D = none → CGo J D g tc te Q (List.replicate n none ++ sub ix σ) H1

theorem append_ok {X : Cx} {pins : List (Addr × Obj)} {σ : St} {H : Hp} {s : Shared} {D : Addr} {ys : List V} {y : V} {u : Value} {Q : Value → Shared → Prop} {E : Value → Shared → Prop} (I : Inv X pins σ H s) (hD : H D = some (.lst ys)) (hz : ys.length < sizeLine) (r : RelV y u)
    (h : ∀ s', Inv X pins σ (upd H D (.lst (ys ++ [y]))) s' → Q .none s') : wpAny (model X.prog X.w) X.A (call (.builtin "list.append") [.ref D, u]) Q E s := by
  obtain ⟨z, its, n, rr, hl, e⟩ := I.lstM hD
  refine call_meets F.slot_list_append ⟨_, e, rfl⟩ F.entry_list_append (F.args_list_append_2 _ _) (PySem.list_append D its.toArray n u (by rw [List.size_toArray]; omega)) ⟨e, ?_⟩
  refine h _ (I.lset (its' := its ++ [u]) hD e (by simp) (rr.append (.cons r .nil)) ?_)
  rw [List.length_append, List.length_singleton]
  omega

theorem comp_block {X : Cx} {pins : List (Addr × Obj)} {σ : St} {H : Hp} {s : Shared} {sc : Scope} {TN F : List Str} {ix : List Nat} {elt tg iter : Expr} {ifs : List Expr} {pos : Pos} {g : TG} {tc : TT} {te : TE} {J : It} {fp : List Addr} {it : Addr} {tn : Nat → Heap → Prop} {Q : VK}
    {RR : Value → Addr → Result → Shared → Prop} {E : Value → Shared → Prop}
    (S : CScope X.env.scope sc TN F) (hix : ix.map (fun i => X.N[i]?) = F.map some) (hc : X.calm = true) (I : Inv X pins σ H s) (T : Turn X.prog X.w X.K tg J fp it tn) (st : tn 0 s.heap) (hf : ∀ b ∈ fp, FpOk X pins H b)
    (hg : ∀ cl C fp s3 H3 xe, PG (cxC X (TN ++ F) sc cl C fp s3 H3 xe) tg g) (ht : ∀ cl C fp s3 H3 xe, PTs (cxC X (TN ++ F) sc cl C fp s3 H3 xe) ifs tc) (he : ∀ cl C fp s3 H3 xe, PE (cxC X (TN ++ F) sc cl C fp s3 H3 xe) elt te)
    (hW : ∀ D, H D = none → CGo J D g tc te Q (List.replicate TN.length none ++ sub ix σ) H)
    (fin : ∀ D C H' s', Inv X pins σ H' s' → (∃ m, s'.heap.Ns C m) → H' C = none → C ≠ X.env.locals → X.s₀.heap.objs.size ≤ C → (∀ x c, X.env.cells.lookup x = some c → c ≠ C) → (∀ p ∈ X.pn ++ pins, p.1 ≠ C) → Q (.ref D) H' → RR (.ref D) C (.ok .next) s') :
    wpAny (model X.prog X.w) X.A (newList []) (fun acc s₃ => wpAny (model X.prog X.w) X.A (newFunctionEnv sc X.env.globals (cloF X.env sc.names []) [] X.env.qual none .none (some X.env)) (fun cenv s₄ =>
      codeAny (model X.prog X.w) X.A (.compStart (.ListComp elt [⟨tg, iter, ifs, 0⟩] sc pos) 0 (.ref it) acc { cenv with scope := relabel sc X.env }) (RR acc cenv.locals) s₄) E s₃) E s := by
  have hfo : ∀ b ∈ fp, ∃ o, s.heap.get? b = some o := fun b hb => let ⟨o, e, _⟩ := T.obj 0 _ st b hb; ⟨o, e⟩
  refine wpAny_newObj_type ?_
  obtain ⟨W, ⟨m0, w0⟩, go⟩ := hW s.heap.objs.size I.fresh
  have I3 : Inv X pins σ (upd H s.heap.objs.size (.lst [])) { s with heap := s.heap.push { cls := .type "list", data := .seq ([] : List Value).toArray } } := I.lnew (its := []) (ys := []) (t' := s.toks) .nil (Nat.zero_le _)
  generalize hs3 : ({ s with heap := s.heap.push { cls := .type "list", data := .seq ([] : List Value).toArray } } : Shared) = s3 at I3
  have hk3 : ∀ b o, s.heap.get? b = some o → s3.heap.get? b = some o := fun b o e => by
    rw [← hs3]
    exact Heap.get?_push_of_some _ e
  have hf3 : ∀ b ∈ fp, FpOk X pins (upd H s.heap.objs.size (.lst [])) b := fun b hb => by
    obtain ⟨o, e⟩ := hfo b hb
    exact ⟨by rw [upd_ne (Nat.ne_of_lt (Heap.lt_size e))]; exact (hf b hb).1, (hf b hb).2⟩
  have st3 : tn 0 s3.heap := T.keep 0 _ _ st fun b hb o e => hk3 b o e
  show wpAny _ _ _ _ _ s3
  refine wpAny_newFunctionEnv S.nocell (by intro y hy; simp at hy) (fun h4 hn4 hsb => ?_) S.kind
  have hk4 : ∀ b o, s3.heap.get? b = some o → h4.get? b = some o := fun b o e => (hsb.2 b (Nat.ne_of_lt (Heap.lt_size e))).trans (Heap.get?_push_of_some _ e)
  generalize hR : RR (.ref s.heap.objs.size) s3.heap.objs.size = R
  have loop : ∀ s4 : Shared, s4 = { s3 with heap := h4, toks := s3.toks + ([] : List (Str × Value)).length } →
      codeAny (model X.prog X.w) X.A (.compLoop (.ListComp elt [⟨tg, iter, ifs, 0⟩] sc pos) 0 (.ref it) (.ref s.heap.objs.size) (compEnvC sc (cloF X.env sc.names []) s3.heap.objs.size X.env)) R s4 := by
    rintro s4 rfl
    let X' : Cx := cxC X (TN ++ F) sc (cloF X.env sc.names []) s3.heap.objs.size fp s3 (upd H s.heap.objs.size (.lst [])) (notedBy (model X.prog X.w) X.A (compEnvC sc (cloF X.env sc.names []) s3.heap.objs.size X.env) fun e s' => R (.error e) s')
    have I4 : Inv X' [] (List.replicate TN.length none ++ sub ix σ) (upd H s.heap.objs.size (.lst [])) { s3 with heap := h4, toks := s3.toks + ([] : List (Str × Value)).length } :=
      inv_comp S hix I3 hf3 (fun b hb => let ⟨o, e⟩ := hfo b hb; ⟨o, hk3 b o e⟩) hk4 hn4
    have fpx : ∀ {H' : Hp}, (∀ b ∈ fp, H' b = none) → ∀ b ∈ fp, FpOk X' [] H' b := fun {H'} hn b hb => by
      refine ⟨hn b hb, (I4.ok.exf b hb).1, fun z => I4.ok.exfs b hb z, .inl hb, fun x c e => (I4.ok.exf b hb).2 x c e, fun p hp => absurd (show p ∈ ([] : List (Addr × Obj)) from hp) (by simp)⟩
    refine comp_loop (fun n s' => ∃ i τ ys H', Inv X' [] τ H' s' ∧ tn i s'.heap ∧ (∀ b ∈ fp, H' b = none) ∧ W i n τ ys H') ?_ m0 ⟨0, _, [], _, I4, T.keep 0 _ _ st3 fun b hb o e => hk4 b o e, fun b hb => (hf3 b hb).1, w0⟩
    rintro n s5 ⟨i, τ, ys, H5, I5, st5, fr5, w5⟩
    obtain ⟨hD, hgo⟩ := go i n τ ys H5 w5
    rcases hgo with ⟨stop, q⟩ | ⟨hgo, step⟩
    · refine thn (T.done X' rfl rfl rfl hc i [] s5 τ H5 X'.xe I5 (fpx fr5) st5 stop) fun r s6 ⟨hr, I6⟩ => ?_
      subst hr
      show R (.ok .next) s6
      rw [← hR]
      have J6 : Inv X pins σ H5 s6 := I3.call' (ch := fp) I6.os I6.base I6.hok I6.bare fun b hb => ⟨(hf3 b hb).2.2.2.1, (hf3 b hb).2.1, (hf3 b hb).2.2.2.2.1, (hf3 b hb).2.2.2.2.2⟩
      refine fin s.heap.objs.size s3.heap.objs.size H5 s6 J6 (let ⟨m, hn, _⟩ := I6.loc; ⟨m, hn⟩) I6.free (Nat.ne_of_gt I3.lt) I3.sz (fun x c e z => ?_) (fun p hp z => ?_) q
      · obtain ⟨v, o, ho, _⟩ := I3.cell x c e
        exact absurd (Heap.lt_size ho) (by rw [z]; exact Nat.lt_irrefl _)
      · exact absurd (Heap.lt_size (I3.pin p hp).1) (by rw [z]; exact Nat.lt_irrefl _)
    · refine thn (T.item X' rfl rfl rfl hc i [] s5 τ H5 X'.xe I5 (fpx fr5) st5 hgo) fun r s6 ⟨u, hr, h6⟩ => ?_
      subst hr
      refine thn h6 fun _ s7 ⟨v, H7, I7, r7, y7, st7, fr7⟩ => ?_
      have I7' := I7.pinned (fpx fr7) (T.obj _ _ st7)
      refine thn (hg _ _ _ _ _ _ _ s7 τ H7 v u _ I7' r7 (step v H7 y7)) fun _ s8 ⟨τ8, H8, I8, q8⟩ => ?_
      refine thn (ht _ _ _ _ _ _ _ s8 τ8 H8 _ I8 q8) fun ok s9 ⟨H9, I9, q9⟩ => ?_
      have again : ∀ {ys' : List V} {H' : Hp} {s' : Shared}, Inv X' ([] ++ pinsAt fp s7.heap) τ8 H' s' → (∃ m', m' < n ∧ W (i + 1) m' τ8 ys' H') → ∃ m, m < n ∧ ∃ i τ ys H'', Inv X' [] τ H'' s' ∧ tn i s'.heap ∧ (∀ b ∈ fp, H'' b = none) ∧ W i m τ ys H'' := fun {ys' H' s'} I' ⟨m', hm, w'⟩ => by
        refine ⟨m', hm, i + 1, τ8, ys', H', I'.unpinned, T.keep _ _ _ st7 fun b hb o e => (I'.pin (b, o) (List.mem_append_right _ (List.mem_append_right _ (mem_pinsAt hb e)))).1, fun b hb => ?_, w'⟩
        obtain ⟨o, e, d⟩ := T.obj _ _ st7 b hb
        exact (I'.pin (b, o) (List.mem_append_right _ (List.mem_append_right _ (mem_pinsAt hb e)))).2.1
      cases ok with
      | false =>
        exact again I9 q9
      | true =>
        refine thn (he _ _ _ _ _ _ _ s9 τ8 H9 _ I9 q9) fun x s10 ⟨y, H10, I10, r10, hD10, hz10, q10⟩ => ?_
        exact append_ok (X := X') I10 hD10 hz10 r10 fun s11 I11 => again I11 q10
  subst hR
  exact codeAny_compStart_list (loop _ rfl) (T.self X.A 0 _ _ _ (T.keep 0 _ _ st3 fun b hb o e => hk4 b o e) (loop _ rfl))

section
variable {X : Cx} {sc : Scope} {TN F : List Str} {ix : List Nat} {elt tg iter : Expr} {ifs : List Expr} {pos : Pos} {g : TG} {tc : TT} {te : TE} {wi : TI}
theorem closure_of (S : CScope X.env.scope sc TN F) {pins : List (Addr × Obj)} {σ : St} {H : Hp} {s : Shared} (I : Inv X pins σ H s) : closureFor sc X.env = pure (cloF X.env sc.names []) :=
  closure_eq fun x hx hk => I.ok.has x.1 (.inl (S.fr x hx hk).1)
/-- [elt for tg in iter ..] -/
theorem pe_comp (S : CScope X.env.scope sc TN F) (hix : ix.map (fun i => X.N[i]?) = F.map some) (hc : X.calm = true) (hi : PI X tg iter wi)
    (hg : ∀ cl C fp s3 H3 xe, PG (cxC X (TN ++ F) sc cl C fp s3 H3 xe) tg g) (ht : ∀ cl C fp s3 H3 xe, PTs (cxC X (TN ++ F) sc cl C fp s3 H3 xe) ifs tc) (he : ∀ cl C fp s3 H3 xe, PE (cxC X (TN ++ F) sc cl C fp s3 H3 xe) elt te)
    (hs : ∀ x, foldedSetIterable iter X.env x = pure x := by intro _; rfl) : PE X (.ListComp elt [⟨tg, iter, ifs, 0⟩] sc pos) (tComp wi TN.length ix g tc te) := by
  intro pins s σ H Q I h
  rw [eval_ListComp]
  refine wpAny_comprehension_free (use := none) rfl hs (closure_of S I) S.kind S.names (thn (hi pins s σ H _ I h) fun v s1 h1 => thn h1 fun itv s2 h2 => ?_)
  obtain ⟨it, fp, tn, J, H2, e, I2, T, st2, f2, q2⟩ := h2
  subst e
  refine comp_block (RR := fun acc C => compPost (model X.prog X.w) X.A X.xe none (EP X pins σ Q) acc C) S hix hc I2 T st2 f2 hg ht he q2 fun D C H' s' I' hn hC1 hC2 hC3 hC4 hC5 q => ?_
  obtain ⟨m, hn⟩ := hn
  exact ⟨m, hn, fun h' hs' => ⟨.ref D, H', I'.turned (t' := s'.toks) (fun b o hb e => (hs'.2 b hb).trans e) hC1 hC2 (.inr hC3) hC4 hC5, rfl, q⟩⟩
/-- y = [elt for tg in iter ..], y a plain name of the def on the comprehension's own line -/
theorem ps_setC {i : Nat} {y : Str} {py spos : Pos} (hN : X.N.Nodup) (hiy : X.N[i]? = some y) (hy : X.env.scope.names.lookup y = some .local) (S : CScope X.env.scope sc TN F) (hix : ix.map (fun i => X.N[i]?) = F.map some) (hc : X.calm = true) (hi : PI X tg iter wi)
    (hg : ∀ cl C fp s3 H3 xe, PG (cxC X (TN ++ F) sc cl C fp s3 H3 xe) tg g) (ht : ∀ cl C fp s3 H3 xe, PTs (cxC X (TN ++ F) sc cl C fp s3 H3 xe) ifs tc) (he : ∀ cl C fp s3 H3 xe, PE (cxC X (TN ++ F) sc cl C fp s3 H3 xe) elt te)
    (hsw : swapsWith (.ListComp elt [⟨tg, iter, ifs, 0⟩] sc pos) (some (.Name y py)) spos.line X.env = pure true := by rfl)
    (hs : ∀ x, foldedSetIterable iter X.env x = pure x := by intro _; rfl) : PS X (.Assign [.Name y py] (.ListComp elt [⟨tg, iter, ifs, 0⟩] sc pos) spos) (tAsg (tComp wi TN.length ix g tc te) (gName i)) := by
  intro pins s σ H D I h
  rw [exec_Assign_Name_used _ _ _ _ hsw]; refine wpAny_bind (wpAny_standAt (wpAny_bind ?_))
  show wpAny _ X.A (do let _ ← comprehension (.ListComp elt [⟨tg, iter, ifs, 0⟩] sc pos) sc X.env _ (newList []) false (eval iter X.env) (some (assign (.Name y py) X.env))) _ _ s
  refine wpAny_bind (wpAny_mono (wpAny_comprehension_free (use := some (assign (.Name y py) X.env)) (Q := fun _ s' => SP X pins D .next s') rfl hs (closure_of S I) S.kind S.names
    (thn (hi pins s σ H _ I h) fun v s1 h1 => thn h1 fun itv s2 h2 => ?_)) (fun _ s' hq => wpAny_pure (wpAny_pure hq)) fun _ _ e => e)
  obtain ⟨it, fp, tn, J, H2, e, I2, T, st2, f2, q2⟩ := h2
  subst e
  refine comp_block (RR := fun acc C => compPost (model X.prog X.w) X.A X.xe (some (assign (.Name y py) X.env)) (fun _ s' => SP X pins D .next s') acc C) S hix hc I2 T st2 f2 hg ht he q2 fun Dl C H' s' I' hn hC1 hC2 hC3 hC4 hC5 q => ?_
  obtain ⟨m, hn⟩ := hn
  show wpAny _ X.A (assign (.Name y py) X.env (.ref Dl)) _ _ _
  refine wpAny_assign_Name (store_ok2 I' hN hiy (.inl hy) (show RelV (.ref Dl) (.ref Dl) from rfl) (fun s'' I'' ⟨a, hsb, ha⟩ => ?_) (.inr hy))
  have haC : C ≠ a := by
    rcases ha with z | z
    · rw [z]; exact hC2
    · exact fun z' => hC4 y a z z'.symm
  refine ⟨m, hn.sameBut hsb haC, fun h' hs' => ?_⟩
  exact ⟨_, H', I''.turned (t' := s''.toks) (fun b o hb e => (hs'.2 b hb).trans e) hC1 hC2 (.inr hC3) hC4 hC5, q⟩
end
end L2

set_option Elab.async false
set_option linter.all false
set_option maxRecDepth 100000
namespace L2
open PySem PySem.Spec PyProof.Rows
/-! ### readings that reckon -/
def seqAt (H : Hp) (p : Addr) : Option (List V) := match H p with
  | some (.lst xs) => some xs
  | some (.tup xs) => some xs
  | _ => none
def dAt (H : Hp) (x y : V) : Option V := match x, y with
  | .ref p, .int i => (seqAt H p).bind fun xs => atI xs i
  | _, _ => none
def rIxd : R2 := fun x y H Q => ∃ v, dAt H x y = some v ∧ Q v H
section
variable {X : Cx}
theorem ix_d : IxR X rIxd := by
  intro value slice pins s σ H x y v u Q I rx ry h hs
  refine ix_seq value slice pins s σ H x y v u Q I rx ry ?_ hs
  obtain ⟨z, e, q⟩ := h
  unfold dAt at e
  split at e
  case h_2 => cases e
  case h_1 p i =>
    unfold seqAt at e
    split at e
    case h_1 xs hp => exact .inl ⟨_, xs, _, z, rfl, rfl, SqL.of hp, e, q⟩
    case h_2 xs hp => exact .inr (.inl ⟨_, xs, _, z, rfl, rfl, SqT.of hp, e, q⟩)
    case h_3 => cases e
def dSet (H : Hp) (o i v : V) : Option Hp := match o, i with
  | .ref p, .int k => match H p with
    | some (.lst xs) => (ixN xs.length k).map fun j => upd H p (.lst (xs.set j v))
    | _ => none
  | _, _ => none
def rSetd : V → V → V → Hp → (Hp → Prop) → Prop := fun o i v H Q => ∃ H', dSet H o i v = some H' ∧ Q H'
theorem set_d : PSet X rSetd := by
  intro pins s σ H o i v ov iv u Q I ro ri rv h
  refine set_list pins s σ H o i v ov iv u Q I ro ri rv ?_
  obtain ⟨H', e, q⟩ := h
  unfold dSet at e
  split at e
  case h_2 => cases e
  case h_1 p k =>
    split at e
    case h_2 => cases e
    case h_1 xs hp =>
      cases ej : ixN xs.length k with
      | none => rw [ej] at e; cases e
      | some j =>
        rw [ej] at e
        cases e
        exact ⟨p, xs, k, j, rfl, rfl, hp, ej, q⟩
end
end L2
namespace L2
open PySem PySem.Spec PyProof.Rows
/-! ### steps of a reading -/
section
variable {σ : St} {H : Hp} {Q : VK} {D : Ends} {t u : TS} {te ta tb : TE} {tr : TA} {g : TG} {r : R2} {x y v : V} {c : TT} {QB : Bool → Hp → Prop} {QL : List V → Hp → Prop} {QG : St → Hp → Prop} {n : Nat}
theorem w_seq (h : t { D with nx := u D } σ H) : tSeq t u D σ H := h
theorem w_next (h : D.nx σ H) : tNext D σ H := h
theorem w_asg (h : te σ H fun x H1 => g x σ H1 D.nx) : tAsg te g D σ H := h
theorem w_gname {i : Nat} (h : QG (σ.set i (some v)) H) : gName i v σ H QG := h
theorem w_op (h : ta σ H fun x H1 => tb σ H1 fun y H2 => r x y H2 Q) : tOp r ta tb σ H Q := h
theorem w_var {i : Nat} (e : σ[i]? = some (some v)) (h : Q v H) : tVar i σ H Q := ⟨v, e, h⟩
theorem w_c (h : Q v H) : tC v σ H Q := h
theorem w_rI0 {k : Int → Int → V} {i j : Int} (h : Q (k i j) H) : rI0 k (.int i) (.int j) H Q := ⟨i, j, rfl, rfl, h⟩
theorem w_rI {C : Int → Int → Prop} {k : Int → Int → V} {i j : Int} (hc : C i j) (h : Q (k i j) H) : rI C k (.int i) (.int j) H Q := ⟨i, j, rfl, rfl, hc, h⟩
theorem w_ifs {b : TS} (h : c σ H fun b' H1 => if b' = true then t D σ H1 else b D σ H1) : tIfS c t b D σ H := h
theorem w_ife (h : c σ H fun b' H1 => if b' = true then ta σ H1 Q else tb σ H1 Q) : tIf c ta tb σ H Q := h
theorem w_test (h : te σ H fun x H' => ∃ k, x = .bl k ∧ QB k H') : tTest te σ H QB := h
theorem w_tb (h : te σ H fun x H' => ∃ k, x = .bl k ∧ QB k H') : tB te σ H QB := h
theorem w_bl {b : Bool} {P : Bool → Prop} (h : P b) : ∃ k, V.bl b = .bl k ∧ P k := ⟨b, rfl, h⟩
theorem w_not (h : c σ H fun b H1 => QB (!b) H1) : tNot c σ H QB := h
theorem w_ret (h : te σ H D.rt) : tRet te D σ H := h
theorem w_nil (h : QL [] H) : tNil σ H QL := h
theorem w_cons (h : te σ H fun x H1 => tr σ H1 fun xs H2 => QL (x :: xs) H2) : tCons te tr σ H QL := h
theorem w_lst (h : tr σ H fun xs H1 => xs.length ≤ sizeLine ∧ ∀ p, H1 p = none → Q (.ref p) (upd H1 p (.lst xs))) : tLst tr σ H Q := h
theorem w_tup (h : tr σ H fun xs H1 => xs.length ≤ sizeLine ∧ ∀ p, H1 p = none → Q (.ref p) (upd H1 p (.tup xs))) : tTup tr σ H Q := h
theorem w_cb {r : List V → Hp → VK → Prop} (h : tr σ H fun vs H1 => r vs H1 Q) : tCB r tr σ H Q := h
theorem w_call {sp : Sp} {dvs : List V} {E : XK} (h : tr σ H fun vs H1 => sp (vs ++ dvs) H1 Q E) : tCall sp dvs E tr σ H Q := h
theorem w_gsub {to ti : TE} {ts : TSet} (h : to σ H fun o H1 => ti σ H1 fun i H2 => ts o i v H2 fun H3 => QG σ H3) : gSub to ti ts v σ H QG := h
theorem w_ixL {p : Addr} {xs : List V} {i : Int} (hp : H p = some (.lst xs)) (e : atI xs i = some v) (h : Q v H) : rIxd (.ref p) (.int i) H Q := ⟨v, by simp only [dAt, seqAt, hp, Option.bind_some, e], h⟩
theorem w_ixT {p : Addr} {xs : List V} {i : Int} (hp : H p = some (.tup xs)) (e : atI xs i = some v) (h : Q v H) : rIxd (.ref p) (.int i) H Q := ⟨v, by simp only [dAt, seqAt, hp, Option.bind_some, e], h⟩
theorem w_set {p : Addr} {xs : List V} {i : Int} {j : Nat} {QH : Hp → Prop} (hp : H p = some (.lst xs)) (e : ixN xs.length i = some j) (h : QH (upd H p (.lst (xs.set j v)))) : rSetd (.ref p) (.int i) v H QH :=
  ⟨_, by simp only [dSet, hp, e, Option.map_some], h⟩
theorem w_and {c d : TT} (h : c σ H fun b H1 => if b = true then d σ H1 QB else QB false H1) : tAnd c d σ H QB := h
theorem w_or {c d : TT} (h : c σ H fun b H1 => if b = true then QB true H1 else d σ H1 QB) : tOr c d σ H QB := h
theorem iteD {p A B : Prop} [Decidable p] (h1 : p → A) (h2 : ¬ p → B) : if decide p = true then A else B := by
  by_cases h : p
  · rw [decide_eq_true h, if_pos rfl]
    exact h1 h
  · rw [decide_eq_false h, if_neg Bool.false_ne_true]
    exact h2 h
theorem iteDN {p A B : Prop} [Decidable p] (h1 : ¬ p → A) (h2 : p → B) : if (!decide p) = true then A else B := by
  by_cases h : p
  · rw [decide_eq_true h]
    exact iteF (h2 h)
  · rw [decide_eq_false h]
    exact iteT (h1 h)
end
end L2
namespace L2
open PySem PySem.Spec PyProof.Rows
/-- a def of the text that is there and keeps its promise -/
def Has (P : Program) (w : World) (K : PySem.W.Frag) (mg : Str → Option Value) (base : Heap) (k : Nat) (x : Str) (ps : List Str) (sp : Sp) : Prop :=
  ∃ f fd, FnOk P w K mg base CX0 k f fd ps sp ∧ mg x = some (.ref f) ∧ PySem.W.keepIn K (.ref f) = true ∧ Binds K fd ps []
theorem pe_fn {X : Cx} {k j : Nat} {x : Str} {ps : List Str} {sp : Sp} {e : Expr} {es : List Expr} {t : TA} {p pos : Pos} (h : Has X.prog X.w X.K X.mg X.base k x ps sp) (hr : Room j X.A) (hkj : k ≤ j) (ha : PA X (e :: es) t) (hg : Gl X x := by rfl)
    (hdb : (x == ("__debug__" : Str)) = false := by decide) (he : starEach (e :: es) X.env = (false, eval e X.env) :: starEach es X.env := by rfl) (hpl : (backTo pos (starEach es X.env)).any (·.1) = false := by rfl) :
    PE X (.Call (.Name x p) (e :: es) [] pos) (tCall sp [] E0 t) := by
  obtain ⟨f, fd, F, hm, hk, hb⟩ := h
  exact pe_call F (hr.mono hkj) hg hm hk hb .nil pass0 ha hdb he hpl
section
variable {lo : Int} {n : Nat} {D : Addr} {te : TE} {tc : TT} {Q : VK} {ρ : St} {H : Hp}
/-- a block over a range, one name -/
theorem cgo_range (Pv : Nat → List V → Hp → Prop) (h0 : Pv 0 [] (upd H D (.lst [])))
    (hs : ∀ i ys H', i < n → Pv i ys H' → H' D = some (.lst ys) → ∀ (R : V → Hp → Prop) (S : Hp → Prop), (∀ y H4, H4 D = some (.lst ys) → ys.length < sizeLine → Pv (i + 1) (ys ++ [y]) (upd H4 D (.lst (ys ++ [y]))) → R y H4) → (∀ H3, H3 D = some (.lst ys) → Pv (i + 1) ys H3 → S H3) →
      tc (some (.int (lo + i)) :: ρ) H' fun b H3 => if b = true then te (some (.int (lo + i)) :: ρ) H3 R else S H3)
    (hd : ∀ ys H', Pv n ys H' → H' D = some (.lst ys) → Q (.ref D) H') : CGo (Itr lo n) D (gName 0) tc te Q (none :: ρ) H := by
  refine ⟨fun i m τ ys H' => m = n - i ∧ i ≤ n ∧ (∃ tv, τ = tv :: ρ) ∧ Pv i ys H' ∧ H' D = some (.lst ys), ⟨n, by omega, Nat.zero_le _, ⟨_, rfl⟩, h0, upd_same⟩, ?_⟩
  rintro i m τ ys H' ⟨rfl, hi, ⟨tv, rfl⟩, hp, hD⟩
  refine ⟨hD, ?_⟩
  by_cases hlt : i < n
  · refine .inr ⟨hlt, ?_⟩
    rintro v H'' ⟨rfl, rfl⟩
    show tc (some (.int (lo + i)) :: ρ) _ _
    exact hs i ys _ hlt hp hD _ _ (fun y H4 a b c => ⟨a, b, n - (i + 1), by omega, rfl, hlt, ⟨_, rfl⟩, c, upd_same⟩) fun H3 a c => ⟨n - (i + 1), by omega, rfl, hlt, ⟨_, rfl⟩, c, a⟩
  · have e : i = n := by omega
    subst e
    exact .inl ⟨Nat.le_refl _, hd ys _ hp hD⟩
/-- a block over a tuple, one name -/
theorem cgo_tup {K : PySem.W.Frag} {a : Addr} {xs : List V} (Pv : Nat → List V → Hp → Prop) (h0 : Pv 0 [] (upd H D (.lst []))) (hl : ∀ i ys H', i ≤ xs.length → Pv i ys H' → SqT K H' a xs)
    (hs : ∀ i x ys H', xs[i]? = some x → Pv i ys H' → H' D = some (.lst ys) → ∀ (R : V → Hp → Prop) (S : Hp → Prop), (∀ y H4, H4 D = some (.lst ys) → ys.length < sizeLine → Pv (i + 1) (ys ++ [y]) (upd H4 D (.lst (ys ++ [y]))) → R y H4) → (∀ H3, H3 D = some (.lst ys) → Pv (i + 1) ys H3 → S H3) →
      tc (some x :: ρ) H' fun b H3 => if b = true then te (some x :: ρ) H3 R else S H3)
    (hd : ∀ ys H', Pv xs.length ys H' → H' D = some (.lst ys) → Q (.ref D) H') : CGo (Itt K a) D (gName 0) tc te Q (none :: ρ) H := by
  refine ⟨fun i m τ ys H' => m = xs.length - i ∧ i ≤ xs.length ∧ (∃ tv, τ = tv :: ρ) ∧ Pv i ys H' ∧ H' D = some (.lst ys), ⟨xs.length, by omega, Nat.zero_le _, ⟨_, rfl⟩, h0, upd_same⟩, ?_⟩
  rintro i m τ ys H' ⟨rfl, hi, ⟨tv, rfl⟩, hp, hD⟩
  refine ⟨hD, ?_⟩
  have sq := hl i ys H' hi hp
  by_cases hlt : i < xs.length
  · refine .inr ⟨⟨xs, xs[i], sq, by simp [hlt]⟩, ?_⟩
    rintro v H'' ⟨rfl, hv⟩
    have hv' := hv xs sq
    show tc (some v :: ρ) _ _
    exact hs i v ys _ hv' hp hD _ _ (fun y H4 a b c => ⟨a, b, xs.length - (i + 1), by omega, rfl, hlt, ⟨_, rfl⟩, c, upd_same⟩) fun H3 a c => ⟨xs.length - (i + 1), by omega, rfl, hlt, ⟨_, rfl⟩, c, a⟩
  · have e : i = xs.length := by omega
    subst e
    exact .inl ⟨⟨xs, sq, Nat.le_refl _⟩, hd ys _ hp hD⟩
end
theorem w_all {σ : St} {H : Hp} {Q : Bool → Hp → Prop} (h : Q true H) : tAll σ H Q := h
end L2
namespace L2
open PySem PySem.Spec PyProof.Rows
def relabelS (sc o : Scope) : Scope :=
  { sc with names := sc.names.map fun (n, k) => if (k == .free && o.kind == .function && o.names.lookup n == some .cell) then (n, .cell) else (n, k) }
instance {sc : Scope} {x : Str} : Decidable (Vis sc x) := by unfold Vis; infer_instance
/-- a block's scope, with all that its names want; G: the module's names that it reads -/
structure BScope (o sc : Scope) (TN F G : List Str) : Prop extends CScope o sc TN F where
  nd : (TN ++ F).Nodup
  vis : ∀ x ∈ TN ++ F, Vis (relabelS sc o) x
  loc : ∀ x ∈ TN, (relabelS sc o).names.lookup x = some .local
  gl : ∀ x ∈ G, (relabelS sc o).names.lookup x = some .globalImplicit
section
variable {X : Cx} {sc : Scope} {TN F G : List Str} {cl : List (Str × Addr)} {C : Addr} {fp : List Addr} {s3 : Shared} {H3 : Hp} {xe : Value → Shared → Prop} {x : Str} {pos : Pos}
theorem pvb (S : BScope X.env.scope sc TN F G) (i : Nat) (hN : (TN ++ F)[i]? = some x := by rfl) (hd : (x == ("__debug__" : Str)) = false := by decide) (hcd : (x == ("__classdict__" : Str)) = false := by decide) : PE (cxC X (TN ++ F) sc cl C fp s3 H3 xe) (.Name x pos) (tVar i) :=
  pe_var hN (S.vis x (List.mem_of_getElem? hN)) hd hcd
theorem pgb (S : BScope X.env.scope sc TN F G) (i : Nat) (hN : (TN ++ F)[i]? = some x := by rfl) (hT : TN[i]? = some x := by rfl) : PG (cxC X (TN ++ F) sc cl C fp s3 H3 xe) (.Name x pos) (gName i) :=
  pg_name S.nd hN (.inl (S.loc x (List.mem_of_getElem? hT))) (.inr (S.loc x (List.mem_of_getElem? hT)))
theorem BScope.g (S : BScope X.env.scope sc TN F G) (i : Nat) (hG : G[i]? = some x := by rfl) : Gl (cxC X (TN ++ F) sc cl C fp s3 H3 xe) x := S.gl x (List.mem_of_getElem? hG)
end
end L2
namespace L2
open PySem PySem.Spec PyProof.Rows
/-! ### rows of written constants -/
def constV : Expr → Option V
  | .Constant (.int n) _ _ => some (.int n)
  | .Constant (.str y) _ _ => some (.str y)
  | .Constant (.bool b) _ _ => some (.bl b)
  | .Constant .none _ _ => some .non
  | _ => none
def constsOf : List Expr → Option (List V)
  | [] => some []
  | e :: r => match constV e, constsOf r with
    | some v, some vs => some (v :: vs)
    | _, _ => none
def tVals (vs : List V) : TA := fun _ H Q => Q vs H
theorem pa_consts {X : Cx} : ∀ {es : List Expr} {vs : List V}, constsOf es = some vs → PA X es (tVals vs)
  | [], vs, h => by
    cases h
    exact pa_nil
  | e :: r, vs, h => by
    unfold constsOf at h
    split at h
    case h_2 => cases h
    case h_1 v vs' h1 h2 =>
      cases h
      have ih := pa_consts (X := X) h2
      have go : ∀ {te : TE}, PE X e te → (starEach (e :: r) X.env = (false, eval e X.env) :: starEach r X.env) → (∀ σ H Q, Q v H → te σ H Q) → PA X (e :: r) (tVals (v :: vs')) := fun {te} he hs hq => by
        have q := pa_cons he ih hs
        intro pos pins s σ H Q I hh
        exact q pos pins s σ H Q I (hq σ H _ hh)
      unfold constV at h1
      split at h1
      case h_1 => cases h1; exact go pe_int rfl fun _ _ _ h => h
      case h_2 => cases h1; exact go pe_str rfl fun _ _ _ h => h
      case h_3 => cases h1; exact go pe_bl rfl fun _ _ _ h => h
      case h_4 => cases h1; exact go pe_non rfl fun _ _ _ h => h
      case h_5 => cases h1
theorem pe_lstC {X : Cx} {es : List Expr} {pos : Pos} {vs : List V} (h : constsOf es = some vs) : PE X (.List es pos) (tLst (tVals vs)) := pe_lst (pa_consts h)
theorem w_vals {vs : List V} {σ : St} {H : Hp} {Q : List V → Hp → Prop} (h : Q vs H) : tVals vs σ H Q := h
end L2
namespace L2
open PySem PySem.Spec PyProof.Rows
instance {sc : Scope} {x : Str} : Decidable (Loc sc x) := by unfold Loc; infer_instance
/-- a def's names -/
structure Nm (N : List Str) (sc : Scope) : Prop where
  nd : N.Nodup
  loc : ∀ x ∈ N, Loc sc x
section
variable {X : Cx} {x : Str} {pos : Pos}
theorem Loc.vis {sc : Scope} (h : Loc sc x) : Vis sc x := h.elim .inl fun z => .inr (.inl z)
theorem pvd (M : Nm X.N X.env.scope) (i : Nat) (hN : X.N[i]? = some x := by rfl) (hd : (x == ("__debug__" : Str)) = false := by decide) (hcd : (x == ("__classdict__" : Str)) = false := by decide) : PE X (.Name x pos) (tVar i) :=
  pe_var hN (M.loc x (List.mem_of_getElem? hN)).vis hd hcd
theorem ps_setD {e : Expr} {te : TE} {pos' : Pos} (M : Nm X.N X.env.scope) (i : Nat) (he : PE X e te) (hi : X.N[i]? = some x := by rfl) (hs : swapsWith e (some (.Name x pos')) pos.line X.env = pure false := by rfl) (hf : X.fn x = true := by rfl) :
    PS X (.Assign [.Name x pos'] e pos) (tAsg te (gName i)) := ps_set M.nd hi (M.loc x (List.mem_of_getElem? hi)) he hs (.inl hf)
theorem pgd (M : Nm X.N X.env.scope) (i : Nat) (hi : X.N[i]? = some x := by rfl) (hf : X.fn x = true := by rfl) : PG X (.Name x pos) (gName i) := pg_name M.nd hi (M.loc x (List.mem_of_getElem? hi)) (.inl hf)
end
end L2
namespace L2
open PySem PySem.Spec PyProof.Rows
section
variable {X : Cx} {l rest : List Stmt} {st : Stmt} {t u : TS} {e e' : Expr} {te : TE}
end
end L2
namespace L2
open PySem PySem.Spec PyProof.Rows
section
variable {ta : TA} {tl : TE} {n : Nat} {ix : List Nat} {g : TG} {tc : TT} {te : TE} {σ : St} {H : Hp} {Q : VK}
theorem w_compR (h : ta σ H fun vs H1 => ∃ j : Int, vs = [.int j] ∧ -(2 ^ 62) ≤ j ∧ j < 2 ^ 62 ∧ ∀ D, H1 D = none → CGo (Itr 0 j.toNat) D g tc te Q (List.replicate n none ++ sub ix σ) H1) : tComp (iRng1 ta) n ix g tc te σ H Q := h
theorem w_compT {K : PySem.W.Frag} (h : tl σ H fun x H1 => ∃ a, x = .ref a ∧ (∃ xs, SqT K H1 a xs) ∧ ∀ D, H1 D = none → CGo (Itt K a) D g tc te Q (List.replicate n none ++ sub ix σ) H1) : tComp (iTup K tl) n ix g tc te σ H Q := h
end
end L2
namespace L2
open PySem PySem.Spec PyProof.Rows
/-- a loop's reading, the iterator J at hand -/
def ForJ (J : It) (g : TG) (tb : TS) (D : Ends) (σ : St) (H1 : Hp) : Prop := ∃ W : Nat → Nat → St → Hp → Prop, (∃ m, W 0 m σ H1) ∧ ∀ i m σ H, W i m σ H →
  (J.stop i H ∧ D.nx σ H) ∨ (J.go i H ∧ ∃ N : St → Hp → Prop, (∀ σ' H', N σ' H' → ∃ m', m' < m ∧ W (i + 1) m' σ' H') ∧ ∀ x H', J.yld i H x H' → g x σ H' fun σ2 H2 => tb { D with nx := N, ct := N, bk := D.nx } σ2 H2)
theorem w_forR {ta : TA} {g : TG} {tb : TS} {D : Ends} {σ : St} {H : Hp} (h : ta σ H fun vs H1 => ∃ j : Int, vs = [.int j] ∧ -(2 ^ 62) ≤ j ∧ j < 2 ^ 62 ∧ ForJ (Itr 0 j.toNat) g tb D σ H1) : tFor (iRng1 ta) g tb D σ H := h
theorem w_forL {K : PySem.W.Frag} {tl : TE} {g : TG} {tb : TS} {D : Ends} {σ : St} {H : Hp} (h : tl σ H fun x H1 => ∃ a, x = .ref a ∧ (∃ xs, SqL K H1 a xs) ∧ ForJ (Itl K a) g tb D σ H1) : tFor (iList K tl) g tb D σ H := h
end L2
namespace L2
open PySem PySem.Spec PyProof.Rows
/-! ### arguments, without running them -/
def isStar : Expr → Bool
  | .Starred .. => true
  | _ => false
theorem star1 {e : Expr} {es : List Expr} {env : Env} (h : isStar e = false) : starEach (e :: es) env = (false, eval e env) :: starEach es env := by
  cases e <;> first | rfl | cases h
theorem star_any {env : Env} {pos : Pos} : ∀ {es : List Expr}, es.all (fun e => !isStar e) = true → (backTo pos (starEach es env)).any (·.1) = false
  | [], _ => rfl
  | e :: es, h => by
    rw [List.all_cons, Bool.and_eq_true] at h; rw [star1 (by simpa using h.1)]
    cases es with
    | nil => rfl
    | cons a r =>
      have ih := star_any (env := env) (pos := pos) (es := a :: r) h.2
      rw [star1 (by simpa using (by simpa using h.2 : isStar a = false ∧ _).1)] at ih ⊢
      exact ih
end L2
namespace L2
open PySem PySem.Spec PyProof.Rows
section
variable {X : Cx} {e a : Expr} {es : List Expr} {te : TE} {t ta : TA} {x : Str} {p pos : Pos} {tg : Expr} {id T : String} {r : List V → Hp → VK → Prop}
theorem pa_c (ha : PE X e te) (hr : PA X es t) (h : isStar e = false := by rfl) : PA X (e :: es) (tCons te t) := pa_cons ha hr (star1 h)
theorem pi_r1 (hm : X.mg "range" = none) (ha : PA X [a] ta) (hg : Gl X "range" := by rfl) (h : isStar a = false := by rfl) : PI X tg (.Call (.Name "range" p) [a] [] pos) (iRng1 ta) := pi_range1 hg hm ha (star1 h)
theorem pe_cB (hc : CallR X (.builtin id) r) (hm : X.mg x = none) (hv : bootBuiltins x = some (.builtin id)) (ha : PA X (e :: es) t) (hg : Gl X x := by rfl) (h : isStar e = false := by rfl) (h2 : es.all (fun e => !isStar e) = true := by rfl) (hn : x ≠ "__name__" := by decide) (hdb : (x == ("__debug__" : Str)) = false := by decide) :
    PE X (.Call (.Name x p) (e :: es) [] pos) (tCB r t) := pe_callB hc hg hm hv ha hn hdb (star1 h) (star_any h2)
theorem pe_cT (hc : CallR X (.type T) r) (hm : X.mg x = none) (hv : bootBuiltins x = some (.type T)) (ha : PA X (e :: es) t) (hg : Gl X x := by rfl) (h : isStar e = false := by rfl) (h2 : es.all (fun e => !isStar e) = true := by rfl) (hn : x ≠ "__name__" := by decide) (hdb : (x == ("__debug__" : Str)) = false := by decide) :
    PE X (.Call (.Name x p) (e :: es) [] pos) (tCB r t) := pe_callTy hc hg hm hv ha hn hdb (star1 h) (star_any h2)
theorem pe_f {k j : Nat} {ps : List Str} {sp : Sp} (h : Has X.prog X.w X.K X.mg X.base k x ps sp) (hr : Room j X.A) (hkj : k ≤ j) (ha : PA X (e :: es) t) (hg : Gl X x := by rfl) (h1 : isStar e = false := by rfl) (h2 : es.all (fun e => !isStar e) = true := by rfl)
    (hdb : (x == ("__debug__" : Str)) = false := by decide) : PE X (.Call (.Name x p) (e :: es) [] pos) (tCall sp [] E0 t) := pe_fn h hr hkj ha hg hdb (star1 h1) (star_any h2)
end
end L2
namespace L2
theorem pa_1 {X : Cx} {e : PySem.Expr} {te : TE} (ha : PE X e te) (h : isStar e = false := by rfl) : PA X [e] (tCons te tNil) := pa_c ha pa_nil h
theorem pa_2 {X : Cx} {e e' : PySem.Expr} {te te' : TE} (ha : PE X e te) (hb : PE X e' te') (h : isStar e = false := by rfl) (h' : isStar e' = false := by rfl) : PA X [e, e'] (tCons te (tCons te' tNil)) := pa_c ha (pa_1 hb h') h
end L2
namespace L2
open PySem PySem.Spec PyProof.Rows
theorem w_drop {te : TE} {D : Ends} {σ : St} {H : Hp} (h : te σ H fun _ H1 => D.nx σ H1) : tDrop te D σ H := h
theorem w_bm {K : PySem.W.Frag} {T : String} {r : V → List V → Hp → VK → Prop} {to : TE} {t : TA} {σ : St} {H : Hp} {Q : VK} (h : to σ H fun x H1 => tyV K T x H1 ∧ t σ H1 fun xs H2 => r x xs H2 Q) : tBM K T r to t σ H Q := h
end L2

set_option Elab.async false
set_option linter.all false
set_option maxRecDepth 100000
namespace L2
open PySem PySem.Spec PyProof.Rows
/-! ### data: what a value reads as -/
mutual
inductive RdV (H : Hp) : V → PyData → Prop
  | non : RdV H .non .none
  | bl (b : Bool) : RdV H (.bl b) (.bool b)
  | int (i : Int) : RdV H (.int i) (.int i)
  | str (x : Str) : RdV H (.str x) (.str x)
  | lst {p : Addr} {xs : List V} {ds : List PyData} : H p = some (.lst xs) → RdVs H xs ds → RdV H (.ref p) (.list ds)
  | tup {p : Addr} {xs : List V} {ds : List PyData} : H p = some (.tup xs) → RdVs H xs ds → RdV H (.ref p) (.tuple ds)
  | ftup {p : Addr} {o : Obj} {xs : List V} {ds : List PyData} : H p = some (.frz o (.tup xs)) → RdVs H xs ds → RdV H (.ref p) (.tuple ds)
inductive RdVs (H : Hp) : List V → List PyData → Prop
  | nil : RdVs H [] []
  | cons {v : V} {d : PyData} {vs : List V} {ds : List PyData} : RdV H v d → RdVs H vs ds → RdVs H (v :: vs) (d :: ds)
end
section
variable {X : Cx} {pins : List (Addr × Obj)} {σ : St} {H : Hp} {s : Shared}
mutual
theorem RdV.reads (I : Inv X pins σ H s) {v : V} {d : PyData} : RdV H v d → ∀ {u : Value}, RelV v u → ∃ as, Reads s.heap u d as
  | .non, u, r => by
    cases r
    exact ⟨[], .none⟩
  | .bl b, u, r => by
    cases r
    exact ⟨[], .bool b⟩
  | .int i, u, r => by
    obtain ⟨t, rfl⟩ := r
    exact ⟨[], .int i t⟩
  | .str x, u, r => by
    obtain ⟨t, rfl⟩ := r
    exact ⟨[], .str x t⟩
  | .lst (p := p) hp h, u, r => by
    cases r
    obtain ⟨its, n, rv, e, z⟩ := I.lst hp
    obtain ⟨as, q⟩ := RdVs.reads I h rv
    exact ⟨p :: as, .list e rfl rfl (by simpa using q)⟩
  | .tup (p := p) hp h, u, r => by
    cases r
    obtain ⟨z, its, rv, o, e, c, n, d⟩ := I.hok p _ hp
    obtain ⟨as, q⟩ := RdVs.reads I h rv
    exact ⟨as, .tuple e c d (by simpa using q)⟩
  | .ftup (p := p) hp h, u, r => by
    cases r
    obtain ⟨_, z, its, rv, o, e, c, n, d⟩ := I.hok p _ hp
    obtain ⟨as, q⟩ := RdVs.reads I h rv
    exact ⟨as, .tuple e c d (by simpa using q)⟩
theorem RdVs.reads (I : Inv X pins σ H s) {vs : List V} {ds : List PyData} : RdVs H vs ds → ∀ {us : List Value}, Vals vs us → ∃ as, ReadsAll s.heap us ds as
  | .nil, us, r => by
    cases r
    exact ⟨[], .nil⟩
  | .cons h hs, us, r => by
    cases r with
    | cons r1 r2 =>
      obtain ⟨as, q⟩ := RdV.reads I h r1
      obtain ⟨bs, q2⟩ := RdVs.reads I hs r2
      exact ⟨as ++ bs, .cons q q2⟩
end
end
theorem rdInts {H : Hp} : ∀ (ns : List Int), RdVs H (ns.map V.int) (ns.map PyData.int)
  | [] => .nil
  | n :: ns => .cons (.int n) (rdInts ns)
end L2
namespace L2
open PySem PySem.Spec PyProof.Rows
section
variable {X : Cx} {k : Nat}
def rEqD : R2 := fun x y H Q => ∃ dx dy, RdV H x dx ∧ RdV H y dy ∧ dx.canLay0 = true ∧ dy.canLay0 = true ∧ dx.depth ≤ 60 ∧ Q (.bl (PyData.eqv dx dy)) H
def rRepr : List V → Hp → VK → Prop := fun xs H Q => ∃ v d, xs = [v] ∧ RdV H v d ∧ d.showable = true ∧ d.hasDict = false ∧ d.depth ≤ 50 ∧ d.shown.length ≤ sizeLine ∧ Q (.str d.shown) H
end
end L2
namespace L2
open PySem PySem.Spec PyProof.Rows
theorem depth_ints : ∀ (ns : List Int), PyData.depthAll (ns.map PyData.int) = 0
  | [] => rfl
  | n :: ns => by simp [PyData.depthAll, PyData.depth, depth_ints ns]
end L2
namespace L2
open PySem PySem.Spec PyProof.Rows
section
variable {X : Cx}
theorem vals_of : ∀ {xs : List V} {us : List Value}, xs.length = us.length → (∀ (j : Nat) (x : V) (u : Value), xs[j]? = some x → us[j]? = some u → RelV x u) → Vals xs us
  | [], [], _, _ => .nil
  | [], v :: vs, h, _ => absurd h (by simp)
  | v :: vs, [], h, _ => absurd h (by simp)
  | x :: xs, u :: us, h, k => .cons (k 0 x u rfl rfl) (vals_of (by simpa using h) fun j y v e1 e2 => k (j + 1) y v (by simpa using e1) (by simpa using e2))
/-- range(n), as a thing of its own -/
def rRange : List V → Hp → VK → Prop := fun xs H Q => ∃ j : Int, xs = [.int j] ∧ ∀ r, H r = none → Q (.ref r) (upd H r (.rng 0 j))
def rListR : List V → Hp → VK → Prop := fun xs H Q => ∃ (p : Addr) (n : Nat), xs = [.ref p] ∧ H p = some (.rng 0 (n : Int)) ∧ n ≤ 1000 ∧ ∀ l, H l = none → Q (.ref l) (upd H l (.lst ((List.range n).map fun (i : Nat) => V.int (i : Int))))
end
end L2

set_option Elab.async false
set_option linter.all false
set_option maxRecDepth 100000
namespace L2
open PySem PySem.Spec PyProof.Rows
section
variable {X : Cx}
def rSum : List V → Hp → VK → Prop := fun xs H Q => ∃ (p : Addr) (ns : List Int), xs = [.ref p] ∧ H p = some (.lst (ns.map V.int)) ∧ Q (.int ns.sum) H
end
end L2

set_option Elab.async false
set_option linter.all false
set_option maxRecDepth 100000
namespace L2
open PySem PySem.Spec PyProof.Rows
section
variable {prog : Program} {w : World} {A : Around} {E : Value → Shared → Prop} {s : Shared}
end
end L2

set_option Elab.async false
set_option linter.all false
set_option maxRecDepth 100000
namespace L2
open PySem PySem.Spec PyProof.Rows
abbrev enuH (h : Heap) (t : Addr) : Heap := h.push { cls := .type "tuple_iterator", data := .fields #[.ref t, .int 0 0] }
abbrev enuH2 (h : Heap) (t : Addr) : Heap := (enuH h t).push { cls := .type "enumerate", data := .fields #[.none, .bool false, .ref h.objs.size, rawInt 0, .none, .none] }
section
variable {prog : Program} {w : World} {A : Around} {E : Value → Shared → Prop} {s : Shared}
end
end L2
namespace L2
open PySem PySem.Spec PyProof.Rows
section
variable {X : Cx} {pins : List (Addr × Obj)} {σ : St} {H : Hp} {s : Shared}
end
/-- enumerate over the tuple at a -/
def Ite (K : PySem.W.Frag) (a : Addr) : It :=
  ⟨fun i H => ∃ xs x, SqT K H a xs ∧ xs[i]? = some x, fun i H v H' => ∃ p x, v = .ref p ∧ H p = none ∧ H' = upd H p (.tup [.int (i : Int), x]) ∧ ∀ xs, SqT K H a xs → xs[i]? = some x, fun i H => ∃ xs, SqT K H a xs ∧ xs.length = i⟩

section
variable {X : Cx} {es : List Expr} {kt : Nat} {pt : Pos}
def iEnu (K : PySem.W.Frag) (ta : TA) : TI := fun σ H R => ta σ H fun vs H1 => ∃ a, vs = [.ref a] ∧ (∃ xs, SqT K H1 a xs) ∧ R (Ite K a) H1
end
end L2

set_option Elab.async false
set_option linter.all false
set_option maxRecDepth 100000
namespace L2
open PySem PySem.Spec PyProof.Rows
section
variable {prog : Program} {w : World} {A : Around} {E : Value → Shared → Prop} {s : Shared}
end
end L2
namespace L2
open PySem PySem.Spec PyProof.Rows
abbrev zpH1 (h : Heap) (a : Addr) : Heap := h.push { cls := .type "tuple_iterator", data := .fields #[.ref a, .int 0 0] }
abbrev zpH2 (h : Heap) (a b : Addr) : Heap := (zpH1 h a).push { cls := .type "tuple_iterator", data := .fields #[.ref b, .int 0 0] }
abbrev zpH3 (h : Heap) (a b : Addr) : Heap := (zpH2 h a b).push { cls := .type "tuple", data := .seq #[.ref h.objs.size, .ref (zpH1 h a).objs.size] }
abbrev zpH4 (h : Heap) (a b : Addr) : Heap := (zpH3 h a b).push { cls := .type "tuple", data := .seq #[.none, .none] }
abbrev zpH5 (h : Heap) (a b : Addr) : Heap := (zpH4 h a b).push { cls := .type "zip", data := .fields #[.none, .bool false, .bool false, .ref (zpH2 h a b).objs.size, .ref (zpH3 h a b).objs.size] }
section
variable {prog : Program} {w : World} {A : Around} {E : Value → Shared → Prop} {s : Shared}
end
end L2

set_option Elab.async false
set_option linter.all false
set_option maxRecDepth 100000
namespace L2
open PySem PySem.Spec PyProof.Rows
/-- zip over the tuples at a and b -/
def Itz (K : PySem.W.Frag) (a b : Addr) : It :=
  ⟨fun i H => ∃ xs ys x y, SqT K H a xs ∧ SqT K H b ys ∧ xs[i]? = some x ∧ ys[i]? = some y, fun i H v H' => ∃ p x y, v = .ref p ∧ H p = none ∧ H' = upd H p (.tup [x, y]) ∧ (∀ xs, SqT K H a xs → xs[i]? = some x) ∧ ∀ ys, SqT K H b ys → ys[i]? = some y,
    fun i H => ∃ xs ys, SqT K H a xs ∧ SqT K H b ys ∧ (xs.length ≤ i ∨ ys.length ≤ i)⟩
section
variable {X : Cx} {es : List Expr} {kt : Nat} {pt : Pos}
def iZp (K : PySem.W.Frag) (ta : TA) : TI := fun σ H R => ta σ H fun vs H1 => ∃ a b, vs = [.ref a, .ref b] ∧ (∃ xs, SqT K H1 a xs) ∧ (∃ ys, SqT K H1 b ys) ∧ R (Itz K a b) H1
end
end L2

set_option Elab.async false
set_option linter.all false
set_option maxRecDepth 100000
namespace L2
open PySem PySem.Spec PyProof.Rows
/-! ### zip of three tuples -/
def IsTri (h : Heap) (T : Addr) (a b c : Value) : Prop := h.get? T = some { cls := .type "tuple", data := .seq #[a, b, c] }
structure Apart3 (z TI TO i1 i2 i3 l1 l2 l3 : Addr) : Prop where
  nz : TI ≠ z ∧ TO ≠ z ∧ i1 ≠ z ∧ i2 ≠ z ∧ i3 ≠ z
  nI : TI ≠ TO ∧ TI ≠ i1 ∧ TI ≠ i2 ∧ TI ≠ i3
  nO : TO ≠ i1 ∧ TO ≠ i2 ∧ TO ≠ i3
  ni : i1 ≠ i2 ∧ i1 ≠ i3 ∧ i2 ≠ i3
  l1 : l1 ≠ z ∧ l1 ≠ TO ∧ l1 ≠ i1 ∧ l1 ≠ i2 ∧ l1 ≠ i3
  l2 : l2 ≠ z ∧ l2 ≠ TO ∧ l2 ≠ i1 ∧ l2 ≠ i2 ∧ l2 ≠ i3
  l3 : l3 ≠ z ∧ l3 ≠ TO ∧ l3 ≠ i1 ∧ l3 ≠ i2 ∧ l3 ≠ i3
section
variable {prog : Program} {w : World} {A : Around} {E : Value → Shared → Prop} {s : Shared}
end
abbrev ztH1 (h : Heap) (a : Addr) : Heap := h.push { cls := .type "tuple_iterator", data := .fields #[.ref a, .int 0 0] }
abbrev ztH2 (h : Heap) (a b : Addr) : Heap := (ztH1 h a).push { cls := .type "tuple_iterator", data := .fields #[.ref b, .int 0 0] }
abbrev ztH3 (h : Heap) (a b c : Addr) : Heap := (ztH2 h a b).push { cls := .type "tuple_iterator", data := .fields #[.ref c, .int 0 0] }
abbrev ztH4 (h : Heap) (a b c : Addr) : Heap := (ztH3 h a b c).push { cls := .type "tuple", data := .seq #[.ref h.objs.size, .ref (ztH1 h a).objs.size, .ref (ztH2 h a b).objs.size] }
abbrev ztH5 (h : Heap) (a b c : Addr) : Heap := (ztH4 h a b c).push { cls := .type "tuple", data := .seq #[.none, .none, .none] }
abbrev ztH6 (h : Heap) (a b c : Addr) : Heap := (ztH5 h a b c).push { cls := .type "zip", data := .fields #[.none, .bool false, .bool false, .ref (ztH3 h a b c).objs.size, .ref (ztH4 h a b c).objs.size] }
end L2

set_option Elab.async false
set_option linter.all false
set_option maxRecDepth 100000
namespace L2
open PySem PySem.Spec PyProof.Rows
section
variable {D : Addr} {te : TE} {tc : TT} {Q : VK} {ρ : St} {H : Hp}
end
section
variable {ta : TA} {tl : TE} {n : Nat} {ix : List Nat} {g : TG} {tc : TT} {te : TE} {σ : St} {H : Hp} {Q : VK}
theorem w_compL {K : PySem.W.Frag} (h : tl σ H fun x H1 => ∃ a, x = .ref a ∧ (∃ xs, SqL K H1 a xs) ∧ ∀ D, H1 D = none → CGo (Itl K a) D g tc te Q (List.replicate n none ++ sub ix σ) H1) : tComp (iList K tl) n ix g tc te σ H Q := h
end
section
variable {X : Cx}
/-- isinstance(x, T), T a type of the language -/
def rIsI (K : PySem.W.Frag) : List V → Hp → VK → Prop := fun xs H Q => ∃ v n t b, xs = [v, .ty n] ∧ TyOf K H v t ∧ PySem.W.kitOne K t (.type n) = some b ∧ Q (.bl b) H
theorem call_isI : CallR X (.builtin "isinstance") (rIsI X.K) := by
  intro pins s σ H xs us Q I r h
  obtain ⟨v, n, t, b, rfl, ty, e, q⟩ := h
  cases r with
  | cons r1 r2 =>
    obtain ⟨u, rfl, ru⟩ := Vals.one r2
    cases ru
    exact isinst_ok I r1 ty e fun tk => ⟨.bl b, H, I.kept (t' := tk) fun _ _ e => e, rfl, q⟩
theorem kit_ib (K : PySem.W.Frag) : PySem.W.kitOne K (.type "int") (.type "bool") = some false := by rfl
end
section
variable {σ : St} {H : Hp} {Q : VK} {te ta tb tc : TE} {r r' : R2} {tl th : TO}
theorem w_chain (h : ta σ H fun x H1 => tb σ H1 fun y H2 => r x y H2 fun z H3 => ∃ k, z = .bl k ∧ (if k = true then tc σ H3 fun w' H4 => r' y w' H4 Q else Q (.bl false) H3)) : tChain r r' ta tb tc σ H Q := h
theorem w_sl {r : V → Option Int → Option Int → Hp → VK → Prop} (h : te σ H fun x H1 => tl σ H1 fun l H2 => th σ H2 fun u H3 => r x l u H3 Q) : tSl r te tl th σ H Q := h
theorem w_nopart {QO : Option Int → Hp → Prop} (h : QO none H) : tNoPart σ H QO := h
theorem w_part {QO : Option Int → Hp → Prop} (h : te σ H fun x H1 => ∃ i, x = .int i ∧ QO (some i) H1) : tPart te σ H QO := h
end
theorem seq_post {t u : TS} {D : Ends} {σ : St} {H : Hp} (Post : St → Hp → Prop) (h2 : ∀ σ' H', Post σ' H' → u D σ' H') (h1 : (∀ σ' H', Post σ' H' → u D σ' H') → t { D with nx := u D } σ H) : tSeq t u D σ H := h1 h2
end L2

set_option Elab.async false
set_option linter.all false
set_option maxRecDepth 100000
namespace L2
open PySem PySem.Spec PyProof.Rows
/-! ### displays of constants, numbers below nought too -/
def constW : Expr → Option V
  | .Constant (.int n) _ _ => some (.int n)
  | .Constant (.str y) _ _ => some (.str y)
  | .UnaryOp .USub (.Constant (.int n) _ _) _ => some (.int (-n))
  | _ => none
def constsW : List Expr → Option (List V)
  | [] => some []
  | e :: r => match constW e, constsW r with
    | some v, some vs => some (v :: vs)
    | _, _ => none
theorem pa_constsW {X : Cx} : ∀ {es : List Expr} {vs : List V}, constsW es = some vs → PA X es (tVals vs)
  | [], vs, h => by
    cases h
    exact pa_nil
  | e :: r, vs, h => by
    unfold constsW at h
    split at h
    case h_2 => cases h
    case h_1 v vs' h1 h2 =>
      cases h
      have ih := pa_constsW (X := X) h2
      have go : ∀ {te : TE}, PE X e te → (starEach (e :: r) X.env = (false, eval e X.env) :: starEach r X.env) → (∀ σ H Q, Q v H → te σ H Q) → PA X (e :: r) (tVals (v :: vs')) := fun {te} he hs hq => by
        have q := pa_cons he ih hs
        intro pos pins s σ H Q I hh
        exact q pos pins s σ H Q I (hq σ H _ hh)
      unfold constW at h1
      split at h1
      case h_1 => cases h1; exact go pe_int rfl fun _ _ _ h => h
      case h_2 => cases h1; exact go pe_str rfl fun _ _ _ h => h
      case h_3 => cases h1; exact go (pe_un un_neg pe_int) rfl fun _ _ _ h => ⟨_, rfl, h⟩
      case h_4 => cases h1
theorem pe_lstW {X : Cx} {es : List Expr} {pos : Pos} {vs : List V} (h : constsW es = some vs) : PE X (.List es pos) (tLst (tVals vs)) := pe_lst (pa_constsW h)
theorem w_unI {σ : St} {H : Hp} {Q : VK} {g : Int → V} {ta : TE} (h : ta σ H fun x H1 => ∃ i, x = .int i ∧ Q (g i) H1) : tUn (rU g) ta σ H Q := h
end L2
namespace G2
open PySem L2
theorem md {i j : Int} (h : 0 < j) : 0 ≤ i % j ∧ i % j < j := ⟨Int.emod_nonneg _ (Int.ne_of_gt h), Int.emod_lt_of_pos _ h⟩
theorem mulL {i j : Int} (h1 : -4000000000 < i) (h2 : i < 4000000000) : CMul i j := .inl ⟨by omega, by omega⟩
theorem mulR {i j : Int} (h1 : -4000000000 < j) (h2 : j < 4000000000) : CMul i j := .inr ⟨by omega, by omega⟩
theorem ofI {r : Int} (h : 0 ≤ r) : ∃ n : Nat, r = (n : Int) := ⟨r.toNat, by omega⟩
/-- tuples stay, and what is known as an object -/
structure TK (H H' : Hp) : Prop where
  t : ∀ q xs, H q = some (.tup xs) → H' q = some (.tup xs)
  f : ∀ q o u, H q = some (.frz o u) → H' q = some (.frz o u)
section
variable {p l : Addr} {H H' H'' : Hp} {o : HO}
theorem TK.refl : TK H H := ⟨fun _ _ e => e, fun _ _ _ e => e⟩
theorem TK.trans (a : TK H H') (b : TK H' H'') : TK H H'' := ⟨fun q xs e => b.t q xs (a.t q xs e), fun q o u e => b.f q o u (a.f q o u e)⟩
theorem TK.new (h : H l = none) : TK H (upd H l o) := ⟨fun q xs e => by rw [upd_ne (ne_of_none e h)]; exact e, fun q ob u e => by rw [upd_ne (ne_of_none e h)]; exact e⟩
theorem TK.lst {ys : List V} (h : H l = some (.lst ys)) : TK H (upd H l o) := ⟨fun q xs e => by rw [upd_ne (ne_of e h (by intro z; cases z))]; exact e, fun q ob u e => by rw [upd_ne (ne_of e h (by intro z; cases z))]; exact e⟩
theorem TK.same (k : Same H H') : TK H H' := ⟨fun _ _ e => k _ _ e, fun _ _ _ e => k _ _ e⟩
end
theorem _root_.L2.Same.new {H H' : Hp} {l : Addr} {o : HO} (k : Same H H') (h : H' l = none) : Same H (upd H' l o) := fun b u e => by
  rw [upd_ne (ne_of_none (k b u e) h)]
  exact k b u e
theorem _root_.L2.Same.put {H H' : Hp} {l : Addr} {o : HO} (k : Same H H') (h : H l = none) : Same H (upd H' l o) := fun b u e => by
  rw [upd_ne (ne_of_none e h)]
  exact k b u e
/-- the script, known as an object -/
def SqF (K : PySem.W.Frag) (H : Hp) (a : Addr) (xs : List V) : Prop :=
  (∃ o, H a = some (.frz o (.lst xs))) ∨ ∃ (o : Obj) (its : Array Value) (n : Nat), K.lookup a = some o ∧ o.cls = .type "list" ∧ o.dict = none ∧ o.data = .seq its n ∧ its.size ≤ sizeLine ∧ Vals xs its.toList
theorem SqF.sq {K : PySem.W.Frag} {H : Hp} {a : Addr} {xs : List V} : SqF K H a xs → SqL K H a xs
  | .inl ⟨o, e⟩ => .inl (.inr ⟨o, e⟩)
  | .inr h => .inr h
theorem SqF.of {K : PySem.W.Frag} {H : Hp} {a : Addr} {xs : List V} (O : Only H) : SqL K H a xs → SqF K H a xs
  | .inl (.inl e) => by
    rcases O a with z | ⟨o, ys, z⟩
    · rw [e] at z; cases z
    · rw [e] at z; cases z
  | .inl (.inr h) => .inl h
  | .inr h => .inr h
theorem SqF.tk {K : PySem.W.Frag} {H H' : Hp} {a : Addr} {xs : List V} (k : TK H H') : SqF K H a xs → SqF K H' a xs
  | .inl ⟨o, e⟩ => .inl ⟨o, k.f _ _ _ e⟩
  | .inr h => .inr h
/-! ### a tape of draws -/
structure Tp (H : Hp) (p l : Addr) (ns : List Int) : Prop where
  ex : ∃ c e : Int, H p = some (.lst [.ref l, .int c, .int e])
  hl : H l = some (.lst (ns.map V.int))
  ne : p ≠ l
section
variable {p l a : Addr} {H H' : Hp} {o : HO} {ns : List Int}
theorem Tp.draw (t : Tp H p l ns) {c e : Int} : Tp (upd H p (.lst [.ref l, .int c, .int e])) p l ns := ⟨⟨c, e, upd_same⟩, by rw [upd_ne (Ne.symm t.ne)]; exact t.hl, t.ne⟩
theorem Tp.np (t : Tp H p l ns) (h : H a = none) : p ≠ a := let ⟨_, _, e⟩ := t.ex; ne_of_none e h
theorem Tp.nl (t : Tp H p l ns) (h : H a = none) : l ≠ a := ne_of_none t.hl h
theorem Tp.new (t : Tp H p l ns) (h : H a = none) : Tp (upd H a o) p l ns := by
  obtain ⟨c, e, hp⟩ := t.ex
  exact ⟨⟨c, e, by rw [upd_ne (ne_of_none hp h)]; exact hp⟩, by rw [upd_ne (ne_of_none t.hl h)]; exact t.hl, t.ne⟩
theorem Tp.put (t : Tp H p l ns) (h1 : p ≠ a) (h2 : l ≠ a) : Tp (upd H a o) p l ns := by
  obtain ⟨c, e, hp⟩ := t.ex
  exact ⟨⟨c, e, by rw [upd_ne h1]; exact hp⟩, by rw [upd_ne h2]; exact t.hl, t.ne⟩
theorem Tp.same (t : Tp H p l ns) (k : Same H H') : Tp H' p l ns := by
  obtain ⟨c, e, hp⟩ := t.ex
  exact ⟨⟨c, e, k _ _ hp⟩, k _ _ t.hl, t.ne⟩
theorem Tp.tk (t : Tp H p l ns) : TK H (upd H p o) := let ⟨_, _, e⟩ := t.ex; TK.lst e
end
/-! ### texts -/
theorem log_small {n : Nat} (h : n < 1000000000000000) : n.log2 < 1920 := by
  by_cases h0 : n = 0
  · subst h0
    decide
  · exact (Nat.log2_lt h0).mpr (Nat.lt_of_lt_of_le h (by decide +kernel))
def Sm (i : Int) : Prop := -1000000000000000 < i ∧ i < 1000000000000000
theorem show_ints : ∀ (ns : List Int), (∀ n ∈ ns, Sm n) → PyData.showableAll (ns.map PyData.int) = true
  | [], _ => rfl
  | n :: ns, h => by
    obtain ⟨h0, h1⟩ := h n List.mem_cons_self
    have hs : n.natAbs.log2 < 1920 := log_small (by omega)
    simp only [List.map_cons, PyData.showableAll, PyData.showable, decide_eq_true hs, show_ints ns fun m hm => h m (List.mem_cons_of_mem _ hm), Bool.and_self]
theorem nodict_ints : ∀ (ns : List Int), PyData.hasDictAll (ns.map PyData.int) = false
  | [] => rfl
  | n :: ns => by simp only [List.map_cons, PyData.hasDictAll, PyData.hasDict, nodict_ints ns, Bool.or_self]
theorem len_int {n : Int} (h : Sm n) : (PyData.shown (.int n)).length ≤ 16 := by
  obtain ⟨h0, h1⟩ := h
  have := int_text_length_le10 (a := n) (k := 15) (by decide) (by omega)
  show (Str.ofString (toString n)).length ≤ 16
  rw [ofString_length]
  exact this
theorem len_ints : ∀ (ns : List Int), (∀ n ∈ ns, Sm n) → ((PyData.shownAll (ns.map PyData.int)).map (·.length)).sum ≤ 16 * ns.length ∧ (PyData.shownAll (ns.map PyData.int)).length = ns.length
  | [], _ => ⟨Nat.le_refl _, rfl⟩
  | n :: ns, h => by
    obtain ⟨i1, i2⟩ := len_ints ns fun m hm => h m (List.mem_cons_of_mem _ hm)
    have e := len_int (h n List.mem_cons_self)
    simp only [List.map_cons, PyData.shownAll, List.sum_cons, List.length_cons]
    exact ⟨by omega, by omega⟩
theorem len_tup (ds : List PyData) : (PyData.shown (.tuple ds)).length ≤ ((PyData.shownAll ds).map (·.length)).sum + 2 * (PyData.shownAll ds).length + 3 := tupleText_len_le _
/-- a thing that may be shown: at most n signs, at most h within one another -/
structure Shw (d : PyData) (n h : Nat) : Prop where
  s : d.showable = true
  nd : d.hasDict = false
  p : d.depth ≤ h
  l : d.shown.length ≤ n
theorem Shw.up {d : PyData} {n h m i : Nat} (x : Shw d n h) (h1 : n ≤ m) (h2 : h ≤ i) : Shw d m i := ⟨x.s, x.nd, Nat.le_trans x.p h2, Nat.le_trans x.l h1⟩
theorem Shw.int {i : Int} (h : Sm i) : Shw (.int i) 16 0 := ⟨by
  obtain ⟨h0, h1⟩ := h
  have hs : i.natAbs.log2 < 1920 := log_small (by omega)
  simp only [PyData.showable, decide_eq_true hs], rfl, Nat.zero_le _, len_int h⟩
theorem Shw.ints {ns : List Int} (h : ∀ n ∈ ns, Sm n) : Shw (.tuple (ns.map PyData.int)) (18 * ns.length + 3) 1 := ⟨by
    simp only [PyData.showable]
    exact show_ints ns h, by
    simp only [PyData.hasDict]
    exact nodict_ints ns, by
    show PyData.depthAll _ + 1 ≤ 1
    rw [depth_ints]
    decide, by
    have h1 := len_tup (ns.map PyData.int)
    obtain ⟨h2, h3⟩ := len_ints ns h
    omega⟩
theorem Shw.two {a b : PyData} {m n h : Nat} (ha : Shw a m h) (hb : Shw b n h) : Shw (.tuple [a, b]) (m + n + 7) (h + 1) := ⟨by
    simp only [PyData.showable, PyData.showableAll, ha.s, hb.s, Bool.and_self], by
    simp only [PyData.hasDict, PyData.hasDictAll, ha.nd, hb.nd, Bool.or_self], by
    show PyData.depthAll [a, b] + 1 ≤ h + 1
    have := ha.p
    have := hb.p
    simp only [PyData.depthAll]
    omega, by
    have h1 := len_tup [a, b]
    have := ha.l
    have := hb.l
    simp only [PyData.shownAll, List.map_cons, List.map_nil, List.sum_cons, List.sum_nil, List.length_cons, List.length_nil] at h1
    omega⟩
theorem Shw.three {a b c : PyData} {m n k h : Nat} (ha : Shw a m h) (hb : Shw b n h) (hc : Shw c k h) : Shw (.tuple [a, b, c]) (m + n + k + 9) (h + 1) := ⟨by
    simp only [PyData.showable, PyData.showableAll, ha.s, hb.s, hc.s, Bool.and_self], by
    simp only [PyData.hasDict, PyData.hasDictAll, ha.nd, hb.nd, hc.nd, Bool.or_self], by
    show PyData.depthAll [a, b, c] + 1 ≤ h + 1
    have := ha.p
    have := hb.p
    have := hc.p
    simp only [PyData.depthAll]
    omega, by
    have h1 := len_tup [a, b, c]
    have := ha.l
    have := hb.l
    have := hc.l
    simp only [PyData.shownAll, List.map_cons, List.map_nil, List.sum_cons, List.sum_nil, List.length_cons, List.length_nil] at h1
    omega⟩
/-- each of the ones times its other, added -/
def dot : List Int → List Int → Int
  | x :: xs, y :: ys => x * y + dot xs ys
  | _, _ => 0
/-- the two may be multiplied, item by item -/
def MulOk (xs ys : List Int) : Prop := ∀ (i : Nat) (x y : Int), xs[i]? = some x → ys[i]? = some y → CMul x y
end G2

set_option Elab.async false
set_option linter.all false
set_option maxRecDepth 100000
namespace L2
open PySem PySem.Spec PyProof.Rows
/-! ### products of great numbers -/
end L2
namespace G2
open PySem L2
/-- at most ninety figures -/
def Bg (i : Int) : Prop := i.natAbs < 10 ^ 90
section
variable {D : Addr} {te : TE} {tc : TT} {Q : VK} {ρ : St} {H : Hp} {K : PySem.W.Frag} {a b : Addr}
end
/-! ### texts of great numbers -/
theorem Bg.log {i : Int} (h : Bg i) : i.natAbs.log2 < 1920 := by
  unfold Bg at h
  by_cases h0 : i.natAbs = 0
  · rw [h0]
    decide
  · exact (Nat.log2_lt h0).mpr (Nat.lt_of_lt_of_le h (by decide +kernel))
theorem Bg.len {n : Int} (h : Bg n) : (PyData.shown (.int n)).length ≤ 91 := by
  have := int_text_length_le10 (a := n) (k := 90) (by decide) h
  show (Str.ofString (toString n)).length ≤ 91
  rw [ofString_length]
  exact this
theorem Shw.big {i : Int} (h : Bg i) : Shw (.int i) 91 0 := ⟨by simp only [PyData.showable, decide_eq_true h.log], rfl, Nat.zero_le _, h.len⟩
/-! ### lists and tuples compared -/
section
variable {X : Cx} {k : Nat}
def rNeD : R2 := fun x y H Q => ∃ dx dy, RdV H x dx ∧ RdV H y dy ∧ dx.canLay0 = true ∧ dy.canLay0 = true ∧ dx.depth ≤ 60 ∧ Q (.bl (!PyData.eqv dx dy)) H
end
/-! ### forms -/
structure Fm where
  ins : List Int
  sts : List Int
  plus : Int
def FmAt (H : Hp) (q : Addr) (f : Fm) : Prop := ∃ a b, H q = some (.tup [.ref a, .ref b, .int f.plus]) ∧ H a = some (.tup (f.ins.map V.int)) ∧ H b = some (.tup (f.sts.map V.int))
theorem FmAt.same {H H' : Hp} {q : Addr} {f : Fm} (k : Same H H') : FmAt H q f → FmAt H' q f
  | ⟨a, b, h1, h2, h3⟩ => ⟨a, b, k _ _ h1, k _ _ h2, k _ _ h3⟩
theorem FmAt.tk {H H' : Hp} {q : Addr} {f : Fm} (k : TK H H') : FmAt H q f → FmAt H' q f
  | ⟨a, b, h1, h2, h3⟩ => ⟨a, b, k.t _ _ h1, k.t _ _ h2, k.t _ _ h3⟩
def addF (f g : Fm) : Fm := ⟨List.zipWith (fun x y => x + y) f.ins g.ins, List.zipWith (fun x y => x + y) f.sts g.sts, f.plus + g.plus⟩
def oftF (t : Int) (f : Fm) : Fm := ⟨f.ins.map fun x => t * x, f.sts.map fun x => t * x, t * f.plus⟩
def moreF (n : Int) (f : Fm) : Fm := ⟨f.ins, f.sts, f.plus + n⟩
def fmV (f : Fm) (am st : List Int) : Int := dot f.ins am + dot f.sts st + f.plus
/-- its kind, and a bound of its numbers -/
structure FmOk (n m : Nat) (B : Int) (f : Fm) : Prop where
  li : f.ins.length = n
  ls : f.sts.length = m
  bi : ∀ x ∈ f.ins, -B ≤ x ∧ x ≤ B
  bs : ∀ x ∈ f.sts, -B ≤ x ∧ x ≤ B
  bp : -B ≤ f.plus ∧ f.plus ≤ B
def fmD (f : Fm) : PyData := .tuple [.tuple (f.ins.map .int), .tuple (f.sts.map .int), .int f.plus]
theorem fm_rd {H : Hp} {q : Addr} {f : Fm} : FmAt H q f → RdV H (.ref q) (fmD f)
  | ⟨_, _, hq, ha, hb⟩ => .tup hq (.cons (.tup ha (rdInts _)) (.cons (.tup hb (rdInts _)) (.cons (.int _) .nil)))
theorem Bg.of {x B : Int} (hB : B < 10 ^ 90) (h : -B ≤ x ∧ x ≤ B) : Bg x := by
  unfold Bg
  omega
end G2

set_option Elab.async false
set_option linter.all false
set_option maxRecDepth 100000
namespace L2
open PySem PySem.Spec PyProof.Rows
section
variable {prog : Program} {w : World} {A : Around} {E : Value → Shared → Prop} {s : Shared}
end
/-- zip over the tuples at a, b and c, all as long -/
def It3 (K : PySem.W.Frag) (a b c : Addr) : It :=
  ⟨fun i H => ∃ xs ys zs x y z, SqT K H a xs ∧ SqT K H b ys ∧ SqT K H c zs ∧ xs[i]? = some x ∧ ys[i]? = some y ∧ zs[i]? = some z,
   fun i H v H' => ∃ p x y z, v = .ref p ∧ H p = none ∧ H' = upd H p (.tup [x, y, z]) ∧ (∀ xs, SqT K H a xs → xs[i]? = some x) ∧ (∀ ys, SqT K H b ys → ys[i]? = some y) ∧ ∀ zs, SqT K H c zs → zs[i]? = some z,
   fun i H => ∃ xs, SqT K H a xs ∧ xs.length ≤ i⟩
section
variable {X : Cx} {es : List Expr} {kt : Nat} {pt : Pos}
def iZt (K : PySem.W.Frag) (ta : TA) : TI := fun σ H R => ta σ H fun vs H1 => ∃ a b c, vs = [.ref a, .ref b, .ref c] ∧ (∃ xs, SqT K H1 a xs) ∧ (∃ ys, SqT K H1 b ys) ∧ (∃ zs, SqT K H1 c zs) ∧ R (It3 K a b c) H1
end
end L2

set_option Elab.async false
set_option linter.all false
set_option maxRecDepth 100000
namespace L2
open PySem PySem.Spec PyProof.Rows
section
variable {X : Cx}
theorem bools_of : ∀ {bs : List Bool} {us : List Value}, Vals (bs.map V.bl) us → us = bs.map Value.bool
  | [], us, r => by
    cases r
    rfl
  | b :: bs, us, r => by
    cases r with
    | cons r1 r2 =>
      cases r1
      rw [bools_of r2]
      rfl
def rAll : List V → Hp → VK → Prop := fun xs H Q => ∃ (p : Addr) (bs : List Bool), xs = [.ref p] ∧ H p = some (.lst (bs.map V.bl)) ∧ Q (.bl (bs.all id)) H
theorem all_range (bs : List Bool) : (List.range bs.length).all (fun i => bs.getD i false) = bs.all id := by
  rw [Bool.eq_iff_iff, List.all_eq_true, List.all_eq_true]
  constructor
  · intro h b hb
    obtain ⟨i, hi, rfl⟩ := List.getElem_of_mem hb
    have := h i (List.mem_range.mpr hi)
    simpa [List.getD_eq_getElem?_getD, hi] using this
  · intro h i hi
    have hi' := List.mem_range.mp hi
    have := h bs[i] (List.getElem_mem hi')
    simpa [List.getD_eq_getElem?_getD, hi'] using this
theorem call_all (hc : X.calm = true) : CallR X (.builtin "all") rAll := by
  intro pins s σ H xs us Q I r h
  obtain ⟨p, bs, rfl, hp, q⟩ := h
  obtain ⟨u, rfl, ru⟩ := r.one
  cases ru
  obtain ⟨its, n, rv, e, z⟩ := I.lst hp
  have hits := bools_of rv
  subst hits
  have hl : s.heap.IsList p (bs.map Value.bool).toArray := ⟨_, e, rfl, n, rfl⟩
  refine call_all_walk (wpAny_pyIter_list hl ?_)
  refine ⟨_, _, _, _, _, _, fun i => bs.getD i false, rfl, Walks.list (A := X.A.in1) (I.ok.hd hc) _ p (Nat.ne_of_lt (Heap.lt_size e)) (bs.map Value.bool).toArray, ⟨⟨_, Heap.get?_push_size _ rfl, rfl, rfl⟩, hl.push _⟩, ?_, fun h' tk hk => ?_⟩
  · intro i v s' Q' E' hv hQ'
    have hv' : (bs.map Value.bool)[i]? = some v := by simpa using hv
    rw [List.getElem?_map] at hv'
    cases eb : bs[i]? with
    | none => rw [eb] at hv'; cases hv'
    | some b =>
      rw [eb] at hv'
      cases hv'
      have : bs.getD i false = b := by rw [List.getD_eq_getElem?_getD, eb]; rfl
      refine wpAny_truthy_bool ?_
      dsimp only at hQ'
      rw [this] at hQ'
      exact hQ'
  · have e1 : (List.range (bs.map Value.bool).toArray.size).all (fun i => bs.getD i false) = bs.all id := by simpa using all_range bs
    rw [e1]
    exact ⟨.bl _, H, I.kept (t' := tk) (old_kept (l := p) hk), rfl, q⟩
def rMinL : List V → Hp → VK → Prop := fun xs H Q => ∃ (p : Addr) (ns : List Int), xs = [.ref p] ∧ H p = some (.lst (ns.map V.int)) ∧ 0 < ns.length ∧ ∀ M, M ∈ ns → (∀ a ∈ ns, M ≤ a) → Q (.int M) H
end
end L2

set_option Elab.async false
set_option linter.all false
set_option maxRecDepth 100000
namespace L2
open PySem PySem.Spec PyProof.Rows
/-- enumerate over the list at a -/
def Itel (K : PySem.W.Frag) (a : Addr) : It :=
  ⟨fun i H => ∃ xs x, SqL K H a xs ∧ xs[i]? = some x, fun i H v H' => ∃ p x, v = .ref p ∧ H p = none ∧ H' = upd H p (.tup [.int (i : Int), x]) ∧ ∀ xs, SqL K H a xs → xs[i]? = some x, fun i H => ∃ xs, SqL K H a xs ∧ xs.length = i⟩

section
variable {X : Cx} {es : List Expr} {kt : Nat} {pt : Pos}
def iEnl (K : PySem.W.Frag) (ta : TA) : TI := fun σ H R => ta σ H fun vs H1 => ∃ a, vs = [.ref a] ∧ (∃ xs, SqL K H1 a xs) ∧ R (Itel K a) H1
end
end L2

set_option Elab.async false
set_option linter.all false
set_option maxRecDepth 100000
namespace L2
open PySem PySem.Spec PyProof.Rows
def isI (i : Int) : Value → Bool
  | .int a _ => a == i
  | _ => false
section
variable {X : Cx}
/-- xs.remove(i), xs a list of ints -/
def rRem : V → List V → Hp → VK → Prop := fun x vs H Q => ∃ (l : Addr) (xs : List Int) (i : Int), x = .ref l ∧ vs = [.int i] ∧ H l = some (.lst (xs.map V.int)) ∧ i ∈ xs ∧ Q .non (upd H l (.lst ((xs.erase i).map V.int)))

end
/-- a block over a list, one name -/
theorem cgo_list {D : Addr} {tc : TT} {te : TE} {Q : VK} {ρ : St} {H : Hp} {K : PySem.W.Frag} {a : Addr} {xs : List V} (Pv : Nat → List V → Hp → Prop) (h0 : Pv 0 [] (upd H D (.lst []))) (hl : ∀ i ys H', i ≤ xs.length → Pv i ys H' → SqL K H' a xs)
    (hs : ∀ i x ys H', xs[i]? = some x → Pv i ys H' → H' D = some (.lst ys) → ∀ (R : V → Hp → Prop) (S : Hp → Prop), (∀ y H4, H4 D = some (.lst ys) → ys.length < sizeLine → Pv (i + 1) (ys ++ [y]) (upd H4 D (.lst (ys ++ [y]))) → R y H4) → (∀ H3, H3 D = some (.lst ys) → Pv (i + 1) ys H3 → S H3) →
      tc (some x :: ρ) H' fun b H3 => if b = true then te (some x :: ρ) H3 R else S H3)
    (hd : ∀ ys H', Pv xs.length ys H' → H' D = some (.lst ys) → Q (.ref D) H') : CGo (Itl K a) D (gName 0) tc te Q (none :: ρ) H := by
  refine ⟨fun i m τ ys H' => m = xs.length - i ∧ i ≤ xs.length ∧ (∃ tv, τ = tv :: ρ) ∧ Pv i ys H' ∧ H' D = some (.lst ys), ⟨xs.length, by omega, Nat.zero_le _, ⟨_, rfl⟩, h0, upd_same⟩, ?_⟩
  rintro i m τ ys H' ⟨rfl, hi, ⟨tv, rfl⟩, hp, hD⟩
  refine ⟨hD, ?_⟩
  have sq := hl i ys H' hi hp
  by_cases hlt : i < xs.length
  · refine .inr ⟨⟨xs, xs[i], sq, by simp [hlt]⟩, ?_⟩
    rintro v H'' ⟨rfl, hv⟩
    have hv' := hv xs sq
    show tc (some v :: ρ) _ _
    exact hs i v ys _ hv' hp hD _ _ (fun y H4 a b c => ⟨a, b, xs.length - (i + 1), by omega, rfl, hlt, ⟨_, rfl⟩, c, upd_same⟩) fun H3 a c => ⟨xs.length - (i + 1), by omega, rfl, hlt, ⟨_, rfl⟩, c, a⟩
  · have e : i = xs.length := by omega
    subst e
    exact .inl ⟨⟨xs, sq, Nat.le_refl _⟩, hd ys _ hp hD⟩
end L2

set_option Elab.async false
set_option linter.all false
set_option maxRecDepth 100000
namespace L2
open PySem PySem.Spec PyProof.Rows
section
variable {X : Cx}
def rAny : List V → Hp → VK → Prop := fun xs H Q => ∃ (p : Addr) (bs : List Bool), xs = [.ref p] ∧ H p = some (.lst (bs.map V.bl)) ∧ Q (.bl (bs.any id)) H
def rMaxL : List V → Hp → VK → Prop := fun xs H Q => ∃ (p : Addr) (ns : List Int), xs = [.ref p] ∧ H p = some (.lst (ns.map V.int)) ∧ 0 < ns.length ∧ ∀ M, M ∈ ns → (∀ a ∈ ns, a ≤ M) → Q (.int M) H

/-- xs.insert(i, y), i at 0 or above -/
def rIns : V → List V → Hp → VK → Prop := fun x vs H Q => ∃ (l : Addr) (xs : List V) (i : Int) (y : V), x = .ref l ∧ vs = [.int i, y] ∧ H l = some (.lst xs) ∧ 0 ≤ i ∧ i ≤ xs.length ∧ xs.length < sizeLine ∧ Q .non (upd H l (.lst (xs.take i.toNat ++ y :: xs.drop i.toNat)))
end
end L2

set_option Elab.async false
set_option linter.all false
set_option maxRecDepth 100000
namespace L2
open PySem PySem.Spec PyProof.Rows
/-- zip over the lists at a and b -/
def Itzl (K : PySem.W.Frag) (a b : Addr) : It :=
  ⟨fun i H => ∃ xs ys x y, SqL K H a xs ∧ SqL K H b ys ∧ xs[i]? = some x ∧ ys[i]? = some y, fun i H v H' => ∃ p x y, v = .ref p ∧ H p = none ∧ H' = upd H p (.tup [x, y]) ∧ (∀ xs, SqL K H a xs → xs[i]? = some x) ∧ ∀ ys, SqL K H b ys → ys[i]? = some y,
    fun i H => ∃ xs ys, SqL K H a xs ∧ SqL K H b ys ∧ (xs.length ≤ i ∨ ys.length ≤ i)⟩
section
variable {X : Cx} {es : List Expr} {kt : Nat} {pt : Pos}
def iZpl (K : PySem.W.Frag) (ta : TA) : TI := fun σ H R => ta σ H fun vs H1 => ∃ a b, vs = [.ref a, .ref b] ∧ (∃ xs, SqL K H1 a xs) ∧ (∃ ys, SqL K H1 b ys) ∧ R (Itzl K a b) H1
end
section
variable {D : Addr} {te : TE} {tc : TT} {Q : VK} {ρ : St} {H : Hp}
end
end L2

set_option Elab.async false
set_option linter.all false
set_option maxRecDepth 100000
namespace G2
open PySem L2
end G2

set_option Elab.async false
set_option linter.all false
set_option maxRecDepth 100000
namespace L2
open PySem PySem.Spec PyProof.Rows
/-! ### comprehensions whose own names are read by one within them -/
structure NScope (o sc : Scope) (TN F : List Str) : Prop where
  okind : o.kind = .function
  kind : sc.kind = .function
  names : ∀ y ∈ sc.names, y.2 = .local → sc.names.lookup y.1 = some .local
  clN : ∀ y ∈ sc.names, y.2 = .cell → sc.names.lookup y.1 = some .cell
  fr : ∀ y ∈ sc.names, y.2 = .free → o.names.lookup y.1 = some .cell ∧ sc.names.lookup y.1 = some .free
  ff : ∀ y ∈ F, (y, NameKind.free) ∈ sc.names
theorem cellsFrom_name : ∀ (names : List (Str × NameKind)) (n : Nat) (acc : List (Str × Addr)) (x : Str) (c : Addr), (x, c) ∈ cellsFrom n names acc → (x, NameKind.cell) ∈ names ∨ (x, c) ∈ acc
  | [], n, acc, x, c, h => .inr h
  | (y, k) :: r, n, acc, x, c, h => by
    unfold cellsFrom at h
    split at h
    · rename_i hk
      have hk' : k = .cell := by simpa using hk
      subst hk'
      rcases cellsFrom_name r (n + 1) ((y, n) :: acc) x c h with z | z
      · exact .inl (List.mem_cons_of_mem _ z)
      · rcases List.mem_cons.mp z with e | z
        · cases e
          exact .inl List.mem_cons_self
        · exact .inr z
    · rcases cellsFrom_name r n acc x c h with z | z
      · exact .inl (List.mem_cons_of_mem _ z)
      · exact .inr z
/-- the cells of a block: its own, then those that it is given -/
def ownC (n : Nat) (sc : Scope) : List (Str × Addr) := cellsFrom (n + 1) sc.names []
def allC (env : Env) (n : Nat) (sc : Scope) : List (Str × Addr) := ownC n sc ++ cloF env sc.names []
theorem NScope.own {o sc : Scope} {TN F : List Str} (S : NScope o sc TN F) {n : Nat} {x : Str} {c : Addr} (h : (ownC n sc).lookup x = some c) : sc.names.lookup x = some .cell := by
  rcases cellsFrom_name sc.names (n + 1) [] x c (PySem.mem_of_lookup h) with z | z
  · exact S.clN _ z rfl
  · cases z
/-- the context of such a block -/
def cxN (X : Cx) (N : List Str) (sc : Scope) (cl : List (Str × Addr)) (C : Addr) (fp : List Addr) (s₃ : Shared) (H₃ : Hp) (xe : Value → Shared → Prop) : Cx :=
  { X with N := N, s₀ := s₃, H₀ := H₃, env := compEnvC sc cl C X.env, outer := X.stack, ex := fp, fn := fun y => sc.names.lookup y == some .cell, pn := [], xe := xe }



section
variable {X : Cx} {sc : Scope} {TN F : List Str} {ix : List Nat} {elt tg iter : Expr} {ifs : List Expr} {pos : Pos} {g : TG} {tc : TT} {te : TE} {wi : TI}
end
/-- such a block's names -/
structure NBScope (o sc : Scope) (TN F G : List Str) : Prop extends NScope o sc TN F where
  nd : (TN ++ F).Nodup
  vis : ∀ x ∈ TN ++ F, Vis (relabelS sc o) x
  loc : ∀ x ∈ TN, (relabelS sc o).names.lookup x = some .local ∨ ((relabelS sc o).names.lookup x = some .cell ∧ sc.names.lookup x = some .cell)
  gl : ∀ x ∈ G, (relabelS sc o).names.lookup x = some .globalImplicit
section
variable {X : Cx} {sc : Scope} {TN F G : List Str} {cl : List (Str × Addr)} {C : Addr} {fp : List Addr} {s3 : Shared} {H3 : Hp} {xe : Value → Shared → Prop} {x : Str} {pos : Pos}
theorem NBScope.g (S : NBScope X.env.scope sc TN F G) (i : Nat) (hG : G[i]? = some x := by rfl) : Gl (cxN X (TN ++ F) sc cl C fp s3 H3 xe) x := S.gl x (List.mem_of_getElem? hG)
end
end L2

set_option Elab.async false
set_option linter.all false
set_option maxRecDepth 100000
namespace PySem
open Sem (wp)
open Builtin
open AutoSeq1 (wpAny_loadPart')
end PySem
namespace L2
open PySem PySem.Spec PyProof.Rows
section
variable {X : Cx}
/-- a tuple times an int above 0; once: the tuple itself -/
def rRepT : R2 := fun x y H Q => ∃ a k xs, x = .ref a ∧ y = .int k ∧ H a = some (.tup xs) ∧ xs ≠ [] ∧ 0 < k ∧ k ≤ 1000 ∧ xs.length * k.toNat ≤ 1000 ∧ (k = 1 → Q (.ref a) H) ∧
  (k ≠ 1 → ∀ p, H p = none → Q (.ref p) (upd H p (.tup (List.replicate k.toNat xs).flatten)))
end
end L2

set_option Elab.async false
set_option linter.all false
set_option maxRecDepth 100000
namespace L2
open PySem PySem.Spec PyProof.Rows
section
variable {prog : Program} {w : World} {A : Around} {E : Value → Shared → Prop} {s : Shared}
end
end L2
namespace L2
open PySem PySem.Spec PyProof.Rows
abbrev zmH1 (h : Heap) (a : Addr) : Heap := h.push { cls := .type "tuple_iterator", data := .fields #[.ref a, .int 0 0] }
abbrev zmH2 (h : Heap) (a b : Addr) : Heap := (zmH1 h a).push { cls := .type "list_iterator", data := .fields #[.ref b, .int 0 0] }
abbrev zmH3 (h : Heap) (a b : Addr) : Heap := (zmH2 h a b).push { cls := .type "tuple", data := .seq #[.ref h.objs.size, .ref (zmH1 h a).objs.size] }
abbrev zmH4 (h : Heap) (a b : Addr) : Heap := (zmH3 h a b).push { cls := .type "tuple", data := .seq #[.none, .none] }
abbrev zmH5 (h : Heap) (a b : Addr) : Heap := (zmH4 h a b).push { cls := .type "zip", data := .fields #[.none, .bool false, .bool false, .ref (zmH2 h a b).objs.size, .ref (zmH3 h a b).objs.size] }
section
variable {prog : Program} {w : World} {A : Around} {E : Value → Shared → Prop} {s : Shared}
end
end L2
namespace L2
open PySem PySem.Spec PyProof.Rows
/-- zip over the tuples at a and b -/
def Itm (K : PySem.W.Frag) (a b : Addr) : It :=
  ⟨fun i H => ∃ xs ys x y, SqT K H a xs ∧ SqL K H b ys ∧ xs[i]? = some x ∧ ys[i]? = some y, fun i H v H' => ∃ p x y, v = .ref p ∧ H p = none ∧ H' = upd H p (.tup [x, y]) ∧ (∀ xs, SqT K H a xs → xs[i]? = some x) ∧ ∀ ys, SqL K H b ys → ys[i]? = some y,
    fun i H => ∃ xs ys, SqT K H a xs ∧ SqL K H b ys ∧ (xs.length ≤ i ∨ ys.length ≤ i)⟩
section
variable {X : Cx} {es : List Expr} {kt : Nat} {pt : Pos}
def iZm (K : PySem.W.Frag) (ta : TA) : TI := fun σ H R => ta σ H fun vs H1 => ∃ a b, vs = [.ref a, .ref b] ∧ (∃ xs, SqT K H1 a xs) ∧ (∃ ys, SqL K H1 b ys) ∧ R (Itm K a b) H1
end
section
variable {D : Addr} {te : TE} {tc : TT} {Q : VK} {ρ : St} {H : Hp}
end
end L2

set_option Elab.async false
set_option linter.all false
set_option maxRecDepth 100000
namespace HT
open PySem PyProof.Rows
section
variable {prog : Program} {w : World} {A : Around} {E : Value → Shared → Prop} {s : Shared}
end
end HT
namespace L2
open PySem PySem.Spec PyProof.Rows
section
variable {X : Cx}
/-- t[a:b], whatever it is -/
def rSlG : V → Option Int → Option Int → Hp → VK → Prop := fun x lo hi H Q => ∃ a xs, x = .ref a ∧ H a = some (.tup xs) ∧ ∀ q H', Same H H' → H' q = some (.tup (cutV xs lo hi)) → Q (.ref q) H'
/-- t + u, whatever they are -/
def rCatG : R2 := fun x y H Q => ∃ a b xs ys, x = .ref a ∧ y = .ref b ∧ H a = some (.tup xs) ∧ H b = some (.tup ys) ∧ xs.length + ys.length ≤ 1000 ∧ ∀ q H', Same H H' → H' q = some (.tup (xs ++ ys)) → Q (.ref q) H'
theorem op_catG : OpR X (binaryOp .Add) rCatG := by
  intro pins s σ H x y v u Q I rx ry h
  obtain ⟨a, b, xs, ys, rfl, rfl, ha, hb, hz, q⟩ := h
  have hz' : xs.length + ys.length ≤ sizeLine := Nat.le_trans hz (by decide)
  by_cases hx : xs = []
  · cases rx
    cases ry
    obtain ⟨its, r1, p1, _⟩ := I.tuple (SqT.of ha)
    obtain ⟨its2, r2, p2, _⟩ := I.tuple (SqT.of hb)
    obtain ⟨⟨cls, dd, data, sl⟩, ho, hc, n, hd⟩ := id p1
    obtain ⟨⟨cls2, dd2, data2, sl2⟩, ho2, hc2, n2, hd2⟩ := id p2
    simp only at hc hd hc2 hd2
    subst hc hd hc2 hd2
    have hv : its = [] := r1.nil_iff.mpr hx
    refine concat_meets ⟨_, ho, rfl⟩ ⟨_, ho2, rfl⟩ noFill_tuple_add seq_tuple_add PySem.F.slot_tuple_add PySem.F.entry_tuple_add (PySem.F.args_tuple_add_2 _ _)
      (tuple_addW0 a b its.toArray its2.toArray n n2 dd dd2 sl sl2 (by simp [hv])) ⟨ho, ho2, ?_⟩
    refine ⟨.ref b, H, I, rfl, q b H (Same.refl H) ?_⟩
    rw [hx, List.nil_append]
    exact hb
  · refine op_catT pins s σ H _ _ v u Q I rx ry ⟨a, b, xs, ys, rfl, rfl, SqT.of ha, SqT.of hb, hx, hz', fun e => ?_, fun _ p hp => q p _ (Same.new (Same.refl H) hp) upd_same⟩
    refine q a H (Same.refl H) ?_
    rw [e, List.append_nil]
    exact ha
end
end L2
namespace PySem
open Sem (wp)
open Builtin
open AutoSeq1 (wpAny_loadPart')
end PySem
namespace L2
open PySem PySem.Spec PyProof.Rows
section
variable {X : Cx}
/-- (v,) times 0 or 1 -/
def rRepB : R2 := fun x y H Q => ∃ a k v, x = .ref a ∧ y = .int k ∧ H a = some (.tup [v]) ∧ (k = 0 ∨ k = 1) ∧ (k = 1 → Q (.ref a) H) ∧ (k = 0 → ∀ p, H p = none → Q (.ref p) (upd H p (.tup [])))
end
end L2

set_option Elab.async false
set_option linter.all false
set_option maxRecDepth 100000
namespace L2
open PySem PySem.Spec PyProof.Rows
theorem Same.none {H H' : Hp} {a : Addr} (k : Same H H') (h : H' a = .none) : H a = .none := by
  cases e : H a with
  | none => rfl
  | some o => rw [k _ _ e] at h; cases h
section
variable {X : Cx}
/-- (v,) times n, n from 0 on -/
def rRepG : R2 := fun x y H Q => ∃ (a : Addr) (k : Nat) (v : V), x = .ref a ∧ y = .int (k : Int) ∧ H a = some (.tup [v]) ∧ k ≤ 1000 ∧ ∀ q H', Same H H' → H' q = some (.tup (List.replicate k v)) → Q (.ref q) H'
/-- len of a tuple, in a block too -/
def rLnT : List V → Hp → VK → Prop := fun xs H Q => ∃ (p : Addr) (ys : List V), xs = [.ref p] ∧ H p = some (.tup ys) ∧ Q (.int ys.length) H
def rLnL : List V → Hp → VK → Prop := fun xs H Q => ∃ (p : Addr) (ys : List V), xs = [.ref p] ∧ H p = some (.lst ys) ∧ Q (.int ys.length) H
/-- tuple of a list, in a block too -/
def rTupL : List V → Hp → VK → Prop := fun xs H Q => ∃ (p : Addr) (ys : List V), xs = [.ref p] ∧ H p = some (.lst ys) ∧ ∀ q H', Same H H' → H' q = some (.tup ys) → Q (.ref q) H'
end
end L2
namespace G2
open PySem L2
/-! ### rows of forms -/
def Fms (H : Hp) : List Addr → List Fm → Prop
  | [], [] => True
  | q :: qs, f :: fs => FmAt H q f ∧ Fms H qs fs
  | _, _ => False
theorem Fms.tk {H H' : Hp} (k : TK H H') : ∀ {qs : List Addr} {fs : List Fm}, Fms H qs fs → Fms H' qs fs
  | [], [], _ => trivial
  | q :: qs, f :: fs, h => ⟨h.1.tk k, Fms.tk k h.2⟩
  | [], _ :: _, h => h.elim
  | _ :: _, [], h => h.elim
theorem Fms.len {H : Hp} : ∀ {qs : List Addr} {fs : List Fm}, Fms H qs fs → qs.length = fs.length
  | [], [], _ => rfl
  | q :: qs, f :: fs, h => by rw [List.length_cons, List.length_cons, Fms.len h.2]
  | [], _ :: _, h => h.elim
  | _ :: _, [], h => h.elim
theorem Fms.app {H : Hp} {ps : List Addr} {gs : List Fm} (h' : Fms H ps gs) : ∀ {qs : List Addr} {fs : List Fm}, Fms H qs fs → Fms H (qs ++ ps) (fs ++ gs)
  | [], [], _ => h'
  | q :: qs, f :: fs, h => ⟨h.1, Fms.app h' h.2⟩
  | [], _ :: _, h => h.elim
  | _ :: _, [], h => h.elim
theorem Fms.rd {H : Hp} : ∀ {qs : List Addr} {fs : List Fm}, Fms H qs fs → RdVs H (qs.map V.ref) (fs.map fmD)
  | [], [], _ => .nil
  | q :: qs, f :: fs, h => .cons (fm_rd h.1) (Fms.rd h.2)
  | [], _ :: _, h => h.elim
  | _ :: _, [], h => h.elim
theorem Fms.one {H : Hp} {q : Addr} {f : Fm} (h : FmAt H q f) : Fms H [q] [f] := ⟨h, trivial⟩
theorem Fms.two {H : Hp} {q r : Addr} {f g : Fm} (h : FmAt H q f) (h' : FmAt H r g) : Fms H [q, r] [f, g] := ⟨h, h', trivial⟩
/-! ### what may be shown -/
theorem all_shw {n h : Nat} : ∀ ds : List PyData, (∀ d ∈ ds, Shw d n h) → PyData.showableAll ds = true ∧ PyData.hasDictAll ds = false ∧ PyData.depthAll ds ≤ h ∧ ((PyData.shownAll ds).map (·.length)).sum ≤ n * ds.length ∧ (PyData.shownAll ds).length = ds.length
  | [], _ => ⟨rfl, rfl, Nat.zero_le _, Nat.zero_le _, rfl⟩
  | d :: ds, k => by
    obtain ⟨h1, h2, h3, h4, h5⟩ := all_shw ds fun x hx => k x (List.mem_cons_of_mem _ hx)
    have e := k d List.mem_cons_self
    have e3 := e.p
    have e4 := e.l
    refine ⟨?_, ?_, ?_, ?_, ?_⟩
    · simp only [PyData.showableAll, e.s, h1, Bool.and_self]
    · simp only [PyData.hasDictAll, e.nd, h2, Bool.or_self]
    · simp only [PyData.depthAll]
      omega
    · simp only [PyData.shownAll, List.map_cons, List.sum_cons, List.length_cons, Nat.mul_succ]
      omega
    · simp only [PyData.shownAll, List.length_cons, h5]
theorem Shw.tups {n h : Nat} {ds : List PyData} (k : ∀ d ∈ ds, Shw d n h) : Shw (.tuple ds) ((n + 2) * ds.length + 3) (h + 1) := by
  obtain ⟨h1, h2, h3, h4, h5⟩ := all_shw ds k
  refine ⟨by simp only [PyData.showable]; exact h1, by simp only [PyData.hasDict]; exact h2, ?_, ?_⟩
  · show PyData.depthAll _ + 1 ≤ h + 1
    omega
  · have := len_tup ds
    rw [Nat.add_mul]
    omega
/-- a value reads as one thing, as long as tuples stay; it may be shown -/
def Rs (H : Hp) (v : V) (n h : Nat) : Prop := ∃ d, (∀ H', TK H H' → RdV H' v d) ∧ Shw d n h
theorem Rs.up {H : Hp} {v : V} {n h m i : Nat} (r : Rs H v n h) (h1 : n ≤ m) (h2 : h ≤ i) : Rs H v m i := let ⟨d, a, b⟩ := r; ⟨d, a, b.up h1 h2⟩
theorem Rs.big {H : Hp} {i : Int} (h : Bg i) : Rs H (.int i) 91 0 := ⟨_, fun _ _ => .int i, Shw.big h⟩
theorem Rs.int {H : Hp} {i : Int} (h : Sm i) : Rs H (.int i) 16 0 := ⟨_, fun _ _ => .int i, Shw.int h⟩
theorem Rs.all {H : Hp} {n h : Nat} : ∀ {vs : List V}, (∀ v ∈ vs, Rs H v n h) → ∃ ds : List PyData, ds.length = vs.length ∧ (∀ H', TK H H' → RdVs H' vs ds) ∧ ∀ d ∈ ds, Shw d n h
  | [], _ => ⟨[], rfl, fun _ _ => .nil, fun d hd => by cases hd⟩
  | v :: vs, k => by
    obtain ⟨ds, h1, h2, h3⟩ := Rs.all fun x hx => k x (List.mem_cons_of_mem _ hx)
    obtain ⟨d, a, b⟩ := k v List.mem_cons_self
    refine ⟨d :: ds, by rw [List.length_cons, List.length_cons, h1], fun H' t => .cons (a H' t) (h2 H' t), fun x hx => ?_⟩
    rcases List.mem_cons.mp hx with rfl | hx
    · exact b
    · exact h3 x hx
theorem Rs.tup {H : Hp} {n h : Nat} {p : Addr} {vs : List V} (e : H p = some (.tup vs)) (k : ∀ v ∈ vs, Rs H v n h) : Rs H (.ref p) ((n + 2) * vs.length + 3) (h + 1) := by
  obtain ⟨ds, h1, h2, h3⟩ := Rs.all k
  refine ⟨.tuple ds, fun H' t => .tup (t.t _ _ e) (h2 H' t), ?_⟩
  rw [← h1]
  exact Shw.tups h3
theorem Rs.tk {H H' : Hp} {v : V} {n h : Nat} (t : TK H H') (r : Rs H v n h) : Rs H' v n h := let ⟨d, a, b⟩ := r; ⟨d, fun H2 t2 => a H2 (t.trans t2), b⟩
section
variable {D : Addr} {te : TE} {tc : TT} {Q : VK} {ρ : St} {H : Hp} {K : PySem.W.Frag} {a b : Addr}
end
end G2

set_option Elab.async false
set_option linter.all false
set_option maxRecDepth 100000
namespace L2
open PySem PySem.Spec PyProof.Rows

/-! ### lists of pairs as tables -/
section
variable {κ : Type} [DecidableEq κ]
def valV (kvs : List (κ × V)) (k : κ) : Option V := (kvs.find? fun kv => decide (kv.1 = k)).map (·.2)
/-- in its place, or at the end -/
def putK (kvs : List (κ × V)) (k : κ) (v : V) : List (κ × V) :=
  if (kvs.any fun kv => decide (kv.1 = k)) = true then kvs.map (fun kv => if kv.1 = k then (kv.1, v) else kv) else kvs ++ [(k, v)]
def dropK (kvs : List (κ × V)) (k : κ) : List (κ × V) := kvs.filter fun kv => decide (kv.1 ≠ k)

theorem valV_pos {p : κ × V} {r : List (κ × V)} {k : κ} (e : p.1 = k) : valV (p :: r) k = some p.2 := by simp [valV, List.find?_cons, e]
theorem valV_neg {p : κ × V} {r : List (κ × V)} {k : κ} (e : ¬ p.1 = k) : valV (p :: r) k = valV r k := by simp [valV, List.find?_cons, e]
theorem valV_any (k : κ) : ∀ kvs : List (κ × V), (kvs.any fun kv => decide (kv.1 = k)) = (valV kvs k).isSome
  | [] => rfl
  | p :: r => by
    rw [List.any_cons]
    by_cases e : p.1 = k
    · simp only [valV_pos e, decide_eq_true e, Bool.true_or, Option.isSome_some]
    · rw [valV_neg e, decide_eq_false e, Bool.false_or]; exact valV_any k r
theorem length_putK (kvs : List (κ × V)) (k : κ) (v : V) : (putK kvs k v).length ≤ kvs.length + 1 := by
  unfold putK
  split
  · rw [List.length_map]; omega
  · rw [List.length_append, List.length_cons, List.length_nil]; omega

theorem RelO.isSome_eq {o : Option V} {u : Option Value} (r : RelO o u) : o.isSome = u.isSome := by
  cases o with
  | none => cases u with
    | none => rfl
    | some _ => exact (show False from r).elim
  | some _ => cases u with
    | none => exact (show False from r).elim
    | some _ => rfl
theorem RelO.getD {o : Option V} {u : Option Value} {d : V} {d' : Value} (r : RelO o u) (rd : RelV d d') : RelV (o.getD d) (u.getD d') := by
  cases o with
  | none => cases u with
    | none => exact rd
    | some _ => exact (show False from r).elim
  | some _ => cases u with
    | none => exact (show False from r).elim
    | some _ => exact r

/-- raw tables of the same keys -/
theorem KV.val {kvs : List (κ × V)} {vs : List (κ × Value)} (r : KV kvs vs) (k : κ) : RelO (valV kvs k) (valueAt vs k) := by
  unfold KV at r
  induction r with
  | nil => exact True.intro
  | @cons p q ps qs h t ih =>
    obtain ⟨h1, h2⟩ := h
    by_cases e : p.1 = k
    · have e' : q.1 = k := h1.symm.trans e
      have b : valueAt (q :: qs) k = some q.2 := by simp [valueAt, List.find?_cons, e']
      rw [valV_pos e, b]; exact h2
    · have e' : ¬ q.1 = k := fun z => e (h1.trans z)
      have b : valueAt (q :: qs) k = valueAt qs k := by simp [valueAt, List.find?_cons, e']
      rw [valV_neg e, b]; exact ih
theorem KV.any {kvs : List (κ × V)} {vs : List (κ × Value)} (r : KV kvs vs) (k : κ) : (kvs.any fun kv => decide (kv.1 = k)) = vs.any fun kv => decide (kv.1 = k) := by
  unfold KV at r
  induction r with
  | nil => rfl
  | cons h t ih => rw [List.any_cons, List.any_cons, ih, h.1]
theorem KV.repl {kvs : List (κ × V)} {vs : List (κ × Value)} (r : KV kvs vs) (k : κ) {y : V} {u : Value} (ry : RelV y u) :
    KV (kvs.map fun kv => if kv.1 = k then (kv.1, y) else kv) (vs.map fun kv => if kv.1 = k then (kv.1, u) else kv) := by
  unfold KV at r ⊢
  induction r with
  | nil => exact .nil
  | @cons p q ps qs h t ih =>
    rw [List.map_cons, List.map_cons]
    refine .cons ?_ ih
    obtain ⟨h1, h2⟩ := h
    by_cases e : p.1 = k
    · rw [if_pos e, if_pos (h1.symm.trans e)]; exact ⟨h1, ry⟩
    · rw [if_neg e, if_neg (fun z => e (h1.trans z))]; exact ⟨h1, h2⟩
theorem KV.put {kvs : List (κ × V)} {vs : List (κ × Value)} (r : KV kvs vs) (k : κ) {y : V} {u : Value} (ry : RelV y u) : KV (putK kvs k y) (stored vs k u) := by
  unfold putK stored
  rw [r.any k]
  by_cases e : (vs.any fun kv => decide (kv.1 = k)) = true
  · rw [if_pos e, if_pos e]; exact r.repl k ry
  · rw [if_neg e, if_neg e]; exact Paired.snoc r ⟨rfl, ry⟩
theorem KV.drop {kvs : List (κ × V)} {vs : List (κ × Value)} (r : KV kvs vs) (k : κ) : KV (dropK kvs k) (without vs k) := by
  unfold KV at r ⊢
  unfold dropK without
  induction r with
  | nil => exact .nil
  | @cons p q ps qs h t ih =>
    obtain ⟨h1, h2⟩ := h
    rw [List.filter_cons, List.filter_cons]
    by_cases e : p.1 = k
    · have a : ¬ decide (p.1 ≠ k) = true := by simp [e]
      have b : ¬ decide (q.1 ≠ k) = true := by simp [h1.symm.trans e]
      rw [if_neg a, if_neg b]; exact ih
    · have e' : ¬ q.1 = k := fun z => e (h1.trans z)
      have a : decide (p.1 ≠ k) = true := by simp [e]
      have b : decide (q.1 ≠ k) = true := by simp [e']
      rw [if_pos a, if_pos b]; exact .cons ⟨h1, h2⟩ ih
theorem KV.keys {kvs : List (κ × V)} {vs : List (κ × Value)} (r : KV kvs vs) : kvs.map (·.1) = vs.map (·.1) := by
  unfold KV at r
  induction r with
  | nil => rfl
  | cons h t ih => rw [List.map_cons, List.map_cons, ih, h.1]
theorem KV.length {kvs : List (κ × V)} {vs : List (κ × Value)} (r : KV kvs vs) : kvs.length = vs.length := Paired.length r
end


/-! ### a tracked dict, its keys ints and texts or tuples of these -/
theorem kV_is {P : Program} {w : World} {k : Key} {u : Value} (r : RelV (kV k) u) : (mixKind P w).is k u = true := by
  cases k with
  | inl i => obtain ⟨t, e⟩ := (show ∃ t, u = Value.int i t from r); subst e; exact mixKind_int P w i t
  | inr x => obtain ⟨t, e⟩ := (show ∃ t, u = Value.str x t from r); subst e; exact mixKind_str P w x t
theorem items_are {P : Program} {w : World} : ∀ {ks : List Key} {us : List Value}, Vals (ks.map kV) us → ItemsAre (mixKind P w) ks us
  | [], _, r => by rw [List.map_nil] at r; cases r; exact .nil
  | k :: ks, _, r => by
    rw [List.map_cons] at r
    cases r with
    | cons h t => exact .cons (kV_is h) (items_are t)

/-- raw entries of a dict with tuple keys -/
abbrev KT (H : Hp) : List (List Key × V) → List (List Key × Addr × Value) → Prop := Paired fun p q => p.1 = q.1 ∧ H q.2.1 = some (.tup (p.1.map kV)) ∧ RelV p.2 q.2.2
theorem KT.val {H : Hp} {kvs : List (List Key × V)} {xs : List (List Key × Addr × Value)} (r : KT H kvs xs) (k : List Key) : RelO (valV kvs k) ((atKey xs k).map (·.2)) := by
  induction r with
  | nil => exact True.intro
  | @cons p q ps qs h t ih =>
    obtain ⟨h1, _, h2⟩ := h
    by_cases e : p.1 = k
    · have e' : q.1 = k := h1.symm.trans e
      have b : atKey (q :: qs) k = some q.2 := by simp [atKey, List.find?_cons, e']
      rw [valV_pos e, b]; exact h2
    · have e' : ¬ q.1 = k := fun z => e (h1.trans z)
      have b : atKey (q :: qs) k = atKey qs k := by simp [atKey, List.find?_cons, e']
      rw [valV_neg e, b]; exact ih
theorem KT.repl {H : Hp} {kvs : List (List Key × V)} {xs : List (List Key × Addr × Value)} (r : KT H kvs xs) (k : List Key) {y : V} {u : Value} (ry : RelV y u) :
    KT H (kvs.map fun kv => if kv.1 = k then (kv.1, y) else kv) (xs.map (putAt k u)) := by
  induction r with
  | nil => exact .nil
  | @cons p q ps qs h t ih =>
    rw [List.map_cons, List.map_cons]
    refine .cons ?_ ih
    obtain ⟨h1, h2, h3⟩ := h
    unfold putAt
    by_cases e : p.1 = k
    · rw [if_pos e, if_pos (h1.symm.trans e)]; exact ⟨h1, h2, ry⟩
    · rw [if_neg e, if_neg (fun z => e (h1.trans z))]; exact ⟨h1, h2, h3⟩
theorem KT.put {H : Hp} {kvs : List (List Key × V)} {xs : List (List Key × Addr × Value)} (r : KT H kvs xs) (k : List Key) {b : Addr} {y : V} {u : Value} (hb : H b = some (.tup (k.map kV))) (ry : RelV y u) :
    KT H (putK kvs k y) (storedH xs k b u) := by
  have e : (kvs.any fun kv => decide (kv.1 = k)) = (atKey xs k).isSome := by
    rw [valV_any, (r.val k).isSome_eq, Option.isSome_map]
  unfold putK storedH
  rw [e]
  by_cases q : (atKey xs k).isSome = true
  · rw [if_pos q, if_pos q]; exact r.repl k ry
  · rw [if_neg q, if_neg q]; exact Paired.snoc r ⟨rfl, hb, ry⟩
theorem KT.keeps {H H' : Hp} {kvs : List (List Key × V)} {xs : List (List Key × Addr × Value)} (r : KT H kvs xs) (ht : ∀ b ys, H b = some (.tup ys) → H' b = some (.tup ys)) : KT H' kvs xs :=
  Paired.mapP r fun _ _ z => ⟨z.1, ht _ _ z.2.1, z.2.2⟩

section
variable {P : Program} {w : World} {H : Hp} {h : Heap} {a : Addr}
theorem rd_of {u : HO} (ok : HOk P w H h) (e : Rd H a u) : ObjOk P w H h a u := e.ok ok
theorem dk_rd {kvs : List (Key × V)} (ok : HOk P w H h) (e : Rd H a (.dK kvs)) : kvs.length ≤ sizeLine ∧ (a == sysModules) = false ∧ ∃ vs, KV kvs vs ∧ h.DictOf (mixKind P w) a vs :=
  show ObjOk P w H h a (.dK kvs) from rd_of ok e
theorem dk_of {kvs : List (Key × V)} (ok : HOk P w H h) (e : H a = some (.dK kvs)) : kvs.length ≤ sizeLine ∧ (a == sysModules) = false ∧ ∃ vs, KV kvs vs ∧ h.DictOf (mixKind P w) a vs := dk_rd ok (.inl e)
/-- a tracked tuple of ints and texts is a key -/
theorem key_of {ks : List Key} (ok : HOk P w H h) (e : H a = some (.tup (ks.map kV))) : (tupleKind (mixKind P w)).is h ks a := by
  obtain ⟨_, its, r, o, h1, h2, n, h3⟩ := (show ObjOk P w H h a (.tup (ks.map kV)) from ok a _ e)
  exact ⟨o, its.toArray, n, h1, h2, h3, by simpa using items_are r⟩
theorem dt_rd {kvs : List (List Key × V)} (ok : HOk P w H h) (e : Rd H a (.dT kvs)) : kvs.length ≤ sizeLine ∧ (a == sysModules) = false ∧
    ∃ xs, KT H kvs xs ∧ h.DictOfH (tupleKind (mixKind P w)) a xs := by
  obtain ⟨z, y, xs, r, o, es, ep, h1, h2, h3, h4, h5⟩ := (show ObjOk P w H h a (.dT kvs) from rd_of ok e)
  refine ⟨z, y, xs, r, o, es, ep, h1, h2, h3, h4, fun x hx => ?_, h5⟩
  have all : ∀ {l : List (List Key × V)} {m : List (List Key × Addr × Value)}, KT H l m → ∀ x ∈ m, (tupleKind (mixKind P w)).is h x.1 x.2.1 := by
    intro l m q
    induction q with
    | nil => intro x hx; exact nomatch hx
    | @cons p q ps qs hq t ih =>
      intro x hx
      rcases List.mem_cons.mp hx with e | hx
      · subst e
        exact key_of ok (by rw [← hq.1]; exact hq.2.1)
      · exact ih x hx
  exact all r x hx
end

/-- what the dict at a holds at the key y -/
def DGet (H : Hp) (a : Addr) (y : V) (r : Option V) : Prop :=
  (∃ kvs k, Rd H a (.dK kvs) ∧ y = kV k ∧ r = valV kvs k) ∨ ∃ kvs k b, Rd H a (.dT kvs) ∧ y = .ref b ∧ H b = some (.tup (k.map kV)) ∧ r = valV kvs k
/-- the heap behind a[y] = v -/
def DPut (H : Hp) (a : Addr) (y v : V) (H' : Hp) : Prop :=
  (∃ kvs k, H a = some (.dK kvs) ∧ y = kV k ∧ kvs.length < sizeLine ∧ H' = upd H a (.dK (putK kvs k v))) ∨
  ∃ kvs k b, H a = some (.dT kvs) ∧ y = .ref b ∧ H b = some (.tup (k.map kV)) ∧ kvs.length < sizeLine ∧ H' = upd H a (.dT (putK kvs k v))
theorem DGet.k {H : Hp} {a : Addr} {kvs : List (Key × V)} {k : Key} (e : H a = some (.dK kvs)) : DGet H a (kV k) (valV kvs k) := .inl ⟨kvs, k, .inl e, rfl, rfl⟩
theorem DGet.t {H : Hp} {a b : Addr} {kvs : List (List Key × V)} {k : List Key} (e : H a = some (.dT kvs)) (eb : H b = some (.tup (k.map kV))) : DGet H a (.ref b) (valV kvs k) := .inr ⟨kvs, k, b, .inl e, rfl, eb, rfl⟩
theorem DPut.k {H : Hp} {a : Addr} {kvs : List (Key × V)} {k : Key} {v : V} (e : H a = some (.dK kvs)) (hl : kvs.length < sizeLine) : DPut H a (kV k) v (upd H a (.dK (putK kvs k v))) := .inl ⟨kvs, k, e, rfl, hl, rfl⟩
theorem DPut.t {H : Hp} {a b : Addr} {kvs : List (List Key × V)} {k : List Key} {v : V} (e : H a = some (.dT kvs)) (eb : H b = some (.tup (k.map kV))) (hl : kvs.length < sizeLine) :
    DPut H a (.ref b) v (upd H a (.dT (putK kvs k v))) := .inr ⟨kvs, k, b, e, rfl, eb, hl, rfl⟩


section
variable {X : Cx} {pins : List (Addr × Obj)} {σ : St} {H : Hp} {s : Shared} {a : Addr} {y v : V} {u r : Value} {o : Option V} {A : Around} {E : Value → Shared → Prop}

theorem Inv.big (I : Inv X pins σ H s) : sysModules < s.heap.objs.size := by
  have h : mainGlobals < s.heap.objs.size := (I.mod.glob.keeps I.bk).lt
  exact Nat.lt_trans (by decide) h

/-- a dict's object is replaced -/
theorem d_write {h' : Heap} {t' : Nat} {ob : HO} (I : Inv X pins σ H s) (mu : Mut (H a)) (hs : Heap.SameBut a s.heap h') (he : ∃ q, h'.get? a = some q) (new : ObjOk X.prog X.w (upd H a ob) h' a ob) :
    Inv X pins σ (upd H a ob) { s with heap := h', toks := t' } :=
  I.write (x := a) (e := a) mu (.inl rfl) (fun b q hb z => (hs.2 b hb).trans z) he new
theorem dk_new {P : Program} {w : World} {H' : Hp} {h' : Heap} {kvs : List (Key × V)} {vs : List (Key × Value)} (z : kvs.length ≤ sizeLine) (hd : (a == sysModules) = false) (rel : KV kvs vs) (dd : h'.DictOf (mixKind P w) a vs) :
    ObjOk P w H' h' a (.dK kvs) := ⟨z, hd, vs, rel, dd⟩
end

section
variable {X : Cx} {pins : List (Addr × Obj)} {σ : St} {H : Hp} {s : Shared} {a : Addr} {kvs : List (Key × V)} {k : Key} {u : Value} {A : Around} {E : Value → Shared → Prop}
end


/-! ### readings and rules -/
/-- the element of a subscription, not a slice -/
def NoSl (i : Expr) : Prop := ∀ ov iv, subscripted i false ov iv = operate [ov, iv] (getItem ov iv)


/-- d[y] -/
def tDGet (td ty : TE) : TE := fun σ H Q => td σ H fun x H1 => ty σ H1 fun y H2 => ∃ a v, x = .ref a ∧ DGet H2 a y (some v) ∧ Q v H2
/-- y in d, y not in d -/
def tDIn (ty td : TE) : TE := fun σ H Q => ty σ H fun y H1 => td σ H1 fun x H2 => ∃ a o, x = .ref a ∧ DGet H2 a y o ∧ Q (.bl o.isSome) H2
def tDNotIn (ty td : TE) : TE := fun σ H Q => ty σ H fun y H1 => td σ H1 fun x H2 => ∃ a o, x = .ref a ∧ DGet H2 a y o ∧ Q (.bl (!o.isSome)) H2
/-- d[y] = v -/
def sDPut (td ty tv : TE) : TS := fun D σ H => tv σ H fun v H1 => td σ H1 fun x H2 => ty σ H2 fun y H3 => ∃ a H4, x = .ref a ∧ DPut H3 a y v H4 ∧ D.nx σ H4
/-- d[y] op= v -/
def sDAug (td ty tv : TE) (rd : V → V → Hp → VK → Prop) : TS := fun D σ H => td σ H fun x H1 => ty σ H1 fun y H2 => ∃ a v, x = .ref a ∧ DGet H2 a y (some v) ∧
  tv σ H2 fun y2 H3 => rd v y2 H3 fun z H4 => ∃ H5, DPut H4 a y z H5 ∧ D.nx σ H5
/-- del d[y] -/
def sDDel (td ty : TE) : TS := fun D σ H => td σ H fun x H1 => ty σ H1 fun y H2 => ∃ a kvs k, x = .ref a ∧ H2 a = some (.dK kvs) ∧ y = kV k ∧ (valV kvs k).isSome = true ∧ D.nx σ (upd H2 a (.dK (dropK kvs k)))

section
variable {X : Cx} {o i e value : Expr} {pos pos' tpos : Pos} {td ty tv : TE}
end


/-! ### displays -/
theorem dk_empty {P : Program} {w : World} {H : Hp} (h : Heap) (hb : sysModules < h.objs.size) : ObjOk P w H (h.push { cls := .type "dict", data := .dict #[] }) h.objs.size (.dK []) :=
  ⟨Nat.zero_le _, beq_eq_false_iff_ne.mpr (Ne.symm (Nat.ne_of_lt hb)), [], .nil, Heap.DictOf.new h⟩
/-- {}, to be a dict of the kind that is wanted -/
def tDNewK : TE := fun _ H Q => ∀ p, H p = none → Q (.ref p) (upd H p (.dK []))
def tDNewT : TE := fun _ H Q => ∀ p, H p = none → Q (.ref p) (upd H p (.dT []))
section
variable {X : Cx} {pos : Pos}
end

/-- the pairs of a display, from the left -/
def tPairs : List (TE × TE) → St → Hp → (List (V × V) → Hp → Prop) → Prop
  | [], _, H, Q => Q [] H
  | (tk, tv) :: r, σ, H, Q => tk σ H fun x H1 => tv σ H1 fun y H2 => tPairs r σ H2 fun ps H3 => Q ((x, y) :: ps) H3
abbrev VV : List (V × V) → List (Value × Value) → Prop := Paired fun p q => RelV p.1 q.1 ∧ RelV p.2 q.2
def PPs (X : Cx) (pos : Pos) (keys : List (Option Expr)) (values : List Expr) (trs : List (TE × TE)) : Prop :=
  ∀ (pins : List (Addr × Obj)) (s : Shared) (σ : St) (H : Hp) (Q : List (V × V) → Hp → Prop), Inv X pins σ H s → tPairs trs σ H Q →
    wpAny (model X.prog X.w) X.A (evalPairs (pairTrees keys values X.env pos)) (fun vs s' => ∃ ps H', Inv X pins σ H' s' ∧ VV ps vs ∧ Q ps H') X.xe s
theorem pps_nil {X : Cx} {pos : Pos} : PPs X pos [] [] [] := fun pins s σ H Q I h => pairTrees_nil_walk ⟨[], H, I, .nil, h⟩
theorem pps_cons {X : Cx} {pos : Pos} {k v : Expr} {ks : List (Option Expr)} {vs : List Expr} {tk tv : TE} {trs : List (TE × TE)} (hk : PE X k tk) (hv : PE X v tv) (hr : PPs X pos ks vs trs) :
    PPs X pos (some k :: ks) (v :: vs) ((tk, tv) :: trs) := fun pins s σ H Q I h =>
  pairTrees_cons_walk (thn (hk pins s σ H _ I h) fun u s1 ⟨x, H1, I1, rx, q1⟩ => thn (hv pins s1 σ H1 _ I1 q1) fun w2 s2 ⟨y, H2, I2, ry, q2⟩ =>
    thn (hr pins s2 σ H2 _ I2 q2) fun ws s3 ⟨ps, H3, I3, rel, q3⟩ => ⟨(x, y) :: ps, H3, I3, .cons ⟨rx, ry⟩ rel, q3⟩)

def mergeK (kvs more : List (Key × V)) : List (Key × V) := more.foldl (fun acc kv => putK acc kv.1 kv.2) kvs
theorem KV.merge : ∀ {more : List (Key × V)} {rs : List (Key × Value)} {kvs : List (Key × V)} {vs : List (Key × Value)}, KV more rs → KV kvs vs → KV (mergeK kvs more) (merged vs rs) := by
  intro more rs kvs vs r
  unfold KV at r
  induction r generalizing kvs vs with
  | nil => intro q; exact q
  | @cons p q ps qs h t ih =>
    intro r0
    have e : KV (putK kvs p.1 p.2) (stored vs q.1 q.2) := by
      have := r0.put p.1 h.2
      rw [← h.1]; exact this
    exact ih e
theorem length_mergeK : ∀ (more kvs : List (Key × V)), (mergeK kvs more).length ≤ kvs.length + more.length
  | [], kvs => by show kvs.length ≤ kvs.length + 0; omega
  | p :: r, kvs => by
    have h1 := length_mergeK r (putK kvs p.1 p.2)
    have h2 := length_putK kvs p.1 p.2
    show (mergeK (putK kvs p.1 p.2) r).length ≤ _
    rw [List.length_cons]; omega
theorem carries_of {P : Program} {w : World} : ∀ {kvs : List (Key × V)} {ws : List (Value × Value)}, VV (kvs.map fun kv => (kV kv.1, kv.2)) ws → ∃ rs, Carries (mixKind P w) ws rs ∧ KV kvs rs
  | [], _, r => by rw [List.map_nil] at r; cases r; exact ⟨[], True.intro, .nil⟩
  | p :: kvs, _, r => by
    rw [List.map_cons] at r
    cases r with
    | @cons a b as bs h t =>
      obtain ⟨rs, c, q⟩ := carries_of (P := P) (w := w) t
      obtain ⟨b1, b2⟩ := b
      exact ⟨(p.1, b2) :: rs, ⟨kV_is h.1, rfl, c⟩, .cons ⟨rfl, h.2⟩ q⟩
/-- {k: v, ..} with keys ints and texts; the new dict stands empty while the pairs are made -/
def tDisp (trs : List (TE × TE)) : TE := fun σ H Q => ∀ p, H p = none → tPairs trs σ (upd H p (.dK [])) fun ps H2 => H2 p = some (.dK []) ∧ ∃ kvs : List (Key × V), ps = kvs.map (fun kv => (kV kv.1, kv.2)) ∧ kvs.length ≤ 15 ∧ Q (.ref p) (upd H2 p (.dK (mergeK [] kvs)))
theorem pe_disp {X : Cx} {pos : Pos} {keys : List (Option Expr)} {values : List Expr} {trs : List (TE × TE)} (h : PPs X pos keys values trs) (hall : keys.all (·.isSome) = true) (hl : keys.length = values.length) (h0 : keys ≠ [])
    (h15 : keys.length ≤ 15) : PE X (.Dict keys values pos) (tDisp trs) := by
  intro pins s σ H Q I q
  have hn := I.hok.fresh (Nat.le_refl s.heap.objs.size)
  have I1 := I.laid (a := s.heap.objs.size) (o := .dK []) (h' := s.heap.push { cls := .type "dict", data := .dict #[] }) (t' := s.toks) (fun _ _ q => Heap.get?_push_of_some _ q) (Nat.le_refl _) (dk_empty s.heap I.big)
  refine wpAny_Dict_walk (knd := mixKind X.prog X.w) hall hl h0 h15 (thn (h pins _ σ _ _ I1 (q _ hn)) fun ws s2 ⟨ps, H2, I2, rel, e, kvs, ep, lk, q2⟩ => ?_)
  subst ep
  obtain ⟨rs, c, rk⟩ := carries_of (P := X.prog) (w := X.w) rel
  obtain ⟨z, hd, vs0, r0, dd⟩ := dk_of I2.hok e
  cases r0
  refine ⟨rs, c, dd, fun h' dd' hs => ⟨.ref s.heap.objs.size, _, ?_, rfl, q2⟩⟩
  have hz : (mergeK [] kvs).length ≤ sizeLine := by
    have h1 := length_mergeK kvs []
    rw [List.length_nil] at h1
    rw [sizeLine_eq]; omega
  have he : ∃ q, h'.get? s.heap.objs.size = some q := let ⟨q, _, _, hq, _⟩ := dd'; ⟨q, hq⟩
  exact d_write I2 (by rw [e]; exact True.intro) hs he (dk_new hz hd (rk.merge .nil) dd')


/-! ### methods -/
/-- a method call o.m(e) of a built-in, with one argument: what must be seen of the text -/
structure M1 (X : Cx) (o : Expr) (m : Str) (apos : Pos) (e : Expr) (cpos : Pos) : Prop where
  base : attributeBase o m X.env (eval o X.env) = eval o X.env
  few : ((backTo cpos (starEach [e] X.env)).all (fun x => !x.1) && (backToKw cpos (keywordEach [] X.env)).all (fun x => x.1.isSome)
    && decide (([e] : List Expr).length + ([] : List Keyword).length + (if ([] : List Keyword).isEmpty then 0 else 1) < 30)) = true
  line : (apos.endLine == cpos.line) = true
  trees : backTo cpos (starEach [e] X.env) = [(false, eval e X.env)]
structure M2 (X : Cx) (o : Expr) (m : Str) (apos : Pos) (e f : Expr) (cpos : Pos) : Prop where
  base : attributeBase o m X.env (eval o X.env) = eval o X.env
  few : ((backTo cpos (starEach [e, f] X.env)).all (fun x => !x.1) && (backToKw cpos (keywordEach [] X.env)).all (fun x => x.1.isSome)
    && decide (([e, f] : List Expr).length + ([] : List Keyword).length + (if ([] : List Keyword).isEmpty then 0 else 1) < 30)) = true
  line : (apos.endLine == cpos.line) = true
  trees : backTo cpos (starEach [e, f] X.env) = [(false, eval e X.env), (false, eval f X.env)]

/-- a is a dict, whatever its keys -/
def IsD (H : Hp) (a : Addr) : Prop := (∃ kvs, Rd H a (.dK kvs)) ∨ ∃ kvs, Rd H a (.dT kvs)
theorem isD_at {X : Cx} {pins : List (Addr × Obj)} {σ : St} {H : Hp} {s : Shared} {a : Addr} (I : Inv X pins σ H s) (d : IsD H a) :
    s.TypeIs (.ref a) "dict" ∧ (∀ b, Value.ref a = .ref b → ∃ ob, s.heap.get? b = some ob ∧ ob.dict = none) ∧ (a == sysModules) = false := by
  rcases d with ⟨kvs, e⟩ | ⟨kvs, e⟩
  · obtain ⟨_, hd, vs, _, dd⟩ := dk_rd I.hok e
    refine ⟨dd.typeIs, fun b q => ?_, hd⟩
    cases q
    obtain ⟨ob, _, _, h1, h2, _⟩ := dd
    exact ⟨ob, h1, h2.2.1⟩
  · obtain ⟨_, hd, xs, _, dd⟩ := dt_rd I.hok e
    refine ⟨dd.typeIs, fun b q => ?_, hd⟩
    cases q
    obtain ⟨ob, _, _, h1, h2, _⟩ := dd
    exact ⟨ob, h1, h2.2.1⟩

section
variable {X : Cx} {pins : List (Addr × Obj)} {σ : St} {H : Hp} {s : Shared} {a : Addr} {y d : V} {u r : Value} {o : Option V} {A : Around} {E : Value → Shared → Prop}
/-- d.get(y, x) -/
theorem d_get2 {Q : Value → Shared → Prop} (hu : A.units + 1 < cLine) (I : Inv X pins σ H s) (g : DGet H a y o) (ry : RelV y u) (rd : RelV d r) (h : ∀ w' s', Inv X pins σ H s' → RelV (o.getD d) w' → Q w' s') :
    wpAny (model X.prog X.w) A (call (.builtin "dict.get") [.ref a, u, r]) Q E s := by
  rcases g with ⟨kvs, k, e, ey, l⟩ | ⟨kvs, k, b, e, ey, eb, l⟩
  · subst ey
    obtain ⟨z, hd, vs, rel, dd⟩ := dk_rd I.hok e
    refine call_meetsIn PySem.F.slot_dict_get dd.typeIs PySem.F.entry_dict_get (PySem.F.args_dict_get_3 _ _ _) (meets_dict_get_default (mixKind X.prog X.w) a (kV_is ry) hd r) ⟨_, dd.mapOf, h _ _ (I.tok _) ?_⟩
    rw [l]
    exact (rel.val k).getD rd
  · subst ey
    cases (show u = Value.ref b from ry)
    obtain ⟨z, hd, xs, rel, dd⟩ := dt_rd I.hok e
    refine call_meetsIn PySem.F.slot_dict_get dd.typeIs PySem.F.entry_dict_get (PySem.F.args_dict_get_3 _ _ _) (meetsH_dict_get_default (tupleKind (mixKind X.prog X.w)) a b hd r) ⟨tupleKind_room_in1 hu, k, xs, key_of I.hok eb, dd, h _ _ (I.tok _) ?_⟩
    rw [l]
    exact (rel.val k).getD rd
end

def tDGet1 (td ty : TE) : TE := fun σ H Q => td σ H fun x H1 => ∃ a, x = .ref a ∧ IsD H1 a ∧ ty σ H1 fun y H2 => ∃ o, DGet H2 a y o ∧ Q (o.getD .non) H2
def tDGet2 (td ty tx : TE) : TE := fun σ H Q => td σ H fun x H1 => ∃ a, x = .ref a ∧ IsD H1 a ∧ ty σ H1 fun y H2 => tx σ H2 fun z H3 => ∃ o, DGet H3 a y o ∧ Q (o.getD z) H3
/-- d.pop(k): there; d.pop(k, x): there or not -/
def tDPop1 (td ty : TE) : TE := fun σ H Q => td σ H fun x H1 => ∃ a, x = .ref a ∧ IsD H1 a ∧ ty σ H1 fun y H2 => ∃ kvs k v, H2 a = some (.dK kvs) ∧ y = kV k ∧ valV kvs k = some v ∧ Q v (upd H2 a (.dK (dropK kvs k)))
def tDPop2 (td ty tx : TE) : TE := fun σ H Q => td σ H fun x H1 => ∃ a, x = .ref a ∧ IsD H1 a ∧ ty σ H1 fun y H2 => tx σ H2 fun z H3 => ∃ kvs k, H3 a = some (.dK kvs) ∧ y = kV k ∧
  (∀ v, valV kvs k = some v → Q v (upd H3 a (.dK (dropK kvs k)))) ∧ (valV kvs k = none → Q z H3)
section
variable {X : Cx} {o e f : Expr} {apos cpos : Pos} {td ty tx : TE}
theorem pe_dget2 (hu : X.A.units + 1 < cLine) (ho : PE X o td) (he : PE X e ty) (hf : PE X f tx) (m : M2 X o "get" apos e f cpos) : PE X (.Call (.Attribute o "get" apos) [e, f] [] cpos) (tDGet2 td ty tx) := by
  intro pins s σ H Q I h
  refine wpAny_Call_method m.base m.few m.line PySem.F.plainAttrs_dict PySem.F.slot_dict_get PySem.F.type_dict_get (thn (ho pins s σ H _ I h) fun u s1 ⟨x, H1, I1, rx, a, ex, d, q1⟩ => ?_)
  subst ex
  obtain rfl : u = Value.ref a := rx
  obtain ⟨t1, t2, _⟩ := isD_at I1 d
  refine ⟨t1, t2, ?_⟩
  rw [m.trees]
  refine Calls.callWith_builtin rfl (Calls.evalArgs_plain (Calls.spliced_cons (thn (he pins s1 σ H1 _ I1 q1) fun iv s2 ⟨y, H2, I2, ry, q2⟩ =>
    Calls.spliced_cons (thn (hf pins s2 σ H2 _ I2 q2) fun fv s3 ⟨z, H3, I3, rz, ov, g, q3⟩ => Calls.spliced_nil ?_))))
  exact d_get2 hu I3 g ry rz fun w' s4 I4 rw' => ⟨_, H3, I4, rw', q3⟩
end

/-! ### dict(d): a copy -/
section
variable {X : Cx} {pins : List (Addr × Obj)} {σ : St} {H : Hp} {s : Shared} {a : Addr} {kvs : List (Key × V)} {A : Around} {E : Value → Shared → Prop}
end


section
variable {X : Cx} {pins : List (Addr × Obj)} {σ : St} {H : Hp} {s : Shared} {a : Addr} {y : V} {u : Value} {A : Around} {E : Value → Shared → Prop}
end
end L2

set_option Elab.async false
set_option linter.all false
set_option maxRecDepth 100000
namespace L2
open PySem PySem.Spec PyProof.Rows
section
variable {X : Cx} {pins : List (Addr × Obj)} {σ : St} {H : Hp} {s : Shared} {a o : Addr} {kvs more : List (Key × V)} {A : Around} {E : Value → Shared → Prop}
end
/-- d.update(e) -/
def tDUpd (td ty : TE) : TE := fun σ H Q => td σ H fun x H1 => ∃ a, x = .ref a ∧ IsD H1 a ∧ ty σ H1 fun y H2 => ∃ o kvs more, y = .ref o ∧ H2 a = some (.dK kvs) ∧ H2 o = some (.dK more) ∧ a ≠ o ∧ kvs.length + more.length ≤ 1000 ∧ Q .non (upd H2 a (.dK (mergeK kvs more)))
end L2

set_option Elab.async false
set_option linter.all false
set_option maxRecDepth 100000
namespace L2
open PySem PySem.Spec PyProof.Rows
section
variable {X : Cx} {k : Nat}
/-- xs == [], whatever stands in xs -/
def rEqE : R2 := fun x y H Q => ∃ (a z : Addr) (xs : List V), x = .ref a ∧ y = .ref z ∧ H a = some (.lst xs) ∧ H z = some (.lst []) ∧ Q (.bl xs.isEmpty) H
def rNeE : R2 := fun x y H Q => ∃ (a z : Addr) (xs : List V), x = .ref a ∧ y = .ref z ∧ H a = some (.lst xs) ∧ H z = some (.lst []) ∧ Q (.bl (!xs.isEmpty)) H
theorem op_neE (hr : Room k X.A) : OpR X (compareOp .NotEq) rNeE := by
  intro pins s σ H x y v u Q I rx ry h
  obtain ⟨a, z, xs, rfl, rfl, ha, hz, q⟩ := h
  cases rx
  cases ry
  have hu := hr.units
  obtain ⟨its, r, pl, _⟩ := I.list (SqL.of ha)
  obtain ⟨its2, r2, pl2, _⟩ := I.list (SqL.of hz)
  have e2 : its2 = [] := r2.nil_iff.mpr rfl
  subst e2
  cases xs with
  | nil =>
    have e1 : its = [] := r.nil_iff.mpr rfl
    subst e1
    have R := SeqAt.RcNeAt.lists (A := X.A) (e := fun _ => true) pl.isList pl2.isList rfl (by omega) (fun j h1 h2 => absurd h1 (by simp))
    exact R X.prog X.w X.xe _ ⟨.bl _, H, I, rfl, q⟩
  | cons y ys =>
    have hne : its ≠ [] := fun e => by have := r.nil_iff.mp e; cases this
    have R := SeqAt.RcNeAt.lists_lengths (A := X.A) pl.isList pl2.isList (by simp [hne]) (by omega)
    exact R X.prog X.w X.xe _ ⟨.bl _, H, I, rfl, q⟩
/-- dict(d) -/
def rDictC : List V → Hp → VK → Prop := fun xs H Q => ∃ (a : Addr) (kvs : List (Key × V)), xs = [.ref a] ∧ H a = some (.dK kvs) ∧ ∀ p, H p = none → Q (.ref p) (upd H p (.dK kvs))
end
end L2

set_option Elab.async false
set_option linter.all false
set_option maxRecDepth 100000
namespace PySem.SeqAt
open PySem.MeetsSeq PySem PySem.Spec
section
variable {A : Around} {s : Shared}
end
end PySem.SeqAt
namespace HT
open PySem PySem.Spec PyProof.Rows
section
variable {prog : Program} {w : World} {A : Around} {E : Value → Shared → Prop} {s : Shared}
end
end HT
namespace L2
open PySem PySem.Spec PyProof.Rows
/-- t[::-1] -/
def tRev (te : TE) : TE := fun σ H Q => te σ H fun x H1 => ∃ (a : Addr) (xs : List V), x = .ref a ∧ H1 a = some (.tup xs) ∧ ∀ q, H1 q = none → Q (.ref q) (upd H1 q (.tup xs.reverse))
end L2

set_option Elab.async false
set_option linter.all false
set_option maxRecDepth 100000
namespace L2
open PySem PySem.Spec PyProof.Rows
/-! ### things of any kind -/
inductive Th where
  | non
  | bl (b : Bool)
  | int (i : Int)
  | str (s : Str)
  | tup (ts : List Th)
  | lst
  | dct
mutual
inductive ThAt (H : Hp) : V → Th → Prop
  | non : ThAt H .non .non
  | bl (b : Bool) : ThAt H (.bl b) (.bl b)
  | int (i : Int) : ThAt H (.int i) (.int i)
  | str (s : Str) : ThAt H (.str s) (.str s)
  | tup {p : Addr} {vs : List V} {ts : List Th} : H p = some (.tup vs) → ThsAt H vs ts → ThAt H (.ref p) (.tup ts)
  | lst {p : Addr} {vs : List V} : H p = some (.lst vs) → ThAt H (.ref p) .lst
  | dct {p : Addr} {kvs : List (Key × V)} : H p = some (.dK kvs) → ThAt H (.ref p) .dct
inductive ThsAt (H : Hp) : List V → List Th → Prop
  | nil : ThsAt H [] []
  | cons {v : V} {t : Th} {vs : List V} {ts : List Th} : ThAt H v t → ThsAt H vs ts → ThsAt H (v :: vs) (t :: ts)
end
/-- the kinds stay -/
structure KS (H H' : Hp) : Prop where
  t : ∀ q xs, H q = some (.tup xs) → H' q = some (.tup xs)
  l : ∀ q xs, H q = some (.lst xs) → ∃ ys, H' q = some (.lst ys)
  d : ∀ q xs, H q = some (.dK xs) → ∃ ys, H' q = some (.dK ys)
section
variable {H H' H'' : Hp} {a : Addr}
theorem KS.refl : KS H H := ⟨fun _ _ e => e, fun _ _ e => ⟨_, e⟩, fun _ _ e => ⟨_, e⟩⟩
theorem KS.same (k : Same H H') : KS H H' := ⟨fun _ _ e => k _ _ e, fun _ _ e => ⟨_, k _ _ e⟩, fun _ _ e => ⟨_, k _ _ e⟩⟩
theorem KS.trans (x : KS H H') (y : KS H' H'') : KS H H'' := ⟨fun q xs e => y.t _ _ (x.t _ _ e), fun q xs e => let ⟨ys, e'⟩ := x.l _ _ e; y.l _ _ e', fun q xs e => let ⟨ys, e'⟩ := x.d _ _ e; y.d _ _ e'⟩
theorem KS.new {o : HO} (h : H a = none) : KS H (upd H a o) := KS.same (Same.new (Same.refl H) h)
theorem KS.lst {xs ys : List V} (h : H a = some (.lst xs)) : KS H (upd H a (.lst ys)) :=
  ⟨fun q zs e => by rw [upd_ne (ne_of e h (by intro z; cases z))]; exact e, fun q zs e => by
    by_cases hq : q = a
    · subst hq
      exact ⟨_, upd_same⟩
    · exact ⟨_, by rw [upd_ne hq]; exact e⟩, fun q zs e => ⟨_, by rw [upd_ne (ne_of e h (by intro z; cases z))]; exact e⟩⟩
mutual
theorem ThAt.ks (k : KS H H') {v : V} {t : Th} : ThAt H v t → ThAt H' v t
  | .non => .non
  | .bl b => .bl b
  | .int i => .int i
  | .str s => .str s
  | .tup h hs => .tup (k.t _ _ h) (ThsAt.ks k hs)
  | .lst h => let ⟨_, h'⟩ := k.l _ _ h; .lst h'
  | .dct h => let ⟨_, h'⟩ := k.d _ _ h; .dct h'
theorem ThsAt.ks (k : KS H H') {vs : List V} {ts : List Th} : ThsAt H vs ts → ThsAt H' vs ts
  | .nil => .nil
  | .cons h hs => .cons (ThAt.ks k h) (ThsAt.ks k hs)
end
theorem ThsAt.len : ∀ {vs : List V} {ts : List Th}, ThsAt H vs ts → vs.length = ts.length
  | [], [], _ => rfl
  | v :: vs, t :: ts, .cons _ h => by rw [List.length_cons, List.length_cons, ThsAt.len h]
theorem ThsAt.at : ∀ {vs : List V} {ts : List Th}, ThsAt H vs ts → ∀ {i : Nat} {t : Th}, ts[i]? = some t → ∃ v, vs[i]? = some v ∧ ThAt H v t
  | v :: vs, t :: ts, .cons h hs, 0, u, e => ⟨v, rfl, by
    have : t = u := by simpa using e
    exact this ▸ h⟩
  | v :: vs, t :: ts, .cons h hs, i + 1, u, e => by
    obtain ⟨w, h1, h2⟩ := ThsAt.at hs (i := i) (t := u) (by simpa using e)
    exact ⟨w, by simpa using h1, h2⟩
  | [], [], .nil, i, u, e => by simp at e
theorem ThsAt.app : ∀ {vs ws : List V} {ts us : List Th}, ThsAt H vs ts → ThsAt H ws us → ThsAt H (vs ++ ws) (ts ++ us)
  | [], _, [], _, .nil, h => h
  | _ :: _, _, _ :: _, _, .cons a b, h => .cons a (ThsAt.app b h)
theorem ThsAt.take : ∀ (n : Nat) {vs : List V} {ts : List Th}, ThsAt H vs ts → ThsAt H (vs.take n) (ts.take n)
  | 0, _, _, _ => by simpa using ThsAt.nil
  | n + 1, [], [], .nil => .nil
  | n + 1, _ :: _, _ :: _, .cons a b => .cons a (ThsAt.take n b)
theorem ThsAt.drop : ∀ (n : Nat) {vs : List V} {ts : List Th}, ThsAt H vs ts → ThsAt H (vs.drop n) (ts.drop n)
  | 0, _, _, h => h
  | n + 1, [], [], .nil => .nil
  | n + 1, _ :: _, _ :: _, .cons a b => ThsAt.drop n b
end
def cutT (ts : List Th) (lo hi : Option Int) : List Th := (ts.drop (HT.sIx ts.length 0 lo)).take (HT.sIx ts.length ts.length hi - HT.sIx ts.length 0 lo)
/-- the kinds -/
def Th.tn : Th → String
  | .non => "NoneType"
  | .bl _ => "bool"
  | .int _ => "int"
  | .str _ => "str"
  | .tup _ => "tuple"
  | .lst => "list"
  | .dct => "dict"
theorem ThAt.ty {K : PySem.W.Frag} {H : Hp} {v : V} {t : Th} (h : ThAt H v t) : TyOf K H v (.type t.tn) := by
  cases h with
  | non => exact .non
  | bl b => exact .bl b
  | int i => exact .int i
  | str s => exact .str s
  | tup h _ => exact .tup h
  | lst h => exact .lst h
  | dct h => exact .dK h
def Th.isI : Th → Bool
  | .bl _ => true
  | .int _ => true
  | _ => false
def Th.isB : Th → Bool
  | .bl _ => true
  | _ => false
def Th.isT : Th → Bool
  | .tup _ => true
  | _ => false
def Th.isS : Th → Bool
  | .str _ => true
  | _ => false
def Th.isL : Th → Bool
  | .lst => true
  | _ => false
def rIsTh (n : String) (f : Th → Bool) : List V → Hp → VK → Prop := fun xs H Q => ∃ v t, xs = [v, .ty n] ∧ ThAt H v t ∧ Q (.bl (f t)) H
section
variable {X : Cx} {k : Nat}
/-- x not in a tuple of words -/
def Th.inW (ws : List Str) : Th → Bool
  | .str s => ws.any fun a => a == s
  | _ => false
def eqT : Th → Value → Bool
  | .str s, .str a _ => a == s
  | _, _ => false
def rNotW (K : PySem.W.Frag) (ws : List Str) : R2 := fun x y H Q => ∃ a t, y = .ref a ∧ SqT K H a (ws.map V.str) ∧ ThAt H x t ∧ Q (.bl (!t.inW ws)) H
end
/-- a tuple that a module holds -/
def GTup (K : PySem.W.Frag) (mg : Str → Option Value) (x : Str) (vs : List V) : Prop := ∃ (a : Addr) (o : Obj) (its : Array Value) (n : Nat), mg x = some (.ref a) ∧ K.lookup a = some o ∧ o.cls = .type "tuple" ∧ o.data = .seq its n ∧ its.size ≤ sizeLine ∧ Vals vs its.toList
theorem GTup.sq {K : PySem.W.Frag} {mg : Str → Option Value} {x : Str} {vs : List V} (g : GTup K mg x vs) : ∃ a, mg x = some (.ref a) ∧ ∀ H, SqT K H a vs := by
  obtain ⟨a, o, its, n, h1, h2, h3, h4, h5, h6⟩ := g
  exact ⟨a, h1, fun H => .inr ⟨o, its, n, h2, h3, h4, h5, h6⟩⟩
/-- its name, its items -/
def tGT (K : PySem.W.Frag) (vs : List V) : TE := fun _ H Q => ∀ a, SqT K H a vs → Q (.ref a) H
theorem pe_gt {X : Cx} {x : Str} {vs : List V} {pos : Pos} (g : GTup X.K X.mg x vs) (hg : Gl X x := by rfl) (hd : (x == ("__debug__" : Str)) = false := by decide) : PE X (.Name x pos) (tGT X.K vs) := by
  obtain ⟨a, h1, h2⟩ := g.sq
  exact fun pins s σ H Q I h => pe_glob hg h1 (v := .ref a) rfl hd pins s σ H Q I (h a (h2 H))
end L2

set_option Elab.async false
set_option linter.all false
set_option maxRecDepth 100000
namespace K23
open PySem L2 G2
local macro_rules | `(tactic| walk_at "v") => `(tactic| repeat (with_reducible first
  | refine w_seq ?_ | refine w_asg ?_ | refine w_gname ?_ | refine w_op ?_ | refine w_var rfl ?_ | refine w_c ?_ | refine w_rI0 ?_ | refine w_ifs ?_ | refine w_ife ?_ | refine w_test ?_ | refine w_tb ?_ | refine w_bl ?_ | refine w_not ?_ | refine w_ret ?_ | refine w_retN ?_
  | refine w_nil ?_ | refine w_cons ?_ | refine w_lst ?_ | refine w_tup ?_ | refine w_cb ?_ | refine w_call ?_ | refine w_gsub ?_ | refine w_and ?_ | refine w_or ?_ | refine w_next ?_ | refine w_all ?_ | refine w_vals ?_ | refine w_compR ?_ | refine w_compT ?_ | refine w_forR ?_ | refine w_forT ?_ | refine w_forL ?_ | refine w_drop ?_ | refine w_bm ?_ | refine w_compZ ?_ | refine w_compL ?_ | refine w_chain ?_ | refine w_sl ?_ | refine w_nopart ?_ | refine w_part ?_ | refine w_unI ?_ | refine iteT ?_ | refine iteF ?_))
def top (i : Nat) : Stmt := PySem.Challenge.pw_dropsums_k23_texts_that_write_no_ask.main.body.getD i (.Pass ⟨0, 0, 0, 0⟩)
abbrev sTape : Stmt := top 29
abbrev sDraw : Stmt := top 30
abbrev sLine : Stmt := top 31
abbrev sAsk : Stmt := top 32
def Kn (mg : Str → Option Value) (x : Str) (i : Int) : Prop := ∃ t, mg x = some (Value.int i t)
theorem pe_k {X : Cx} {x : Str} {i : Int} {pos : Pos} (h : Kn X.mg x i) (hg : Gl X x := by rfl) (hd : (x == ("__debug__" : Str)) = false := by decide) : PE X (.Name x pos) (tC (.int i)) := by
  obtain ⟨t, e⟩ := h
  exact pe_glob hg e ⟨t, rfl⟩ hd
structure Blt (mg : Str → Option Value) : Prop where
  len : mg "len" = none
  range : mg "range" = none
  tuple : mg "tuple" = none
  int : mg "int" = none
  bool : mg "bool" = none
  list : mg "list" = none
  str : mg "str" = none
  all : mg "all" = none
  isi : mg "isinstance" = none
  byK : Kn mg "BY" 0
  plK : Kn mg "LINE_PLUS" 1
/-- the comprehension that a call that is returned is handed -/
def retCallComp (s : Stmt) : Scope := match s with
  | .Return (some (.Call _ [.ListComp _ _ sc _] _ _)) _ => sc
  | _ => { kind := .function, names := [], isGenerator := false, isCoroutine := false }
section
variable {P : Program} {w : World} {K : PySem.W.Frag} {mg : Str → Option Value} {base : Heap}
/-! ### the tape -/
theorem nmTape : Nm ["_law_script"] (defScope sTape) := ⟨by decide +kernel, by decide +kernel⟩
theorem scTape : FnScope ["_law_script"] ["_law_script"] (defScope sTape) := ⟨rfl, rfl, rfl, by decide +kernel, rfl, by decide +kernel, by decide +kernel⟩
def spTape (K : PySem.W.Frag) : Sp := fun vs H Q _ => ∃ (a : Addr) (ns : List Int), vs = [.ref a] ∧ SqL K H a (ns.map V.int) ∧ ∀ p l (ms : List Int) H', ms.length ≤ 63 → Tp H' p l ms → Same H H' → Q (.ref p) H'
theorem cut63 (ns : List Int) : cutV (ns.map V.int) none (some 63) = (ns.take 63).map V.int := by
  unfold cutV HT.sIx
  dsimp only
  rw [if_neg (by decide : ¬ (63 : Int) < 0), List.drop_zero, Nat.sub_zero, List.map_take, List.length_map]
  show List.take (min 63 ns.length) _ = _
  by_cases h : ns.length ≤ 63
  · rw [Nat.min_eq_right h, List.take_of_length_le (by rw [List.length_map]; omega), List.take_of_length_le (by rw [List.length_map]; omega)]
  · rw [Nat.min_eq_left (by omega)]
theorem ok_tape {f : Addr} {fd : FuncData} (F : Fun K "_law_tape" "_law_tape" sTape f fd) : FnOk P w K mg base CX0 1 f fd ["_law_script"] (spTape K) := by
  refine F.ok scTape (fun vs H Q E h => ?_) (fun cdv A outer s H vs Q E hr h => ?_)
  · obtain ⟨a, ns, rfl, _⟩ := h
    rfl
  · obtain ⟨a, ns, rfl, hS, k⟩ := h
    refine' ⟨_, ?hb, ?rd⟩
    case hb =>
      refine' pss_one ?s1
      case' s1 => refine' ps_ret ?p1
      case' p1 => refine' pe_lst ?q1
      case' q1 => refine' pa_c ?u1 ?u2
      case u2 => exact pa_2 pe_int pe_int
      case u1 => exact pe_slice sl_list (pvd nmTape 0) po_none (po_some pe_int)
    case rd =>
      walk_at "v"
      refine ⟨_, rfl, ?_⟩
      refine ⟨a, _, rfl, hS, fun l hl => ?_⟩
      rw [cut63]
      walk_at "v"
      refine ⟨by show 3 ≤ sizeLine; decide, fun p hp => ?_⟩
      have nlp : l ≠ p := by
        intro z
        rw [← z, upd_same] at hp
        cases hp
      refine k p l (ns.take 63) _ (by rw [List.length_take]; omega) ⟨⟨_, _, upd_same⟩, by rw [upd_ne nlp, upd_same], Ne.symm nlp⟩ ((Same.new (Same.refl H) hl).new hp)
abbrev nDraw : List Str := ["_law_tape_here", "_law_many", "_law_cell", "_law_mixed", "_law_found"]
theorem nmDraw : Nm nDraw (defScope sDraw) := ⟨by decide +kernel, by decide +kernel⟩
theorem scDraw : FnScope nDraw ["_law_tape_here", "_law_many"] (defScope sDraw) := ⟨rfl, rfl, rfl, by decide +kernel, rfl, by decide +kernel, by decide +kernel⟩
def spDraw : Sp := fun vs H Q _ => ∃ (p l : Addr) (ns : List Int) (m : Int), vs = [.ref p, .int m] ∧ Tp H p l ns ∧ 0 < m ∧ m < 1000000 ∧ ∀ (r c e : Int), 0 ≤ r → r < m → Q (.int r) (upd H p (.lst [.ref l, .int c, .int e]))
set_option maxHeartbeats 2000000 in
theorem ok_draw {f : Addr} {fd : FuncData} (B : Blt mg) (F : Fun K "_law_draw" "_law_draw" sDraw f fd) : FnOk P w K mg base CX0 1 f fd ["_law_tape_here", "_law_many"] spDraw := by
  refine F.ok scDraw (fun vs H Q E h => ?_) (fun cdv A outer s H vs Q E hr h => ?_)
  · obtain ⟨p, l, ns, m, rfl, _⟩ := h
    rfl
  · obtain ⟨p, l, ns, m, rfl, ⟨⟨c, e, hp⟩, hl, hne⟩, hm, hm2, k⟩ := h
    refine' ⟨_, ?hb, ?rd⟩
    case hb =>
      refine' pss_cons ?s1 ?r1
      case' r1 => refine' pss_cons ?s2 ?r2
      case' r2 => refine' pss_cons ?s3 ?r3
      case' r3 => refine' pss_cons ?s4 ?r4
      case' r4 => refine' pss_one ?s5
      case s1 => exact ps_asg (pe_op op_add (pe_ix ix_d (pvd nmDraw 0) pe_int (fun _ _ => rfl)) pe_int) (pg_sub (pvd nmDraw 0) pe_int set_d)
      case s3 => exact ps_setD nmDraw 4 (pe_op op_mod (pe_ix ix_d (pvd nmDraw 0) pe_int (fun _ _ => rfl)) (pvd nmDraw 1))
      case s4 => exact ps_asg (pe_op op_fdiv (pe_ix ix_d (pvd nmDraw 0) pe_int (fun _ _ => rfl)) (pvd nmDraw 1)) (pg_sub (pvd nmDraw 0) pe_int set_d)
      case s5 => exact ps_ret (pvd nmDraw 4)
      case s2 =>
        refine' ps_if (pt_cmpR op_eq (pe_ix ix_d (pvd nmDraw 0) pe_int (fun _ _ => rfl)) pe_int (nomark _)) ?b2 pss_nil
        case b2 =>
          refine' pss_cons ?t1 ?u1
          case' u1 => refine' pss_cons ?t2 ?u2
          case' u2 => refine' pss_cons ?t3 ?u3
          case' u3 => refine' pss_one ?t4
          case t1 => exact ps_setD nmDraw 2 pe_int
          case t2 =>
            refine' ps_if ?c2 ?d2 pss_nil
            case c2 => exact pt_cmpR op_gt (pe_cB call_len_seq B.len PySem.boot_len (pa_1 (pe_ix ix_d (pvd nmDraw 0) pe_int (fun _ _ => rfl)))) pe_int (nomark _)
            case' d2 => refine' pss_one ?e2
            case' e2 => refine' ps_setD nmDraw 2 ?f2
            case' f2 => refine' pe_ix ix_d (pe_ix ix_d (pvd nmDraw 0) pe_int (fun _ _ => rfl)) ?g2 (fun _ _ => rfl)
            case g2 => exact pe_op op_mod (pe_ix ix_d (pvd nmDraw 0) pe_int (fun _ _ => rfl)) (pe_cB call_len_seq B.len PySem.boot_len (pa_1 (pe_ix ix_d (pvd nmDraw 0) pe_int (fun _ _ => rfl))))
          case t3 =>
            refine' ps_if (pt_cmpR op_lt (pvd nmDraw 2) (pe_op op_pow pe_int pe_int) (nomark _)) ?d3 pss_nil
            case d3 =>
              refine' pss_cons ?v1 ?w1
              case' w1 => refine' pss_cons ?v2 ?w2
              case' w2 => refine' pss_one ?v3
              case v1 => exact ps_setD nmDraw 3 (pe_op op_mod (pe_op op_add (pe_op op_add (pe_op op_mul (pe_op op_mod (pvd nmDraw 2) pe_int) pe_int) (pe_op op_mul (pe_ix ix_d (pvd nmDraw 0) pe_int (fun _ _ => rfl)) pe_int)) pe_int) pe_int)
              case v2 => exact ps_setD nmDraw 3 (pe_op op_mod (pe_op op_mul (pvd nmDraw 3) (pe_op op_add (pvd nmDraw 3) pe_int)) pe_int)
              case v3 => exact ps_ret (pe_op op_mod (pe_op op_mod (pe_op op_mul (pvd nmDraw 3) pe_int) pe_int) (pvd nmDraw 1))
          case t4 => exact ps_asg (pe_op op_sub (pvd nmDraw 2) (pe_op op_pow pe_int pe_int)) (pg_sub (pvd nmDraw 0) pe_int set_d)
    case rd =>
      have hl' : ∀ {o : HO}, upd H p o l = some (.lst (ns.map V.int)) := fun {o} => by rw [upd_ne (Ne.symm hne)]; exact hl
      walk_at "v"
      refine w_ixL hp rfl ?_
      walk_at "v"
      refine w_set hp rfl ?_
      with_reducible refine seq_post (fun σ' H' => ∃ (u2 u3 : Option V) (c' e' : Int), σ' = [some (.ref p), some (.int m), u2, u3, none] ∧ H' = upd H p (.lst [.ref l, .int c', .int e'])) ?_ fun fin => ?_
      · rintro σ' H' ⟨u2, u3, c', e', rfl, rfl⟩
        walk_at "v"
        refine w_ixL upd_same rfl ?_
        walk_at "v"
        refine w_rI hm ?_
        walk_at "v"
        refine w_ixL upd_same rfl ?_
        walk_at "v"
        refine w_rI ⟨hm, by omega⟩ ?_
        walk_at "v"
        refine w_set upd_same rfl ?_
        walk_at "v"
        rw [upd_upd]
        exact k _ _ _ (md hm).1 (md hm).2
      walk_at "v"
      refine w_ixL upd_same rfl ?_
      walk_at "v"
      refine ⟨rfl, ?_⟩
      walk_at "v"
      refine iteD (fun _ => ?_) (fun _ => ?_)
      · refine w_seq ?_
        refine w_asg ?_
        refine w_c ?_
        refine w_gname ?_
        with_reducible refine seq_post (fun σ' H' => ∃ cell : Int, σ' = [some (.ref p), some (.int m), some (.int cell), none, none] ∧ H' = upd H p (.lst [.ref l, .int (c + 1), .int e])) ?_ fun tail => ?_
        · rintro σ' H' ⟨cell, rfl, rfl⟩
          walk_at "v"
          refine w_rI ⟨by decide, by decide, by decide⟩ ?_
          walk_at "v"
          refine iteD (fun _ => ?_) (fun _ => ?_)
          · walk_at "v"
            refine w_rI (by decide) ?_
            walk_at "v"
            refine w_rI (mulR (by decide) (by decide)) ?_
            walk_at "v"
            refine w_ixL upd_same rfl ?_
            walk_at "v"
            refine w_rI (mulR (by decide) (by decide)) ?_
            walk_at "v"
            refine w_rI (by decide) ?_
            generalize hx : (cell % 2147483647 * 48271 + (c + 1) * 7919 + 12345) % 2147483629 = x
            have h1 := md (i := cell % 2147483647 * 48271 + (c + 1) * 7919 + 12345) (j := 2147483629) (by decide)
            rw [hx] at h1
            walk_at "v"
            refine w_rI (mulL (by omega) (by omega)) ?_
            walk_at "v"
            refine w_rI (by decide) ?_
            walk_at "v"
            refine w_rI (mulR (by decide) (by decide)) ?_
            walk_at "v"
            refine w_rI (by decide) ?_
            walk_at "v"
            refine w_rI hm ?_
            exact k _ _ _ (md hm).1 (md hm).2
          · walk_at "v"
            refine w_rI ⟨by decide, by decide, by decide⟩ ?_
            walk_at "v"
            refine w_set upd_same rfl ?_
            exact fin _ _ ⟨_, _, _, _, rfl, upd_upd⟩
        walk_at "v"
        refine w_ixL upd_same rfl ?_
        walk_at "v"
        refine ⟨l, _, rfl, .inl (SqL.of hl'), ?_⟩
        rw [List.length_map]
        walk_at "v"
        refine iteD (fun h0 => ?_) (fun _ => ?_)
        · have h0' : 0 < ns.length := by omega
          walk_at "v"
          refine w_ixL upd_same rfl ?_
          walk_at "v"
          refine w_ixL upd_same rfl ?_
          walk_at "v"
          refine w_ixL upd_same rfl ?_
          walk_at "v"
          refine ⟨l, _, rfl, .inl (SqL.of hl'), ?_⟩
          rw [List.length_map]
          refine w_rI h0 ?_
          obtain ⟨j, hj⟩ : ∃ j : Nat, (c + 1) % (ns.length : Int) = (j : Int) := ofI (md h0).1
          have hjl : j < ns.length := by
            have := (md (i := c + 1) h0).2
            omega
          rw [hj]
          refine w_ixL (v := .int ns[j]) hl' (atI_nat (by simp [hjl])) ?_
          exact tail _ _ ⟨_, rfl, rfl⟩
        · exact tail _ _ ⟨_, rfl, rfl⟩
      · exact fin _ _ ⟨_, _, _, _, rfl, rfl⟩
end
structure _root_.G2.Ln where
  bys : List Int
  plus : Int
def _root_.G2.Ln.ok (m : Nat) (a : Ln) : Prop := a.bys.length = m ∧ (∀ x ∈ a.bys, -99 ≤ x ∧ x ≤ 99) ∧ -99 ≤ a.plus ∧ a.plus ≤ 99
def _root_.G2.LnAt (H : Hp) (q : Addr) (a : Ln) : Prop := ∃ b, H q = some (.tup [.ref b, .int a.plus]) ∧ H b = some (.tup (a.bys.map V.int))
def _root_.G2.lnV (a : Ln) (am : List Int) : Int := dot a.bys am + a.plus
theorem _root_.G2.LnAt.tk {H H' : Hp} {q : Addr} {a : Ln} (k : TK H H') : LnAt H q a → LnAt H' q a
  | ⟨b, h1, h2⟩ => ⟨b, k.t _ _ h1, k.t _ _ h2⟩
inductive _root_.G2.Ak where
  | sum (a : Ln)
  | part (a : Ln) (m : Int)
  | two (w : Str) (a b : Ln)
def _root_.G2.AkAt (H : Hp) (q : Addr) : Ak → Prop
  | .sum a => ∃ l, H q = some (.tup [.str "sum", .ref l]) ∧ LnAt H l a
  | .part a m => ∃ l, H q = some (.tup [.str "part", .ref l, .int m]) ∧ LnAt H l a
  | .two w a b => ∃ l r, H q = some (.tup [.str w, .ref l, .ref r]) ∧ LnAt H l a ∧ LnAt H r b
def _root_.G2.four (w : Str) : Prop := w = "least" ∨ w = "most" ∨ w = "more" ∨ w = "same"
def _root_.G2.Ak.ok (m : Nat) : Ak → Prop
  | .sum a => a.ok m
  | .part a k => a.ok m ∧ 2 ≤ k ∧ k ≤ 9
  | .two w a b => four w ∧ a.ok m ∧ b.ok m
def _root_.G2.akV (am : List Int) : Ak → Int
  | .sum a => lnV a am
  | .part a m => lnV a am / m
  | .two w a b => if w = "least" then (if lnV b am < lnV a am then lnV b am else lnV a am) else if w = "most" then (if lnV b am > lnV a am then lnV b am else lnV a am) else
      if w = "more" then (if lnV b am < lnV a am then 1 else 0) else (if lnV a am = lnV b am then 1 else 0)
theorem _root_.G2.AkAt.tk {H H' : Hp} {q : Addr} (k : TK H H') : ∀ {A : Ak}, AkAt H q A → AkAt H' q A
  | .sum a, ⟨l, h1, h2⟩ => ⟨l, k.t _ _ h1, h2.tk k⟩
  | .part a m, ⟨l, h1, h2⟩ => ⟨l, k.t _ _ h1, h2.tk k⟩
  | .two w a b, ⟨l, r, h1, h2, h3⟩ => ⟨l, r, k.t _ _ h1, h2.tk k, h3.tk k⟩
theorem pickL {xs : List Int} {r : Int} (h0 : 0 ≤ r) (h1 : r < xs.length) : ∃ x, x ∈ xs ∧ atI (xs.map V.int) r = some (.int x) := by
  obtain ⟨j, rfl⟩ := ofI h0
  have hj : j < xs.length := by omega
  exact ⟨xs[j], List.getElem_mem hj, atI_nat (by simp [hj])⟩
theorem pickS {xs : List Str} {r : Int} (h0 : 0 ≤ r) (h1 : r < xs.length) : ∃ x, x ∈ xs ∧ atI (xs.map V.str) r = some (.str x) := by
  obtain ⟨j, rfl⟩ := ofI h0
  have hj : j < xs.length := by omega
  exact ⟨xs[j], List.getElem_mem hj, atI_nat (by simp [hj])⟩
def some10 : List Int := [0, 1, 1, 2, -1, 3, -2, 10, 99, -99]
theorem some10_ok : ∀ x ∈ some10, -99 ≤ x ∧ x ≤ 99 := by decide
/-- the comprehension that the first item of a returned pair is handed -/
def pairComp (s : Stmt) : Scope := match s with
  | .Return (some (.Tuple (.Call _ [.ListComp _ _ sc _] _ _ :: _) _ _)) _ => sc
  | _ => { kind := .function, names := [], isGenerator := false, isCoroutine := false }
abbrev nLine : List Str := ["_law_tape_here", "_law_many", "_law_some"]
theorem nmLine : Nm nLine (defScope sLine) := ⟨by decide +kernel, by decide +kernel⟩
theorem scLine : FnScope nLine ["_law_tape_here", "_law_many"] (defScope sLine) := ⟨rfl, rfl, rfl, by decide +kernel, rfl, by decide +kernel, by decide +kernel⟩

abbrev cLine : Scope := pairComp ((defBody sLine).getD 1 (.Pass ⟨0, 0, 0, 0⟩))
theorem bsLine : BScope (defScope sLine) cLine ["_law_k"] ["_law_some", "_law_tape_here"] ["_law_draw"] := { okind := by decide +kernel, kind := by decide +kernel, nocell := by decide +kernel, names := by decide +kernel, fr := by decide +kernel, ff := by decide +kernel, nd := by decide +kernel, vis := by decide +kernel, loc := by decide +kernel, gl := by decide +kernel }
def spLine : Sp := fun vs H Q _ => ∃ (p l : Addr) (ns : List Int) (m : Nat), vs = [.ref p, .int m] ∧ Tp H p l ns ∧ m ≤ 3 ∧ ∀ (q : Addr) (a : Ln) (H' : Hp), a.ok m → LnAt H' q a → Tp H' p l ns → TK H H' → Q (.ref q) H'
section
variable {P : Program} {w : World} {K : PySem.W.Frag} {mg : Str → Option Value} {base : Heap}
set_option maxHeartbeats 2000000 in
theorem ok_line {f : Addr} {fd : FuncData} (B : Blt mg) (D : Has P w K mg base 1 "_law_draw" ["_law_tape_here", "_law_many"] spDraw) (F : Fun K "_law_line" "_law_line" sLine f fd) : FnOk P w K mg base CX0 2 f fd ["_law_tape_here", "_law_many"] spLine := by
  refine F.ok scLine (fun vs H Q E h => ?_) (fun cdv A outer s H vs Q E hr h => ?_)
  · obtain ⟨p, l, ns, m, rfl, _⟩ := h
    rfl
  · obtain ⟨p, l, ns, m, rfl, T0, hm3, k⟩ := h
    refine' ⟨_, ?hb, ?rd⟩
    case hb =>
      refine' pss_cons ?s1 ?r1
      case' r1 => refine' pss_one ?s2
      case s1 =>
        refine' ps_setD nmLine 2 ?p1
        case p1 =>
          refine pe_lstW (vs := some10.map V.int) ?_
          decide +kernel
      case s2 =>
        refine' ps_ret ?p2
        case' p2 => refine' pe_tup ?q2
        case' q2 => refine' pa_2 ?x2 ?y2
        case y2 =>
          refine' pe_ix ix_d (pvd nmLine 2) ?y3 (fun _ _ => rfl)
          case y3 => exact pe_f D hr (by decide) (pa_2 (pvd nmLine 0) pe_int)
        case' x2 => refine' pe_cT call_tuple_of B.tuple PyProof.Rows.boot_tuple ?x3
        case' x3 => refine' pa_1 ?x4
        case x4 =>
          refine' pe_comp (ix := [2, 0]) bsLine.toCScope rfl rfl ?h3 ?h4 ?h5 ?h6
          case h3 => exact pi_r1 B.range (pa_1 (pvd nmLine 1))
          case h4 => exact fun _ _ _ _ _ _ => pgb bsLine 0
          case h5 => exact fun _ _ _ _ _ _ => pts_nil
          case h6 =>
            intro _ _ _ _ _ _
            refine' pe_ix ix_d (pvb bsLine 1) ?g6 (fun _ _ => rfl)
            case g6 => exact pe_f D hr (by decide) (pa_2 (pvb bsLine 2) pe_int) (bsLine.g 0)
    case rd =>
      walk_at "v"
      refine ⟨by show 10 ≤ sizeLine; decide, fun a1 ha1 => ?_⟩
      have T1 := T0.new (o := .lst (some10.map V.int)) ha1
      have np1 := T0.np ha1
      have e1 : upd H a1 (.lst (some10.map V.int)) a1 = some (.lst (some10.map V.int)) := upd_same
      have TK1 : TK H (upd H a1 (.lst (some10.map V.int))) := TK.new ha1
      generalize upd H a1 (.lst (some10.map V.int)) = H1 at T1 e1 TK1 ⊢
      walk_at "v"
      refine ⟨m, rfl, by omega, by omega, fun db hdb => ?_⟩
      rw [Int.toNat_natCast]
      have npd := T1.np hdb
      have nld := T1.nl hdb
      have nad : a1 ≠ db := ne_of_none e1 hdb
      refine cgo_range (ρ := [some (.ref a1), some (.ref p)]) (fun i ys H' => ∃ bs : List Int, ys = bs.map V.int ∧ bs.length = i ∧ (∀ x ∈ bs, -99 ≤ x ∧ x ≤ 99) ∧ Tp H' p l ns ∧ TK H H' ∧ H' a1 = some (.lst (some10.map V.int)))
        ⟨[], rfl, rfl, (fun x h => by cases h), T1.new hdb, TK1.trans (TK.new hdb), by rw [upd_ne nad]; exact e1⟩ ?_ ?_
      · rintro i ys H' hi ⟨bs, rfl, hbl, hbs, T, TKi, ea⟩ hD R S kR _
        walk_at "v"
        refine ⟨p, l, ns, 10, rfl, T, by decide, by decide, fun r c e r0 r1 => ?_⟩
        obtain ⟨x, hx, hat⟩ := pickL (xs := some10) r0 r1
        refine w_ixL (by rw [upd_ne (Ne.symm np1)]; exact ea) hat ?_
        have hD' : upd H' p (.lst [.ref l, .int c, .int e]) db = some (.lst (bs.map V.int)) := by rw [upd_ne (Ne.symm npd)]; exact hD
        refine kR _ _ hD' (by rw [List.length_map]; exact small1000 (by omega)) ⟨bs ++ [x], by rw [List.map_append]; rfl, by simp [hbl], fun b hb => ?_, T.draw.put npd nld, (TKi.trans T.tk).trans (TK.lst hD'), by rw [upd_ne nad, upd_ne (Ne.symm np1)]; exact ea⟩
        rcases List.mem_append.mp hb with old | new
        · exact hbs b old
        · rw [List.mem_singleton.mp new]
          exact some10_ok x hx
      · rintro ys H' ⟨bs, rfl, hbl, hbs, T, TKi, ea⟩ hD
        walk_at "v"
        refine ⟨db, _, rfl, .inl ⟨SqL.of hD, fun b hb => ?_⟩⟩
        have T2 := T.new (o := .tup (bs.map V.int)) hb
        have TK2 := TKi.trans (TK.new (o := .tup (bs.map V.int)) hb)
        have ea2 : upd H' b (.tup (bs.map V.int)) a1 = some (.lst (some10.map V.int)) := by rw [upd_ne (ne_of_none ea hb)]; exact ea
        have eb : upd H' b (.tup (bs.map V.int)) b = some (.tup (bs.map V.int)) := upd_same
        generalize upd H' b (.tup (bs.map V.int)) = H2 at T2 TK2 ea2 eb ⊢
        walk_at "v"
        refine ⟨p, l, ns, 10, rfl, T2, by decide, by decide, fun r c e r0 r1 => ?_⟩
        obtain ⟨x, hx, hat⟩ := pickL (xs := some10) r0 r1
        refine w_ixL (by rw [upd_ne (Ne.symm np1)]; exact ea2) hat ?_
        have T3 := T2.draw (c := c) (e := e)
        have TK3 : TK H2 (upd H2 p (.lst [.ref l, .int c, .int e])) := T2.tk
        generalize upd H2 p (.lst [.ref l, .int c, .int e]) = H3 at T3 TK3 ⊢
        walk_at "v"
        refine ⟨by show 2 ≤ sizeLine; decide, fun q hq => ?_⟩
        have TK4 : TK H3 (upd H3 q (.tup [.ref b, .int x])) := TK.new hq
        exact k q ⟨bs, x⟩ _ ⟨hbl, hbs, some10_ok x hx⟩ ⟨b, upd_same, (TK3.trans TK4).t _ _ eb⟩ (T3.new hq) ((TK2.trans TK3).trans TK4)
abbrev nAsk : List Str := ["_law_tape_here", "_law_many", "_law_word", "_law_line_here"]
theorem nmAsk : Nm nAsk (defScope sAsk) := ⟨by decide +kernel, by decide +kernel⟩
theorem scAsk : FnScope nAsk ["_law_tape_here", "_law_many"] (defScope sAsk) := ⟨rfl, rfl, rfl, by decide +kernel, rfl, by decide +kernel, by decide +kernel⟩

def words6 : List Str := ["sum", "part", "least", "most", "more", "same"]
def spAsk : Sp := fun vs H Q _ => ∃ (p l : Addr) (ns : List Int) (m : Nat), vs = [.ref p, .int m] ∧ Tp H p l ns ∧ m ≤ 3 ∧ ∀ (q : Addr) (A : Ak) (H' : Hp), A.ok m → AkAt H' q A → Tp H' p l ns → TK H H' → Q (.ref q) H'
set_option maxHeartbeats 2000000 in
theorem ok_ask {f : Addr} {fd : FuncData} (B : Blt mg) (D : Has P w K mg base 1 "_law_draw" ["_law_tape_here", "_law_many"] spDraw) (L : Has P w K mg base 2 "_law_line" ["_law_tape_here", "_law_many"] spLine) (F : Fun K "_law_ask" "_law_ask" sAsk f fd) : FnOk P w K mg base CX0 3 f fd ["_law_tape_here", "_law_many"] spAsk := by
  refine F.ok scAsk (fun vs H Q E h => ?_) (fun cdv A outer s H vs Q E hr h => ?_)
  · obtain ⟨p, l, ns, m, rfl, _⟩ := h
    rfl
  · obtain ⟨p, l, ns, m, rfl, T0, hm3, k⟩ := h
    refine' ⟨_, ?hb, ?rd⟩
    case hb =>
      refine' pss_cons ?s1 ?r1
      case' r1 => refine' pss_cons ?s2 ?r2
      case' r2 => refine' pss_cons ?s3 ?r3
      case' r3 => refine' pss_cons ?s4 ?r4
      case' r4 => refine' pss_one ?s5
      case s1 =>
        refine' ps_setD nmAsk 2 ?p1
        case' p1 => refine' pe_ix ix_d ?l1 ?d1 (fun _ _ => rfl)
        case d1 => exact pe_f D hr (by decide) (pa_2 (pvd nmAsk 0) pe_int)
        case l1 =>
          refine pe_lstW (vs := words6.map V.str) ?_
          decide +kernel
      case s2 => exact ps_setD nmAsk 3 (pe_f L hr (by decide) (pa_2 (pvd nmAsk 0) (pvd nmAsk 1)))
      case s3 => exact ps_if (pt_cmpR op_eq (pvd nmAsk 2) pe_str (nomark _)) (pss_one (ps_ret (pe_tup (pa_2 (pvd nmAsk 2) (pvd nmAsk 3))))) pss_nil
      case s4 =>
        refine' ps_if (pt_cmpR op_eq (pvd nmAsk 2) pe_str (nomark _)) ?b4 pss_nil
        case' b4 => refine' pss_one ?c4
        case' c4 => refine' ps_ret ?d4
        case' d4 => refine' pe_tup ?e4
        case' e4 => refine' pa_c (pvd nmAsk 2) ?f4
        case' f4 => refine' pa_2 (pvd nmAsk 3) ?g4
        case' g4 => refine' pe_op op_add pe_int ?h4
        case h4 => exact pe_f D hr (by decide) (pa_2 (pvd nmAsk 0) pe_int)
      case s5 =>
        refine' ps_ret ?d5
        case' d5 => refine' pe_tup ?e5
        case' e5 => refine' pa_c (pvd nmAsk 2) ?f5
        case' f5 => refine' pa_2 (pvd nmAsk 3) ?g5
        case g5 => exact pe_f L hr (by decide) (pa_2 (pvd nmAsk 0) (pvd nmAsk 1))
    case rd =>
      walk_at "v"
      refine ⟨by show 6 ≤ sizeLine; decide, fun a1 ha1 => ?_⟩
      have T1 := T0.new (o := .lst (words6.map V.str)) ha1
      have np1 := T0.np ha1
      have TK1 : TK H (upd H a1 (.lst (words6.map V.str))) := TK.new ha1
      walk_at "v"
      refine ⟨p, l, ns, 6, rfl, T1, by decide, by decide, fun r c e r0 r1 => ?_⟩
      obtain ⟨wd, hw, hat⟩ := pickS (xs := words6) r0 r1
      refine w_ixL (by rw [upd_ne (Ne.symm np1), upd_same]) hat ?_
      have T2 := T1.draw (c := c) (e := e)
      have TK2 := TK1.trans (T1.tk (o := .lst [.ref l, .int c, .int e]))
      generalize upd (upd H a1 (.lst (words6.map V.str))) p (.lst [.ref l, .int c, .int e]) = H2 at T2 TK2 ⊢
      clear T1 TK1 np1 ha1
      walk_at "v"
      refine ⟨p, l, ns, m, rfl, T2, hm3, fun q a H3 hok hq T3 TK3 => ?_⟩
      walk_at "v"
      refine ⟨rfl, ?_⟩
      walk_at "v"
      refine iteD (fun e => ?_) (fun e1 => ?_)
      · injection e with e
        subst e
        walk_at "v"
        refine ⟨by show 2 ≤ sizeLine; decide, fun z hz => ?_⟩
        have TK4 : TK H3 (upd H3 z (.tup [.str "sum", .ref q])) := TK.new hz
        exact k z (.sum a) _ hok ⟨q, upd_same, hq.tk TK4⟩ (T3.new hz) ((TK2.trans TK3).trans TK4)
      walk_at "v"
      refine ⟨rfl, ?_⟩
      walk_at "v"
      refine iteD (fun e => ?_) (fun e2 => ?_)
      · injection e with e
        subst e
        walk_at "v"
        refine ⟨p, l, ns, 8, rfl, T3, by decide, by decide, fun r c e r0 r1 => ?_⟩
        have T4 := T3.draw (c := c) (e := e)
        have TK4 := (TK2.trans TK3).trans (T3.tk (o := .lst [.ref l, .int c, .int e]))
        have hq4 := hq.tk (T3.tk (o := .lst [.ref l, .int c, .int e]))
        generalize upd H3 p (.lst [.ref l, .int c, .int e]) = H4 at T4 TK4 hq4 ⊢
        walk_at "v"
        refine ⟨by show 3 ≤ sizeLine; decide, fun z hz => ?_⟩
        have TK5 : TK H4 (upd H4 z (.tup [.str "part", .ref q, .int (2 + r)])) := TK.new hz
        exact k z (.part a (2 + r)) _ ⟨hok, by omega, by omega⟩ ⟨q, upd_same, hq4.tk TK5⟩ (T4.new hz) (TK4.trans TK5)
      walk_at "v"
      refine ⟨p, l, ns, m, rfl, T3, hm3, fun q' a' H4 hok' hq' T4 TK4 => ?_⟩
      walk_at "v"
      refine ⟨by show 3 ≤ sizeLine; decide, fun z hz => ?_⟩
      have TK5 : TK H4 (upd H4 z (.tup [.str wd, .ref q, .ref q'])) := TK.new hz
      refine k z (.two wd a a') _ ⟨?_, hok, hok'⟩ ⟨q, q', upd_same, hq.tk (TK4.trans TK5), hq'.tk TK5⟩ (T4.new hz) (((TK2.trans TK3).trans TK4).trans TK5)
      simp only [words6, List.mem_cons, List.not_mem_nil, or_false] at hw
      rcases hw with h | h | h | h | h | h
      · exact absurd (congrArg V.str h) e1
      · exact absurd (congrArg V.str h) e2
      · exact .inl h
      · exact .inr (.inl h)
      · exact .inr (.inr (.inl h))
      · exact .inr (.inr (.inr h))
end
end K23

set_option Elab.async false
set_option linter.all false
set_option maxRecDepth 100000
namespace L2
open PySem PySem.Spec PyProof.Rows Builtin Builtin.Str
/-! ### texts: split, join, startswith, str of an int, int of a text -/
theorem vals_texts : ∀ (l : List (Str × Tok)), Vals ((l.map (·.1)).map V.str) (strValues l)
  | [] => .nil
  | p :: l => .cons ⟨p.2, rfl⟩ (vals_texts l)
theorem texts_of : ∀ {xs : List Str} {us : List Value}, Vals (xs.map V.str) us → ∃ l : List (Str × Tok), us = strValues l ∧ l.map (·.1) = xs
  | [], _, .nil => ⟨[], rfl, rfl⟩
  | x :: xs, _, .cons r1 r2 => by
    obtain ⟨t, rfl⟩ := r1
    obtain ⟨l, rfl, e⟩ := texts_of r2
    exact ⟨(x, t) :: l, rfl, by rw [List.map_cons, e]⟩
section
variable {X : Cx}
/-- a.split(b) -/
def rSplit : V → List V → Hp → VK → Prop := fun x vs H Q => ∃ a b, x = .str a ∧ vs = [.str b] ∧ (b.length == 0) = false ∧ a.length ≤ 1000 ∧ ∀ l, H l = none → Q (.ref l) (upd H l (.lst ((Txt.split a b).map V.str)))
theorem mt_split : MtM X "str.split" rSplit := by
  intro pins s σ H x vs v us Q I rx rv h
  obtain ⟨a, b, rfl, rfl, hb, ha, q⟩ := h
  obtain ⟨t, rfl⟩ := rx
  obtain ⟨w, rfl, rw⟩ := rv.one
  obtain ⟨u, rfl⟩ := rw
  have hx : a.length ≤ sizeLine := by rw [sizeLine_eq]; omega
  have hl : (Txt.split a b).length ≤ sizeLine := by
    have := PyProof.Rows.split_le a b
    rw [sizeLine_eq]; omega
  have fin : ∀ (l : List (Str × Tok)) (k : Nat), l.map (·.1) = Txt.split a b → EP X pins σ Q (.ref s.heap.objs.size) { s with heap := s.heap.push { cls := .type "list", data := .seq (strValues l).toArray }, toks := k } := fun l k e => by
    have hv := vals_texts l
    rw [e] at hv
    exact ⟨.ref _, _, I.lnew (t' := k) hv (by rw [List.length_map]; exact hl), rfl, q _ I.fresh⟩
  cases h1 : (decide (a.length < b.length) || decide (Builtin.Str.strKind a < Builtin.Str.strKind b))
  · cases hf : (occurrences a b 0 a.length (a.length + 1)).isEmpty
    · have e : Txt.split a b = partsBetween a (occurrences a b 0 a.length (a.length + 1)) b.length := (if_neg (ne_true_of_eq_false h1)).trans (if_neg (ne_true_of_eq_false hf))
      refine call_meets F.slot_str_split (typeIs_str _ _ _) F.entry_str_split (F.args_str_split_2 _ _) (meets_str_split_sep a b t u h1 hb hf hx (by rw [← e]; exact hl)) ?_
      rw [strsFrom_eq]
      exact fin _ _ ((numbered_texts _ _).trans e.symm)
    · refine call_meets F.slot_str_split (typeIs_str _ _ _) F.entry_str_split (F.args_str_split_2 _ _) (meets_str_split_not_found a b t u h1 hb hf) ?_
      exact fin [(a, t)] _ ((if_neg (ne_true_of_eq_false h1)).trans (if_pos hf)).symm
  · refine call_meets F.slot_str_split (typeIs_str _ _ _) F.entry_str_split (F.args_str_split_2 _ _) (meets_str_split_cannot_occur a b t u h1) ?_
    exact fin [(a, t)] _ (if_pos h1).symm
/-- b.join(list of texts) -/
def rJoin : V → List V → Hp → VK → Prop := fun x vs H Q => ∃ b p xs, x = .str b ∧ vs = [.ref p] ∧ H p = some (.lst (xs.map V.str)) ∧ JoinOk b xs = true ∧ (Txt.join b xs).length ≤ sizeLine ∧ Q (.str (Txt.join b xs)) H
theorem mt_join : MtM X "str.join" rJoin := by
  intro pins s σ H x vs v us Q I rx rv h
  obtain ⟨b, p, xs, rfl, rfl, hp, hj, hz, q⟩ := h
  obtain ⟨t, rfl⟩ := rx
  obtain ⟨w, rfl, rw⟩ := rv.one
  cases rw
  obtain ⟨its, n, r, e, z⟩ := I.lst hp
  obtain ⟨l, rfl, rfl⟩ := texts_of r
  have hj' : tooLong ((l.map (·.1)).toArray.foldl (· + ·.length + b.length) 0) = false := by
    unfold JoinOk at hj
    simpa using hj
  refine call_meets F.slot_str_join (typeIs_str _ _ _) F.entry_str_join (F.args_str_join_2 _ _) (meets_str_join_list b t p l hj') ⟨⟨_, e, rfl, _, rfl⟩, ?_⟩
  match l, hz, q with
  | [], hz, q => exact ⟨hz, ⟨.str _, H, I.tok _, ⟨_, rfl⟩, q⟩⟩
  | [c], hz, q => exact ⟨.str _, H, I, ⟨_, rfl⟩, q⟩
  | c :: d :: l, hz, q => exact ⟨hz, ⟨.str _, H, I.tok _, ⟨_, rfl⟩, q⟩⟩
/-- a.startswith(b) -/
def rStarts : V → List V → Hp → VK → Prop := fun x vs H Q => ∃ a b, x = .str a ∧ vs = [.str b] ∧ Q (.bl (Txt.startswith a b)) H
theorem mt_starts : MtM X "str.startswith" rStarts := by
  intro pins s σ H x vs v us Q I rx rv h
  obtain ⟨a, b, rfl, rfl, q⟩ := h
  obtain ⟨t, rfl⟩ := rx
  obtain ⟨w, rfl, rw⟩ := rv.one
  obtain ⟨u, rfl⟩ := rw
  refine call_meets F.slot_str_startswith (typeIs_str _ _ _) F.entry_str_startswith (F.args_str_startswith_2 _ _) (gives_str_startswith a b t u).meets ?_
  refine ⟨.bl _, H, I, rfl, ?_⟩
  have e : (decide (0 + b.length ≤ a.length) && subAt a b 0) = Txt.startswith a b := by simp only [Txt.startswith, Nat.zero_add]
  rw [e]
  exact q
/-- str(i) -/
theorem call_strI : CallR X (.type "str") (fun xs H Q => ∃ i : Int, xs = [.int i] ∧ i.natAbs.log2 < 1920 ∧ Q (.str (Str.ofString (toString i))) H) := by
  intro pins s σ H xs us Q I r h
  obtain ⟨i, rfl, hi, q⟩ := h
  obtain ⟨u, rfl, t, rfl⟩ := vals1 r
  exact P.str_of_int hi ⟨.str _, H, I.tok _, ⟨_, rfl⟩, q⟩
/-- int(text) -/
theorem call_intS : CallR X (.type "int") (fun xs H Q => ∃ (a : Str) (i : Int), xs = [.str a] ∧ PySem.intText? a = some i ∧ a.length ≤ 640 ∧ Q (.int i) H) := by
  intro pins s σ H xs us Q I r h
  obtain ⟨a, i, rfl, hn, hl, q⟩ := h
  obtain ⟨u, rfl, t, rfl⟩ := vals1 r
  exact PySem.W.KIN.call_text hn hl ⟨.int i, H, I.tok _, ⟨_, rfl⟩, q⟩
end
end L2

set_option Elab.async false
set_option linter.all false
namespace L2
open PySem
def jn (c : Nat) : List (List Nat) → List Nat
  | [] => []
  | [w] => w
  | w :: v :: r => w ++ c :: jn c (v :: r)
theorem join_list (c : Nat) : ∀ (ws : List Str), (Str.join ⟨#[c]⟩ ws).cps.toList = jn c (ws.map fun w => w.cps.toList)
  | [] => rfl
  | [w] => rfl
  | w :: v :: r => by
    have ih := join_list c (v :: r)
    show ((w ++ (⟨#[c]⟩ : Str) ++ Str.join ⟨#[c]⟩ (v :: r)).cps).toList = w.cps.toList ++ c :: jn c ((v :: r).map fun w => w.cps.toList)
    rw [← ih]
    show ((w.cps ++ #[c]) ++ (Str.join ⟨#[c]⟩ (v :: r)).cps).toList = _
    simp
theorem split_ne (x : Str) (c : Nat) : Txt.split x ⟨#[c]⟩ ≠ [] := fun e => by
  have := PyProof.Rows.split_pos x ⟨#[c]⟩
  rw [e] at this
  exact absurd this (by decide)
end L2

set_option Elab.async false
set_option linter.all false
set_option maxRecDepth 100000
/-! texts, walked sign by sign -/
namespace L2
open PySem PyProof.Rows
def sg (x : Str) : List Str := x.cps.toList.map fun c => ⟨#[c]⟩
theorem sg_len (x : Str) : (sg x).length = x.cps.size := by unfold sg; rw [List.length_map, Array.length_toList]
theorem sg_at {x : Str} {i : Nat} {c : Nat} (h : x.cps[i]? = some c) : (sg x)[i]? = some ⟨#[c]⟩ := by
  unfold sg
  rw [List.getElem?_map, Array.getElem?_toList, h]
  rfl
def Its (x : Str) : It := ⟨fun i _ => i < x.cps.size, fun i H v H' => H' = H ∧ ∃ y, (sg x)[i]? = some y ∧ v = .str y, fun i _ => x.cps.size ≤ i⟩
section
variable {P : Program} {w : World} {K : PySem.W.Frag} {tg : Expr}
theorem turn_sa (x : Str) (t : Tok) (it : Addr) : Turn P w K tg (Its x) [it] it (fun i h => h.IsStrIter it "str_ascii_iterator" x t i) where
  mem := by simp
  obj := fun i h st b hb => by
    obtain rfl : b = it := by simpa using hb
    obtain ⟨o, e, c, d⟩ := st
    exact ⟨o, e, fun v z => by rw [d] at z; cases z⟩
  keep := fun i h h' st k => let ⟨o, e, c, d⟩ := st; ⟨o, k it (by simp) o e, c, d⟩
  item := by
    intro X hP hw hK hc i pins s σ H E I hf st hg
    subst hP hw hK
    obtain ⟨cp, hx⟩ : ∃ cp, x.cps[i]? = some cp := ⟨x.cps[i]'hg, Array.getElem?_eq_getElem hg⟩
    obtain ⟨f0, f1, f2, f3, f4, f5⟩ := hf it (by simp)
    refine wpAny_pyNext_ascii_item st hx fun h1 st1 sb => ?_
    have I1 : Inv X pins σ H { s with heap := h1, toks := s.toks + 1 } := I.turned (t' := s.toks + 1) (fun b o hb e => (sb.2 b hb).trans e) f0 f1 f3 f4 f5
    obtain ⟨o, e, c, d⟩ := id st1
    exact ⟨_, rfl, go_of (s := { s with heap := h1, toks := s.toks + 1 }) e c d (by decide) ⟨.str ⟨#[cp]⟩, H, I1, ⟨_, rfl⟩, ⟨rfl, _, sg_at hx, rfl⟩, st1, fun b hb => (hf b hb).1⟩⟩
  done := by
    intro X hP hw hK hc i pins s σ H E I hf st hg
    subst hP hw hK
    obtain ⟨f0, f1, f2, f3, f4, f5⟩ := hf it (by simp)
    exact wpAny_pyNext_ascii_end (I.ok.hd hc) st (by simp; exact hg) fun h1 eb => ⟨rfl, I.turned (t' := s.toks) (fun b o hb e => eb b o hb e) f0 f1 f3 f4 f5⟩
  self := fun _ _ _ _ _ st h => wpAny_pyIter_striter_ascii st h
theorem turn_sw (x : Str) (t : Tok) (it : Addr) : Turn P w K tg (Its x) [it] it (fun i h => h.IsStrIter it "str_iterator" x t i) where
  mem := by simp
  obj := fun i h st b hb => by
    obtain rfl : b = it := by simpa using hb
    obtain ⟨o, e, c, d⟩ := st
    exact ⟨o, e, fun v z => by rw [d] at z; cases z⟩
  keep := fun i h h' st k => let ⟨o, e, c, d⟩ := st; ⟨o, k it (by simp) o e, c, d⟩
  item := by
    intro X hP hw hK hc i pins s σ H E I hf st hg
    subst hP hw hK
    obtain ⟨cp, hx⟩ : ∃ cp, x.cps[i]? = some cp := ⟨x.cps[i]'hg, Array.getElem?_eq_getElem hg⟩
    obtain ⟨f0, f1, f2, f3, f4, f5⟩ := hf it (by simp)
    refine wpAny_pyNext_wide_item st hx fun h1 st1 sb => ?_
    have I1 : Inv X pins σ H { s with heap := h1, toks := s.toks + 1 } := I.turned (t' := s.toks + 1) (fun b o hb e => (sb.2 b hb).trans e) f0 f1 f3 f4 f5
    obtain ⟨o, e, c, d⟩ := id st1
    exact ⟨_, rfl, go_of (s := { s with heap := h1, toks := s.toks + 1 }) e c d (by decide) ⟨.str ⟨#[cp]⟩, H, I1, ⟨_, rfl⟩, ⟨rfl, _, sg_at hx, rfl⟩, st1, fun b hb => (hf b hb).1⟩⟩
  done := by
    intro X hP hw hK hc i pins s σ H E I hf st hg
    subst hP hw hK
    obtain ⟨f0, f1, f2, f3, f4, f5⟩ := hf it (by simp)
    exact wpAny_pyNext_wide_end (I.ok.hd hc) st (by simp; exact hg) fun h1 eb => ⟨rfl, I.turned (t' := s.toks) (fun b o hb e => eb b o hb e) f0 f1 f3 f4 f5⟩
  self := fun _ _ _ _ _ st h => wpAny_pyIter_striter_wide st h
end
section
variable {X : Cx} {tg : Expr}
def iTx (te : TE) : TI := fun σ H R => te σ H fun v H1 => ∃ x, v = .str x ∧ R (Its x) H1
theorem pi_tx {l : Expr} {tl : TE} (hl : PE X l tl) : PI X tg l (iTx tl) := by
  intro pins s σ H R I h
  refine thn (hl pins s σ H _ I h) fun v s1 ⟨x, H1, I1, r1, q1⟩ => ?_
  obtain ⟨y, rfl, q⟩ := q1
  obtain ⟨t, rfl⟩ := r1
  have new : ∀ b, b ∈ [s1.heap.objs.size] → FpOk X pins H1 b := fun b hb => by
    obtain rfl : b = s1.heap.objs.size := by simpa using hb
    exact I1.fpOk (Nat.le_refl _) (I1.hok.fresh (Nat.le_refl _))
  cases ha : y.cps.all (· < 128) with
  | true =>
    refine wpAny_pyIter_ascii ha ?_
    exact ⟨s1.heap.objs.size, [s1.heap.objs.size], _, _, H1, rfl, I1.kept (t' := s1.toks) fun b o e => Heap.get?_push_of_some _ e, turn_sa y t _, ⟨_, Heap.get?_push_size _ rfl, rfl, rfl⟩, new, q⟩
  | false =>
    refine wpAny_pyIter_wide ha ?_
    exact ⟨s1.heap.objs.size, [s1.heap.objs.size], _, _, H1, rfl, I1.kept (t' := s1.toks) fun b o e => Heap.get?_push_of_some _ e, turn_sw y t _, ⟨_, Heap.get?_push_size _ rfl, rfl, rfl⟩, new, q⟩
end
theorem w_compX {te : TE} {n : Nat} {ix : List Nat} {g : TG} {tc : TT} {te' : TE} {σ : St} {H : Hp} {Q : VK} (h : te σ H fun v H1 => ∃ x, v = .str x ∧ ∀ D, H1 D = none → CGo (Its x) D g tc te' Q (List.replicate n none ++ sub ix σ) H1) : tComp (iTx te) n ix g tc te' σ H Q := h
theorem cgo_tx {D : Addr} {tc : TT} {te : TE} {Q : VK} {ρ : St} {H : Hp} {x : Str} (Pv : Nat → List V → Hp → Prop) (h0 : Pv 0 [] (upd H D (.lst [])))
    (hs : ∀ i y ys H', (sg x)[i]? = some y → Pv i ys H' → H' D = some (.lst ys) → ∀ (R : V → Hp → Prop) (S : Hp → Prop), (∀ z H4, H4 D = some (.lst ys) → ys.length < sizeLine → Pv (i + 1) (ys ++ [z]) (upd H4 D (.lst (ys ++ [z]))) → R z H4) → (∀ H3, H3 D = some (.lst ys) → Pv (i + 1) ys H3 → S H3) →
      tc (some (.str y) :: ρ) H' fun b H3 => if b = true then te (some (.str y) :: ρ) H3 R else S H3)
    (hd : ∀ ys H', Pv (sg x).length ys H' → H' D = some (.lst ys) → Q (.ref D) H') : CGo (Its x) D (gName 0) tc te Q (none :: ρ) H := by
  have hl := sg_len x
  refine ⟨fun i m τ ys H' => m = x.cps.size - i ∧ i ≤ x.cps.size ∧ (∃ tv, τ = tv :: ρ) ∧ Pv i ys H' ∧ H' D = some (.lst ys), ⟨x.cps.size, by omega, Nat.zero_le _, ⟨_, rfl⟩, h0, upd_same⟩, ?_⟩
  rintro i m τ ys H' ⟨rfl, hi, ⟨tv, rfl⟩, hp, hD⟩
  refine ⟨hD, ?_⟩
  by_cases hlt : i < x.cps.size
  · refine .inr ⟨hlt, ?_⟩
    rintro v H2 ⟨rfl, y, hy, rfl⟩
    refine hs i y ys _ hy hp hD _ _ (fun z H4 e4 hz p4 => ?_) (fun H3 e3 p3 => ?_)
    · exact ⟨e4, hz, x.cps.size - (i + 1), by omega, rfl, by omega, ⟨_, rfl⟩, p4, upd_same⟩
    · exact ⟨x.cps.size - (i + 1), by omega, rfl, by omega, ⟨_, rfl⟩, p3, e3⟩
  · have e : i = (sg x).length := by omega
    subst e
    exact .inl ⟨by show x.cps.size ≤ _; omega, hd ys H' hp hD⟩
end L2

set_option Elab.async false
set_option linter.all false
set_option maxRecDepth 100000
namespace PySem.W
open PySem PySem.Calls PyProof.Rows
/-- the sort by known answers -/
def KasT.eval {α : Type} (lt : Nat → Nat → Bool) : KasT α → α
  | .ret a => a
  | .ask i j k => (k (lt i j)).eval lt
/-- what it asks on that way lies below n -/
def KasT.okFor {α : Type} (lt : Nat → Nat → Bool) (n : Nat) : KasT α → Bool
  | .ret _ => true
  | .ask i j k => decide (i < n) && (decide (j < n) && (k (lt i j)).okFor lt n)
/-- rows of numbers, one below the other -/
def lexI (fin : Bool) : List Int → List Int → Bool
  | x :: xs, y :: ys => if x = y then lexI fin xs ys else decide (x < y)
  | _, _ => fin
inductive Nums : List Value → List Int → Prop
  | nil : Nums [] []
  | cons {i : Int} {t : Tok} {us : List Value} {ns : List Int} : Nums us ns → Nums (.int i t :: us) (i :: ns)
theorem Nums.len : ∀ {us : List Value} {ns : List Int}, Nums us ns → us.length = ns.length
  | _, _, .nil => rfl
  | _, _, .cons h => by rw [List.length_cons, List.length_cons, Nums.len h]
section
variable {prog : Program} {w : World} {A : Around} {E : Value → Shared → Prop} {s : Shared}
end
end PySem.W

set_option Elab.async false
set_option linter.all false
set_option maxRecDepth 100000
namespace PySem
open Sem (wp)
open AutoSeq1 (wpAny_loadPart')
section
variable {prog : Program} {w : World} {A : Around} {E : Value → Shared → Prop} {s : Shared}
end
end PySem
namespace L2
open PySem PySem.Spec PyProof.Rows
section
variable {X : Cx} {k : Nat}
/-- tuple(range(n)) of a range that stands -/
def rTupR : List V → Hp → VK → Prop := fun xs H Q => ∃ (p : Addr) (n : Nat), xs = [.ref p] ∧ H p = some (.rng 0 (n : Int)) ∧ n ≤ 1000 ∧ ∀ l, H l = none → Q (.ref l) (upd H l (.tup ((List.range n).map fun (i : Nat) => V.int (i : Int))))
/-- tuple of a text: its signs -/
def rTupS : List V → Hp → VK → Prop := fun xs H Q => ∃ (x : Str), xs = [.str x] ∧ x.cps.size ≤ 1000 ∧ ∀ l, H l = none → Q (.ref l) (upd H l (.tup (x.cps.toList.map fun c => V.str ⟨#[c]⟩)))
/-- rows of numbers, one by one -/
def RowsAt (H : Hp) : List Addr → List (List Int) → Prop
  | [], [] => True
  | a :: as, ks :: kss => H a = some (.tup (ks.map V.int)) ∧ RowsAt H as kss
  | _, _ => False
theorem RowsAt.tk {H H' : Hp} (k : ∀ q xs, H q = some (.tup xs) → H' q = some (.tup xs)) : ∀ {as : List Addr} {kss : List (List Int)}, RowsAt H as kss → RowsAt H' as kss
  | [], [], _ => trivial
  | a :: as, ks :: kss, h => ⟨k _ _ h.1, RowsAt.tk k h.2⟩
  | [], _ :: _, h => h.elim
  | _ :: _, [], h => h.elim
theorem RowsAt.len {H : Hp} : ∀ {as : List Addr} {kss : List (List Int)}, RowsAt H as kss → as.length = kss.length
  | [], [], _ => rfl
  | a :: as, ks :: kss, h => by rw [List.length_cons, List.length_cons, RowsAt.len h.2]
  | [], _ :: _, h => h.elim
  | _ :: _, [], h => h.elim
theorem RowsAt.at {H : Hp} : ∀ {as : List Addr} {kss : List (List Int)}, RowsAt H as kss → ∀ {i : Nat} {a : Addr}, as[i]? = some a → ∃ ks, kss[i]? = some ks ∧ H a = some (.tup (ks.map V.int))
  | a :: as, ks :: kss, h, 0, b, e => ⟨ks, rfl, by
    have : a = b := by simpa using e
    exact this ▸ h.1⟩
  | a :: as, ks :: kss, h, i + 1, b, e => by
    obtain ⟨k', h1, h2⟩ := RowsAt.at h.2 (i := i) (a := b) (by simpa using e)
    exact ⟨k', by simpa using h1, h2⟩
  | [], [], _, i, b, e => by simp at e
  | [], _ :: _, h, _, _, _ => h.elim
  | _ :: _, [], h, _, _, _ => h.elim
theorem RowsAt.app {H : Hp} : ∀ {as bs : List Addr} {ks ls : List (List Int)}, RowsAt H as ks → RowsAt H bs ls → RowsAt H (as ++ bs) (ks ++ ls)
  | [], _, [], _, _, h => h
  | a :: as, _, k :: ks, _, h, h' => ⟨h.1, RowsAt.app h.2 h'⟩
  | [], _, _ :: _, _, h, _ => h.elim
  | _ :: _, _, [], _, h, _ => h.elim
def ltK (keys : List (List Int)) : Nat → Nat → Bool := fun i j => PySem.W.lexI (decide ((keys.getD i []).length < (keys.getD j []).length)) (keys.getD i []) (keys.getD j [])
def permK (keys : List (List Int)) : List Nat := ((PySem.W.kas_sort keys.length).eval (ltK keys)).toList
theorem Vals.getD {xs : List V} {us : List Value} (r : Vals xs us) (i : Nat) : RelV (xs.getD i .non) (us.getD i .none) := by
  induction r generalizing i with
  | nil => rfl
  | cons h _ ih =>
    cases i with
    | zero => simpa using h
    | succ i => simpa using ih i
/-- sorted(xs), xs a list of rows of numbers -/
def rSorted : List V → Hp → VK → Prop := fun xs H Q => ∃ (l : Addr) (as : List Addr) (keys : List (List Int)), xs = [.ref l] ∧ H l = some (.lst (as.map V.ref)) ∧ RowsAt H as keys ∧ (∀ ks ∈ keys, ks ≠ []) ∧ 2 ≤ keys.length ∧ keys.length < 64 ∧ (PySem.W.kas_sort keys.length).okFor (ltK keys) keys.length = true ∧ (permK keys).length = keys.length ∧
  ∀ D, H D = none → Q (.ref D) (upd H D (.lst ((permK keys).map fun i => (as.map V.ref).getD i .non)))
end
end L2

set_option Elab.async false
set_option linter.all false
set_option maxRecDepth 100000
namespace L2
open PySem PySem.Spec PyProof.Rows
section
variable {X : Cx}
/-- x[a:b] of a text -/
def rSlS : V → Option Int → Option Int → Hp → VK → Prop := fun x lo hi H Q => ∃ z, x = .str z ∧ z.length ≤ 1000 ∧ Q (.str (Txt.slice z lo hi)) H
theorem part_of {v : Value} {o : Option Int} (h : IsPart v o) : ∃ p : Option (Int × Tok), v = partValue p ∧ p.map (·.1) = o := by
  cases h with
  | none => exact ⟨none, rfl, rfl⟩
  | int i t => exact ⟨some (i, t), rfl, rfl⟩
theorem sl_str : SlR X rSlS := by
  intro pins s σ H x v vl vu lo hi sl Q I rx hs pl pu h
  obtain ⟨z, rfl, hz, q⟩ := h
  obtain ⟨t, rfl⟩ := rx
  obtain ⟨l, rfl, rfl⟩ := part_of pl
  obtain ⟨u, rfl, rfl⟩ := part_of pu
  refine ⟨"str", _, PySem.F.slot_str_getitem.lookup, typeIs_str s z t, ?_⟩
  refine getItem_meets (typeIs_str s z t) (by decide) PySem.F.slot_str_getitem PySem.F.entry_str_getitem (PySem.F.args_str_getitem_2 _ _) (meets_str_getitem_slice z t sl l u none rfl) ⟨hs, ?_⟩
  have e : sliceMade z t l u none = if ((1 : Int) == 1 && (Builtin.Str.strSliceIndices (l.map (·.1)) (u.map (·.1)) 1 z.length).length == z.length) = true then .val (.str z t) else .str ⟨((Builtin.Str.strSliceIndices (l.map (·.1)) (u.map (·.1)) 1 z.length).filterMap (z.cps[·]?)).toArray⟩ := rfl
  rw [e]
  have hlen := sliceIndices_le (l.map (·.1)) (u.map (·.1)) z.length
  unfold Txt.slice at q
  by_cases hc : ((1 : Int) == 1 && (Builtin.Str.strSliceIndices (l.map (·.1)) (u.map (·.1)) 1 z.length).length == z.length) = true
  · rw [if_pos hc] at q ⊢
    exact ⟨.str z, H, I, ⟨t, rfl⟩, q⟩
  · rw [if_neg hc] at q ⊢
    refine ⟨?_, .str _, H, I.tok _, ⟨_, rfl⟩, q⟩
    refine Nat.le_of_lt (small1000 ?_)
    show ((Builtin.Str.strSliceIndices (l.map (·.1)) (u.map (·.1)) 1 z.length).filterMap (z.cps[·]?)).toArray.size ≤ 1000
    rw [List.size_toArray]
    exact Nat.le_trans (List.length_filterMap_le _ _) (by omega)
end
end L2

set_option Elab.async false
set_option linter.all false
set_option maxRecDepth 100000
namespace K23
open PySem L2 G2
local macro_rules | `(tactic| walk_at "v") => `(tactic| repeat (with_reducible first
  | refine w_seq ?_ | refine w_asg ?_ | refine w_gname ?_ | refine w_op ?_ | refine w_var rfl ?_ | refine w_c ?_ | refine w_rI0 ?_ | refine w_ifs ?_ | refine w_ife ?_ | refine w_test ?_ | refine w_tb ?_ | refine w_bl ?_ | refine w_not ?_ | refine w_ret ?_ | refine w_retN ?_
  | refine w_nil ?_ | refine w_cons ?_ | refine w_lst ?_ | refine w_tup ?_ | refine w_cb ?_ | refine w_call ?_ | refine w_gsub ?_ | refine w_and ?_ | refine w_or ?_ | refine w_next ?_ | refine w_all ?_ | refine w_vals ?_ | refine w_compR ?_ | refine w_compT ?_ | refine w_forR ?_ | refine w_forT ?_ | refine w_forL ?_ | refine w_drop ?_ | refine w_bm ?_ | refine w_compZ ?_ | refine w_compL ?_ | refine w_chain ?_ | refine w_sl ?_ | refine w_nopart ?_ | refine w_part ?_ | refine w_unI ?_ | refine iteT ?_ | refine iteF ?_))
def fT (i : Int) : Str := Str.ofString (toString i)
def inF (y : Str) : Bool := !(Builtin.Str.occurrences "0123456789" y 0 (Str.length "0123456789") 1).isEmpty
def figB (x : Str) : Bool := decide (x.length ≤ 10) && (sg x).all inF && (match x.cps.toList with | [] => false | c :: _ => decide (x = "0") || !decide ((⟨#[c]⟩ : Str) = "0"))
def sigB (x : Str) : Bool := if Txt.startswith x "-" = true then !decide (x = "-0") && figB (Txt.slice x (some 1) none) else figB x
def numB (i : Int) : Bool := sigB (fT i) && decide ((fT i).length ≤ 3) && decide (PySem.intText? (fT i) = some i) && !(fT i).cps.toList.contains 32 && decide (i.natAbs.log2 < 1920) && !decide (fT i = "/")
theorem nums : ∀ n : Nat, n < 199 → numB ((n : Int) - 99) = true := by decide +kernel
structure Num (i : Int) : Prop where
  sig : sigB (fT i) = true
  l3 : (fT i).length ≤ 3
  rd : PySem.intText? (fT i) = some i
  nb : 32 ∉ (fT i).cps.toList
  lg : i.natAbs.log2 < 1920
  ns : fT i ≠ "/"
theorem num_ok {i : Int} (h0 : -99 ≤ i) (h1 : i ≤ 99) : Num i := by
  have h := nums (i + 99).toNat (by omega)
  have e : (((i + 99).toNat : Nat) : Int) - 99 = i := by omega
  rw [e] at h
  unfold numB at h
  simp only [Bool.and_eq_true, decide_eq_true_eq, Bool.not_eq_true', decide_eq_false_iff_not] at h
  obtain ⟨⟨⟨⟨⟨a, b⟩, c⟩, d⟩, e⟩, f⟩ := h
  exact ⟨a, b, c, (fun z => by rw [List.contains_iff_mem.mpr z] at d; cases d), e, f⟩
/-- the words of a line, of an ask -/
def lnW (a : Ln) : List Str := (a.bys ++ [a.plus]).map fT
def akW : Ak → List Str
  | .sum a => "sum" :: lnW a
  | .part a d => "part" :: (lnW a ++ [fT d])
  | .two w a b => w :: (lnW a ++ ("/" : Str) :: lnW b)
abbrev sFig : Stmt := top 12
abbrev sSig : Stmt := top 13
abbrev nFig : List Str := ["word"]
abbrev nSig : List Str := ["word"]
def figComp (s : Stmt) : Scope := match s with
  | .If (.BoolOp _ [_, .UnaryOp _ (.Call _ [.ListComp _ _ sc _] _ _) _] _) _ _ _ => sc
  | _ => { kind := .function, names := [], isGenerator := false, isCoroutine := false }
abbrev cFig : Scope := figComp ((defBody sFig).getD 0 (.Pass ⟨0, 0, 0, 0⟩))
def spFig : Sp := fun vs H Q _ => ∃ x : Str, vs = [.str x] ∧ figB x = true ∧ ∀ H', Same H H' → Q (.bl true) H'
def spSig : Sp := fun vs H Q _ => ∃ x : Str, vs = [.str x] ∧ sigB x = true ∧ x.length ≤ 10 ∧ ∀ H', Same H H' → Q (.bl true) H'
theorem w_orV {ta tb : TE} {σ : St} {H : Hp} {Q : VK} (h : ta σ H fun x H1 => ∃ c, x = .bl c ∧ if c = true then Q (.bl true) H1 else tb σ H1 Q) : tOrV ta tb σ H Q := h
theorem w_andV {ta tb : TE} {σ : St} {H : Hp} {Q : VK} (h : ta σ H fun x H1 => ∃ c, x = .bl c ∧ if c = true then tb σ H1 Q else Q (.bl false) H1) : tAndV ta tb σ H Q := h
section
variable {P : Program} {w : World} {K : PySem.W.Frag} {mg : Str → Option Value} {base : Heap}
end
section
variable {P : Program} {w : World} {K : PySem.W.Frag} {mg : Str → Option Value} {base : Heap}
end
end K23

set_option Elab.async false
set_option linter.all false
set_option maxRecDepth 100000
namespace K23
open PySem L2 G2
local macro_rules | `(tactic| walk_at "v") => `(tactic| repeat (with_reducible first
  | refine w_seq ?_ | refine w_asg ?_ | refine w_gname ?_ | refine w_op ?_ | refine w_var rfl ?_ | refine w_c ?_ | refine w_rI0 ?_ | refine w_ifs ?_ | refine w_ife ?_ | refine w_test ?_ | refine w_tb ?_ | refine w_bl ?_ | refine w_not ?_ | refine w_ret ?_ | refine w_retN ?_
  | refine w_nil ?_ | refine w_cons ?_ | refine w_lst ?_ | refine w_tup ?_ | refine w_cb ?_ | refine w_call ?_ | refine w_gsub ?_ | refine w_and ?_ | refine w_or ?_ | refine w_next ?_ | refine w_all ?_ | refine w_vals ?_ | refine w_compR ?_ | refine w_compT ?_ | refine w_forR ?_ | refine w_forT ?_ | refine w_forL ?_ | refine w_drop ?_ | refine w_bm ?_ | refine w_compZ ?_ | refine w_compL ?_ | refine w_chain ?_ | refine w_sl ?_ | refine w_nopart ?_ | refine w_part ?_ | refine w_unI ?_ | refine iteT ?_ | refine iteF ?_))
abbrev sSa : Stmt := top 21
abbrev sSl : Stmt := top 22
abbrev nSl : List Str := ["line"]
theorem nmSl : Nm nSl (defScope sSl) := ⟨by decide +kernel, by decide +kernel⟩
theorem scSl : FnScope nSl ["line"] (defScope sSl) := ⟨rfl, rfl, rfl, by decide +kernel, rfl, by decide +kernel, by decide +kernel⟩
abbrev nSa : List Str := ["ask", "words"]
theorem nmSa : Nm nSa (defScope sSa) := ⟨by decide +kernel, by decide +kernel⟩
theorem scSa : FnScope nSa ["ask"] (defScope sSa) := ⟨rfl, rfl, rfl, by decide +kernel, rfl, by decide +kernel, by decide +kernel⟩
def retCompZ (s : Stmt) : Scope := match s with
  | .Return (some (.ListComp _ _ sc _)) _ => sc
  | _ => { kind := .function, names := [], isGenerator := false, isCoroutine := false }
abbrev cSl : Scope := retCompZ ((defBody sSl).getD 0 (.Pass ⟨0, 0, 0, 0⟩))
theorem bsSl : BScope (defScope sSl) cSl ["number"] [] ["str"] := { okind := by decide +kernel, kind := by decide +kernel, nocell := by decide +kernel, names := by decide +kernel, fr := by decide +kernel, ff := by decide +kernel, nd := by decide +kernel, vis := by decide +kernel, loc := by decide +kernel, gl := by decide +kernel }
def spSl : Sp := fun vs H Q _ => ∃ (q : Addr) (a : Ln) (m : Nat), vs = [.ref q] ∧ LnAt H q a ∧ a.ok m ∧ m ≤ 3 ∧ ∀ l H', Same H H' → H l = none → H' l = some (.lst ((lnW a).map V.str)) → Q (.ref l) H'
def lnL (a : Ln) : List Int := a.bys ++ [a.plus]
theorem lnL_num {a : Ln} {m : Nat} (h : a.ok m) : ∀ x ∈ lnL a, Num x := fun x hx => by
  rcases List.mem_append.mp hx with hx | hx
  · exact num_ok (h.2.1 x hx).1 (h.2.1 x hx).2
  · rw [List.mem_singleton.mp hx]
    exact num_ok h.2.2.1 h.2.2.2
theorem lnL_len {a : Ln} {m : Nat} (h : a.ok m) : (lnL a).length = m + 1 := by
  unfold lnL
  rw [List.length_append, h.1]
  rfl
section
variable {P : Program} {w : World} {K : PySem.W.Frag} {mg : Str → Option Value} {base : Heap}
set_option maxHeartbeats 4000000 in
theorem ok_Sl {f : Addr} {fd : FuncData} (B : Blt mg) (F : Fun K "shown_line" "shown_line" sSl f fd) : FnOk P w K mg base CX0 1 f fd ["line"] spSl := by
  refine F.ok scSl (fun vs H Q E h => ?_) (fun cdv A outer s H vs Q E hr h => ?_)
  · obtain ⟨q, a, m, rfl, _⟩ := h
    rfl
  · obtain ⟨q, a, m, rfl, hq, ha, hm, k⟩ := h
    refine' ⟨_, ?hb, ?rd⟩
    case hb =>
      refine' pss_one ?s1
      case' s1 => refine' ps_ret ?e1
      case e1 =>
        refine' pe_comp (ix := []) bsSl.toCScope rfl rfl ?h3 ?h4 ?h5 ?h6
        case h3 =>
          refine' pi_tup ?c1
          case' c1 => refine' pe_op op_catG (pe_ix ix_d (pvd nmSl 0) (pe_k B.byK) (fun _ _ => rfl)) ?c2
          case' c2 => refine' pe_tup ?c3
          case c3 => exact pa_1 (pe_ix ix_d (pvd nmSl 0) (pe_k B.plK) (fun _ _ => rfl))
        case h4 => exact fun _ _ _ _ _ _ => pgb bsSl 0
        case h5 => exact fun _ _ _ _ _ _ => pts_nil
        case h6 => exact fun _ _ _ _ _ _ => pe_cT call_strI B.str PyProof.Rows.boot_str (pa_1 (pvb bsSl 0)) (bsSl.g 0)
    case rd =>
      obtain ⟨b, h1, h2⟩ := hq
      have hlen := lnL_len ha
      have hnum := lnL_num ha
      walk_at "v"
      refine w_ixT h1 rfl ?_
      walk_at "v"
      refine w_ixT h1 rfl ?_
      walk_at "v"
      refine ⟨by show 1 ≤ sizeLine; decide, fun t ht => ?_⟩
      have K1 : Same H (upd H t (.tup [.int a.plus])) := Same.new (Same.refl H) ht
      have e1 : upd H t (.tup [.int a.plus]) t = some (.tup [.int a.plus]) := upd_same
      generalize upd H t (.tup [.int a.plus]) = H1 at K1 e1 ⊢
      refine ⟨b, t, _, _, rfl, rfl, K1 _ _ h2, e1, by rw [List.length_map, ha.1]; simp; omega, fun u H2 K2 hu => ?_⟩
      have eL : a.bys.map V.int ++ [.int a.plus] = (lnL a).map V.int := by unfold lnL; rw [List.map_append]; rfl
      rw [eL] at hu
      refine ⟨u, rfl, ⟨_, SqT.of hu⟩, fun D hD => ?_⟩
      refine cgo_tup (xs := (lnL a).map V.int) (ρ := []) (fun i zs H' => zs = (((lnL a).map fT).take i).map V.str ∧ Same H2 H') ⟨rfl, Same.new (Same.refl H2) hD⟩ (fun i zs H' _ ⟨_, k'⟩ => SqT.of (k' _ _ hu)) ?_ ?_
      · rintro i x zs H' hx ⟨rfl, K'⟩ hDz R S kR _
        have hi : i < (lnL a).length := by
          have := (List.getElem?_eq_some_iff.mp hx).1
          simpa using this
        have ex : x = .int (lnL a)[i] := by
          rw [List.getElem?_map, List.getElem?_eq_getElem hi] at hx
          exact (Option.some.inj hx).symm
        subst ex
        walk_at "v"
        refine ⟨_, rfl, (hnum _ (List.getElem_mem hi)).lg, ?_⟩
        refine kR _ _ hDz (by rw [List.length_map, List.length_take]; exact small1000 (by omega)) ⟨?_, K'.put hD⟩
        rw [List.take_add_one, List.getElem?_map, List.getElem?_eq_getElem hi, List.map_append]
        rfl
      rintro zs H3 ⟨rfl, K3⟩ e3
      rw [List.length_map, List.take_of_length_le (by rw [List.length_map]; exact Nat.le_refl _)] at e3
      exact k D H3 ((K1.trans K2).trans K3) ((K1.trans K2).free hD) e3
end
end K23

set_option Elab.async false
set_option linter.all false
set_option maxRecDepth 100000
namespace K23
open PySem L2 G2
local macro_rules | `(tactic| walk_at "v") => `(tactic| repeat (with_reducible first
  | refine w_seq ?_ | refine w_asg ?_ | refine w_gname ?_ | refine w_op ?_ | refine w_var rfl ?_ | refine w_c ?_ | refine w_rI0 ?_ | refine w_ifs ?_ | refine w_ife ?_ | refine w_test ?_ | refine w_tb ?_ | refine w_bl ?_ | refine w_not ?_ | refine w_ret ?_ | refine w_retN ?_
  | refine w_nil ?_ | refine w_cons ?_ | refine w_lst ?_ | refine w_tup ?_ | refine w_cb ?_ | refine w_call ?_ | refine w_gsub ?_ | refine w_and ?_ | refine w_or ?_ | refine w_next ?_ | refine w_all ?_ | refine w_vals ?_ | refine w_compR ?_ | refine w_compT ?_ | refine w_forR ?_ | refine w_forT ?_ | refine w_forL ?_ | refine w_drop ?_ | refine w_bm ?_ | refine w_compZ ?_ | refine w_compL ?_ | refine w_chain ?_ | refine w_sl ?_ | refine w_nopart ?_ | refine w_part ?_ | refine w_unI ?_ | refine iteT ?_ | refine iteF ?_))
theorem jn_len {c B : Nat} : ∀ (ls : List (List Nat)), (∀ l ∈ ls, l.length ≤ B) → (jn c ls).length ≤ ls.length * (B + 1)
  | [], _ => Nat.zero_le _
  | [w], h => by
    have := h w (by simp)
    show w.length ≤ 1 * (B + 1)
    omega
  | w :: v :: r, h => by
    have h1 := h w (by simp)
    have ih := jn_len (c := c) (v :: r) fun l hl => h l (List.mem_cons_of_mem _ hl)
    show (w ++ c :: jn c (v :: r)).length ≤ _
    rw [List.length_append, List.length_cons, List.length_cons, Nat.succ_mul]
    omega
theorem join_fit {ws : List Str} (h : ∀ w ∈ ws, w.length ≤ 5) (hl : ws.length ≤ 10) : JoinOk ⟨#[32]⟩ ws = true ∧ (Txt.join ⟨#[32]⟩ ws).length ≤ sizeLine := by
  constructor
  · unfold JoinOk
    have z := StrLaws.joinFits (sep := ⟨#[32]⟩) h (by show ws.length * 5 + ws.length * 1 ≤ 16777216; omega)
    rw [z]
    rfl
  · have e0 : Txt.join ⟨#[32]⟩ ws = Str.join ⟨#[32]⟩ ws := StrLaws.glued_eq_join _ _
    rw [e0]
    show (Str.join ⟨#[32]⟩ ws).cps.size ≤ _
    rw [← Array.length_toList, join_list]
    refine Nat.le_trans (jn_len (B := 5) _ fun l hl => ?_) ?_
    · obtain ⟨p, hp, rfl⟩ := List.mem_map.mp hl
      rw [Array.length_toList]
      exact h p hp
    · rw [List.length_map, sizeLine_eq]
      omega
theorem lnW_ok {a : Ln} {m : Nat} (h : a.ok m) : (∀ w ∈ lnW a, w.length ≤ 5 ∧ 32 ∉ w.cps.toList) ∧ (lnW a).length = m + 1 := by
  refine ⟨fun w hw => ?_, ?_⟩
  · obtain ⟨x, hx, rfl⟩ := List.mem_map.mp hw
    have n := lnL_num h x hx
    exact ⟨Nat.le_trans n.l3 (by decide), n.nb⟩
  · unfold lnW
    rw [List.length_map]
    exact lnL_len h
theorem akW_ok {A : Ak} {m : Nat} (h : A.ok m) (hm : m ≤ 3) : (∀ w ∈ akW A, w.length ≤ 5 ∧ 32 ∉ w.cps.toList) ∧ (akW A).length ≤ 10 := by
  cases A with
  | sum a =>
    obtain ⟨h1, h2⟩ := lnW_ok h
    refine ⟨fun w hw => ?_, by show (lnW a).length + 1 ≤ 10; omega⟩
    rcases List.mem_cons.mp hw with rfl | hw
    · decide +kernel
    · exact h1 w hw
  | part a d =>
    obtain ⟨ha, hd1, hd2⟩ := h
    obtain ⟨h1, h2⟩ := lnW_ok ha
    refine ⟨fun w hw => ?_, by show (lnW a ++ [fT d]).length + 1 ≤ 10; rw [List.length_append, h2]; simp; omega⟩
    rcases List.mem_cons.mp hw with rfl | hw
    · decide +kernel
    · rcases List.mem_append.mp hw with hw | hw
      · exact h1 w hw
      · rw [List.mem_singleton.mp hw]
        have n := num_ok (i := d) (by omega) (by omega)
        exact ⟨Nat.le_trans n.l3 (by decide), n.nb⟩
  | two w a b =>
    obtain ⟨hw4, ha, hb⟩ := h
    obtain ⟨h1, h2⟩ := lnW_ok ha
    obtain ⟨h3, h4⟩ := lnW_ok hb
    refine ⟨fun v hv => ?_, by show (lnW a ++ ("/" : Str) :: lnW b).length + 1 ≤ 10; rw [List.length_append, List.length_cons, h2, h4]; omega⟩
    rcases List.mem_cons.mp hv with rfl | hv
    · rcases hw4 with rfl | rfl | rfl | rfl <;> decide +kernel
    · rcases List.mem_append.mp hv with hv | hv
      · exact h1 v hv
      · rcases List.mem_cons.mp hv with rfl | hv
        · decide +kernel
        · exact h3 v hv
theorem blank_is : (" " : Str) = ⟨#[32]⟩ := by decide +kernel
theorem iteNN {c A B : Prop} [Decidable c] (hc : ¬ c) (h : A) : if (!decide c) = true then A else B := by rw [decide_eq_false hc]; exact iteT h
def spSa : Sp := fun vs H Q _ => ∃ (q : Addr) (A : Ak) (m : Nat), vs = [.ref q] ∧ AkAt H q A ∧ A.ok m ∧ m ≤ 3 ∧ ∀ H', Same H H' → Q (.str (Txt.join ⟨#[32]⟩ (akW A))) H'
section
variable {P : Program} {w : World} {K : PySem.W.Frag} {mg : Str → Option Value} {base : Heap}
set_option maxHeartbeats 4000000 in
theorem ok_Sa {f : Addr} {fd : FuncData} (B : Blt mg) (G : Has P w K mg base 1 "shown_line" ["line"] spSl) (F : Fun K "shown_ask" "shown_ask" sSa f fd) : FnOk P w K mg base CX0 2 f fd ["ask"] spSa := by
  refine F.ok scSa (fun vs H Q E h => ?_) (fun cdv A outer s H vs Q E hr h => ?_)
  · obtain ⟨q, A, m, rfl, _⟩ := h
    rfl
  · obtain ⟨q, T, m, rfl, hq, hA, hm, k⟩ := h
    refine' ⟨_, ?hb, ?rd⟩
    case hb =>
      refine' pss_cons ?s1 ?r1
      case' r1 => refine' pss_cons ?s2 ?r2
      case' r2 => refine' pss_one ?s3
      case s1 => exact ps_setD nmSa 1 (pe_op op_cat (pe_lst (pa_1 (pe_ix ix_d (pvd nmSa 0) pe_int (fun _ _ => rfl)))) (pe_f G hr (by decide) (pa_1 (pe_ix ix_d (pvd nmSa 0) pe_int (fun _ _ => rfl)))))
      case s2 =>
        refine' ps_if (pt_cmpR op_eq (pe_ix ix_d (pvd nmSa 0) pe_int (fun _ _ => rfl)) pe_str (nomark _)) ?a1 ?a2
        case' a1 => refine' pss_one ?a3
        case' a3 => refine' ps_expr ?a4
        case a4 => exact pe_bm PySem.F.plainAttrs_list PySem.F.slot_list_append PySem.F.type_list_append mt_append (pvd nmSa 1) (pa_1 (pe_cT call_strI B.str PyProof.Rows.boot_str (pa_1 (pe_ix ix_d (pvd nmSa 0) pe_int (fun _ _ => rfl)))))
        case' a2 => refine' pss_one ?b1
        case' b1 => refine' ps_if (pt_cmpR op_ne (pe_ix ix_d (pvd nmSa 0) pe_int (fun _ _ => rfl)) pe_str (nomark _)) ?b2 pss_nil
        case' b2 => refine' pss_one ?b3
        case' b3 => refine' ps_expr ?b4
        case b4 => exact pe_bm PySem.F.plainAttrs_list PySem.F.slot_list_extend PySem.F.type_list_extend mt_extend (pvd nmSa 1) (pa_1 (pe_op op_cat (pe_lst (pa_1 pe_str)) (pe_f G hr (by decide) (pa_1 (pe_ix ix_d (pvd nmSa 0) pe_int (fun _ _ => rfl))))))
      case s3 =>
        refine' ps_ret ?c1
        case c1 => exact pe_bm PySem.F.plainAttrs_str PySem.F.slot_str_join PySem.F.type_str_join mt_join pe_str (pa_1 (pvd nmSa 1))
    case rd =>
      obtain ⟨hW, hL⟩ := akW_ok hA hm
      obtain ⟨j1, j2⟩ := join_fit (fun w hw => (hW w hw).1) hL
      have fin : ∀ (wl : Addr) (H' : Hp), Same H H' → H' wl = some (.lst ((akW T).map V.str)) → rJoin (.str " ") [.ref wl] H' Q := fun wl H' K' e => ⟨" ", wl, akW T, rfl, rfl, e, by rw [blank_is]; exact j1, by rw [blank_is]; exact j2, by rw [blank_is]; exact k H' K'⟩
      cases T with
      | sum a =>
        obtain ⟨l, h1, h2⟩ := hq
        walk_at "v"
        refine w_ixT h1 rfl ?_
        walk_at "v"
        refine ⟨by show 1 ≤ sizeLine; decide, fun l1 hl1 => ?_⟩
        have K1 : Same H (upd H l1 (.lst [.str ("sum" : Str)])) := Same.new (Same.refl H) hl1
        have e1 : upd H l1 (.lst [.str ("sum" : Str)]) l1 = some (.lst [.str ("sum" : Str)]) := upd_same
        generalize upd H l1 (.lst [.str ("sum" : Str)]) = H1 at K1 e1 ⊢
        walk_at "v"
        refine w_ixT (K1 _ _ h1) rfl ?_
        walk_at "v"
        refine ⟨l, a, m, rfl, ⟨_, K1 _ _ h2.choose_spec.1, K1 _ _ h2.choose_spec.2⟩, hA, hm, fun l2 H2 K2 _ e2 => ?_⟩
        have hla := (lnW_ok hA).2
        walk_at "v"
        refine ⟨l1, l2, _, _, rfl, rfl, K2 _ _ e1, e2, by simp only [List.length_cons, List.length_nil, List.length_map]; exact Nat.le_of_lt (small1000 (by omega)), fun wl hwl => ?_⟩
        have K3 : Same H (upd H2 wl (.lst ([.str ("sum" : Str)] ++ (lnW a).map V.str))) := (K1.trans K2).new hwl
        have ew : upd H2 wl (.lst ([.str ("sum" : Str)] ++ (lnW a).map V.str)) wl = some (.lst ((("sum" : Str) :: lnW a).map V.str)) := upd_same
        generalize upd H2 wl (.lst ([.str ("sum" : Str)] ++ (lnW a).map V.str)) = H3 at K3 ew ⊢
        walk_at "v"
        refine w_ixT (K3 _ _ h1) rfl ?_
        walk_at "v"
        refine ⟨rfl, ?_⟩
        refine ⟨_, rfl, ?_⟩
        refine iteF ?_
        walk_at "v"
        refine w_ixT (K3 _ _ h1) rfl ?_
        walk_at "v"
        refine ⟨rfl, ?_⟩
        refine ⟨_, rfl, ?_⟩
        refine iteF ?_
        walk_at "v"
        refine ⟨rfl, ?_⟩
        walk_at "v"
        exact fin wl H3 K3 ew
      | part a d =>
        obtain ⟨l, h1, h2⟩ := hq
        walk_at "v"
        refine w_ixT h1 rfl ?_
        walk_at "v"
        refine ⟨by show 1 ≤ sizeLine; decide, fun l1 hl1 => ?_⟩
        have K1 : Same H (upd H l1 (.lst [.str ("part" : Str)])) := Same.new (Same.refl H) hl1
        have e1 : upd H l1 (.lst [.str ("part" : Str)]) l1 = some (.lst [.str ("part" : Str)]) := upd_same
        generalize upd H l1 (.lst [.str ("part" : Str)]) = H1 at K1 e1 ⊢
        walk_at "v"
        refine w_ixT (K1 _ _ h1) rfl ?_
        walk_at "v"
        refine ⟨l, a, m, rfl, ⟨_, K1 _ _ h2.choose_spec.1, K1 _ _ h2.choose_spec.2⟩, hA.1, hm, fun l2 H2 K2 _ e2 => ?_⟩
        have hla := (lnW_ok hA.1).2
        walk_at "v"
        refine ⟨l1, l2, _, _, rfl, rfl, K2 _ _ e1, e2, by simp only [List.length_cons, List.length_nil, List.length_map]; exact Nat.le_of_lt (small1000 (by omega)), fun wl hwl => ?_⟩
        have K3 : Same H (upd H2 wl (.lst ([.str ("part" : Str)] ++ (lnW a).map V.str))) := (K1.trans K2).new hwl
        have ew : upd H2 wl (.lst ([.str ("part" : Str)] ++ (lnW a).map V.str)) wl = some (.lst ((("part" : Str) :: lnW a).map V.str)) := upd_same
        generalize upd H2 wl (.lst ([.str ("part" : Str)] ++ (lnW a).map V.str)) = H3 at K3 ew ⊢
        have nd := num_ok (i := d) (by have := hA.2.1; omega) (by have := hA.2.2; omega)
        walk_at "v"
        refine w_ixT (K3 _ _ h1) rfl ?_
        walk_at "v"
        refine ⟨rfl, ?_⟩
        refine ⟨_, rfl, ?_⟩
        refine iteT ?_
        walk_at "v"
        refine ⟨.inl ⟨rfl, _, SqL.of ew⟩, ?_⟩
        walk_at "v"
        refine w_ixT (K3 _ _ h1) rfl ?_
        walk_at "v"
        refine ⟨d, rfl, nd.lg, ?_⟩
        walk_at "v"
        refine ⟨wl, _, _, rfl, rfl, ew, by rw [List.length_map]; exact small1000 (by show (lnW a).length + 1 ≤ 1000; omega), ?_⟩
        walk_at "v"
        refine ⟨rfl, ?_⟩
        walk_at "v"
        refine fin wl _ (K3.put ((K1.trans K2).free hwl)) ?_
        rw [upd_same]
        show some (HO.lst ((("part" : Str) :: lnW a).map V.str ++ [V.str (fT d)])) = some (HO.lst ((("part" : Str) :: (lnW a ++ [fT d])).map V.str))
        rw [List.map_cons, List.map_cons, List.map_append]
        rfl
      | two x a b =>
        obtain ⟨l, r, h1, h2, h3⟩ := hq
        have nx1 : ¬ x = "part" := by rcases hA.1 with rfl | rfl | rfl | rfl <;> decide +kernel
        have nx2 : ¬ x = "sum" := by rcases hA.1 with rfl | rfl | rfl | rfl <;> decide +kernel
        walk_at "v"
        refine w_ixT h1 rfl ?_
        walk_at "v"
        refine ⟨by show 1 ≤ sizeLine; decide, fun l1 hl1 => ?_⟩
        have K1 : Same H (upd H l1 (.lst [.str x])) := Same.new (Same.refl H) hl1
        have e1 : upd H l1 (.lst [.str x]) l1 = some (.lst [.str x]) := upd_same
        generalize upd H l1 (.lst [.str x]) = H1 at K1 e1 ⊢
        walk_at "v"
        refine w_ixT (K1 _ _ h1) rfl ?_
        walk_at "v"
        refine ⟨l, a, m, rfl, ⟨_, K1 _ _ h2.choose_spec.1, K1 _ _ h2.choose_spec.2⟩, hA.2.1, hm, fun l2 H2 K2 _ e2 => ?_⟩
        have hla := (lnW_ok hA.2.1).2
        walk_at "v"
        refine ⟨l1, l2, _, _, rfl, rfl, K2 _ _ e1, e2, by simp only [List.length_cons, List.length_nil, List.length_map]; exact Nat.le_of_lt (small1000 (by omega)), fun wl hwl => ?_⟩
        have K3 : Same H (upd H2 wl (.lst ([.str x] ++ (lnW a).map V.str))) := (K1.trans K2).new hwl
        have ew : upd H2 wl (.lst ([.str x] ++ (lnW a).map V.str)) wl = some (.lst ((x :: lnW a).map V.str)) := upd_same
        generalize upd H2 wl (.lst ([.str x] ++ (lnW a).map V.str)) = H3 at K3 ew ⊢
        walk_at "v"
        refine w_ixT (K3 _ _ h1) rfl ?_
        walk_at "v"
        refine ⟨rfl, ?_⟩
        refine ⟨_, rfl, ?_⟩
        refine iteD (fun z => absurd (V.str.inj z) nx1) (fun _ => ?_)
        walk_at "v"
        refine w_ixT (K3 _ _ h1) rfl ?_
        walk_at "v"
        refine ⟨rfl, ?_⟩
        refine ⟨_, rfl, ?_⟩
        refine iteNN (fun z => nx2 (V.str.inj z)) ?_
        walk_at "v"
        refine ⟨.inl ⟨rfl, _, SqL.of ew⟩, ?_⟩
        walk_at "v"
        refine ⟨by show 1 ≤ sizeLine; decide, fun l4 hl4 => ?_⟩
        have K4 : Same H3 (upd H3 l4 (.lst [.str "/"])) := Same.new (Same.refl H3) hl4
        have e4 : upd H3 l4 (.lst [.str "/"]) l4 = some (.lst [.str "/"]) := upd_same
        generalize upd H3 l4 (.lst [.str "/"]) = H4 at K4 e4 ⊢
        walk_at "v"
        refine w_ixT ((K3.trans K4) _ _ h1) rfl ?_
        walk_at "v"
        refine ⟨r, b, m, rfl, ⟨_, (K3.trans K4) _ _ h3.choose_spec.1, (K3.trans K4) _ _ h3.choose_spec.2⟩, hA.2.2, hm, fun l5 H5 K5 _ e5 => ?_⟩
        have hlb := (lnW_ok hA.2.2).2
        walk_at "v"
        refine ⟨l4, l5, _, _, rfl, rfl, K5 _ _ e4, e5, by simp only [List.length_cons, List.length_nil, List.length_map]; exact Nat.le_of_lt (small1000 (by omega)), fun l6 hl6 => ?_⟩
        have K6 : Same H5 (upd H5 l6 (.lst ([.str "/"] ++ (lnW b).map V.str))) := Same.new (Same.refl H5) hl6
        have e6 : upd H5 l6 (.lst ([.str "/"] ++ (lnW b).map V.str)) l6 = some (.lst ([.str "/"] ++ (lnW b).map V.str)) := upd_same
        generalize upd H5 l6 (.lst ([.str "/"] ++ (lnW b).map V.str)) = H6 at K6 e6 ⊢
        have K36 := (K4.trans K5).trans K6
        walk_at "v"
        refine ⟨wl, l6, _, _, rfl, rfl, K36 _ _ ew, e6, by simp only [List.length_append, List.length_cons, List.length_nil, List.length_map]; exact Nat.le_of_lt (small1000 (by omega)), ?_⟩
        walk_at "v"
        refine ⟨rfl, ?_⟩
        walk_at "v"
        refine fin wl _ ((K3.trans K36).put ((K1.trans K2).free hwl)) ?_
        rw [upd_same]
        show some (HO.lst ((x :: lnW a).map V.str ++ ([V.str "/"] ++ (lnW b).map V.str))) = some (HO.lst ((x :: (lnW a ++ ("/" : Str) :: lnW b)).map V.str))
        rw [List.map_cons, List.map_cons, List.map_append, List.map_cons]
        rfl
end
end K23

set_option Elab.async false
set_option linter.all false
set_option maxRecDepth 100000
namespace K23
open PySem L2 G2
local macro_rules | `(tactic| walk_at "v") => `(tactic| repeat (with_reducible first
  | refine w_seq ?_ | refine w_asg ?_ | refine w_gname ?_ | refine w_op ?_ | refine w_var rfl ?_ | refine w_c ?_ | refine w_rI0 ?_ | refine w_ifs ?_ | refine w_ife ?_ | refine w_test ?_ | refine w_tb ?_ | refine w_bl ?_ | refine w_not ?_ | refine w_ret ?_ | refine w_retN ?_
  | refine w_nil ?_ | refine w_cons ?_ | refine w_lst ?_ | refine w_tup ?_ | refine w_cb ?_ | refine w_call ?_ | refine w_gsub ?_ | refine w_and ?_ | refine w_or ?_ | refine w_next ?_ | refine w_all ?_ | refine w_vals ?_ | refine w_compR ?_ | refine w_compT ?_ | refine w_forR ?_ | refine w_forT ?_ | refine w_forL ?_ | refine w_drop ?_ | refine w_bm ?_ | refine w_compZ ?_ | refine w_compL ?_ | refine w_chain ?_ | refine w_sl ?_ | refine w_nopart ?_ | refine w_part ?_ | refine w_unI ?_ | refine iteT ?_ | refine iteF ?_))
abbrev sLw : Stmt := top 27
abbrev nLw : List Str := ["words", "numbers"]
theorem nmLw : Nm nLw (defScope sLw) := ⟨by decide +kernel, by decide +kernel⟩
theorem scLw : FnScope nLw ["words"] (defScope sLw) := ⟨rfl, rfl, rfl, by decide +kernel, rfl, by decide +kernel, by decide +kernel⟩
def asgCompZ (s : Stmt) : Scope := match s with
  | .Assign _ (.ListComp _ _ sc _) _ => sc
  | _ => { kind := .function, names := [], isGenerator := false, isCoroutine := false }
abbrev cLw : Scope := asgCompZ ((defBody sLw).getD 0 (.Pass ⟨0, 0, 0, 0⟩))
theorem locLw : (defScope sLw).names.lookup ("numbers" : Str) = some .local := by decide +kernel
theorem bsLw : BScope (defScope sLw) cLw ["word"] [] ["int"] := { okind := by decide +kernel, kind := by decide +kernel, nocell := by decide +kernel, names := by decide +kernel, fr := by decide +kernel, ff := by decide +kernel, nd := by decide +kernel, vis := by decide +kernel, loc := by decide +kernel, gl := by decide +kernel }
theorem cut_last {ys : List V} {z : V} : cutV (ys ++ [z]) none (some (-1)) = ys := by
  have e : HT.sIx (ys ++ [z]).length (ys ++ [z]).length (some (-1)) = ys.length := by
    show (if (-1 : Int) < 0 then ((-1 : Int) + ((ys ++ [z]).length : Int)).toNat else min (-1 : Int).toNat (ys ++ [z]).length) = _
    rw [if_pos (by decide), List.length_append, List.length_singleton]
    omega
  unfold cutV
  rw [e, HT.sIx_none]
  simp
theorem cut_mid {w : V} {A R : List V} {k : Nat} (h : A.length = k) : cutV (w :: (A ++ R)) (some 1) (some ((k : Int) + 1)) = A := by
  have e1 : HT.sIx (w :: (A ++ R)).length 0 (some 1) = 1 := by
    have := HT.sIx_nat (w :: (A ++ R)).length 0 1
    rw [show ((1 : Nat) : Int) = 1 from rfl] at this
    rw [this, List.length_cons]
    omega
  have e2 : HT.sIx (w :: (A ++ R)).length (w :: (A ++ R)).length (some ((k : Int) + 1)) = k + 1 := by
    have := HT.sIx_nat (w :: (A ++ R)).length (w :: (A ++ R)).length (k + 1)
    rw [show (((k + 1 : Nat)) : Int) = (k : Int) + 1 by omega] at this
    rw [this, List.length_cons, List.length_append]
    omega
  unfold cutV
  rw [e1, e2]
  show (A ++ R).take (k + 1 - 1) = A
  rw [Nat.add_sub_cancel, ← h, List.take_left]
theorem cut_rest {w : V} {A R : List V} {k : Nat} (h : A.length = k) : cutV (w :: (A ++ R)) (some ((k : Int) + 1)) none = R := by
  have e2 : HT.sIx (w :: (A ++ R)).length 0 (some ((k : Int) + 1)) = k + 1 := by
    have := HT.sIx_nat (w :: (A ++ R)).length 0 (k + 1)
    rw [show (((k + 1 : Nat)) : Int) = (k : Int) + 1 by omega] at this
    rw [this, List.length_cons, List.length_append]
    omega
  unfold cutV
  rw [e2]
  show ((A ++ R).drop k).take _ = R
  rw [← h, List.drop_left]
  refine List.take_of_length_le ?_
  rw [HT.sIx_none, List.length_cons, List.length_append]
  omega
def spLw : Sp := fun vs H Q _ => ∃ (l : Addr) (a : Ln) (m : Nat), vs = [.ref l] ∧ H l = some (.lst ((lnW a).map V.str)) ∧ a.ok m ∧ m ≤ 3 ∧ ∀ q H', Same H H' → LnAt H' q a → Q (.ref q) H'
section
variable {P : Program} {w : World} {K : PySem.W.Frag} {mg : Str → Option Value} {base : Heap}
set_option maxHeartbeats 4000000 in
theorem ok_Lw {f : Addr} {fd : FuncData} (B : Blt mg) (F : Fun K "line_of_words" "line_of_words" sLw f fd) : FnOk P w K mg base CX0 1 f fd ["words"] spLw := by
  refine F.ok scLw (fun vs H Q E h => ?_) (fun cdv A outer s H vs Q E hr h => ?_)
  · obtain ⟨l, a, m, rfl, _⟩ := h
    rfl
  · obtain ⟨l, a, m, rfl, hl, ha, hm, k⟩ := h
    refine' ⟨_, ?hb, ?rd⟩
    case hb =>
      refine' pss_cons ?s1 ?r1
      case' r1 => refine' pss_one ?s2
      case s1 =>
        refine' ps_setC (i := 1) (ix := []) nmLw.nd rfl locLw bsLw.toCScope rfl rfl (pi_list (pvd nmLw 0)) ?h4 ?h5 ?h6
        case h4 => exact fun _ _ _ _ _ _ => pgb bsLw 0
        case h5 => exact fun _ _ _ _ _ _ => pts_nil
        case h6 => exact fun _ _ _ _ _ _ => pe_cT call_intS B.int PyProof.Rows.boot_int (pa_1 (pvb bsLw 0)) (bsLw.g 0)
      case s2 =>
        refine' ps_ret ?e1
        case' e1 => refine' pe_tup ?e2
        case' e2 => refine' pa_2 ?e3 (pe_ix ix_d (pvd nmLw 1) (pe_un un_neg pe_int) (fun _ _ => rfl))
        case' e3 => refine' pe_cT call_tuple_of B.tuple PyProof.Rows.boot_tuple ?e4
        case' e4 => refine' pa_1 ?e5
        case e5 => exact pe_slice sl_list (pvd nmLw 1) po_none (po_some (pe_un un_neg pe_int))
    case rd =>
      have hlen := lnL_len ha
      have hnum := lnL_num ha
      walk_at "v"
      refine ⟨l, rfl, ⟨_, SqL.of hl⟩, fun D hD => ?_⟩
      refine cgo_list (xs := (lnW a).map V.str) (ρ := []) (fun i zs H' => zs = ((lnL a).take i).map V.int ∧ Same H H') ⟨rfl, Same.new (Same.refl H) hD⟩ (fun i zs H' _ ⟨_, k'⟩ => SqL.of (k' _ _ hl)) ?_ ?_
      · rintro i x zs H' hx ⟨rfl, K'⟩ hDz R S kR _
        have hi : i < (lnL a).length := by
          have := (List.getElem?_eq_some_iff.mp hx).1
          unfold lnW at this
          simpa [lnL] using this
        have ex : x = .str (fT (lnL a)[i]) := by
          have e : (lnW a).map V.str = (lnL a).map fun i => V.str (fT i) := by unfold lnW lnL; rw [List.map_map]; rfl
          rw [e, List.getElem?_map, List.getElem?_eq_getElem hi] at hx
          exact (Option.some.inj hx).symm
        subst ex
        have nn := hnum _ (List.getElem_mem hi)
        walk_at "v"
        refine ⟨_, _, rfl, nn.rd, Nat.le_trans nn.l3 (by decide), ?_⟩
        refine kR _ _ hDz (by rw [List.length_map, List.length_take]; exact small1000 (by omega)) ⟨?_, K'.put hD⟩
        rw [List.take_add_one, List.getElem?_eq_getElem hi, List.map_append]
        rfl
      rintro zs H1 ⟨rfl, K1⟩ e1
      have e0 : ((lnL a).take ((lnW a).map V.str).length).map V.int = a.bys.map V.int ++ [.int a.plus] := by
        rw [List.take_of_length_le (by unfold lnW lnL; simp)]
        unfold lnL
        rw [List.map_append]
        rfl
      rw [e0] at e1
      walk_at "v"
      refine ⟨_, rfl, ?_⟩
      walk_at "v"
      refine ⟨_, rfl, ?_⟩
      refine ⟨D, _, rfl, SqL.of e1, fun p1 hp1 => ?_⟩
      rw [cut_last]
      have K2 : Same H1 (upd H1 p1 (.lst (a.bys.map V.int))) := Same.new (Same.refl H1) hp1
      have e2 : upd H1 p1 (.lst (a.bys.map V.int)) p1 = some (.lst (a.bys.map V.int)) := upd_same
      generalize upd H1 p1 (.lst (a.bys.map V.int)) = H2 at K2 e2 ⊢
      walk_at "v"
      refine ⟨p1, _, rfl, .inl ⟨SqL.of e2, fun p2 hp2 => ?_⟩⟩
      have K3 : Same H2 (upd H2 p2 (.tup (a.bys.map V.int))) := Same.new (Same.refl H2) hp2
      have e3 : upd H2 p2 (.tup (a.bys.map V.int)) p2 = some (.tup (a.bys.map V.int)) := upd_same
      generalize upd H2 p2 (.tup (a.bys.map V.int)) = H3 at K3 e3 ⊢
      walk_at "v"
      refine ⟨_, rfl, ?_⟩
      refine w_ixL (v := .int a.plus) ((K2.trans K3) _ _ e1) (atI_last _ _) ?_
      walk_at "v"
      refine ⟨by show 2 ≤ sizeLine; decide, fun q hq => ?_⟩
      exact k q _ ((((K1.trans K2).trans K3)).new hq) ⟨p2, upd_same, by rw [upd_ne (ne_of_none e3 hq)]; exact e3⟩
end
end K23

set_option Elab.async false
set_option linter.all false
set_option maxRecDepth 100000
namespace K23
open PySem L2 G2
local macro_rules | `(tactic| walk_at "v") => `(tactic| repeat (with_reducible first
  | refine w_seq ?_ | refine w_asg ?_ | refine w_gname ?_ | refine w_op ?_ | refine w_var rfl ?_ | refine w_c ?_ | refine w_rI0 ?_ | refine w_ifs ?_ | refine w_ife ?_ | refine w_test ?_ | refine w_tb ?_ | refine w_bl ?_ | refine w_not ?_ | refine w_ret ?_ | refine w_retN ?_
  | refine w_nil ?_ | refine w_cons ?_ | refine w_lst ?_ | refine w_tup ?_ | refine w_cb ?_ | refine w_call ?_ | refine w_gsub ?_ | refine w_and ?_ | refine w_or ?_ | refine w_next ?_ | refine w_all ?_ | refine w_vals ?_ | refine w_compR ?_ | refine w_compT ?_ | refine w_forR ?_ | refine w_forT ?_ | refine w_forL ?_ | refine w_drop ?_ | refine w_bm ?_ | refine w_compZ ?_ | refine w_compL ?_ | refine w_chain ?_ | refine w_sl ?_ | refine w_nopart ?_ | refine w_part ?_ | refine w_unI ?_ | refine iteT ?_ | refine iteF ?_))
abbrev sAw : Stmt := top 26
abbrev nAw : List Str := ["many", "words", "one"]
theorem nmAw : Nm nAw (defScope sAw) := ⟨by decide +kernel, by decide +kernel⟩
theorem scAw : FnScope nAw ["many", "words"] (defScope sAw) := ⟨rfl, rfl, rfl, by decide +kernel, rfl, by decide +kernel, by decide +kernel⟩
theorem at0 {v : V} {xs : List V} : atI (v :: xs) 0 = some v := atI_nat (show (v :: xs)[0]? = some v from rfl)
def spAw : Sp := fun vs H Q _ => ∃ (l : Addr) (A : Ak) (m : Nat), vs = [.int (m : Int), .ref l] ∧ H l = some (.lst ((akW A).map V.str)) ∧ A.ok m ∧ m ≤ 3 ∧ ∀ q H', Same H H' → AkAt H' q A → Q (.ref q) H'
section
variable {P : Program} {w : World} {K : PySem.W.Frag} {mg : Str → Option Value} {base : Heap}
set_option maxHeartbeats 4000000 in
theorem ok_Aw {f : Addr} {fd : FuncData} (B : Blt mg) (G : Has P w K mg base 1 "line_of_words" ["words"] spLw) (F : Fun K "ask_of_words" "ask_of_words" sAw f fd) : FnOk P w K mg base CX0 2 f fd ["many", "words"] spAw := by
  refine F.ok scAw (fun vs H Q E h => ?_) (fun cdv A outer s H vs Q E hr h => ?_)
  · obtain ⟨l, A, m, rfl, _⟩ := h
    rfl
  · obtain ⟨l, T, m, rfl, hl, hA, hm, k⟩ := h
    refine' ⟨_, ?hb, ?rd⟩
    case hb =>
      refine' pss_cons ?s1 ?r1
      case' r1 => refine' pss_cons ?s2 ?r2
      case' r2 => refine' pss_cons ?s3 ?r3
      case' r3 => refine' pss_one ?s4
      case s1 =>
        refine' ps_setD nmAw 2 ?a1
        case' a1 => refine' pe_f G hr (by decide) ?a2
        case' a2 => refine' pa_1 ?a3
        case a3 => exact pe_slice sl_list (pvd nmAw 1) (po_some pe_int) (po_some (pe_op op_add (pvd nmAw 0) pe_int))
      case s2 =>
        refine' ps_if (pt_cmpR op_eq (pe_ix ix_d (pvd nmAw 1) pe_int (fun _ _ => rfl)) pe_str (nomark _)) ?b1 pss_nil
        case b1 => exact pss_one (ps_ret (pe_tup (pa_2 pe_str (pvd nmAw 2))))
      case s3 =>
        refine' ps_if (pt_cmpR op_eq (pe_ix ix_d (pvd nmAw 1) pe_int (fun _ _ => rfl)) pe_str (nomark _)) ?c1 pss_nil
        case' c1 => refine' pss_one ?c2
        case' c2 => refine' ps_ret ?c3
        case' c3 => refine' pe_tup ?c4
        case c4 => exact pa_c pe_str (pa_2 (pvd nmAw 2) (pe_cT call_intS B.int PyProof.Rows.boot_int (pa_1 (pe_ix ix_d (pvd nmAw 1) (pe_un un_neg pe_int) (fun _ _ => rfl)))))
      case s4 =>
        refine' ps_ret ?d1
        case' d1 => refine' pe_tup ?d2
        case' d2 => refine' pa_c (pe_ix ix_d (pvd nmAw 1) pe_int (fun _ _ => rfl)) ?d3
        case' d3 => refine' pa_2 (pvd nmAw 2) ?d4
        case' d4 => refine' pe_f G hr (by decide) ?d5
        case' d5 => refine' pa_1 ?d6
        case d6 => exact pe_slice sl_list (pvd nmAw 1) (po_some (pe_op op_add (pvd nmAw 0) pe_int)) po_none
    case rd =>
      have two : ((m : Int) + 2) = ((m + 1 : Nat) : Int) + 1 := by omega
      cases T with
      | sum a =>
        have hla := (lnW_ok hA).2
        have el : (akW (.sum a)).map V.str = .str "sum" :: ((lnW a).map V.str ++ []) := by rw [List.append_nil]; rfl
        rw [el] at hl
        walk_at "v"
        refine ⟨_, rfl, ?_⟩
        walk_at "v"
        refine ⟨_, rfl, ?_⟩
        refine ⟨l, _, rfl, SqL.of hl, fun p1 hp1 => ?_⟩
        rw [two, cut_mid (by rw [List.length_map, hla])]
        have K1 : Same H (upd H p1 (.lst ((lnW a).map V.str))) := Same.new (Same.refl H) hp1
        have e1 : upd H p1 (.lst ((lnW a).map V.str)) p1 = some (.lst ((lnW a).map V.str)) := upd_same
        generalize upd H p1 (.lst ((lnW a).map V.str)) = H1 at K1 e1 ⊢
        walk_at "v"
        refine ⟨p1, a, m, rfl, e1, hA, hm, fun q1 H2 K2 hq1 => ?_⟩
        have K12 := K1.trans K2
        walk_at "v"
        refine w_ixL (v := .str "sum") (K12 _ _ hl) at0 ?_
        walk_at "v"
        refine ⟨rfl, ?_⟩
        refine ⟨_, rfl, ?_⟩
        refine iteT ?_
        walk_at "v"
        refine ⟨by show 2 ≤ sizeLine; decide, fun q hq => ?_⟩
        obtain ⟨b, hb1, hb2⟩ := hq1
        exact k q _ (K12.new hq) ⟨q1, upd_same, b, by rw [upd_ne (ne_of_none hb1 hq)]; exact hb1, by rw [upd_ne (ne_of_none hb2 hq)]; exact hb2⟩
      | part a d =>
        have hla := (lnW_ok hA.1).2
        have el : (akW (.part a d)).map V.str = .str "part" :: ((lnW a).map V.str ++ [.str (fT d)]) := by show V.str "part" :: (lnW a ++ _).map V.str = _; rw [List.map_append]; rfl
        rw [el] at hl
        walk_at "v"
        refine ⟨_, rfl, ?_⟩
        walk_at "v"
        refine ⟨_, rfl, ?_⟩
        refine ⟨l, _, rfl, SqL.of hl, fun p1 hp1 => ?_⟩
        rw [two, cut_mid (by rw [List.length_map, hla])]
        have K1 : Same H (upd H p1 (.lst ((lnW a).map V.str))) := Same.new (Same.refl H) hp1
        have e1 : upd H p1 (.lst ((lnW a).map V.str)) p1 = some (.lst ((lnW a).map V.str)) := upd_same
        generalize upd H p1 (.lst ((lnW a).map V.str)) = H1 at K1 e1 ⊢
        walk_at "v"
        refine ⟨p1, a, m, rfl, e1, hA.1, hm, fun q1 H2 K2 hq1 => ?_⟩
        have K12 := K1.trans K2
        walk_at "v"
        have nd := num_ok (i := d) (by have := hA.2.1; omega) (by have := hA.2.2; omega)
        refine w_ixL (v := .str "part") (K12 _ _ hl) at0 ?_
        walk_at "v"
        refine ⟨rfl, ?_⟩
        refine ⟨_, rfl, ?_⟩
        refine iteF ?_
        walk_at "v"
        refine w_ixL (v := .str "part") (K12 _ _ hl) at0 ?_
        walk_at "v"
        refine ⟨rfl, ?_⟩
        refine ⟨_, rfl, ?_⟩
        refine iteT ?_
        walk_at "v"
        refine ⟨_, rfl, ?_⟩
        refine w_ixL (v := .str (fT d)) (K12 _ _ hl) (by rw [← List.cons_append]; exact atI_last _ _) ?_
        walk_at "v"
        refine ⟨_, _, rfl, nd.rd, Nat.le_trans nd.l3 (by decide), ?_⟩
        walk_at "v"
        refine ⟨by show 3 ≤ sizeLine; decide, fun q hq => ?_⟩
        obtain ⟨b, hb1, hb2⟩ := hq1
        exact k q _ (K12.new hq) ⟨q1, upd_same, b, by rw [upd_ne (ne_of_none hb1 hq)]; exact hb1, by rw [upd_ne (ne_of_none hb2 hq)]; exact hb2⟩
      | two x a b =>
        have nx1 : ¬ x = "part" := by rcases hA.1 with rfl | rfl | rfl | rfl <;> decide +kernel
        have nx2 : ¬ x = "sum" := by rcases hA.1 with rfl | rfl | rfl | rfl <;> decide +kernel
        have hla := (lnW_ok hA.2.1).2
        have el : (akW (.two x a b)).map V.str = .str x :: ((lnW a).map V.str ++ (.str "/" :: (lnW b).map V.str)) := by show V.str x :: (lnW a ++ _).map V.str = _; rw [List.map_append]; rfl
        rw [el] at hl
        walk_at "v"
        refine ⟨_, rfl, ?_⟩
        walk_at "v"
        refine ⟨_, rfl, ?_⟩
        refine ⟨l, _, rfl, SqL.of hl, fun p1 hp1 => ?_⟩
        rw [two, cut_mid (by rw [List.length_map, hla])]
        have K1 : Same H (upd H p1 (.lst ((lnW a).map V.str))) := Same.new (Same.refl H) hp1
        have e1 : upd H p1 (.lst ((lnW a).map V.str)) p1 = some (.lst ((lnW a).map V.str)) := upd_same
        generalize upd H p1 (.lst ((lnW a).map V.str)) = H1 at K1 e1 ⊢
        walk_at "v"
        refine ⟨p1, a, m, rfl, e1, hA.2.1, hm, fun q1 H2 K2 hq1 => ?_⟩
        have K12 := K1.trans K2
        walk_at "v"
        have three : ((m : Int) + 3) = ((m + 2 : Nat) : Int) + 1 := by omega
        refine w_ixL (v := .str x) (K12 _ _ hl) at0 ?_
        walk_at "v"
        refine ⟨rfl, ?_⟩
        refine ⟨_, rfl, ?_⟩
        refine iteD (fun z => absurd (V.str.inj z) nx2) (fun _ => ?_)
        walk_at "v"
        refine w_ixL (v := .str x) (K12 _ _ hl) at0 ?_
        walk_at "v"
        refine ⟨rfl, ?_⟩
        refine ⟨_, rfl, ?_⟩
        refine iteD (fun z => absurd (V.str.inj z) nx1) (fun _ => ?_)
        walk_at "v"
        refine w_ixL (v := .str x) (K12 _ _ hl) at0 ?_
        walk_at "v"
        refine ⟨_, rfl, ?_⟩
        walk_at "v"
        refine ⟨l, _, rfl, SqL.of (K12 _ _ hl), fun p2 hp2 => ?_⟩
        have ec : cutV (V.str x :: ((lnW a).map V.str ++ (.str "/" :: (lnW b).map V.str))) (some ((m : Int) + 3)) none = (lnW b).map V.str := by
          have z : (lnW a).map V.str ++ (V.str "/" :: (lnW b).map V.str) = ((lnW a).map V.str ++ [V.str "/"]) ++ (lnW b).map V.str := by rw [List.append_assoc]; rfl
          rw [z, three]
          exact cut_rest (by rw [List.length_append, List.length_map, hla]; rfl)
        rw [ec]
        have K3 : Same H2 (upd H2 p2 (.lst ((lnW b).map V.str))) := Same.new (Same.refl H2) hp2
        have e3 : upd H2 p2 (.lst ((lnW b).map V.str)) p2 = some (.lst ((lnW b).map V.str)) := upd_same
        generalize upd H2 p2 (.lst ((lnW b).map V.str)) = H3 at K3 e3 ⊢
        walk_at "v"
        refine ⟨p2, b, m, rfl, e3, hA.2.2, hm, fun q2 H4 K4 hq2 => ?_⟩
        walk_at "v"
        refine ⟨by show 3 ≤ sizeLine; decide, fun q hq => ?_⟩
        obtain ⟨b1, hb1, hb2⟩ := hq1
        obtain ⟨b2, hc1, hc2⟩ := hq2
        have K34 := K3.trans K4
        exact k q _ ((K12.trans K34).new hq) ⟨q1, q2, upd_same, ⟨b1, by rw [upd_ne (ne_of_none (K34 _ _ hb1) hq)]; exact K34 _ _ hb1, by rw [upd_ne (ne_of_none (K34 _ _ hb2) hq)]; exact K34 _ _ hb2⟩, ⟨b2, by rw [upd_ne (ne_of_none hc1 hq)]; exact hc1, by rw [upd_ne (ne_of_none hc2 hq)]; exact hc2⟩⟩
end
end K23

set_option Elab.async false
set_option linter.all false
set_option maxRecDepth 100000
namespace L2
open PySem PySem.Spec PyProof.Rows
/-! ### an exception on its way -/
/-- the exception's object at a: its class, its dict; its traceback (where there is one) at T, fl: the frame in which it is in flight; all of it is made at lo or later, and untracked -/
structure Fly (lo : Nat) (h : Heap) (H : Hp) (a : Addr) (T : Option Addr) (C : Value) (d : Option Addr) (fl : Value) : Prop where
  at_ : ∃ (vs : Array Value) (sl : Array (Option Value)), h.get? a = some ⟨C, d, .fields vs, sl⟩ ∧
    (match T with
      | none => vs[1]? = some .none
      | some t => vs[1]? = some (.ref t) ∧ t ≠ a ∧ ∃ oT ts, h.get? t = some oT ∧ oT.data = .fields ts ∧ ts[3]? = some fl)
  lo : ∀ b ∈ a :: T.toList, lo ≤ b ∧ H b = none
theorem Fly.mono {lo lo' : Nat} {h : Heap} {H : Hp} {a : Addr} {T : Option Addr} {C : Value} {d : Option Addr} {fl : Value} (f : Fly lo h H a T C d fl) (hl : lo' ≤ lo) : Fly lo' h H a T C d fl :=
  ⟨f.at_, fun b hb => ⟨Nat.le_trans hl (f.lo b hb).1, (f.lo b hb).2⟩⟩
/-- what is on its way is a record -/
theorem Fly.rcd {lo : Nat} {h : Heap} {H : Hp} {a : Addr} {T : Option Addr} {C : Value} {d : Option Addr} {fl : Value} (f : Fly lo h H a T C d fl) : ∀ b ∈ a :: T.toList, ∃ o vs, h.get? b = some o ∧ o.data = .fields vs := by
  obtain ⟨vs, sl, ha, hT⟩ := f.at_
  intro b hb
  rcases List.mem_cons.mp hb with e | hb
  · rw [e]; exact ⟨_, vs, ha, rfl⟩
  · cases T with
    | none => cases hb
    | some t =>
      obtain ⟨_, _, oT, ts, h1, h2, _⟩ := hT
      rcases List.mem_singleton.mp hb with rfl
      exact ⟨oT, ts, h1, h2⟩
/-- all that is tracked stays, where only records that are not tracked and slots of frames change -/
theorem hok_un {P : Program} {w : World} {fs ch : List Addr} {H : Hp} {h h' : Heap} (ok : HOk P w H h) (k : ∀ b o, h.get? b = some o → b ∉ fs → b ∉ ch → h'.get? b = some o) (hf : ∀ b ∈ fs, H b = none) (hc : ∀ b ∈ ch, H b = none) : HOk P w H h' := fun a o e => by
  have st : ∀ b u, H b = some u → ∀ ob, h.get? b = some ob → h'.get? b = some ob := fun b u hb ob q => k b ob q (fun z => by rw [hf b z] at hb; cases hb) fun z => by rw [hc b z] at hb; cases hb
  refine (ok a o e).stay (fun b u hb q => ?_) (fun _ q => q) fun _ _ q => q
  rcases hb with rfl | hb
  · exact st _ _ e _ q
  · exact st _ _ hb _ q
theorem un_of {fs ch : List Addr} {H : Hp} {h h' : Heap} (k : ∀ b o, h.get? b = some o → b ∉ fs → b ∉ ch → h'.get? b = some o) (sl : ∀ b o, h.get? b = some o → b ∉ ch → ∃ z, h'.get? b = some { o with slots := z }) : Un fs ch H H h h' where
  keep := fun b o q _ hb hx => k b o q hb hx
  slot := fun b o q _ _ hx => sl b o q hx
  free := fun b o _ n _ => n
  there := fun b o q hx => let ⟨_, e⟩ := sl b o q hx; ⟨_, e⟩
  tups := fun _ _ q => q
  frzs := fun _ _ _ q => q
  tbls := fun b ps e => ⟨#[], by rw [e]; simp⟩
section
variable {M : Model} {A : Around} {E : Value → Shared → Prop} {s : Shared} {base : Heap} {env : Env} {outer : List Env} {L a : Addr} {T : Option Addr} {C : Value} {d : Option Addr} {H : Hp} {lo : Nat} {fl : Value} {Q : Unit → Shared → Prop}
/-- a new entry of the traceback -/
theorem entry_x {oe : Obj} {vs : Array Value} {head : Value} {hadNext : Bool} (hfr : A.frames = some (env :: outer)) (hl : s.heap.FunFrames base (env :: outer)) (hf : env.frame = some L)
    (he : s.heap.get? a = some oe) (hd : oe.data = .fields vs) (hsz : 1 < vs.size)
    (h : ∀ h' T', s.heap.objs.size ≤ T' → T' ≠ a → h'.get? a = some { oe with data := .fields (vs.setIfInBounds 1 (.ref T')) } → (∃ oT ts, h'.get? T' = some oT ∧ oT.data = .fields ts ∧ ts[3]? = some (rawInt L)) →
      (∀ b o, s.heap.get? b = some o → b ∉ frs (env :: outer) → b ≠ a → h'.get? b = some o) → (∀ b o, s.heap.get? b = some o → b ≠ a → ∃ z, h'.get? b = some { o with slots := z }) → Q () { s with heap := h' }) :
    wpAny M A (do let x ← frameOf env; let pl ← entryPlaceOf L hadNext; let b ← EntryCells.newEntry head x .none (rawInt L) .none pl; setField (.ref a) 1 b) Q E s := by
  have hene : a ∉ (env :: outer).filterMap (·.frame) := fun hm => by
    obtain ⟨_, o, ho, hnf⟩ := hl.mem hm
    rw [he] at ho; injection ho with ho; subst ho; exact hnf vs hd
  refine wpAny_bind (wpAny_frameOf_fun hfr hl hf fun h₁ hs₁ => ?_)
  refine wpAny_bind (wpAny_entryPlaceOf fun pl hpl => ?_)
  unfold EntryCells.newEntry newFields
  refine wpAny_bind (wpAny_newObj_type ?_ (hpl.sizeOk5 _ _ _ _ _))
  have he₁ : h₁.get? a = some oe := (hs₁.2.1 a hene).trans he
  have he₂ := Heap.get?_push_of_some (h := h₁) { cls := .type "traceback", dict := none, data := .fields ([head, .ref L, .none, rawInt L, .none] ++ (if pl.isEmpty then List.replicate 6 Value.none else pl)).toArray } he₁
  refine wpAny_setField he₂ hd hsz ?_
  have hTe : h₁.objs.size ≠ a := Nat.ne_of_gt (Heap.lt_size he₁)
  have hd₃ := Obj.data_mapFields hd (·.setIfInBounds 1 (Value.ref h₁.objs.size))
  have he₃ := Heap.get?_update_self (Obj.mapFields (·.setIfInBounds 1 (Value.ref h₁.objs.size))) he₂ (Obj.isFreed_of_fields hd₃)
  have hT₃ := (Heap.get?_update_other (h₁.push { cls := .type "traceback", dict := none, data := .fields ([head, .ref L, .none, rawInt L, .none] ++ (if pl.isEmpty then List.replicate 6 Value.none else pl)).toArray })
    (Obj.mapFields (·.setIfInBounds 1 (Value.ref h₁.objs.size))) (Ne.symm hTe)).trans (Heap.get?_push_size h₁ rfl)
  have keep : ∀ b o, b ≠ a → h₁.get? b = some o →
      ((h₁.push { cls := .type "traceback", dict := none, data := .fields ([head, .ref L, .none, rawInt L, .none] ++ (if pl.isEmpty then List.replicate 6 Value.none else pl)).toArray }).update a (Obj.mapFields (·.setIfInBounds 1 (Value.ref h₁.objs.size)))).get? b = some o :=
    fun b o hbe hb => by
      rw [Heap.get?_update_other _ _ (Ne.symm hbe)]
      exact Heap.get?_push_of_some _ hb
  have hmf : Obj.mapFields (·.setIfInBounds 1 (Value.ref h₁.objs.size)) oe = { oe with data := .fields (vs.setIfInBounds 1 (.ref h₁.objs.size)) } := by
    obtain ⟨oc, od, odt, osl⟩ := oe
    have : odt = .fields vs := hd
    subst this
    rfl
  refine h _ h₁.objs.size (Nat.le_of_eq hs₁.1.symm) hTe (by rw [← hmf]; exact he₃) ⟨_, _, hT₃, rfl, ?_⟩ (fun b o hb hnf hne => keep b o hne ((hs₁.2.1 b hnf).trans hb)) fun b o hb hne => ?_
  · first | (simp; done) | (rcases hpl with rfl | ⟨_, _, _, _, _, _, _, rfl⟩ <;> simp)
  · obtain ⟨z, hz⟩ := hs₁.2.2 b o hb
    exact ⟨z, keep b _ hne hz⟩
/-- the frame is noted in the traceback -/
theorem note_x (hfr : A.frames = some (env :: outer)) (hl : s.heap.FunFrames base (env :: outer)) (hf : env.frame = some L) (F : Fly lo s.heap H a T C d .none) (hlo : lo ≤ s.heap.objs.size) (hH : ∀ b, s.heap.objs.size ≤ b → H b = none)
    (h : ∀ h' T', Fly lo h' H a (some T') C d (rawInt L) → s.heap.objs.size ≤ T' → (∀ b o, s.heap.get? b = some o → b ∉ frs (env :: outer) → b ∉ a :: T.toList → h'.get? b = some o) →
      (∀ b o, s.heap.get? b = some o → b ∉ a :: T.toList → ∃ z, h'.get? b = some { o with slots := z }) → Q () { s with heap := h' }) :
    wpAny M A (noteFrame (.ref a) env) Q E s := by
  obtain ⟨⟨vs, sl, ha, hT⟩, hlow⟩ := F
  unfold noteFrame
  simp only [hf]
  cases T with
  | none =>
    refine wpAny_bind (wpAny_field ha rfl hT ?_)
    rw [if_neg (by decide)]
    refine entry_x hfr hl hf ha rfl (Array.getElem?_eq_some_iff.mp hT).1 fun h' T' hs hne he htb k1 k2 => ?_
    obtain ⟨oT, ts, t1, t2, t3⟩ := htb
    refine h h' T' ⟨⟨_, sl, he, by simp [(Array.getElem?_eq_some_iff.mp hT).1], hne, oT, ts, t1, t2, t3⟩, fun b hb => ?_⟩ hs (fun b o hb hn hc => k1 b o hb hn fun z => hc (by simp [z])) fun b o hb hc => k2 b o hb fun z => hc (by simp [z])
    rcases List.mem_cons.mp hb with e | hb
    · rw [e]; exact hlow a List.mem_cons_self
    · rcases List.mem_singleton.mp hb with rfl
      exact ⟨Nat.le_trans hlo hs, hH _ hs⟩
  | some t =>
    obtain ⟨h1, hta, oT, ts, g1, g2, g3⟩ := hT
    refine wpAny_bind (wpAny_field ha rfl h1 ?_)
    rw [if_pos (show (Value.ref t != Value.none) = true from by simp)]
    refine wpAny_bind (wpAny_field g1 g2 g3 ?_)
    rw [if_neg (show ¬ ((Value.none == rawInt L) = true) from by simp [rawInt])]
    refine wpAny_bind (wpAny_setField g1 g2 (Array.getElem?_eq_some_iff.mp g3).1 ?_)
    have other : ∀ b, b ≠ t → (s.heap.update t (Obj.mapFields (·.setIfInBounds 3 Value.none))).get? b = s.heap.get? b := fun b hb => Heap.get?_update_other _ _ (Ne.symm hb)
    have noRecord : ∀ b o, s.heap.get? b = some o → (∀ vs, o.data ≠ .fields vs) → b ≠ t := fun b o hb hnf q => by
      rw [q, g1] at hb; injection hb with hb; subst hb; exact hnf ts g2
    have szu : (s.heap.update t (Obj.mapFields (·.setIfInBounds 3 Value.none))).objs.size = s.heap.objs.size := Heap.size_after_update ..
    refine entry_x (s := { s with heap := s.heap.update t (Obj.mapFields (·.setIfInBounds 3 Value.none)) }) hfr (hl.of_keeps fun b o hb hnf => ⟨o, (other b (noRecord b o hb hnf)).trans hb, rfl⟩) hf ((other a (Ne.symm hta)).trans ha) rfl (Array.getElem?_eq_some_iff.mp h1).1 fun h' T' hs hne he htb k1 k2 => ?_
    have hs' : s.heap.objs.size ≤ T' := by
      have hs : (s.heap.update t (Obj.mapFields (·.setIfInBounds 3 Value.none))).objs.size ≤ T' := hs
      rw [szu] at hs; exact hs
    obtain ⟨oT', ts', t1, t2, t3⟩ := htb
    refine h h' T' ⟨⟨_, sl, he, by simp [(Array.getElem?_eq_some_iff.mp h1).1], hne, oT', ts', t1, t2, t3⟩, fun b hb => ?_⟩ hs' (fun b o hb hn hc => k1 b o ((other b fun z => hc (by simp [z])).trans hb) hn fun z => hc (by simp [z])) fun b o hb hc => k2 b o ((other b fun z => hc (by simp [z])).trans hb) fun z => hc (by simp [z])
    rcases List.mem_cons.mp hb with e | hb
    · rw [e]; exact hlow a List.mem_cons_self
    · rcases List.mem_singleton.mp hb with rfl
      exact ⟨Nat.le_trans hlo hs', hH _ hs'⟩
/-- no longer in flight -/
theorem land_x {t : Addr} (F : Fly lo s.heap H a (some t) C d fl)
    (h : ∀ h', Fly lo h' H a (some t) C d .none → (∀ b o, s.heap.get? b = some o → b ≠ t → h'.get? b = some o) → Q () { s with heap := h' }) : wpAny M A (setFlight (.ref a) none) Q E s := by
  obtain ⟨⟨vs, sl, ha, h1, hta, oT, ts, g1, g2, g3⟩, hlow⟩ := F
  have hsz3 : 3 < ts.size := (Array.getElem?_eq_some_iff.mp g3).1
  have other : ∀ b, b ≠ t → (s.heap.update t (Obj.mapFields (·.setIfInBounds 3 ((none : Option Addr).elim Value.none fun f => rawInt f)))).get? b = s.heap.get? b :=
    fun b hb => Heap.get?_update_other _ _ (Ne.symm hb)
  unfold setFlight
  refine wpAny_bind (wpAny_field ha rfl h1 ?_)
  rw [if_pos (show (Value.ref t != Value.none) = true from by simp)]
  refine wpAny_setField g1 g2 hsz3 (h _ ⟨⟨vs, sl, (other a (Ne.symm hta)).trans ha, h1, hta, _, _, Heap.get?_update_self _ g1 (Obj.isFreed_of_fields (Obj.data_mapFields g2 _)), Obj.data_mapFields g2 _, by simp [hsz3]⟩, hlow⟩ fun b o hb hn => (other b hn).trans hb)
end
end L2

set_option Elab.async false
set_option linter.all false
set_option maxRecDepth 100000
namespace L2
open PySem PySem.Spec PyProof.Rows
/-! ### how an exception lies behind a call -/
def CXE (P : Program) (w : World) : CXT := fun outer H s E e s' => ∃ (a : Addr) (T : Option Addr) (C : Value) (d : Option Addr) (H' : Hp), e = .ref a ∧ s'.os = s.os ∧ AllBare s'.gens ∧ Un (frs outer) [] H H' s.heap s'.heap ∧
  HOk P w H' s'.heap ∧ Fly s.heap.objs.size s'.heap H' a T C d .none ∧ E C d H'
/-- an exception that is wanted lands: EX tells what is wanted, by the values of the names -/
def Lands (X : Cx) (EX : St → XK) : Prop := ∀ (pins : List (Addr × Obj)) (σ : St) (H : Hp) (s : Shared) (a : Addr) (T : Option Addr) (C : Value) (d : Option Addr), Inv X pins σ H s → Fly X.s₀.heap.objs.size s.heap H a T C d .none →
  (∀ p ∈ X.pn, p.1 ∉ a :: T.toList) → EX σ C d H → X.xe (.ref a) s
theorem Un.more {fs : List Addr} {H H' : Hp} {h h' h'' : Heap} (u : Un fs [] H H' h h') (k : ∀ b o, b < h.objs.size → h'.get? b = some o → b ∉ fs → h''.get? b = some o) (sl : ∀ b o, b < h.objs.size → h'.get? b = some o → ∃ z, h''.get? b = some { o with slots := z }) : Un fs [] H H' h h'' where
  keep := fun b o q n hb hx => k b o (Heap.lt_size q) (u.keep b o q n hb hx) hb
  slot := fun b o q n hb hx => by
    obtain ⟨z, e⟩ := u.slot b o q n hb hx
    obtain ⟨z', e'⟩ := sl b _ (Heap.lt_size q) e
    exact ⟨z', e'⟩
  free := u.free
  there := fun b o q hx => by
    obtain ⟨o', e⟩ := u.there b o q hx
    obtain ⟨z, e'⟩ := sl b _ (Heap.lt_size q) e
    exact ⟨_, e'⟩
  tups := u.tups
  frzs := u.frzs
  tbls := u.tbls
/-- out of a def: the frame is left -/
theorem lands_cx {P : Program} {w : World} {K : PySem.W.Frag} {mg : Str → Option Value} {base : Heap} {N : List Str} {qual : Str} {scope : Scope} {f : Addr} {cd : Value} {A : Around} {outer : List Env} {s : Shared} {H : Hp} {E : XK} :
    Lands (cxOf (CXE P w) P w K mg base N qual scope f cd A outer s H E) (fun _ => E) := by
  intro pins σ H' s' a T C d I F hp hE
  show wpAny (model P w) (A.deeper (envOfC qual scope s.heap.objs.size f cd)) (leaving (envOfC qual scope s.heap.objs.size f cd) (.ref a)) (fun _ s'' => CXE P w outer H s E (.ref a) s'') (fun e' s'' => CXE P w outer H s E e' s'') s'
  unfold leaving
  have hstk := I.stack
  have hfr := I.stkFree
  refine wpAny_bind (note_x I.ok.frames hstk rfl F I.sz (fun b hb => I.hok.fresh hb) fun h1 T1 F1 hT1 k1 k2 => ?_)
  refine land_x (s := { s' with heap := h1 }) F1 fun h2 F2 k3 => ?_
  have low : ∀ b, b < s.heap.objs.size → b ∉ a :: T.toList := fun b hb z => absurd (Nat.lt_of_lt_of_le hb (F.lo b z).1) (Nat.lt_irrefl _)
  have hsz : s.heap.objs.size ≤ s'.heap.objs.size := I.sz
  have nT1 : ∀ b, b < s'.heap.objs.size → b ≠ T1 := fun b hb z => absurd (Nat.lt_of_lt_of_le (z ▸ hb) hT1) (Nat.lt_irrefl _)
  refine ⟨a, some T1, C, d, H', rfl, I.os, I.bare, Un.more I.base (fun b o hb q hn => ?_) (fun b o hb q => ?_), ?_, F2, hE⟩
  · refine k3 b o (k1 b o q (fun z => ?_) (low b hb)) (nT1 b (Nat.lt_of_lt_of_le hb hsz))
    rcases List.mem_cons.mp z with z | z
    · exact absurd (Nat.lt_of_lt_of_le hb (Nat.le_trans I.ok.above (Nat.le_of_eq z.symm))) (Nat.lt_irrefl _)
    · exact hn z
  · obtain ⟨z, e⟩ := k2 b o q (low b hb)
    exact ⟨z, k3 b _ e (nT1 b (Nat.lt_of_lt_of_le hb hsz))⟩
  · refine hok_un (fs := frs (envOfC qual scope s.heap.objs.size f cd :: outer)) (ch := T1 :: (a :: T.toList)) I.hok (fun b o q hn hc => ?_) hfr fun b hb => ?_
    · exact k3 b o (k1 b o q hn fun z => hc (List.mem_cons_of_mem _ z)) fun z => hc (by simp [z])
    · rcases List.mem_cons.mp hb with e | hb
      · rw [e]; exact I.hok.fresh hT1
      · exact (F.lo b hb).2
/-- out of a call -/
theorem Lands.passes {X : Cx} {EX : St → XK} (L : Lands X EX) {pins : List (Addr × Obj)} {σ : St} {H : Hp} {s s' : Shared} {e : Value} (I : Inv X pins σ H s) (h : CXE X.prog X.w X.stack H s (EX σ) e s') : X.xe e s' := by
  obtain ⟨a, T, C, d, H', rfl, os, bare, un, hok, F, hE⟩ := h
  have I' : Inv X pins σ H' s' := I.call' (ch := []) os un hok bare fun b hb => nomatch hb
  refine L pins σ H' s' a T C d I' (F.mono I.sz) (fun p hp hc => ?_) hE
  have q := (I.pin p (List.mem_append_left _ hp)).1
  exact absurd (Nat.lt_of_lt_of_le (Heap.lt_size q) (F.lo _ hc).1) (Nat.lt_irrefl _)
/-! ### calls of defs that may raise -/
def tCallX (sp : Sp) (EX : St → XK) (t : TA) : TE := fun σ H Q => t σ H fun vs H1 => sp vs H1 Q (EX σ)
section
variable {X : Cx} {EX : St → XK} {k j : Nat} {f : Addr} {fd : FuncData} {ps : List Str} {sp : Sp} {x : Str} {p pos : Pos} {e : Expr} {es : List Expr} {t : TA}
theorem run_fnX {pins : List (Addr × Obj)} {σ : St} {H : Hp} {s : Shared} {Q : VK} {us : List Value} {vs : List V} (F : FnOk X.prog X.w X.K X.mg X.base (CXE X.prog X.w) k f fd ps sp) (hr : Room k X.A) (hb : Binds X.K fd ps []) (hx : Lands X EX)
    (I : Inv X pins σ H s) (r : Vals vs us) (h : sp vs H Q (EX σ)) : wpAny (model X.prog X.w) X.A (call (.ref f) us) (EP X pins σ Q) X.xe s := by
  have hl : us.length = ps.length := by rw [← r.length]; exact F.len _ _ _ _ h
  have hb' := hb s us I.kIn (by rw [List.append_nil]; exact hl)
  rw [List.append_nil] at hb'
  refine wpAny_call (codeAny_mono (F.run X.A X.stack s H ⟨us, []⟩ us vs Q (EX σ) hr I.env0 hb' r h) fun r s' hq => ?_)
  cases r with
  | error e => exact hx.passes I hq
  | ok fl =>
    cases fl with
    | ret u => exact I.after hq
    | next => exact False.elim hq
    | brk => exact False.elim hq
    | cont => exact False.elim hq
/-- a def that may raise -/
def HasX (P : Program) (w : World) (K : PySem.W.Frag) (mg : Str → Option Value) (base : Heap) (k : Nat) (x : Str) (ps : List Str) (sp : Sp) : Prop :=
  ∃ (f : Addr) (fd : FuncData), FnOk P w K mg base (CXE P w) k f fd ps sp ∧ mg x = some (.ref f) ∧ PySem.W.keepIn K (.ref f) = true ∧ Binds K fd ps []
theorem pe_fX (h : HasX X.prog X.w X.K X.mg X.base k x ps sp) (L : Lands X EX) (hr : Room j X.A) (hkj : k ≤ j) (ha : PA X (e :: es) t) (hg : Gl X x := by rfl) (h1 : isStar e = false := by rfl) (h2 : es.all (fun e => !isStar e) = true := by rfl)
    (hdb : (x == ("__debug__" : Str)) = false := by decide) : PE X (.Call (.Name x p) (e :: es) [] pos) (tCallX sp EX t) := by
  obtain ⟨f, fd, F, hm, hk, hb⟩ := h
  intro pins s σ H Q I h
  refine wpAny_Call_Name_kw (ld_glob I hg hm ?_ hdb)
  refine PySem.W.callWith_K (h₀ := X.base) I.ok.mod.kin hk (thn (ha pos pins s σ H _ I h) fun us s1 ⟨vs, H1, I1, r, q⟩ => ⟨I1.kIn, ?_⟩) (star1 h1) (star_any h2)
  exact run_fnX F (hr.mono hkj) hb L I1 r q
/-- called where it does not raise -/
theorem FnOk.calm {P : Program} {w : World} {K : PySem.W.Frag} {mg : Str → Option Value} {base : Heap} (F : FnOk P w K mg base (CXE P w) k f fd ps sp) : FnOk P w K mg base CX0 k f fd ps (fun vs H Q _ => sp vs H Q E0) := by
  refine ⟨fun vs H Q E h => F.len vs H Q E0 h, fun A outer s H args us vs Q E hr he hb hv hs => codeAny_mono (F.run A outer s H args us vs Q E0 hr he hb hv hs) fun r s' hq => ?_⟩
  cases r with
  | error e =>
    obtain ⟨_, _, _, _, _, _, _, _, _, _, _, h⟩ := hq
    exact False.elim h
  | ok fl => cases fl <;> exact hq
theorem HasX.calm {P : Program} {w : World} {K : PySem.W.Frag} {mg : Str → Option Value} {base : Heap} (h : HasX P w K mg base k x ps sp) : Has P w K mg base k x ps (fun vs H Q _ => sp vs H Q E0) := by
  obtain ⟨f, fd, F, hm, hk, hb⟩ := h
  exact ⟨f, fd, F.calm, hm, hk, hb⟩
end
/-- THE RULE for a def that may raise -/
theorem Fun.okX {P : Program} {w : World} {K : PySem.W.Frag} {mg : Str → Option Value} {base : Heap} {x qual : Str} {st : Stmt} {f : Addr} {fd : FuncData} {N ps : List Str} {k : Nat} {sp : Sp} (F : Fun K x qual st f fd) (S : FnScope N ps (defScope st)) (len : ∀ vs H Q E, sp vs H Q E → vs.length = ps.length)
    (hbody : ∀ (cdv : Value) (A : Around) (outer : List Env) (s : Shared) (H : Hp) (vs : List V) (Q : VK) (E : XK), Room k (A.deeper (envOfC qual (defScope st) s.heap.objs.size f cdv)) → sp vs H Q E →
      Lands (cxOf (CXE P w) P w K mg base N qual (defScope st) f cdv A outer s H E) (fun _ => E) →
      ∃ t, PSs (cxOf (CXE P w) P w K mg base N qual (defScope st) f cdv A outer s H E) (defBody st) t ∧ t { nx := fun _ H' => Q .non H', rt := Q } (start N vs) H) : FnOk P w K mg base (CXE P w) (k + 1) f fd ps sp := by
  obtain ⟨oc, od, kV, doc, pm, an, cdv, ct, osl, rfl, lk, hcd⟩ := F.ex
  refine fn_of lk hcd S len fun A outer s H vs Q E hr hsp => ?_
  exact hbody cdv A outer s H vs Q E hr hsp lands_cx
end L2

set_option Elab.async false
set_option linter.all false
set_option maxRecDepth 100000
namespace L2
open PySem PySem.Spec PyProof.Rows
open Builtin Builtin.ObjectAttr
/-! ### own exception classes over ValueError -/
abbrev bmV : List Value := [.type "ValueError", .type "Exception", .type "BaseException", .type "object"]
inductive OverV : List Value → Prop
  | base : OverV bmV
  | own (a : Addr) {l : List Value} : OverV l → OverV (.ref a :: l)
theorem OverV.has {l : List Value} (h : OverV l) {X : String} {b : Bool} (hb : bmV.contains (.type X) = b) : l.contains (.type X) = b := by
  induction h with
  | base => exact hb
  | own a _ ih => rw [List.contains_cons, ih]; rfl
theorem OverV.passes {l : List Value} (h : OverV l) (self : Value) : refuseLoop self "__setattr__" l = pure () := by
  induction h with
  | base => exact PySem.F.store_ValueError.passes self
  | own a _ ih => rw [refuseLoop_ref]; exact ih
structure XC (K : PySem.W.Frag) (C : Addr) (bm : List Value) : Prop where
  at_ : ∃ (nm q : Str) (N : Addr) (bs : List Value) (sn : List Str) (sub : List Value) (ab : Bool) (col : Option Bool) (dd : Option Addr) (k0 k1 k2 k3 k5 : Option Value),
    K.lookup C = some (excClassObj nm q C N bs bm true sn sub ab col dd k0 k1 k2 k3 k5 "ValueError.__new__")
  ov : OverV bm
/-- its attributes are stored and read as those of any exception -/
structure XA (K : PySem.W.Frag) (C : Addr) : Prop where
  bm : ∃ bm, XC K C bm
  ga : PySem.W.findIn K (.ref C) "__getattribute__" = some (some (.builtin "BaseException.__getattribute__"))
  gt : PySem.W.findIn K (.ref C) "__getattr__" = some none
  sa : PySem.W.findIn K (.ref C) "__setattr__" = some (some (.builtin "object.__setattr__"))
  cl : PySem.W.findIn K (.ref C) "__class__" = some (some (.builtin "object.__class__"))
  sg : PySem.W.specialIn K (.builtin "object.__class__") "__get__" = some (some (.builtin "getset_descriptor.__get__"))
  tk : PySem.W.takesIn K (.builtin "object.__class__") = some true
end L2
namespace PySem
open Sem (wp)
open Builtin Builtin.ObjectAttr
open L2 (OverV)
section
variable {prog : Program} {w : World} {A : Around} {E : Value → Shared → Prop} {h : Heap} {g : Array GenState} {d : Drawn} {t : Nat} {os : OsState}
variable {nm q : Str} {C N : Addr} {bs bm : List Value} {sn : List Str} {sub : List Value} {ab : Bool} {col : Option Bool} {dd : Option Addr} {k0 k1 k2 k3 k5 : Option Value}
theorem check_new_x {M : Model} (T : OverV bm) {rest : List Value} {Q : Unit → Shared → Prop} (hC : h.get? C = some (excClassObj nm q C N bs bm true sn sub ab col dd k0 k1 k2 k3 k5 "ValueError.__new__"))
    (hq : Q () ⟨h, g, d, t, os⟩) : wpAny M A (checkBuiltinCall "ValueError.__new__" ⟨.ref C :: rest, []⟩) Q E ⟨h, g, d, t, os⟩ := by
  have F := PySem.F.excBase_ValueError
  have hcont : (Value.ref C :: bm).contains (.type "ValueError") = true := by rw [List.contains_cons, T.has F.hasB, Bool.or_true]
  have hstar := F.noStar
  simp only [checkBuiltinCall, F.newKind, F.newSplit, F.newRow]
  repeat (first | refine wpAny_loadPart_at hC ?_ | (refine wpAny_isSubtype_exc hC ?_; rw [hcont]) | refine wpAny_staticBase_exc hC ?_ | refine wpAny_madeBy_exc hC ?_ | simp only [bne_self_eq_false, Bool.false_eq_true, if_false] | wp_step)
  exact hq
theorem exc_new_x (T : OverV bm) {rest : List Value} {R : Result → Shared → Prop} (hC : h.get? C = some (excClassObj nm q C N bs bm true sn sub ab col dd k0 k1 k2 k3 k5 "ValueError.__new__"))
    (hq : R (.ok (.ret (.ref (h.objs.size + 1)))) ⟨(h.push { cls := .type "tuple", data := .seq rest.toArray }).push
      { cls := .ref C, data := .fields #[.ref h.objs.size, .none, .none, .none, .bool false, .none] }, g, d, t, os⟩) (hrest : rest.length ≤ sizeLine) :
    codeAny (model prog w) A (.builtin "ValueError.__new__" ⟨.ref C :: rest, []⟩) R ⟨h, g, d, t, os⟩ := by
  have F := PySem.F.excBase_ValueError
  have hends := F.ends
  have hcB : (Value.ref C :: bm).contains (.type "ValueError") = true := by rw [List.contains_cons, T.has F.hasB, Bool.or_true]
  have hcA : (Value.ref C :: bm).contains (.type "AttributeError") = false := by rw [List.contains_cons, T.has F.noAttr]; rfl
  have hcN : (Value.ref C :: bm).contains (.type "NameError") = false := by rw [List.contains_cons, T.has F.noName]; rfl
  refine codeAny_builtinAt F.entry ?_
  unfold Builtin.«BaseException.__new__»
  refine wpAt_bind ?_
  show wpAt _ _ _ (stack >>= _) _ _ _
  refine wpAt_bind (wpAt_stack fun p below => wpAt_of_wpAny ?_)
  wp_walk
  refine wpAt_of_wpAny ?_
  rw [F.owner]
  repeat (first | with_reducible refine wpAny_madeHere_exc F.canon hC ?_ | with_reducible refine wpAny_loadPart_at hC ?_ | (with_reducible refine wpAny_isSubtype_exc hC ?_; first | rw [hcB] | rw [hcA] | rw [hcN]) | wp_step)
  show R _ _
  rw [Heap.size_push]
  exact hq
/-- what is wanted of the end of a call -/
abbrev EndX (prog : Program) (w : World) (A : Around) (R : Result → Shared → Prop) (fin : Fin) (s' : Shared) : Prop := match fin with
  | .done f => R (.ok f) s'
  | .again c' => c'.quiet = true ∧ codeAny (model prog w) A c' R s'
theorem type_call_x (T : OverV bm) {rest : List Value} {fI : Addr} {Q : Fin → Shared → Prop} (hC : h.get? C = some (excClassObj nm q C N bs bm true sn sub ab col dd k0 k1 k2 k3 k5 "ValueError.__new__"))
    (hi : PySem.W.Looks (model prog w) h (typeLookup (.ref C) "__init__") (some (.ref fI))) (hf : ∀ self, PySem.W.Looks (model prog w) h (bindSpecial (.ref fI) self) (.ref fI, [self])) (hrest : rest.length ≤ sizeLine)
    (hq : wpAny (model prog w) A (call (.ref fI) (.ref (h.objs.size + 1) :: rest)) (fun r s' => r = .none ∧ Q (.done (.ret (.ref (h.objs.size + 1)))) s') E
      ⟨(h.push { cls := .type "tuple", data := .seq rest.toArray }).push { cls := .ref C, data := .fields #[.ref h.objs.size, .none, .none, .none, .bool false, .none] }, g, d, t, os⟩) :
    wpAny (model prog w) A (Builtin.«type.__call__» ⟨.ref C :: rest, []⟩) Q E ⟨h, g, d, t, os⟩ := by
  have F := PySem.F.excBase_ValueError
  repeat (first | with_reducible refine wpAny_loadPart_at hC ?_ | with_reducible refine wpAny_madeBy_exc hC ?_ | wp_step)
  refine codeAny_call_builtin_code (Code.quiet_builtin _ F.quiet) (check_new_x T hC ?_)
  refine exc_new_x T hC ?_ hrest
  show wpAny _ _ _ _ _ _
  have hC₁ := Heap.get?_push_of_some { cls := .ref C, data := .fields #[.ref h.objs.size, .none, .none, .none, .bool false, .none] }
    (Heap.get?_push_of_some { cls := .type "tuple", data := .seq rest.toArray } hC)
  have k : ∀ b o, h.get? b = some o → ((h.push { cls := .type "tuple", data := .seq rest.toArray }).push { cls := .ref C, data := .fields #[.ref h.objs.size, .none, .none, .none, .bool false, .none] }).get? b = some o := fun b o e => Heap.get?_push_of_some _ (Heap.get?_push_of_some _ e)
  have hget : ((h.push { cls := .type "tuple", data := .seq rest.toArray }).push
      { cls := .ref C, data := .fields #[.ref h.objs.size, .none, .none, .none, .bool false, .none] }).get? (h.objs.size + 1) = some
      { cls := .ref C, data := .fields #[.ref h.objs.size, .none, .none, .none, .bool false, .none] } := by heap_get
  have hcC : (Value.ref C :: bm).contains (.ref C) = true := by simp
  have i1 := hi.keeps k
  have b1 := (hf (.ref (h.objs.size + 1))).keeps k
  unfold isInstance
  repeat (first | with_reducible refine wpAny_loadPart_at hget ?_ | (with_reducible refine wpAny_isSubtype_exc hC₁ ?_; rw [hcC]) | wp_step)
  show wpAny _ _ (typeLookup (.ref C) _) _ _ _
  refine i1.at ?_
  refine wpAny_holding (wpAny_bind (b1.at ?_))
  refine wpAny_bind (wpAny_mono hq (fun r s' z => ?_) fun _ _ x => x)
  obtain ⟨rfl, z⟩ := z
  wp_walk
  exact z
/-- C(..): the arguments' tuple at the heap's end, the exception behind it; then its __init__ -/
theorem make_x (T : OverV bm) {rest : List Value} {fI : Addr} {Q : Value → Shared → Prop} (hC : h.get? C = some (excClassObj nm q C N bs bm true sn sub ab col dd k0 k1 k2 k3 k5 "ValueError.__new__"))
    (hi : PySem.W.Looks (model prog w) h (typeLookup (.ref C) "__init__") (some (.ref fI))) (hf : ∀ self, PySem.W.Looks (model prog w) h (bindSpecial (.ref fI) self) (.ref fI, [self])) (hrest : rest.length ≤ sizeLine)
    (hq : wpAny (model prog w) (A.under (.builtin "type.__call__" ⟨.ref C :: rest, []⟩)) (call (.ref fI) (.ref (h.objs.size + 1) :: rest)) (fun r s' => r = .none ∧ Q (.ref (h.objs.size + 1)) s') E
      ⟨(h.push { cls := .type "tuple", data := .seq rest.toArray }).push { cls := .ref C, data := .fields #[.ref h.objs.size, .none, .none, .none, .bool false, .none] }, g, d, t, os⟩) :
    wpAny (model prog w) A (call (.ref C) rest) Q E ⟨h, g, d, t, os⟩ := by
  have f1 := tc_lookup
  have f2 := tc_bind (.ref C)
  have hT : (⟨h, g, d, t, os⟩ : Shared).TypeIs (.ref C) "type" := ⟨_, hC, rfl⟩
  refine wpAny_call (codeAny_of_tree ?_)
  show wpAny _ _ (callAny (.ref C) _) _ _ _
  repeat (any_goals (first | assumption | with_reducible refine wpAny_loadPart_at hC ?_ | wp_step))
  refine ⟨rfl, ?_⟩
  refine codeAny_call_builtin_at (Code.quiet_builtin _ (by decide +kernel)) entry_typeCall (wpAny_check_type_call_sub hC (type_call_x T hC hi hf hrest ?_))
  exact hq
end
end PySem

set_option Elab.async false
set_option linter.all false
set_option maxRecDepth 100000
namespace PySem
open Sem (wp)
open Builtin Builtin.ObjectAttr
open L2 (OverV XC XA bmV)
section
variable {prog : Program} {w : World} {A : Around} {E : Value → Shared → Prop} {h : Heap} {g : Array GenState} {d : Drawn} {t : Nat} {os : OsState}
variable {nm q : Str} {C N x : Addr} {bs bm : List Value} {sn : List Str} {sub : List Value} {ab : Bool} {col : Option Bool} {dd : Option Addr} {k0 k1 k2 k3 k5 : Option Value}
  {mA : Str → Option Value} {name : Str} {v : Value}
theorem store_entry_x {tk : Tok} {Q : Fin → Shared → Prop} {ns : List Str} (T : OverV bm)
    (hC : h.get? C = some (excClassObj nm q C N bs bm true sn sub ab col dd k0 k1 k2 k3 k5 "ValueError.__new__")) (hna : PySem.W.Looks (model prog w) h (typeLookup (.ref C) name) none) (hxC : x ≠ C) (I : h.Inst x C mA)
    (hq : ∀ h' tk', h'.Inst x C (fun y => if y = name then some v else mA y) →
      (∀ b o, b ≠ x → (∀ o₀ dx, h.get? x = some o₀ → o₀.dict = some dx → b ≠ dx) → h.get? b = some o → h'.get? b = some o) →
      (∀ o₀, h.get? x = some o₀ → ∃ o₁, h'.get? x = some o₁ ∧ o₁.cls = o₀.cls ∧ o₁.data = o₀.data ∧ o₁.slots = o₀.slots ∧ (∀ dx, o₀.dict = some dx → o₁.dict = some dx) ∧ (o₀.dict = none → o₁.dict = some h.objs.size)) → Q (.done (.ret .none)) ⟨h', g, d, tk', os⟩) (hw : Within mA ns) (hsz : ns.length ≤ sizeLine) :
    wpAny (model prog w) A (Builtin.«object.__setattr__» ⟨[.ref x, .str name tk, v], []⟩) Q E ⟨h, g, d, t, os⟩ := by
  obtain ⟨o, hx, hc, hnc, hd⟩ := I
  have hpass := T.passes (.ref x)
  unfold Builtin.«object.__setattr__»
  repeat (first | rw [refuse_eq] | (rw [refuseLoop_ref, hpass]) | (with_reducible refine wpAny_loadPart_at hx ?_; rw [hc]) | with_reducible refine wpAny_mroOf_exc hC ?_ | with_reducible refine hna.at ?_ | wp_step)
  rcases hd with ⟨hdn, hmA⟩ | ⟨dx, hdx, hne, hns⟩
  · rw [hdn, if_neg (by simp [typeHasDict])]
    split
    · rename_i hcd
      cases hcd
    split
    · rename_i c hcd
      exact absurd hcd (hnc c)
    · have hx₁ : (h.push { cls := .type "dict", data := .dict #[] }).get? x = some o := Heap.get?_push_of_some _ hx
      have hxs : x ≠ h.objs.size := Nat.ne_of_lt (Heap.lt_size hx)
      refine wpAny_bind (wpAny_alloc' ?_)
      refine wpAny_bind (wpAny_update' hx₁ ?_)
      refine wpAny_pure ?_
      have hgd : ((h.push { cls := .type "dict", data := .dict #[] }).update x fun o => { cls := o.cls, dict := some h.objs.size, data := o.data, slots := o.slots }).get? h.objs.size
          = some { cls := .type "dict", data := .dict #[] } :=
        (Heap.get?_update_ne _ _ _ _ hxs.symm).trans (Heap.get?_push_at rfl rfl)
      have hnd : ((h.push { cls := .type "dict", data := .dict #[] }).update x fun o => { cls := o.cls, dict := some h.objs.size, data := o.data, slots := o.slots }).Ns h.objs.size (fun _ => none) :=
        ⟨_, #[], _, hgd, rfl, fun e he => absurd he (by simp), fun _ => rfl⟩
      show wpAny _ _ (storeInDict h.objs.size (.str name tk) name v) _ _ _
      unfold storeInDict newKeyGuard
      refine wpAny_bind (wpAny_pure (wpAny_bind (wpAny_nsSet1 (Heap.Ns1.of_empty hnd) fun h' hn' hs => ?_)))
      obtain ⟨oD, esD, epD, hoD, hdD, hcD⟩ := hn'.count (Within.cons name v Within.nil)
      refine wpAny_bind (wpAny_lookBehind hoD (by rw [hdD]; exact pastItsLine_dict (Nat.le_trans hcD (by rw [List.length_cons, List.length_nil, sizeLine_eq]; omega))) ?_)
      wp_walk
      have hx' : h'.get? x = some { cls := o.cls, dict := some h.objs.size, data := o.data, slots := o.slots } := ?_
      refine hq h' _ ⟨{ cls := o.cls, dict := some h.objs.size, data := o.data, slots := o.slots }, hx', hc, hnc, .inr ⟨h.objs.size, rfl, hxs.symm, ?_⟩⟩ (fun b ob hbx _ hb => ?_)
        (fun o₀ h₀ => by obtain rfl : o = o₀ := Option.some.inj (hx.symm.trans h₀); exact ⟨_, hx', rfl, rfl, rfl, fun dx e => (by rw [hdn] at e; cases e), fun _ => rfl⟩)
      · obtain ⟨o', es, ep, e1, e2, e3, eu, e4⟩ := hn'
        exact ⟨o', es, ep, e1, e2, e3, eu, fun y => by rw [e4 y]; by_cases hy : y = name <;> simp [hy, hmA]⟩
      · exact (hs.2 b (Nat.ne_of_lt (Heap.lt_size hb))).trans ((Heap.get?_update_ne _ _ _ _ hbx).trans (Heap.get?_push_of_some _ hb))
      · refine (hs.2 x hxs).trans (Heap.get?_update_self _ hx₁ ?_)
        have hfr := (Heap.get?_some_iff.mp hx).2
        obtain ⟨oc, od, odt, osl⟩ := o
        cases odt <;> first | rfl | exact hfr
  · rw [hdx]
    refine wpAny_pure ?_
    show wpAny _ _ (storeInDict dx (.str name tk) name v) _ _ _
    unfold storeInDict newKeyGuard
    refine wpAny_bind (wpAny_pure (wpAny_bind (wpAny_nsSet1 hns fun h' hn' hs => ?_)))
    obtain ⟨oD, esD, epD, hoD, hdD, hcD⟩ := hn'.count (Within.cons name v hw)
    refine wpAny_bind (wpAny_lookBehind hoD (by rw [hdD]; exact pastItsLine_dict (Nat.le_trans hcD (by rw [List.length_cons]; omega))) ?_)
    wp_walk
    refine hq h' _ ⟨o, (hs.2 x hne.symm).trans hx, hc, hnc, .inr ⟨dx, hdx, hne, hn'⟩⟩ (fun b ob _ hbd hb => ?_)
      (fun o₀ h₀ => ⟨o₀, (hs.2 x hne.symm).trans h₀, rfl, rfl, rfl, fun _ e => e, fun e => by obtain rfl : o = o₀ := Option.some.inj (hx.symm.trans h₀); rw [hdx] at e; cases e⟩)
    exact (hs.2 b (hbd o dx hx hdx)).trans hb
theorem check_sa_x {M : Model} {o : Obj} {nameV : Value} {Q : Unit → Shared → Prop} (T : OverV bm)
    (hC : h.get? C = some (excClassObj nm q C N bs bm true sn sub ab col dd k0 k1 k2 k3 k5 "ValueError.__new__")) (hx : h.get? x = some o) (hc : o.cls = .ref C) (hq : Q () ⟨h, g, d, t, os⟩) :
    wpAny M A (checkBuiltinCall "object.__setattr__" ⟨[.ref x, nameV, v], []⟩) Q E ⟨h, g, d, t, os⟩ := by
  have SF := PySem.F.store_ValueError
  have hcB : (Value.ref C :: bm).contains (.type "object") = true := by rw [List.contains_cons, T.has SF.hasOwner, Bool.or_true]
  have ha := SF.args (.ref x) nameV v
  simp only [checkBuiltinCall, SF.kind, SF.split]
  refine wpAny_bind ?_
  · unfold isInstance
    repeat (first | (with_reducible refine wpAny_loadPart_at hx ?_; rw [hc]) | (with_reducible refine wpAny_isSubtype_exc hC ?_; rw [hcB]) | wp_step)
    exact hq
theorem store_x {Q : Unit → Shared → Prop} {ns : List Str} (T : OverV bm)
    (hC : h.get? C = some (excClassObj nm q C N bs bm true sn sub ab col dd k0 k1 k2 k3 k5 "ValueError.__new__")) (hsa : PySem.W.Looks (model prog w) h (typeLookup (.ref C) "__setattr__") (some (.builtin "object.__setattr__")))
    (hna : PySem.W.Looks (model prog w) h (typeLookup (.ref C) name) none) (hxC : x ≠ C) (I : h.Inst x C mA)
    (hq : ∀ h' tk', h'.Inst x C (fun y => if y = name then some v else mA y) →
      (∀ b o, b ≠ x → (∀ o₀ dx, h.get? x = some o₀ → o₀.dict = some dx → b ≠ dx) → h.get? b = some o → h'.get? b = some o) →
      (∀ o₀, h.get? x = some o₀ → ∃ o₁, h'.get? x = some o₁ ∧ o₁.cls = o₀.cls ∧ o₁.data = o₀.data ∧ o₁.slots = o₀.slots ∧ (∀ dx, o₀.dict = some dx → o₁.dict = some dx) ∧ (o₀.dict = none → o₁.dict = some h.objs.size)) → Q () ⟨h', g, d, tk', os⟩) (hw : Within mA ns) (hsz : ns.length ≤ sizeLine) :
    wpAny (model prog w) A (setAttr (.ref x) name v) Q E ⟨h, g, d, t, os⟩ := by
  obtain ⟨o, hx, hc, _⟩ := id I
  have SF := PySem.F.store_ValueError
  have f3 := SF.slot.bind (.ref x)
  unfold setAttr callSpecial? specialOf
  repeat (any_goals (first | assumption | (with_reducible refine wpAny_loadPart_at hx ?_; rw [hc]) | with_reducible refine hsa.at ?_ | wp_step))
  refine codeAny_call_builtin SF.slot.plain SF.entry (check_sa_x T hC hx hc (store_entry_x T hC hna hxC I (fun h' tk' I' hk hsame => ?_) hw hsz))
  repeat (any_goals (first | assumption | wp_step))
  exact hq h' tk' I' hk hsame
end
section
variable {prog : Program} {w : World} {A : Around} {E : Value → Shared → Prop} {h : Heap} {g : Array GenState} {d : Drawn} {t : Nat} {os : OsState} {K : PySem.W.Frag}
variable {nm q : Str} {C N x : Addr} {bs bm : List Value} {sn : List Str} {sub : List Value} {ab : Bool} {col : Option Bool} {dd : Option Addr} {k0 k1 k2 k3 k5 : Option Value}
  {name : Str} {v : Value} {ox : Obj} {od : Option Obj}
theorem check_ga_x {M : Model} {nameV : Value} {Q : Unit → Shared → Prop} (T : OverV bm) (hC : h.get? C = some (excClassObj nm q C N bs bm true sn sub ab col dd k0 k1 k2 k3 k5 "ValueError.__new__"))
    (hx : h.get? x = some ox) (hc : ox.cls = .ref C) (hq : Q () ⟨h, g, d, t, os⟩) : wpAny M A (checkBuiltinCall "BaseException.__getattribute__" ⟨[.ref x, nameV], []⟩) Q E ⟨h, g, d, t, os⟩ := by
  have hk : builtinKind "BaseException.__getattribute__" = some .slot := by decide +kernel
  have hsplit : splitId "BaseException.__getattribute__" = some ("BaseException", "__getattribute__") := by decide +kernel
  have hcB : (Value.ref C :: bm).contains (.type "BaseException") = true := by rw [List.contains_cons, T.has (b := true) (by decide +kernel)]; rfl
  have ha := F.args_bexc_ga (.ref x) nameV
  simp only [checkBuiltinCall, hk, hsplit]
  refine wpAny_bind ?_
  · unfold isInstance
    repeat (first | (with_reducible refine wpAny_loadPart_at hx ?_; rw [hc]) | (with_reducible refine wpAny_isSubtype_exc hC ?_; rw [hcB]) | wp_step)
    exact hq
theorem load_x {expr : Bool} {Q : Value → Shared → Prop} (T : OverV bm) (hC : h.get? C = some (excClassObj nm q C N bs bm true sn sub ab col dd k0 k1 k2 k3 k5 "ValueError.__new__")) (X : K.In h)
    (hga : PySem.W.findIn K (.ref C) "__getattribute__" = some (some (.builtin "BaseException.__getattribute__"))) (hgt : PySem.W.findIn K (.ref C) "__getattr__" = some none)
    (I : PySem.W.InstAt h x ox C od) (hf : PySem.W.findObj K C od name = some (.value v)) (hh : PySem.W.handedIn v = true) (hq : Q v ⟨h, g, d, t + 1, os⟩) :
    wpAny (model prog w) A (getAttr (.ref x) name expr) Q E ⟨h, g, d, t, os⟩ := by
  have FB := PySem.F.attrBase_ValueError
  have f3 := FB.ga.bind (.ref x)
  have hx0 : (expr && onTheHeap (Value.builtin "BaseException.__getattribute__")) = false := by cases expr <;> rfl
  have hx2 : (Value.builtin "BaseException.__getattribute__" == Value.builtin "object.__getattribute__") = false := by decide +kernel
  have hx1 : (onTheHeap (Value.ref C) && Value.builtin "BaseException.__getattribute__" == Value.builtin "object.__getattribute__") = false := by rw [hx2]; rfl
  have L0 := I.type (M := model prog w)
  have L1 := PySem.W.looks_findIn (M := model prog w) X hga
  have L2 := PySem.W.looks_findIn (M := model prog w) X hgt
  have L3 := PySem.W.looks_find (M := model prog w) X I hf
  unfold getAttr getAttrBy
  refine wpAny_bind (wpAny_mkText (wpAny_holding (wpAny_bind (L0.at (wpAny_bind (L1.at ?_))))))
  dsimp only
  rw [hx1, if_neg (by decide)]
  unfold getAttrByItsOwn
  have ho : hookBefore (.ref C) = typeLookup (.ref C) "__getattr__" := rfl
  rw [ho]
  refine wpAny_bind (L2.at (wpAny_bind (wpAny_attempt (wpAny_holding ?_))))
  unfold callGetattribute
  rw [hx0, if_neg (by decide)]
  unfold boundAndCalled
  rw [f3]
  refine wpAny_bind (wpAny_pure ?_)
  refine wpAny_call (codeAny_call_builtin FB.ga.plain F.entry_bexc_ga (check_ga_x T hC I.at_ I.cls ?_))
  unfold Builtin.«object.__getattribute__»
  repeat (first | with_reducible refine L0.at ?_ | with_reducible refine L3.at ?_ | wp_step)
  show wpAny _ _ (handedOut v) _ _ _
  rw [PySem.W.handedOut_of hh]
  exact wpAny_pure hq
end
end PySem

set_option Elab.async false
set_option linter.all false
set_option maxRecDepth 100000
namespace L2
open PySem PySem.Spec PyProof.Rows
/-! ### exceptions in the abstract heap -/
def XObj (a C : Addr) (d : Option Addr) (vs : Array Value) : HO := .ext fun h => ∃ sl, h.get? a = some ⟨.ref C, d, .fields vs, sl⟩
def XDct (dx : Addr) (fs : List (Str × V)) : HO := .ext fun h => ∃ mA, h.Ns1 dx mA ∧ (∀ f, RelO (fs.lookup f) (mA f)) ∧ PySem.Within mA (fs.map (·.1))
section
variable {P : Program} {w : World} {H : Hp} {h : Heap} {a C dx : Addr} {d : Option Addr} {vs : Array Value} {fs : List (Str × V)}
theorem xobj_get (ok : HOk P w H h) (e : H a = some (XObj a C d vs)) : ∃ sl, h.get? a = some ⟨.ref C, d, .fields vs, sl⟩ := (ok a _ e).1
theorem xdct_get (ok : HOk P w H h) (e : H dx = some (XDct dx fs)) : ∃ mA, h.Ns1 dx mA ∧ (∀ f, RelO (fs.lookup f) (mA f)) ∧ PySem.Within mA (fs.map (·.1)) := (ok dx _ e).1
theorem xobj_ok {sl : Array (Option Value)} (e : h.get? a = some ⟨.ref C, d, .fields vs, sl⟩) : ObjOk P w H h a (XObj a C d vs) := ⟨⟨sl, e⟩, ⟨_, e⟩, fun h1 h2 ⟨z, q⟩ k => ⟨z, k _ q⟩⟩
theorem xdct_ok {mA : Str → Option Value} (n : h.Ns1 dx mA) (r : ∀ f, RelO (fs.lookup f) (mA f)) (wi : PySem.Within mA (fs.map (·.1))) : ObjOk P w H h dx (XDct dx fs) := by
  refine ⟨⟨mA, n, r, wi⟩, ?_, fun h1 h2 ⟨m, ⟨o, es, ep, e, c⟩, r, wi⟩ k => ⟨m, ⟨o, es, ep, k _ e, c⟩, r, wi⟩⟩
  obtain ⟨o, _, _, e, _⟩ := n
  exact ⟨o, e⟩
end
section
variable {X : Cx} {pins : List (Addr × Obj)} {σ : St} {H : Hp} {s : Shared} {h' : Heap}
theorem Inv.two {a dx : Addr} {o o' : HO} {φ : Heap → Prop} {t' : Nat} (I : Inv X pins σ H s) (mu : H a = some (.ext φ)) (hdx : s.heap.objs.size ≤ dx) (k : ∀ b u, b ≠ a → s.heap.get? b = some u → h'.get? b = some u) (ha : ∃ u, h'.get? a = some u)
    (n1 : ObjOk X.prog X.w (upd (upd H dx o) a o') h' dx o) (n2 : ObjOk X.prog X.w (upd (upd H dx o) a o') h' a o') : Inv X pins σ (upd (upd H dx o) a o') { s with heap := h', toks := t' } := by
  have hn : H dx = none := I.hok.fresh hdx
  have up : ∀ b, b ≠ a → b ≠ dx → upd (upd H dx o) a o' b = H b := fun b h1 h2 => by rw [upd_ne h1, upd_ne h2]
  have nea : ∀ b u, H b = some u → (∀ φ, u ≠ .ext φ) → b ≠ a ∧ b ≠ dx := fun b u e hu => ⟨fun z => by rw [z, mu] at e; exact hu φ (Option.some.inj e).symm, ne_of_none e hn⟩
  refine I.un ⟨fun b ob e n _ _ => k b ob (fun z => by rw [z, mu] at n; cases n) e, fun b ob e n _ _ => ⟨ob.slots, k b ob (fun z => by rw [z, mu] at n; cases n) e⟩, fun b ob e n _ => ?_, fun b ob e _ => ?_, fun b xs e => ?_, fun b ob u e => ?_, fun b ps e => ⟨#[], ?_⟩⟩ fun b u e => ?_
  · rw [up b (fun z => by rw [z, mu] at n; cases n) fun z => absurd (Nat.lt_of_lt_of_le (Heap.lt_size e) (z ▸ hdx)) (Nat.lt_irrefl _)]; exact n
  · by_cases q : b = a
    · rw [q]; exact ha
    · exact ⟨ob, k b ob q e⟩
  · have q := nea b _ e (fun _ z => by cases z); rw [up b q.1 q.2]; exact e
  · have q := nea b _ e (fun _ z => by cases z); rw [up b q.1 q.2]; exact e
  · have q := nea b _ e (fun _ z => by cases z); rw [up b q.1 q.2, e]; simp
  · by_cases q : b = a
    · rw [q, upd_same] at e; cases e; rw [q]; exact n2
    · by_cases q2 : b = dx
      · rw [q2] at q; rw [q2, upd_ne q, upd_same] at e; cases e; rw [q2]; exact n1
      · rw [up b q q2] at e
        refine (I.hok b u e).stay (fun c v hc z => k c v (fun y => ?_) z) (fun c z => ?_) fun c xs z => ?_
        · rcases hc with hc | hc
          · exact q (hc ▸ y)
          · rw [y, mu] at hc; cases hc
        · have q := nea c _ z (fun _ z => by cases z); rw [up c q.1 q.2]; exact z
        · have q := nea c _ z (fun _ z => by cases z); rw [up c q.1 q.2]; exact z
theorem Inv.inst {a C : Addr} {d : Option Addr} {vs : Array Value} {bm : List Value} (I : Inv X pins σ H s) (e : H a = some (XObj a C d vs)) (xc : XC X.K C bm) : a ≠ C := by
  obtain ⟨nm, q, N, bs, sn, sub, ab, col, dd, k0, k1, k2, k3, k5, hl⟩ := xc.at_
  have hC := I.kIn _ _ hl
  obtain ⟨sl, ha⟩ := xobj_get I.hok e
  rintro rfl
  rw [hC] at ha
  cases ha
/-- behind a store -/
def XSt (H : Hp) (a C : Addr) (d : Option Addr) (vs : Array Value) (f : Str) (y : V) (G : Hp → Prop) : Prop := match d with
  | none => ∀ dx, H dx = none → dx ≠ a → G (upd (upd H dx (XDct dx [(f, y)])) a (XObj a C (some dx) vs))
  | some dx => ∃ fs, H dx = some (XDct dx fs) ∧ fs.length < 100 ∧ G (upd H dx (XDct dx (putF f y fs)))
/-- o.f = e, o an exception -/
theorem setattr_x {A : Around} {E : Value → Shared → Prop} {a C : Addr} {d : Option Addr} {vs : Array Value} {f : Str} {y : V} {u : Value} {Q : Unit → Shared → Prop} (I : Inv X pins σ H s) (e : H a = some (XObj a C d vs)) (xa : XA X.K C) (n : NoAttr X.K C f) (ry : RelV y u)
    (h : XSt H a C d vs f y fun H' => ∀ s', Inv X pins σ H' s' → Q () s') : wpAny (model X.prog X.w) A (setAttr (.ref a) f u) Q E s := by
  obtain ⟨bm, xc⟩ := xa.bm
  have hne := I.inst e xc
  obtain ⟨nm, q, N, bs, sn, sub, ab, col, dd, k0, k1, k2, k3, k5, hl⟩ := xc.at_
  obtain ⟨sl, ha⟩ := xobj_get I.hok e
  have K := I.kIn
  have L1 := PySem.W.looks_findIn (M := model X.prog X.w) K xa.sa
  have L2 := PySem.W.looks_findIn (M := model X.prog X.w) K (show PySem.W.findIn X.K (.ref C) f = some none from n)
  have hC := K _ _ hl
  obtain ⟨hh, g, dr, t, os⟩ := s
  cases d with
  | none =>
    refine store_x (mA := fun _ => none) (ns := []) xc.ov hC L1 L2 hne ⟨_, ha, rfl, fun c z => (by cases z), .inl ⟨rfl, fun _ => rfl⟩⟩ (fun h' tk' inst k same => ?_) PySem.Within.nil (by decide)
    obtain ⟨o1, e1, c1, d1, s1, _, d2⟩ := same _ ha
    have d2 := d2 rfl
    obtain ⟨o2, e2, _, _, z⟩ := inst
    rw [e1] at e2; cases e2
    have hd : hh.objs.size ≠ a := Nat.ne_of_gt (Heap.lt_size ha)
    refine h hh.objs.size (I.hok.fresh (Nat.le_refl _)) hd _ (I.two (t' := tk') (h' := h') e (Nat.le_refl _) (fun b u hb z => k b u hb (fun o₀ dx h0 hdx => by rw [ha] at h0; cases h0; cases hdx) z) ⟨_, e1⟩ ?_ ?_)
    · rcases z with ⟨z, _⟩ | ⟨d3, z, _, ns⟩
      · rw [d2] at z; cases z
      · rw [d2] at z; cases z
        refine xdct_ok ns (fun g => ?_) fun g hg => ?_
        · show RelO (List.lookup g [(f, y)]) (if g = f then some u else none)
          by_cases q : g = f
          · have hb : (g == f) = true := beq_iff_eq.mpr q
            simp only [List.lookup, hb, if_pos q]; exact ry
          · have hb : (g == f) = false := beq_eq_false_iff_ne.mpr q
            simp only [List.lookup, hb, if_neg q]; exact True.intro
        · by_cases q : g = f
          · rw [q]; simp
          · exact absurd (if_neg q) hg
    · obtain ⟨oc, od, odt, osl⟩ := o1
      dsimp only at c1 d1 s1 d2
      rw [c1, d1, s1, d2] at e1
      exact xobj_ok e1
  | some dx =>
    obtain ⟨fs, ed, hl', h⟩ := h
    obtain ⟨mA, n1, r, wi⟩ := xdct_get I.hok ed
    have hda : dx ≠ a := fun z => by
      obtain ⟨o, es, ep, e1, e2, _⟩ := n1
      rw [z, ha] at e1; cases e1; cases e2
    refine store_x (mA := mA) (ns := fs.map (·.1)) xc.ov hC L1 L2 hne ⟨_, ha, rfl, fun c z => (by cases z), .inr ⟨dx, rfl, hda, n1⟩⟩ (fun h' tk' inst k same => ?_) wi (by rw [List.length_map, sizeLine_eq]; omega)
    obtain ⟨o1, e1, c1, d1, s1, d2, _⟩ := same _ ha
    have d2 := d2 dx rfl
    obtain ⟨o2, e2, _, _, z⟩ := inst
    rw [e1] at e2; cases e2
    obtain ⟨oc, od, odt, osl⟩ := o1
    dsimp only at c1 d1 s1 d2
    rw [c1, d1, s1, d2] at e1
    have ns : h'.Ns1 dx (fun y => if y = f then some u else mA y) := by
      rcases z with ⟨z, _⟩ | ⟨d3, z, _, ns⟩
      · have z : od = none := z
        rw [d2] at z; cases z
      · have z : od = some d3 := z
        rw [d2] at z; cases z; exact ns
    refine h _ (I.write (x := dx) (e := dx) (t' := tk') (h' := h') (by rw [ed]; exact True.intro) (.inl rfl) (fun b u hb z => ?_) (by obtain ⟨o, _, _, e, _⟩ := ns; exact ⟨o, e⟩) (xdct_ok ns (fun g => ?_) fun g hg => ?_))
    · by_cases q : b = a
      · rw [q] at z ⊢
        have z : hh.get? a = some u := z
        rw [ha] at z; cases z; exact e1
      · exact k b u q (fun o₀ dx' h0 hdx => by rw [ha] at h0; cases h0; cases hdx; exact hb) z
    · show RelO ((putF f y fs).lookup g) (if g = f then some u else mA g)
      rw [lookup_putF]
      by_cases q : g = f
      · rw [if_pos q, if_pos q]; exact ry
      · rw [if_neg q, if_neg q]; exact r g
    · by_cases q : g = f
      · rw [q]; exact (keys_putF f y fs).1
      · refine (keys_putF f y fs).2 g (wi g fun z => hg ?_)
        show (if g = f then some u else mA g) = none
        rw [if_neg q]; exact z
/-- e.f, e an exception -/
theorem getattr_x {A : Around} {E : Value → Shared → Prop} {a C dx : Addr} {vs : Array Value} {fs : List (Str × V)} {f : Str} {v : V} {b : Bool} {Q : Value → Shared → Prop} (I : Inv X pins σ H s) (e : H a = some (XObj a C (some dx) vs)) (ed : H dx = some (XDct dx fs)) (xa : XA X.K C) (n : NoAttr X.K C f)
    (l : fs.lookup f = some v) (h : ∀ u s', Inv X pins σ H s' → RelV v u → Q u s') : wpAny (model X.prog X.w) A (getAttr (.ref a) f b) Q E s := by
  obtain ⟨bm, xc⟩ := xa.bm
  obtain ⟨nm, q, N, bs, sn, sub, ab, col, dd, k0, k1, k2, k3, k5, hl⟩ := xc.at_
  obtain ⟨sl, ha⟩ := xobj_get I.hok e
  obtain ⟨mA, n1, r, wi⟩ := xdct_get I.hok ed
  obtain ⟨u, hu, ru⟩ := RelO.some_of (v := v) (o := mA f) (by rw [← l]; exact r f)
  obtain ⟨od, J, hlk⟩ := lookIn_ns n1
  have K := I.kIn
  have hC := K _ _ hl
  have hh : PySem.W.hasDictIn X.K C = true := by
    unfold PySem.W.hasDictIn PySem.W.clsIn
    rw [hl]; rfl
  obtain ⟨hp, g, dr, t, os⟩ := s
  exact load_x (ox := ⟨.ref C, some dx, .fields vs, sl⟩) (od := some od) xc.ov hC K xa.ga xa.gt ⟨ha, rfl, rfl, J⟩ (PySem.W.findObj_own hh n rfl (by rw [hlk, hu])) (handed_of ru) (h u _ (I.tok _) ru)
end
/-! ### fields of exceptions -/
def sXf (K : PySem.W.Frag) (ta tv : TE) (f : Str) : TS := fun D σ H => tv σ H fun y H1 => ta σ H1 fun x H2 => ∃ (a C : Addr) (d : Option Addr) (vs : Array Value), x = .ref a ∧ H2 a = some (XObj a C d vs) ∧ XA K C ∧ NoAttr K C f ∧ XSt H2 a C d vs f y (D.nx σ)
def tXf (K : PySem.W.Frag) (ta : TE) (f : Str) : TE := fun σ H Q => ta σ H fun x H1 => ∃ (a C dx : Addr) (vs : Array Value) (fs : List (Str × V)) (v : V), x = .ref a ∧ H1 a = some (XObj a C (some dx) vs) ∧ H1 dx = some (XDct dx fs) ∧ XA K C ∧ NoAttr K C f ∧ fs.lookup f = some v ∧ Q v H1
section
variable {X : Cx} {e o value : Expr} {ta tv : TE} {f : Str} {pos pos' : Pos}
theorem pe_xf (he : PE X e ta) (hb : attributeBase e f X.env (eval e X.env) = eval e X.env := by rfl) : PE X (.Attribute e f pos) (tXf X.K ta f) := by
  intro pins s σ H Q I h
  refine attr_of hb (thn (he pins s σ H _ I h) fun u s1 ⟨x, H1, I1, rx, a, C, dx, vs, fs, v, ex, ea, ed, c, n, l, q⟩ => ?_)
  subst ex
  obtain rfl : u = Value.ref a := rx
  exact getattr_x I1 ea ed c n l fun u' s2 I2 ru => ⟨v, H1, I2, ru, q⟩
theorem ps_xf (ha : PE X o ta) (hv : PE X value tv) (hs : swapsWith value (some (.Attribute o f pos')) pos.line X.env = pure false := by rfl) : PS X (.Assign [.Attribute o f pos'] value pos) (sXf X.K ta tv f) := by
  intro pins s σ H D I h
  refine plainObj_wpAny_Assign_Attribute (thn (hv pins s σ H _ I h) fun u s1 ⟨y, H1, I1, ry, q⟩ => thn (ha pins s1 σ H1 _ I1 q) fun ov s2 ⟨x, H2, I2, rx, a, C, d, vs, ex, ea, c, n, q2⟩ => ?_) hs
  subst ex
  obtain rfl : ov = Value.ref a := rx
  refine setattr_x I2 ea c n ry ?_
  cases d with
  | none => exact fun dx h1 h2 s3 I3 => ⟨σ, _, I3, q2 dx h1 h2⟩
  | some dx =>
    obtain ⟨fs, h1, h2, q2⟩ := q2
    exact ⟨fs, h1, h2, fun s3 I3 => ⟨σ, _, I3, q2⟩⟩
end
end L2

set_option Elab.async false
set_option linter.all false
set_option maxRecDepth 100000
namespace PySem
open Sem (wp)
open L2 (OverV)
section
variable {M : Model} {A : Around} {E : Value → Shared → Prop} {env : Env}
variable {nm q : Str} {C N : Addr} {bs bm : List Value} {sn : List Str} {sub : List Value} {ab : Bool} {col : Option Bool} {dd : Option Addr} {k0 k1 k2 k3 k5 : Option Value}
theorem raise_made_x {s : Shared} {x : Sem Value} {Q : Flow → Shared → Prop} (T : OverV bm) (hh : A.handled = none)
    (h : wpAny M A x (fun v s₁ => ∃ e vs d sl, v = .ref e ∧ s₁.heap.get? C = some (excClassObj nm q C N bs bm true sn sub ab col dd k0 k1 k2 k3 k5 "ValueError.__new__") ∧
      s₁.heap.get? e = some ⟨.ref C, d, .fields vs, sl⟩ ∧ vs[1]? = some .none ∧ E (.ref e) s₁) E s) :
    wpAny M A (raiseStmt env (some x) none) Q E s := by
  have hcB : (Value.ref C :: bm).contains (.type "BaseException") = true := by rw [List.contains_cons, T.has (b := true) (by decide +kernel), Bool.or_true]
  unfold raiseStmt
  refine wpAny_bind (wpAny_mono h (fun v s₁ h₁ => ?_) fun _ _ x => x)
  obtain ⟨e, vs, d, sl, rfl, hC, he, h1, hE⟩ := h₁
  obtain ⟨hp, g, dr, tk, os⟩ := s₁
  unfold setFlight
  repeat (first | with_reducible refine wpAny_loadPart_at he ?_ | with_reducible refine wpAny_loadPart_at hC ?_ | (with_reducible refine wpAny_isSubtype_exc hC ?_; rw [hcB]) | with_reducible refine wpAny_field he rfl h1 ?_ | wp_step)
  exact wpAny_raiseNew_none hh hE
end
end PySem
namespace L2
open PySem PySem.Spec PyProof.Rows
/-! ### an exception is made and raised -/
def unt (H : Hp) (a : Addr) : Hp := fun b => if b = a then none else H b
theorem unt_same {H : Hp} {a : Addr} : unt H a a = none := if_pos rfl
theorem unt_ne {H : Hp} {a b : Addr} (h : b ≠ a) : unt H a b = H b := if_neg h
structure XMk (K : PySem.W.Frag) (C f : Addr) : Prop where
  init : PySem.W.findIn K (.ref C) "__init__" = some (some (.ref f))
  fn : PySem.W.isFn K (.ref f) = true
  kp : PySem.W.keepIn K (.ref C) = true
  xa : XA K C
section
variable {X : Cx} {pins : List (Addr × Obj)} {σ : St} {H : Hp} {s : Shared}
theorem Inv.drop {a : Addr} {φ : Heap → Prop} (I : Inv X pins σ H s) (e : H a = some (.ext φ)) : Inv X pins σ (unt H a) s := by
  have nea : ∀ b u, H b = some u → (∀ φ, u ≠ .ext φ) → b ≠ a := fun b u h hu z => by rw [z, e] at h; exact hu φ (Option.some.inj h).symm
  have nn : ∀ b, H b = none → unt H a b = none := fun b h => by
    by_cases q : b = a
    · rw [q]; exact unt_same
    · rw [unt_ne q]; exact h
  refine ⟨I.ok, I.os, I.bare, ⟨I.base.keep, I.base.slot, fun b o q n hx => nn b (I.base.free b o q n hx), I.base.there, fun b xs q => ?_, fun b o u q => ?_, fun b ps q => ?_⟩, I.loc, I.cell, nn _ I.free, fun x c q => nn _ (I.freeC x c q), fun p hp => ?_, fun b u q => ?_, I.len⟩
  · have z := I.base.tups b xs q; rw [unt_ne (nea b _ z fun _ y => by cases y)]; exact z
  · have z := I.base.frzs b o u q; rw [unt_ne (nea b _ z fun _ y => by cases y)]; exact z
  · obtain ⟨m, z⟩ := I.base.tbls b ps q; exact ⟨m, by rw [unt_ne (nea b _ z fun _ y => by cases y)]; exact z⟩
  · obtain ⟨p1, p2, p3⟩ := I.pin p hp; exact ⟨p1, nn _ p2, p3⟩
  · by_cases z : b = a
    · rw [z, unt_same] at q; cases q
    · rw [unt_ne z] at q
      refine (I.hok b u q).stay (fun c v _ y => y) (fun c y => ?_) fun c xs y => ?_
      · rw [unt_ne (nea c _ y fun _ w => by cases w)]; exact y
      · rw [unt_ne (nea c _ y fun _ w => by cases w)]; exact y
theorem run_makeX {C f : Addr} {k : Nat} {fd : FuncData} {ps : List Str} {sp : Sp} {us : List Value} {vs : List V} {Q : Addr → Array Value → Hp → Prop} (M : XMk X.K C f) (F : FnOk X.prog X.w X.K X.mg X.base CX0 k f fd ps sp) (hr : Room (k + 1) X.A) (hb : Binds X.K fd ps [])
    (I : Inv X pins σ H s) (r : Vals vs us) (hl : vs.length ≤ 1000) (h : ∀ a v0, H a = none → sp (.ref a :: vs) (upd H a (XObj a C none v0)) (fun v H2 => v = .non ∧ Q a v0 H2) E0) :
    wpAny (model X.prog X.w) X.A (call (.ref C) us) (fun u s' => ∃ a v0 H2, u = .ref a ∧ s.heap.objs.size ≤ a ∧ v0[1]? = some Value.none ∧ Inv X pins σ H2 s' ∧ Q a v0 H2) X.xe s := by
  obtain ⟨bm, xc⟩ := M.xa.bm
  obtain ⟨nm, q, N, bs, sn, sub, ab, col, dd, k0, k1, k2, k3, k5, hlk⟩ := xc.at_
  have hC := I.kIn _ _ hlk
  have I2 : Inv X pins σ (upd H (s.heap.objs.size + 1) (XObj (s.heap.objs.size + 1) C none #[.ref s.heap.objs.size, .none, .none, .none, .bool false, .none]))
      { s with heap := (s.heap.push { cls := .type "tuple", data := .seq us.toArray }).push { cls := .ref C, data := .fields #[.ref s.heap.objs.size, .none, .none, .none, .bool false, .none] } } := by
    refine I.laid (t' := s.toks) (fun b u e => Heap.get?_push_of_some _ (Heap.get?_push_of_some _ e)) (Nat.le_succ _) (xobj_ok (sl := #[]) ?_)
    have := Heap.get?_push_size (s.heap.push { cls := .type "tuple", data := .seq us.toArray }) (o := { cls := .ref C, data := .fields #[.ref s.heap.objs.size, .none, .none, .none, .bool false, .none] }) rfl
    rwa [Heap.size_push] at this
  have hq := h (s.heap.objs.size + 1) #[.ref s.heap.objs.size, .none, .none, .none, .bool false, .none] (I.hok.fresh (Nat.le_succ _))
  have r2 : Vals (V.ref (s.heap.objs.size + 1) :: vs) (Value.ref (s.heap.objs.size + 1) :: us) := .cons rfl r
  have hlp : (Value.ref (s.heap.objs.size + 1) :: us).length = ps.length := by rw [← r2.length]; exact F.len _ _ _ _ hq
  have hb' := hb _ (Value.ref (s.heap.objs.size + 1) :: us) I2.kIn (by rw [List.append_nil]; exact hlp)
  rw [List.append_nil] at hb'
  have L1 := PySem.W.looks_findIn (M := model X.prog X.w) I.kIn M.init
  have L2 : ∀ self, PySem.W.Looks (model X.prog X.w) s.heap (bindSpecial (.ref f) self) (.ref f, [self]) := fun self => PySem.W.bind_fn I.kIn self (beq_iff_eq.mp M.fn)
  have hlu : us.length ≤ sizeLine := by rw [← r.length, sizeLine_eq]; omega
  obtain ⟨hh, g, dr, t, os⟩ := s
  refine make_x xc.ov hC L1 L2 hlu (wpAny_call (codeAny_mono (F.run _ X.stack _ _ ⟨Value.ref (hh.objs.size + 1) :: us, []⟩ (Value.ref (hh.objs.size + 1) :: us) _ _ E0 (hr.make C us []) (I2.env0.make C us []) hb' r2 hq) fun r s' hq' => ?_))
  cases r with
  | error e => exact False.elim hq'
  | ok fl =>
    cases fl with
    | ret u =>
      obtain ⟨v, H', I3, rv, ev, q3⟩ := I2.after hq'
      subst ev
      exact ⟨rv, _, _, H', rfl, Nat.le_succ _, rfl, I3, q3⟩
    | next => exact False.elim hq'
    | brk => exact False.elim hq'
    | cont => exact False.elim hq'
end
def tRaise (C : Addr) (sp : Sp) (EX : St → XK) (t : TA) : TS := fun _ σ H => t σ H fun vs H1 => vs.length ≤ 1000 ∧ ∀ a v0, H1 a = none →
  sp (.ref a :: vs) (upd H1 a (XObj a C none v0)) (fun v H2 => v = .non ∧ ∃ d, H2 a = some (XObj a C d v0) ∧ EX σ (.ref C) d (unt H2 a)) E0
/-- a class that may be raised: its __init__ -/
def HasC (P : Program) (w : World) (K : PySem.W.Frag) (mg : Str → Option Value) (base : Heap) (k : Nat) (x : Str) (C : Addr) (ps : List Str) (sp : Sp) : Prop :=
  ∃ (f : Addr) (fd : FuncData), XMk K C f ∧ FnOk P w K mg base CX0 k f fd ps sp ∧ mg x = some (.ref C) ∧ Binds K fd ps []
theorem ps_raise {X : Cx} {EX : St → XK} {k j : Nat} {C : Addr} {ps : List Str} {sp : Sp} {x : Str} {p cpos pos : Pos} {e : Expr} {es : List Expr} {t : TA} (h : HasC X.prog X.w X.K X.mg X.base k x C ps sp) (L : Lands X EX) (hc : X.calm = true) (hr : Room j X.A) (hkj : k + 1 ≤ j)
    (ha : PA X (e :: es) t) (hg : Gl X x := by rfl) (h1 : isStar e = false := by rfl) (h2 : es.all (fun e => !isStar e) = true := by rfl) (hdb : (x == ("__debug__" : Str)) = false := by decide) :
    PS X (.Raise (some (.Call (.Name x p) (e :: es) [] cpos)) none pos) (tRaise C sp EX t) := by
  obtain ⟨f, fd, M, F, hm, hb⟩ := h
  obtain ⟨bm, xc⟩ := M.xa.bm
  obtain ⟨nm, q, N, bs, sn, sub, ab, col, dd, k0, k1, k2, k3, k5, hlk⟩ := xc.at_
  intro pins s σ H D I h
  rw [arm_exec_Raise]
  refine wpAny_bind (wpAny_standAt (raise_made_x (C := C) (nm := nm) (q := q) (N := N) (bs := bs) (sn := sn) (sub := sub) (ab := ab) (col := col) (dd := dd) (k0 := k0) (k1 := k1) (k2 := k2) (k3 := k3) (k5 := k5) xc.ov (I.ok.hd hc) ?_))
  refine wpAny_bind (wpAny_mono (wpAny_Call_Name_kw (ld_glob I hg hm ?_ hdb)) (fun v s₃ h₃ => wpAny_bind (wpAny_standAt (wpAny_pure h₃))) fun _ _ x => x)
  refine PySem.W.callWith_K (h₀ := X.base) I.ok.mod.kin M.kp (thn (ha cpos pins s σ H _ I h) fun us s1 ⟨vs, H1, I1, r, hl, q⟩ => ⟨I1.kIn, ?_⟩) (star1 h1) (star_any h2)
  refine thn (run_makeX M F (hr.mono hkj) hb I1 r hl q) fun u s2 ⟨a, v0, H2, eu, hlo, hv, I2, d, ea, hE⟩ => ?_
  subst eu
  obtain ⟨sl, hget⟩ := xobj_get I2.hok ea
  have I3 := I2.drop ea
  refine ⟨a, v0, d, sl, rfl, I2.kIn _ _ hlk, hget, hv, ?_⟩
  refine L pins σ _ _ a none (.ref C) d I3 ⟨⟨v0, sl, hget, hv⟩, fun b hb => ?_⟩ (fun p hp hc => ?_) hE
  · rcases List.mem_singleton.mp hb with rfl
    exact ⟨Nat.le_trans I1.sz hlo, unt_same⟩
  · rcases List.mem_singleton.mp hc with e
    have z := (I2.pin p (List.mem_append_left _ hp)).2.1
    rw [e, ea] at z; cases z
/-! ### the promise of an __init__ that keeps its fields -/
def spXi (K : PySem.W.Frag) (fs : List Str) : Sp := fun vs H Q _ => ∃ (a C : Addr) (v0 : Array Value) (us : List V), vs = .ref a :: us ∧ us.length = fs.length ∧ H a = some (XObj a C none v0) ∧ XA K C ∧ (∀ f ∈ fs, NoAttr K C f) ∧
  ∀ dx, H dx = none → dx ≠ a → Q .non (upd (upd H dx (XDct dx (fs.zip us))) a (XObj a C (some dx) v0))
theorem unt_upd {H : Hp} {a b : Addr} {o1 o2 o3 : HO} (h : b ≠ a) (hn : H a = none) : unt (upd (upd (upd H a o1) b o2) a o3) a = upd H b o2 := by
  funext c
  by_cases q1 : c = a
  · rw [q1, unt_same, upd_ne (Ne.symm h), hn]
  · rw [unt_ne q1, upd_ne q1]
    by_cases q2 : c = b
    · rw [q2, upd_same, upd_same]
    · rw [upd_ne q2, upd_ne q2, upd_ne q1]
/-- raised: what is wanted of the exception, its fields in its dict -/
theorem w_raise {K : PySem.W.Frag} {C : Addr} {fs : List Str} {EX : St → XK} {t : TA} {D : Ends} {σ : St} {H : Hp} (xa : XA K C) (hn : ∀ f ∈ fs, NoAttr K C f)
    (h : t σ H fun vs H1 => vs.length = fs.length ∧ fs.length ≤ 2 ∧ ∀ dx, H1 dx = none → EX σ (.ref C) (some dx) (upd H1 dx (XDct dx (fs.zip vs)))) (hm : ∀ (Q Q' : List V → Hp → Prop), (∀ vs H1, Q vs H1 → Q' vs H1) → t σ H Q → t σ H Q') : tRaise C (spXi K fs) EX t D σ H := by
  refine hm _ _ (fun vs H1 hq => ?_) h
  obtain ⟨hl, h2, hq⟩ := hq
  refine ⟨by omega, fun a v0 ha => ⟨a, C, v0, vs, rfl, hl, upd_same, xa, hn, fun dx hd hne => ⟨rfl, some dx, upd_same, ?_⟩⟩⟩
  rw [unt_upd hne ha]
  refine hq dx ?_
  rw [upd_ne hne] at hd
  exact hd
end L2

set_option Elab.async false
set_option linter.all false
set_option maxRecDepth 100000
namespace PySem
open Sem (wp)
open L2 (OverV)
theorem excMatches_x {M : Model} {A : Around} {E : Value → Shared → Prop} {nm q nm' q' : Str} {C N D N' : Addr} {bs bm bs' bm' : List Value} {sn sn' : List Str} {sub sub' : List Value} {ab ab' : Bool} {col col' : Option Bool} {dd dd' : Option Addr} {k0 k1 k2 k3 k5 k0' k1' k2' k3' k5' : Option Value}
    {h : Heap} {g : Array GenState} {d : Drawn} {t : Nat} {os : OsState} {e : Addr} {oe : Obj} {Q : Bool → Shared → Prop} (TD : OverV bm')
    (hC : h.get? C = some (excClassObj nm q C N bs bm true sn sub ab col dd k0 k1 k2 k3 k5 "ValueError.__new__")) (hD : h.get? D = some (excClassObj nm' q' D N' bs' bm' true sn' sub' ab' col' dd' k0' k1' k2' k3' k5' "ValueError.__new__"))
    (he : h.get? e = some oe) (hcls : oe.cls = .ref C) (hin : (Value.ref C :: bm).contains (.ref D) = true) (hq : Q true ⟨h, g, d, t, os⟩) : wpAny M A (excMatches (.ref e) (.ref D)) Q E ⟨h, g, d, t, os⟩ := by
  have hcB : (Value.ref D :: bm').contains (.type "BaseException") = true := by rw [List.contains_cons, TD.has (b := true) (by decide +kernel), Bool.or_true]
  have f := tc_notTuple
  unfold excMatches
  repeat (first | (with_reducible refine wpAny_loadPart_at he ?_; rw [hcls]) | with_reducible refine wpAny_loadPart_at hD ?_ | (with_reducible refine wpAny_isSubtype_exc hD ?_; rw [hcB]) | (with_reducible refine wpAny_isSubtype_exc hC ?_; rw [hin]) | wp_step)
  exact hq
end PySem
namespace L2
open PySem PySem.Spec PyProof.Rows
/-! ### try, except -/
abbrev Cx.tr (X : Cx) (pn : List (Addr × Obj)) (xe : Value → Shared → Prop) : Cx := { X with pn := pn, xe := xe }
abbrev Cx.hdl (X : Cx) (a : Addr) : Cx := { X with A := X.A.mark (some (.ref a)), calm := false, xe := fun _ _ => False }
section
variable {X : Cx} {pins q : List (Addr × Obj)} {σ : St} {H : Hp} {s : Shared} {xe : Value → Shared → Prop}
theorem Cx.Ok.tr (ok : X.Ok) (pn : List (Addr × Obj)) (xe : Value → Shared → Prop) : (X.tr pn xe).Ok :=
  ⟨ok.mod, ok.kind, ok.glob, ok.blt, ok.above, ok.inj, ok.has, ok.cab, ok.hd, ok.frames, ok.stk, ok.exf, ok.bs, ok.bsz, ok.noex, ok.exfs, ok.funs, ok.frf⟩
theorem Cx.Ok.untr {pn : List (Addr × Obj)} (ok : (X.tr pn xe).Ok) : X.Ok :=
  ⟨ok.mod, ok.kind, ok.glob, ok.blt, ok.above, ok.inj, ok.has, ok.cab, ok.hd, ok.frames, ok.stk, ok.exf, ok.bs, ok.bsz, ok.noex, ok.exfs, ok.funs, ok.frf⟩
theorem Cx.Ok.hdl (ok : X.Ok) (a : Addr) : (X.hdl a).Ok :=
  ⟨ok.mod, ok.kind, ok.glob, ok.blt, ok.above, ok.inj, ok.has, ok.cab, fun z => (nomatch z), ok.frames, ok.stk, ok.exf, ok.bs, ok.bsz, ok.noex, ok.exfs, ok.funs, ok.frf⟩
theorem Inv.tr (I : Inv X pins σ H s) (xe : Value → Shared → Prop) : Inv (X.tr (X.pn ++ pins) xe) [] σ H s := ⟨I.ok.tr _ _, I.os, I.bare, I.base, I.loc, I.cell, I.free, I.freeC, fun p hp => I.pin p (by rw [List.append_nil] at hp; exact hp), I.hok, I.len⟩
theorem Inv.untr (I : Inv (X.tr (X.pn ++ pins) xe) q σ H s) : Inv X pins σ H s := ⟨I.ok.untr, I.os, I.bare, I.base, I.loc, I.cell, I.free, I.freeC, fun p hp => I.pin p (List.mem_append_left _ hp), I.hok, I.len⟩
theorem Inv.hdl (I : Inv X pins σ H s) (a : Addr) : Inv (X.hdl a) pins σ H s := ⟨I.ok.hdl a, I.os, I.bare, I.base, I.loc, I.cell, I.free, I.freeC, I.pin, I.hok, I.len⟩
theorem Inv.unhdl {a : Addr} (ok : X.Ok) (I : Inv (X.hdl a) pins σ H s) : Inv X pins σ H s := ⟨ok, I.os, I.bare, I.base, I.loc, I.cell, I.free, I.freeC, I.pin, I.hok, I.len⟩
theorem SP.untr {D : Ends} {f : Flow} (h : SP (X.tr (X.pn ++ pins) xe) q D f s) : SP X pins D f s := by
  cases f with
  | next => obtain ⟨σ', H', I, q⟩ := h; exact ⟨σ', H', I.untr, q⟩
  | brk => obtain ⟨σ', H', I, q⟩ := h; exact ⟨σ', H', I.untr, q⟩
  | cont => obtain ⟨σ', H', I, q⟩ := h; exact ⟨σ', H', I.untr, q⟩
  | ret u => obtain ⟨v, σ', H', I, r, q⟩ := h; exact ⟨v, σ', H', I.untr, r, q⟩
/-- what is on its way is no frame, no cell, no pin -/
theorem Inv.away {lo : Nat} {a : Addr} {T : Option Addr} {C fl : Value} {d : Option Addr} (I : Inv X pins σ H s) (F : Fly lo s.heap H a T C d fl) (hlo : X.s₀.heap.objs.size ≤ lo) (hp : ∀ p ∈ X.pn ++ pins, p.1 ∉ a :: T.toList) :
    ∀ b ∈ a :: T.toList, (b ∈ X.ex ∨ X.s₀.heap.objs.size ≤ b) ∧ b ≠ X.env.locals ∧ (∀ x c, X.env.cells.lookup x = some c → c ≠ b) ∧ ∀ p ∈ X.pn ++ pins, p.1 ≠ b := fun b hb => by
  obtain ⟨o, vs, e, hd⟩ := F.rcd b hb
  refine ⟨.inr (Nat.le_trans hlo (F.lo b hb).1), fun z => ?_, fun x c hc z => ?_, fun p hp' z => hp p hp' (z ▸ hb)⟩
  · obtain ⟨m, ⟨o', _, _, e', d', _⟩, _⟩ := I.loc
    rw [z] at e; rw [e'] at e; cases e; rw [d'] at hd; cases hd
  · obtain ⟨v, o', e', d'⟩ := I.cell x c hc
    rw [z, e] at e'; cases e'; rw [hd] at d'; cases d'
theorem Inv.newer {t : Addr} (I : Inv X pins σ H s) (ht : s.heap.objs.size ≤ t) : ∀ b ∈ [t], (b ∈ X.ex ∨ X.s₀.heap.objs.size ≤ b) ∧ b ≠ X.env.locals ∧ (∀ x c, X.env.cells.lookup x = some c → c ≠ b) ∧ ∀ p ∈ X.pn ++ pins, p.1 ≠ b := fun b hb => by
  rcases List.mem_singleton.mp hb with rfl
  have lt : ∀ c o, s.heap.get? c = some o → c ≠ b := fun c o e z => absurd (Nat.lt_of_lt_of_le (Heap.lt_size e) (z ▸ ht)) (Nat.lt_irrefl _)
  refine ⟨.inr (Nat.le_trans I.sz ht), fun z => ?_, fun x c hc => ?_, fun p hp => lt _ _ (I.pin p hp).1⟩
  · exact absurd (Nat.lt_of_lt_of_le I.lt (z ▸ ht)) (Nat.lt_irrefl _)
  · obtain ⟨v, o, e, _⟩ := I.cell x c hc
    exact lt c o e
/-- an object that is there gets tracked -/
theorem Inv.track {a : Addr} {o : HO} {ob : Obj} {vs : Array Value} (I : Inv X pins σ H s) (hn : H a = none) (e : s.heap.get? a = some ob) (hd : ob.data = .fields vs)
    (hch : (a ∈ X.ex ∨ X.s₀.heap.objs.size ≤ a) ∧ a ≠ X.env.locals ∧ (∀ x c, X.env.cells.lookup x = some c → c ≠ a) ∧ ∀ p ∈ X.pn ++ pins, p.1 ≠ a) (hx : a ∉ X.ex) (new : ObjOk X.prog X.w (upd H a o) s.heap a o) : Inv X pins σ (upd H a o) s := by
  have hlo : X.s₀.heap.objs.size ≤ a := hch.1.elim (fun z => absurd z hx) id
  have up : ∀ b, b ≠ a → upd H a o b = H b := fun b h => upd_ne h
  refine ⟨I.ok, I.os, I.bare, ⟨I.base.keep, I.base.slot, fun b ob q n hx => ?_, I.base.there, fun b xs q => ?_, fun b o u q => ?_, fun b ps q => ?_⟩, I.loc, I.cell, ?_, fun x c q => ?_, fun p hp => ?_, fun b u q => ?_, I.len⟩
  · rw [up b fun z => absurd (Nat.lt_of_lt_of_le (Heap.lt_size q) (z ▸ hlo)) (Nat.lt_irrefl _)]; exact I.base.free b ob q n hx
  · have z := I.base.tups b xs q; rw [up b (ne_of_none z hn)]; exact z
  · have z := I.base.frzs b o u q; rw [up b (ne_of_none z hn)]; exact z
  · obtain ⟨m, z⟩ := I.base.tbls b ps q; exact ⟨m, by rw [up b (ne_of_none z hn)]; exact z⟩
  · rw [up _ (Ne.symm hch.2.1)]; exact I.free
  · rw [up _ (hch.2.2.1 x c q)]; exact I.freeC x c q
  · obtain ⟨p1, p2, p3⟩ := I.pin p hp; exact ⟨p1, by rw [up _ (hch.2.2.2 p hp)]; exact p2, p3⟩
  · by_cases z : b = a
    · rw [z, upd_same] at q; cases q; rw [z]; exact new
    · rw [up b z] at q
      refine (I.hok b u q).stay (fun c v _ y => y) (fun c y => ?_) fun c xs y => ?_
      · rw [up c (ne_of_none y hn)]; exact y
      · rw [up c (ne_of_none y hn)]; exact y
/-- behind the suite the name goes -/
theorem goes_x {M : Model} {A : Around} {E : Value → Shared → Prop} {i : Nat} {n : Str} {pos : Pos} {Q : Unit → Shared → Prop} (I : Inv X pins σ H s) (hN : X.N.Nodup) (hi : X.N[i]? = some n) (hk : X.env.scope.names.lookup n = some .local)
    (h : ∀ s', Inv X pins (σ.set i none) H s' → Q () s') : wpAny M A (do bindName X.env n .none; unbindBehindTheSuite X.env n pos) Q E s := by
  have hcls : (X.env.scope.kind == .class || (X.env.scope.kind == .module && X.env.locals != X.env.globals)) = false := by rw [I.ok.kind]; rfl
  have hl : X.env.kindOf n = some .local := hk
  have hiσ : i < σ.length := by rw [I.len]; exact (List.getElem?_eq_some_iff.mp hi).1
  refine wpAny_bind (wpAny_bindName (store_ok (v := V.non) I hN hi (.inl hk) rfl (fun s1 I1 => ?_) (.inr hk)))
  obtain ⟨m, hn, hlo⟩ := id I1.loc
  obtain ⟨u, _, lk⟩ := hlo i n V.non hi (List.getElem?_set_self hiσ) (.inl hk)
  have hmn : m n = some u := by
    rcases lk with ⟨_, e⟩ | ⟨z, _⟩
    · exact e
    · rcases z with z | z <;> (rw [hl] at z; cases z)
  unfold unbindBehindTheSuite
  refine wpAny_onRaise ?_
  unfold unbindName
  refine wpAny_bind (wpAny_point (wpAny_bind ?_))
  unfold deleteName
  simp only [hl, hcls]
  rw [if_neg (by decide)]
  refine wpAny_bind (wpAny_nsDel_keeps hn fun h2 v hn2 hs => ?_)
  rw [hmn]
  simp only [if_true, Option.isSome_some, Bool.not_true, Bool.false_eq_true, if_false]
  refine wpAny_pure (wpAny_point (h _ ?_))
  have cne := I1.cne
  have tracked : HOk X.prog X.w H h2 := fun b ob e => by
    refine (I1.hok b ob e).stay (fun c w' hc q => (hs.2 c ?_).trans q) (fun _ q => q) fun _ _ q => q
    rintro rfl
    rcases hc with rfl | hc
    · rw [I1.free] at e; cases e
    · rw [I1.free] at hc; cases hc
  refine ⟨I1.ok, I1.os, I1.bare, ⟨fun b o e n hb hx => ?_, fun b o e n hb hx => ?_, I1.base.free, fun b o e hx => ?_, I1.base.tups, I1.base.frzs, I1.base.tbls⟩, ⟨_, hn2, fun j y v' e1 e2 e3 => ?_⟩, fun y c e => ?_, I1.free, I1.freeC, fun p hp => ?_, tracked, by simpa using I.len⟩
  · exact (hs.2 b (Nat.ne_of_lt (Nat.lt_of_lt_of_le (Heap.lt_size e) I1.ok.above))).trans (I1.base.keep b o e n hb hx)
  · obtain ⟨sl, e1⟩ := I1.base.slot b o e n hb hx
    exact ⟨sl, (hs.2 b (Nat.ne_of_lt (Nat.lt_of_lt_of_le (Heap.lt_size e) I1.ok.above))).trans e1⟩
  · obtain ⟨o', e1⟩ := I1.base.there b o e hx
    exact ⟨o', (hs.2 b (Nat.ne_of_lt (Nat.lt_of_lt_of_le (Heap.lt_size e) I1.ok.above))).trans e1⟩
  · by_cases hj : j = i
    · subst hj
      rw [List.getElem?_set_self hiσ] at e2
      cases e2
    · rw [List.getElem?_set_ne (Ne.symm hj)] at e2
      obtain ⟨u', r', q⟩ := hlo j y v' e1 (by rw [List.getElem?_set_ne (Ne.symm hj)]; exact e2) e3
      refine ⟨u', r', ?_⟩
      rcases q with ⟨k, e⟩ | ⟨k, c, e, z⟩
      · refine .inl ⟨k, ?_⟩
        have : y ≠ n := fun e => hj (nodup_ix hN e1 (e ▸ hi))
        simp [this, e]
      · exact .inr ⟨k, c, e, z.sameBut hs (cne y c e)⟩
  · obtain ⟨w', z⟩ := I1.cell y c e
    exact ⟨w', z.sameBut hs (cne y c e)⟩
  · obtain ⟨e, n, ne, nf, d⟩ := I1.pin p hp
    exact ⟨(hs.2 p.1 ne).trans e, n, ne, nf, d⟩
end
def unE (i : Nat) (D : Ends) : Ends := { nx := fun σ H => D.nx (σ.set i none) H, rt := D.rt, bk := fun σ H => D.bk (σ.set i none) H, ct := fun σ H => D.ct (σ.set i none) H }
/-- try: body, except D as (slot i): suite; what comes out of the body is a D -/
def tTry (K : PySem.W.Frag) (D : Addr) (i : Nat) (tb : (St → XK) → TS) (ts : TS) : TS := fun Dn σ H => tb (fun σ' C d H' => ∃ (c : Addr) (bm : List Value), C = .ref c ∧ XC K c bm ∧ (Value.ref c :: bm).contains (.ref D) = true ∧
  ∀ a vs, H' a = none → ts (unE i Dn) (σ'.set i (some (.ref a))) (upd H' a (XObj a c d vs))) Dn σ H
theorem ps_try {X : Cx} {D : Addr} {bmD : List Value} {x n : Str} {i : Nat} {body suite : List Stmt} {b₀ : Stmt} {tb : (St → XK) → TS} {ts : TS} {np hpos pos : Pos} (M : Nm X.N X.env.scope) (hst : X.stack = X.env :: X.outer) (hfr : X.env.frame = some X.env.locals) (hex : X.ex = [])
    (hm : X.mg x = some (.ref D)) (xd : XC X.K D bmD) (hi : X.N[i]? = some n) (hk : X.env.scope.names.lookup n = some .local)
    (hb : ∀ pn xe EX, PassesOwn (model X.prog X.w) X.A X.env xe → Lands (X.tr pn xe) EX → PSs (X.tr pn xe) body (tb EX)) (hs : ∀ a, PSs (X.hdl a) (b₀ :: suite) ts) (hg : Gl X x := by rfl) (hdb : (x == ("__debug__" : Str)) = false := by decide) :
    PS X (.Try body [.ExceptHandler (some (.Name x np)) (some n) (b₀ :: suite) hpos] [] [] pos) (tTry X.K D i tb ts) := by
  intro pins s σ H Dn I h
  refine wpAny_Try_except ?_
  have hL : ∀ EX : St → XK, (∀ σ' C d H', EX σ' C d H' → ∃ (c : Addr) (bm : List Value), C = .ref c ∧ XC X.K c bm ∧ (Value.ref c :: bm).contains (.ref D) = true ∧ ∀ a vs, H' a = none → ts (unE i Dn) (σ'.set i (some (.ref a))) (upd H' a (XObj a c d vs))) →
      Lands (X.tr (X.pn ++ pins) fun e s' => wpAny (model X.prog X.w) X.A (noteFrame e X.env) (fun _ s2 => wpAny (model X.prog X.w) X.A (setFlight e none) (fun _ s3 => wpAny (model X.prog X.w) X.A (handleBy e X.env [.ExceptHandler (some (.Name x np)) (some n) (b₀ :: suite) hpos]) (SP X pins Dn) X.xe s3) X.xe s2) X.xe s') EX := by
    intro EX hEX pins' σ' H' s' a T C d I1 F hp hE
    obtain ⟨c, bm, rfl, xc, hin, hts⟩ := hEX _ _ _ _ hE
    have I2 : Inv X pins σ' H' s' := I1.untr
    have hstk : s'.heap.FunFrames X.base (X.env :: X.outer) := by rw [← hst]; exact I2.stack
    have hfrs : ∀ b ∈ frs (X.env :: X.outer), H' b = none := by rw [← hst]; exact I2.stkFree
    show wpAny (model X.prog X.w) X.A (noteFrame (.ref a) X.env) _ X.xe s'
    refine note_x (by rw [I2.ok.frames, hst]) hstk hfr F I2.sz (fun b hb => I2.hok.fresh hb) fun h1 T1 F1 hT1 k1 k2 => ?_
    have aw := I2.away F (Nat.le_refl _) hp
    have I3 : Inv X pins σ' H' { s' with heap := h1 } := I2.call (g' := s'.gens) (d' := s'.drawn) (t' := s'.toks) (ch := a :: T.toList) (by rw [hst]; exact un_of k1 k2) (hok_un I2.hok k1 hfrs fun b hb => (F.lo b hb).2) I2.bare aw
    refine land_x (s := { s' with heap := h1 }) F1 fun h2 F2 k3 => ?_
    have nw := I2.newer hT1
    have I4 : Inv X pins σ' H' { s' with heap := h2 } := Inv.call (s := { s' with heap := h1 }) (h' := h2) (g' := s'.gens) (d' := s'.drawn) (t' := s'.toks) (ch := [T1]) I3 (un_of (h := h1) (fun b o q _ hc => k3 b o q fun z => hc (by simp [z])) fun b o q hc => ⟨o.slots, k3 b o q fun z => hc (by simp [z])⟩)
      (hok_un (h := h1) (fs := []) (ch := [T1]) I3.hok (fun b o q _ hc => k3 b o q fun z => hc (by simp [z])) (fun b hb => nomatch hb) fun b hb => by rcases List.mem_singleton.mp hb with rfl; exact I2.hok.fresh hT1) I2.bare nw
    obtain ⟨vs, sl, hget, _⟩ := F2.at_
    obtain ⟨nm, q, N, bs, sn, sub, ab, col, dd, k0, k1', k2', k3', k5, hlk⟩ := xc.at_
    obtain ⟨nm', q', N', bs', sn', sub', ab', col', dd', k0', k1'', k2'', k3'', k5', hlk'⟩ := xd.at_
    refine wpAny_handleBy_cons (codeAny_handlers_test (ld_glob (X := X.hdl a) (I4.hdl a) hg hm ?_ hdb)) (by intro z; cases z)
    refine excMatches_x xd.ov (I4.kIn _ _ hlk) (I4.kIn _ _ hlk') hget rfl hin ?_
    refine codeAny_handlers_suite_as ?_
    refine land_x (s := { s' with heap := h2 }) F2 fun h5 F5 k5' => ?_
    have I5 : Inv X pins σ' H' { s' with heap := h5 } := Inv.call (s := { s' with heap := h2 }) (h' := h5) (g' := s'.gens) (d' := s'.drawn) (t' := s'.toks) (ch := [T1]) I4 (un_of (h := h2) (fun b o q _ hc => k5' b o q fun z => hc (by simp [z])) fun b o q hc => ⟨o.slots, k5' b o q fun z => hc (by simp [z])⟩)
      (hok_un (h := h2) (fs := []) (ch := [T1]) I4.hok (fun b o q _ hc => k5' b o q fun z => hc (by simp [z])) (fun b hb => nomatch hb) fun b hb => by rcases List.mem_singleton.mp hb with rfl; exact I2.hok.fresh hT1) I2.bare nw
    obtain ⟨vs5, sl5, hget5, _⟩ := F5.at_
    have I6 : Inv X pins σ' (upd H' a (XObj a c d vs5)) { s' with heap := h5 } := I5.track (F.lo a List.mem_cons_self).2 hget5 rfl (aw a List.mem_cons_self) (by rw [hex]; exact fun z => nomatch z) (xobj_ok hget5)
    refine store_ok (X := X.hdl a) (v := V.ref a) (I6.hdl a) M.nd hi (.inl hk) rfl (fun s7 I7 => ?_) (.inr hk)
    have ok := I.ok
    refine wpAny_mono (hs a pins s7 _ _ _ I7 (hts a vs5 (F.lo a List.mem_cons_self).2)) (fun f s8 z => ?_) fun _ _ z => False.elim z
    cases f with
    | next =>
      obtain ⟨σ8, H8, I8, z⟩ := z
      exact goes_x (I8.unhdl ok) M.nd hi hk fun s9 I9 => ⟨_, H8, I9, z⟩
    | brk =>
      obtain ⟨σ8, H8, I8, z⟩ := z
      exact goes_x (I8.unhdl ok) M.nd hi hk fun s9 I9 => ⟨_, H8, I9, z⟩
    | cont =>
      obtain ⟨σ8, H8, I8, z⟩ := z
      exact goes_x (I8.unhdl ok) M.nd hi hk fun s9 I9 => ⟨_, H8, I9, z⟩
    | ret u =>
      obtain ⟨v, σ8, H8, I8, r, z⟩ := z
      exact goes_x (I8.unhdl ok) M.nd hi hk fun s9 I9 => ⟨v, _, H8, I9, r, z⟩
  refine wpAny_mono (hb (X.pn ++ pins) _ _ PassesOwn.looking (hL _ fun _ _ _ _ z => z) [] s σ H Dn (I.tr _) h) (fun f s1 z => ?_) fun _ _ z => z
  cases f with
  | next => exact wpAny_execs_nil z.untr
  | brk => exact z.untr
  | cont => exact z.untr
  | ret u => exact z.untr
end L2

set_option Elab.async false
set_option linter.all false
set_option maxRecDepth 100000
namespace PySem
open Sem (wp)
open Builtin Builtin.ObjectAttr
open L2 (OverV XC XA bmV)
section
variable {prog : Program} {w : World} {A : Around} {E : Value → Shared → Prop} {h : Heap} {g : Array GenState} {d : Drawn} {t : Nat} {os : OsState} {K : PySem.W.Frag}
variable {nm q : Str} {C N x : Addr} {bs bm : List Value} {sn : List Str} {sub : List Value} {ab : Bool} {col : Option Bool} {dd : Option Addr} {k0 k1 k2 k3 k5 : Option Value}
  {ox : Obj} {od : Option Obj}
theorem class_get_x {R : Result → Shared → Prop} (T : OverV bm) (hC : h.get? C = some (excClassObj nm q C N bs bm true sn sub ab col dd k0 k1 k2 k3 k5 "ValueError.__new__")) (hx : h.get? x = some ox) (hc : ox.cls = .ref C) (hq : R (.ok (.ret (.ref C))) ⟨h, g, d, t, os⟩) :
    codeAny (model prog w) A (.call (.builtin "getset_descriptor.__get__") ⟨[.builtin "object.__class__", .ref x, .ref C], []⟩) R ⟨h, g, d, t, os⟩ := by
  have hT5 : (⟨h, g, d, t, os⟩ : Shared).TypeIs (.builtin "object.__class__") "getset_descriptor" := F.typeOf_object_class
  have hcB : (Value.ref C :: bm).contains (.type (".".intercalate ("object.__class__".cutAt '.').dropLast)) = true := by
    rw [F.owner_object_class, List.contains_cons, T.has (b := true) (by decide +kernel)]; rfl
  refine codeAny_call_builtin F.slot_gs_get.plain F.entry_gs_get (F.slot_gs_get.check _ _ _ _ _ _ _ _ hT5 (F.args_gs_get _ _ _) ?_)
  repeat (any_goals (first | assumption | (with_reducible refine wpAny_loadPart_at hx ?_; rw [hc]) | (with_reducible refine wpAny_isSubtype_exc hC ?_; rw [hcB]) | wp_step))
  refine ⟨Code.quiet_builtin _ (by decide +kernel), codeAny_builtin F.entry_object_class ?_⟩
  repeat (any_goals (first | assumption | (with_reducible refine wpAny_loadPart_at hx ?_; rw [hc]) | wp_step))
theorem class_attr_x {Q : Option Value → Shared → Prop} (T : OverV bm) (hC : h.get? C = some (excClassObj nm q C N bs bm true sn sub ab col dd k0 k1 k2 k3 k5 "ValueError.__new__")) (X : K.In h)
    (hga : PySem.W.findIn K (.ref C) "__getattribute__" = some (some (.builtin "BaseException.__getattribute__"))) (hgt : PySem.W.findIn K (.ref C) "__getattr__" = some none)
    (I : PySem.W.InstAt h x ox C od) (hf : PySem.W.findObj K C od "__class__" = some (.bind (.builtin "getset_descriptor.__get__") (.builtin "object.__class__"))) (hq : Q (some (.ref C)) ⟨h, g, d, t + 1, os⟩) :
    wpAny (model prog w) A (getAttr? (.ref x) "__class__") Q E ⟨h, g, d, t, os⟩ := by
  have FB := PySem.F.attrBase_ValueError
  have f3 := FB.ga.bind (.ref x)
  have hx0 : (false && onTheHeap (Value.builtin "BaseException.__getattribute__")) = false := rfl
  have hx2 : (Value.builtin "BaseException.__getattribute__" == Value.builtin "object.__getattribute__") = false := by decide +kernel
  have hx1 : (onTheHeap (Value.ref C) && Value.builtin "BaseException.__getattribute__" == Value.builtin "object.__getattribute__") = false := by rw [hx2]; rfl
  have L0 := I.type (M := model prog w)
  have L1 := PySem.W.looks_findIn (M := model prog w) X hga
  have L2 := PySem.W.looks_findIn (M := model prog w) X hgt
  have L3 := PySem.W.looks_find (M := model prog w) X I hf
  unfold getAttr? getAttrBy? getAttrBy
  refine wpAny_bind (wpAny_mkText (wpAny_bind (wpAny_attempt (wpAny_holding (wpAny_bind (L0.at (wpAny_bind (L1.at ?_))))))))
  dsimp only
  rw [hx1, if_neg (by decide)]
  unfold getAttrByItsOwn
  have ho : hookBefore (.ref C) = typeLookup (.ref C) "__getattr__" := rfl
  rw [ho]
  refine wpAny_bind (L2.at (wpAny_bind (wpAny_attempt (wpAny_holding ?_))))
  unfold callGetattribute
  rw [hx0, if_neg (by decide)]
  unfold boundAndCalled
  rw [f3]
  refine wpAny_bind (wpAny_pure ?_)
  refine wpAny_call (codeAny_call_builtin FB.ga.plain F.entry_bexc_ga (check_ga_x T hC I.at_ I.cls ?_))
  unfold Builtin.«object.__getattribute__»
  repeat (first | with_reducible refine L0.at ?_ | with_reducible refine L3.at ?_ | wp_step)
  refine class_get_x T hC I.at_ I.cls ?_
  repeat (any_goals (first | assumption | wp_step))
end
end PySem

set_option Elab.async false
set_option linter.all false
set_option maxRecDepth 100000
namespace L2
open PySem PySem.Spec PyProof.Rows
/-! ### isinstance of an exception -/
theorem XC.cls {K : PySem.W.Frag} {C : Addr} {bm : List Value} (x : XC K C bm) : ∃ cd, PySem.W.clsIn K C = some cd ∧ cd.mro = .ref C :: bm ∧ PySem.W.typeIn K (.ref C) = some (.type "type") := by
  obtain ⟨nm, q, N, bs, sn, sub, ab, col, dd, k0, k1, k2, k3, k5, hl⟩ := x.at_
  refine ⟨{ name := nm, bases := bs, mro := .ref C :: bm, ns := N, qualname := q, hasDict := true, slotNames := sn, subclasses := sub, abstract := ab, collection := col, hasDel := false }, ?_, rfl, ?_⟩
  · unfold PySem.W.clsIn
    rw [hl]
  · unfold PySem.W.typeIn
    simp only [hl]
    rfl
theorem XC.mro {K : PySem.W.Frag} {C : Addr} {bm : List Value} (x : XC K C bm) (v : Value) : PySem.W.mroIn K C v = some ((Value.ref C :: bm).contains v) := by
  obtain ⟨cd, h1, h2, _⟩ := x.cls
  unfold PySem.W.mroIn
  rw [h1, Option.bind_some, h2, if_neg (by simp)]
theorem kit_xx {K : PySem.W.Frag} {C c : Addr} {bm bm' : List Value} (x : XC K C bm) (y : XC K c bm') : PySem.W.kitOne K (.ref C) (.ref c) = some ((Value.ref C :: bm).contains (.ref c)) := by
  obtain ⟨cd, h1, h2, h3⟩ := y.cls
  unfold PySem.W.kitOne
  by_cases q : (Value.ref C == Value.ref c) = true
  · rw [if_pos q, List.contains_cons]
    have : (Value.ref c == Value.ref C) = true := by rw [beq_iff_eq] at q ⊢; exact q.symm
    rw [this]; rfl
  · rw [if_neg q]
    unfold PySem.W.kitCls
    dsimp only
    rw [h1, h3, if_pos (by simp)]
    exact x.mro _
theorem kit_xv {K : PySem.W.Frag} {C : Addr} {bm : List Value} (x : XC K C bm) : PySem.W.kitOne K (.ref C) (.type "ValueError") = some true := by
  unfold PySem.W.kitOne
  rw [if_neg (by intro q; cases beq_iff_eq.mp q)]
  unfold PySem.W.kitCls
  dsimp only
  rw [if_pos (by decide +kernel)]
  show PySem.W.mroIn K C _ = _
  rw [x.mro, List.contains_cons, x.ov.has (b := true) (by decide +kernel), Bool.or_true]
theorem kitx_x {K : PySem.W.Frag} {C a : Addr} (xa : XA K C) : PySem.W.KitX K (.ref a) (.ref C) (fun h => ∃ ox od, PySem.W.InstAt h a ox C (some od)) := by
  obtain ⟨bm, xc⟩ := xa.bm
  obtain ⟨nm, q, N, bs, sn, sub, ab, col, dd, k0, k1, k2, k3, k5, hl⟩ := xc.at_
  obtain ⟨cd, h1, h2, h3⟩ := xc.cls
  refine ⟨fun M h X ⟨ox, od, I⟩ => I.type, fun M h X _ => ?_, fun h tp dd' its n sl X htp => ?_, fun {prog w A E Q s} X ⟨ox, od, I⟩ k => ?_⟩
  · intro A' Q' E' s' k z
    unfold isType loadHead
    exact wpAny_bind (wpAny_loadPart (k _ _ (X _ _ hl)) (wpAny_pure z))
  · refine Bool.eq_false_iff.mpr fun z => ?_
    have e : C = tp := Value.ref.inj (beq_iff_eq.mp z)
    subst e
    have z := (X _ _ hl).symm.trans htp
    have z2 := congrArg (fun o => Option.map Obj.cls o) z
    simp [excClassObj] at z2
  · obtain ⟨hp, g, d, t, os⟩ := s
    exact class_attr_x xc.ov (X _ _ hl) X xa.ga xa.gt I (PySem.W.findObj_data (by rw [h1]; rfl) xa.cl xa.sg xa.tk) k
section
variable {X : Cx} {pins : List (Addr × Obj)} {σ : St} {H : Hp} {s : Shared}
theorem Inv.instAt {a C dx : Addr} {vs : Array Value} {fs : List (Str × V)} (I : Inv X pins σ H s) (e : H a = some (XObj a C (some dx) vs)) (ed : H dx = some (XDct dx fs)) : ∃ ox od, PySem.W.InstAt s.heap a ox C (some od) := by
  obtain ⟨sl, ha⟩ := xobj_get I.hok e
  obtain ⟨mA, ⟨o, _, _, ho, _⟩, _⟩ := xdct_get I.hok ed
  exact ⟨_, o, ha, rfl, rfl, ho⟩
end
/-- isinstance(e, C), isinstance(e, ValueError) -/
def rIsX (K : PySem.W.Frag) : List V → Hp → VK → Prop := fun xs H Q => ∃ (a C dx : Addr) (vs : Array Value) (fs : List (Str × V)) (c : V) (b : Bool), xs = [.ref a, c] ∧ H a = some (XObj a C (some dx) vs) ∧ H dx = some (XDct dx fs) ∧ XA K C ∧
  (∀ u, RelV c u → PySem.W.kitOne K (.ref C) u = some b) ∧ Q (.bl b) H
/-- isinstance(e, (C, ..)) -/
def rIsXT (K : PySem.W.Frag) : List V → Hp → VK → Prop := fun xs H Q => ∃ (a C dx p : Addr) (vs : Array Value) (fs : List (Str × V)) (cs : List V) (b : Bool), xs = [.ref a, .ref p] ∧ H a = some (XObj a C (some dx) vs) ∧ H dx = some (XDct dx fs) ∧ XA K C ∧
  H p = some (.tup cs) ∧ (∀ us, Vals cs us → PySem.W.kitAny K (.ref C) us = some b) ∧ Q (.bl b) H
theorem call_isX {X : Cx} : CallR X (.builtin "isinstance") (rIsX X.K) := by
  intro pins s σ H xs us Q I r h
  obtain ⟨a, C, dx, vs, fs, c, b, rfl, ea, ed, xa, hk, q⟩ := h
  cases r with
  | cons r1 r2 =>
    obtain ⟨u, rfl, ru⟩ := Vals.one r2
    cases r1
    have hp := I.instAt ea ed
    exact PySem.W.kia_one (kitx_x xa) I.kIn hp (hk u ru) (fun z => nomatch z) fun tk => ⟨.bl b, H, I.kept (t' := tk) fun _ _ e => e, rfl, q⟩
theorem call_isXT {X : Cx} : CallR X (.builtin "isinstance") (rIsXT X.K) := by
  intro pins s σ H xs us Q I r h
  obtain ⟨a, C, dx, p, vs, fs, cs, b, rfl, ea, ed, xa, ep, hk, q⟩ := h
  cases r with
  | cons r1 r2 =>
    obtain ⟨u, rfl, ru⟩ := Vals.one r2
    cases r1
    cases ru
    have hp := I.instAt ea ed
    obtain ⟨_, its, rv, o, eo, hc, n, hd⟩ := (show ObjOk X.prog X.w H s.heap p (.tup cs) from I.hok p _ ep)
    obtain ⟨oc, od, odt, osl⟩ := o
    dsimp only at hc hd
    subst hc hd
    exact PySem.W.kia_tup (kitx_x xa) I.kIn hp eo (hk its rv) (fun z => nomatch z) fun tk => ⟨.bl b, H, I.kept (t' := tk) fun _ _ e => e, rfl, q⟩
theorem w_isX {K : PySem.W.Frag} {H : Hp} {Q : VK} {a C dx : Addr} {vs : Array Value} {fs : List (Str × V)} {c : V} {b : Bool} (ea : H a = some (XObj a C (some dx) vs)) (ed : H dx = some (XDct dx fs)) (xa : XA K C) (hk : ∀ u, RelV c u → PySem.W.kitOne K (.ref C) u = some b) (q : Q (.bl b) H) :
    rIsX K [.ref a, c] H Q := ⟨a, C, dx, vs, fs, c, b, rfl, ea, ed, xa, hk, q⟩
theorem w_isXT {K : PySem.W.Frag} {H : Hp} {Q : VK} {a C dx p : Addr} {vs : Array Value} {fs : List (Str × V)} {cs : List V} {b : Bool} (ea : H a = some (XObj a C (some dx) vs)) (ed : H dx = some (XDct dx fs)) (xa : XA K C) (ep : H p = some (.tup cs)) (hk : ∀ us, Vals cs us → PySem.W.kitAny K (.ref C) us = some b) (q : Q (.bl b) H) :
    rIsXT K [.ref a, .ref p] H Q := ⟨a, C, dx, p, vs, fs, cs, b, rfl, ea, ed, xa, ep, hk, q⟩
theorem vals_refs : ∀ {cs : List Addr} {us : List Value}, Vals (cs.map V.ref) us → us = cs.map Value.ref
  | [], _, .nil => rfl
  | c :: cs, _, .cons r1 r2 => by
    cases r1
    rw [vals_refs r2]; rfl
/-- none of them -/
theorem kit_none {K : PySem.W.Frag} {C : Addr} {bm : List Value} (x : XC K C bm) : ∀ {cs : List Addr}, (∀ c ∈ cs, ∃ bm', XC K c bm' ∧ (Value.ref C :: bm).contains (.ref c) = false) → PySem.W.kitAny K (.ref C) (cs.map Value.ref) = some false
  | [], _ => rfl
  | c :: cs, h => by
    obtain ⟨bm', y, z⟩ := h c List.mem_cons_self
    show (match PySem.W.kitOne K (.ref C) (.ref c) with | some true => some true | some false => PySem.W.kitAny K (.ref C) (cs.map Value.ref) | none => none) = _
    rw [kit_xx x y, z]
    exact kit_none x fun c' h' => h c' (List.mem_cons_of_mem _ h')
/-- a class by its name -/
theorem pe_cls {X : Cx} {x : Str} {pos : Pos} {C : Addr} (hm : X.mg x = some (.ref C)) (hg : Gl X x := by rfl) (hd : (x == ("__debug__" : Str)) = false := by decide) : PE X (.Name x pos) (tC (.ref C)) :=
  fun pins s σ H Q I h => ld_glob I hg hm ⟨.ref C, H, I, rfl, h⟩ hd
/-- repr of an int, in an except suite too -/
def rReprI : List V → Hp → VK → Prop := fun xs H Q => ∃ i, xs = [.int i] ∧ (PyData.int i).showable = true ∧ Q (.str (PyData.int i).shown) H
end L2

set_option Elab.async false
set_option linter.all false
set_option maxRecDepth 100000
namespace K23
open PySem L2 G2
local macro_rules | `(tactic| walk_at "v") => `(tactic| repeat (with_reducible first
  | refine w_seq ?_ | refine w_asg ?_ | refine w_gname ?_ | refine w_op ?_ | refine w_var rfl ?_ | refine w_c ?_ | refine w_rI0 ?_ | refine w_ifs ?_ | refine w_ife ?_ | refine w_test ?_ | refine w_tb ?_ | refine w_bl ?_ | refine w_not ?_ | refine w_ret ?_ | refine w_retN ?_
  | refine w_nil ?_ | refine w_cons ?_ | refine w_lst ?_ | refine w_tup ?_ | refine w_cb ?_ | refine w_call ?_ | refine w_gsub ?_ | refine w_and ?_ | refine w_or ?_ | refine w_next ?_ | refine w_all ?_ | refine w_vals ?_ | refine w_compR ?_ | refine w_compT ?_ | refine w_forR ?_ | refine w_forT ?_ | refine w_forL ?_ | refine w_drop ?_ | refine w_bm ?_ | refine w_compZ ?_ | refine w_compL ?_ | refine w_chain ?_ | refine w_sl ?_ | refine w_nopart ?_ | refine w_part ?_ | refine w_unI ?_ | refine iteT ?_ | refine iteF ?_))
abbrev sDb : Stmt := top 24
abbrev nDb : List Str := ["many", "word", "line"]
theorem nmDb : Nm nDb (defScope sDb) := ⟨by decide +kernel, by decide +kernel⟩
theorem scDb : FnScope nDb ["many", "word"] (defScope sDb) := ⟨rfl, rfl, rfl, by decide +kernel, rfl, by decide +kernel, by decide +kernel⟩
abbrev cDb : Scope := asgCompZ ((defBody sDb).getD 0 (.Pass ⟨0, 0, 0, 0⟩))
theorem locDb : (defScope sDb).names.lookup ("line" : Str) = some .local := by decide +kernel
theorem bsDb : BScope (defScope sDb) cDb ["place"] [] ["LINE_BOUNDS"] := { okind := by decide +kernel, kind := by decide +kernel, nocell := by decide +kernel, names := by decide +kernel, fr := by decide +kernel, ff := by decide +kernel, nd := by decide +kernel, vis := by decide +kernel, loc := by decide +kernel, gl := by decide +kernel }
/-- the bounds' places -/
structure GB (K : PySem.W.Frag) (mg : Str → Option Value) (lb pb : Addr) : Prop where
  lm : mg "LINE_BOUNDS" = some (.ref lb)
  ls : ∀ H, SqT K H lb [.int (-99), .int 99]
  pm : mg "PART_BOUNDS" = some (.ref pb)
  ps : ∀ H, SqT K H pb [.int 2, .int 9]
/-- what may stand behind an ask's word -/
def akU (lb pb : Addr) (m : Nat) : Ak → List V
  | .sum _ => List.replicate (m + 1) (.ref lb)
  | .part _ _ => List.replicate (m + 1) (.ref lb) ++ [.ref pb]
  | .two _ _ _ => List.replicate (m + 1) (.ref lb) ++ (.str "/" :: List.replicate (m + 1) (.ref lb))
def akWd : Ak → Str
  | .sum _ => "sum"
  | .part _ _ => "part"
  | .two w _ _ => w
def spDb (lb pb : Addr) : Sp := fun vs H Q _ => ∃ (A : Ak) (m : Nat), vs = [.int (m : Int), .str (akWd A)] ∧ A.ok m ∧ m ≤ 3 ∧ ∀ l H', Same H H' → H' l = some (.lst (akU lb pb m A)) → Q (.ref l) H'
section
variable {P : Program} {w : World} {K : PySem.W.Frag} {mg : Str → Option Value} {base : Heap}
set_option maxHeartbeats 4000000 in
theorem ok_Db {f lb pb : Addr} {fd : FuncData} (B : Blt mg) (U : GB K mg lb pb) (F : Fun K "due_behind" "due_behind" sDb f fd) : FnOk P w K mg base CX0 1 f fd ["many", "word"] (spDb lb pb) := by
  refine F.ok scDb (fun vs H Q E h => ?_) (fun cdv A outer s H vs Q E hr h => ?_)
  · obtain ⟨A, m, rfl, _⟩ := h
    rfl
  · obtain ⟨T, m, rfl, hA, hm, k⟩ := h
    refine' ⟨_, ?hb, ?rd⟩
    case hb =>
      refine' pss_cons ?s1 ?r1
      case' r1 => refine' pss_cons ?s2 ?r2
      case' r2 => refine' pss_cons ?s3 ?r3
      case' r3 => refine' pss_one ?s4
      case s1 =>
        refine' ps_setC (i := 2) (ix := []) nmDb.nd rfl locDb bsDb.toCScope rfl rfl (pi_r1 B.range (pa_1 (pe_op op_add (pvd nmDb 0) pe_int))) ?h4 ?h5 ?h6
        case h4 => exact fun _ _ _ _ _ _ => pgb bsDb 0
        case h5 => exact fun _ _ _ _ _ _ => pts_nil
        case h6 => exact fun _ _ _ _ _ _ => pe_glob (bsDb.g 0) U.lm (v := .ref lb) rfl
      case s2 => exact ps_if (pt_cmpR op_eq (pvd nmDb 1) pe_str (nomark _)) (pss_one (ps_ret (pvd nmDb 2))) pss_nil
      case s3 =>
        refine' ps_if (pt_cmpR op_eq (pvd nmDb 1) pe_str (nomark _)) ?c1 pss_nil
        case' c1 => refine' pss_one ?c2
        case' c2 => refine' ps_ret ?c3
        case c3 => exact pe_op op_cat (pvd nmDb 2) (pe_lst (pa_1 (pe_cls U.pm)))
      case s4 =>
        refine' ps_ret ?d1
        case d1 => exact pe_op op_cat (pe_op op_cat (pvd nmDb 2) (pe_lst (pa_1 pe_str))) (pvd nmDb 2)
    case rd =>
      walk_at "v"
      refine ⟨_, rfl, by omega, by omega, fun D hD => ?_⟩
      rw [show ((m : Int) + 1).toNat = m + 1 by omega]
      refine cgo_range (ρ := []) (n := m + 1) (fun i ys H' => ys = List.replicate i (V.ref lb) ∧ Same H H') ⟨rfl, Same.new (Same.refl H) hD⟩ ?_ ?_
      · rintro i ys H' hi ⟨rfl, K'⟩ hDy R S kR kS
        walk_at "v"
        refine kR _ _ hDy (by rw [List.length_replicate]; exact small1000 (by omega)) ⟨?_, K'.put hD⟩
        rw [List.replicate_succ']
      rintro ys H1 ⟨rfl, K1⟩ e1
      cases T with
      | sum a =>
        walk_at "v"
        refine ⟨rfl, ?_⟩
        refine ⟨_, rfl, ?_⟩
        refine iteT ?_
        walk_at "v"
        exact k D H1 K1 e1
      | part a d =>
        walk_at "v"
        refine ⟨rfl, ?_⟩
        refine ⟨_, rfl, ?_⟩
        refine iteF ?_
        walk_at "v"
        refine ⟨rfl, ?_⟩
        refine ⟨_, rfl, ?_⟩
        refine iteT ?_
        walk_at "v"
        refine ⟨by show 1 ≤ sizeLine; decide, fun l1 hl1 => ?_⟩
        have K2 : Same H1 (upd H1 l1 (.lst [.ref pb])) := Same.new (Same.refl H1) hl1
        have e2 : upd H1 l1 (.lst [.ref pb]) l1 = some (.lst [.ref pb]) := upd_same
        generalize upd H1 l1 (.lst [.ref pb]) = H2 at K2 e2 ⊢
        refine ⟨D, l1, _, _, rfl, rfl, K2 _ _ e1, e2, by rw [List.length_replicate]; exact Nat.le_of_lt (small1000 (by show m + 1 + 1 ≤ 1000; omega)), fun l hl => ?_⟩
        exact k l _ ((K1.trans K2).new hl) upd_same
      | two x a b =>
        have nx1 : ¬ x = "part" := by rcases hA.1 with rfl | rfl | rfl | rfl <;> decide +kernel
        have nx2 : ¬ x = "sum" := by rcases hA.1 with rfl | rfl | rfl | rfl <;> decide +kernel
        walk_at "v"
        refine ⟨rfl, ?_⟩
        refine ⟨_, rfl, ?_⟩
        refine iteD (fun z => absurd (V.str.inj z) nx2) (fun _ => ?_)
        walk_at "v"
        refine ⟨rfl, ?_⟩
        refine ⟨_, rfl, ?_⟩
        refine iteD (fun z => absurd (V.str.inj z) nx1) (fun _ => ?_)
        walk_at "v"
        refine ⟨by show 1 ≤ sizeLine; decide, fun l1 hl1 => ?_⟩
        have K2 : Same H1 (upd H1 l1 (.lst [.str "/"])) := Same.new (Same.refl H1) hl1
        have e2 : upd H1 l1 (.lst [.str "/"]) l1 = some (.lst [.str "/"]) := upd_same
        generalize upd H1 l1 (.lst [.str "/"]) = H2 at K2 e2 ⊢
        refine ⟨D, l1, _, _, rfl, rfl, K2 _ _ e1, e2, by rw [List.length_replicate]; exact Nat.le_of_lt (small1000 (by show m + 1 + 1 ≤ 1000; omega)), fun l2 hl2 => ?_⟩
        have K3 : Same H2 (upd H2 l2 (.lst (List.replicate (m + 1) (.ref lb) ++ [.str "/"]))) := Same.new (Same.refl H2) hl2
        have e3 : upd H2 l2 (.lst (List.replicate (m + 1) (.ref lb) ++ [.str "/"])) l2 = some (.lst (List.replicate (m + 1) (.ref lb) ++ [.str "/"])) := upd_same
        generalize upd H2 l2 (.lst (List.replicate (m + 1) (.ref lb) ++ [.str "/"])) = H3 at K3 e3 ⊢
        walk_at "v"
        refine ⟨l2, D, _, _, rfl, rfl, e3, (K2.trans K3) _ _ e1, by rw [List.length_append, List.length_replicate]; exact Nat.le_of_lt (small1000 (by show m + 1 + 1 + (m + 1) ≤ 1000; omega)), fun l hl => ?_⟩
        refine k l _ (((K1.trans K2).trans K3).new hl) ?_
        rw [upd_same, List.append_assoc]
        rfl
end
end K23

set_option Elab.async false
set_option linter.all false
set_option maxRecDepth 100000
namespace L2
open PySem PySem.Spec PyProof.Rows
/-! ### steps of readings -/
theorem w_callX {sp : Sp} {EX : St → XK} {t : TA} {σ : St} {H : Hp} {Q : VK} (h : t σ H fun vs H1 => sp vs H1 Q (EX σ)) : tCallX sp EX t σ H Q := h
theorem w_try {K : PySem.W.Frag} {D : Addr} {i : Nat} {tb : (St → XK) → TS} {ts : TS} {Dn : Ends} {σ : St} {H : Hp} (h : tb (fun σ' C d H' => ∃ (c : Addr) (bm : List Value), C = .ref c ∧ XC K c bm ∧ (Value.ref c :: bm).contains (.ref D) = true ∧
  ∀ a vs, H' a = none → ts (unE i Dn) (σ'.set i (some (.ref a))) (upd H' a (XObj a c d vs))) Dn σ H) : tTry K D i tb ts Dn σ H := h
theorem w_unE {i : Nat} {D : Ends} {σ : St} {H : Hp} (h : D.nx (σ.set i none) H) : (unE i D).nx σ H := h
theorem w_xf {K : PySem.W.Frag} {ta : TE} {f : Str} {σ : St} {H : Hp} {Q : VK} (h : ta σ H fun x H1 => ∃ (a C dx : Addr) (vs : Array Value) (fs : List (Str × V)) (v : V), x = .ref a ∧ H1 a = some (XObj a C (some dx) vs) ∧ H1 dx = some (XDct dx fs) ∧ XA K C ∧ NoAttr K C f ∧ fs.lookup f = some v ∧ Q v H1) : tXf K ta f σ H Q := h
theorem w_sxf {K : PySem.W.Frag} {ta tv : TE} {f : Str} {D : Ends} {σ : St} {H : Hp} (h : tv σ H fun y H1 => ta σ H1 fun x H2 => ∃ (a C : Addr) (d : Option Addr) (vs : Array Value), x = .ref a ∧ H2 a = some (XObj a C d vs) ∧ XA K C ∧ NoAttr K C f ∧ XSt H2 a C d vs f y (D.nx σ)) : sXf K ta tv f D σ H := h
/-! ### the rules where the context is a block's or a suite's -/
theorem isXT_K {X : Cx} {K : PySem.W.Frag} (h : X.K = K) : CallR X (.builtin "isinstance") (rIsXT K) := h ▸ call_isXT
theorem isX_K {X : Cx} {K : PySem.W.Frag} (h : X.K = K) : CallR X (.builtin "isinstance") (rIsX K) := h ▸ call_isX
theorem pe_xfK {X : Cx} {K : PySem.W.Frag} {e : Expr} {ta : TE} {f : Str} {pos : Pos} (h : X.K = K) (he : PE X e ta) (hb : attributeBase e f X.env (eval e X.env) = eval e X.env := by rfl) : PE X (.Attribute e f pos) (tXf K ta f) := h ▸ pe_xf he hb
/-! ### own classes: where their defs stand -/
def methOf (s : Stmt) (i : Nat) : Stmt := match s with
  | .ClassDef _ _ _ body _ _ _ _ _ _ _ => body.getD i (.Pass ⟨0, 0, 0, 0⟩)
  | _ => .Pass ⟨0, 0, 0, 0⟩
/-- an exception of a class, its fields in its dict, behind an except -/
theorem XObj.ne {a C : Addr} {d : Option Addr} {vs : Array Value} {H : Hp} {b : Addr} (e : H a = some (XObj a C d vs)) (h : H b = none) : a ≠ b := ne_of_none e h
/-- the nine classes -/
structure XUni (K : PySem.W.Frag) (mg : Str → Option Value) (D : Addr) (cs : List (Str × Addr)) : Prop where
  base : XC K D bmV
  mD : mg "DropError" = some (.ref D)
  cls : ∀ c ∈ cs, mg c.1 = some (.ref c.2) ∧ XC K c.2 (.ref D :: bmV) ∧ XA K c.2
  nd : (D :: cs.map (·.2)).Nodup
theorem contains_D {D c : Addr} : (Value.ref c :: .ref D :: bmV).contains (.ref D) = true := by simp
theorem contains_ne {D c c' : Addr} (h1 : c ≠ c') (h2 : c' ≠ D) : (Value.ref c :: .ref D :: bmV).contains (.ref c') = false := by
  rw [List.contains_cons, List.contains_cons]
  have e1 : (Value.ref c' == Value.ref c) = false := by
    refine Bool.eq_false_iff.mpr fun z => h1 ?_
    exact (Value.ref.inj (beq_iff_eq.mp z)).symm
  have e2 : (Value.ref c' == Value.ref D) = false := by
    refine Bool.eq_false_iff.mpr fun z => h2 ?_
    exact Value.ref.inj (beq_iff_eq.mp z)
  rw [e1, e2]
  rfl
end L2

set_option Elab.async false
set_option linter.all false
set_option maxRecDepth 100000
namespace L2
open PySem PySem.Spec PyProof.Rows
/-! ### a def that a name holds is called -/
def tCallV (P : Program) (w : World) (K : PySem.W.Frag) (mg : Str → Option Value) (base : Heap) (j i : Nat) (EX : St → XK) (t : TA) : TE := fun σ H Q => ∃ (f : Addr) (fd : FuncData) (k : Nat) (ps : List Str) (sp : Sp), σ[i]? = some (some (.ref f)) ∧ k ≤ j ∧
  FnOk P w K mg base (CXE P w) k f fd ps sp ∧ PySem.W.keepIn K (.ref f) = true ∧ Binds K fd ps [] ∧ t σ H fun vs H1 => sp vs H1 Q (EX σ)
/-! ### enumerate of a tuple or of a list -/
def iEn2 (K : PySem.W.Frag) (ta : TA) : TI := fun σ H R => iEnu K ta σ H R ∨ iEnl K ta σ H R
/-- a tuple or a list -/
def SqA (H : Hp) (a : Addr) (xs : List V) : Prop := H a = some (.tup xs) ∨ H a = some (.lst xs)
theorem SqA.same {H H' : Hp} {a : Addr} {xs : List V} (k : Same H H') (h : SqA H a xs) : SqA H' a xs := h.elim (fun z => .inl (k _ _ z)) fun z => .inr (k _ _ z)
end L2

set_option Elab.async false
set_option linter.all false
set_option maxRecDepth 100000
namespace PySem
open Sem (wp)
open L2 (OverV bmV)
section
variable {prog : Program} {w : World} {A : Around} {E : Value → Shared → Prop} {h : Heap} {g : Array GenState} {d : Drawn} {t : Nat} {os : OsState}
variable {nm q : Str} {C N : Addr} {bs : List Value} {sn : List Str} {sub : List Value} {ab : Bool} {col : Option Bool} {dd : Option Addr} {k0 k1 k2 k3 k5 : Option Value}
/-- what is made stands behind all that was there -/
abbrev MadeB (h : Heap) (C : Addr) (Q : Value → Heap → Prop) : Prop := ∀ h' tt, (∀ b o, h.get? b = some o → h'.get? b = some o) → h'.get? (h.objs.size + 1) = some { cls := .ref C, data := .fields #[.ref tt, .none, .none, .none, .bool false, .none] } → Q (.ref (h.objs.size + 1)) h'
end
end PySem
namespace L2
open PySem PySem.Spec PyProof.Rows
/-! ### defs that are called in an except suite -/
structure FnOkH (P : Program) (w : World) (K : PySem.W.Frag) (mg : Str → Option Value) (base : Heap) (k : Nat) (f : Addr) (fd : FuncData) (ps : List Str) (sp : Sp) : Prop where
  len : ∀ vs H Q E, sp vs H Q E → vs.length = ps.length
  run : ∀ (A : Around) (a : Addr) (outer : List Env) (s : Shared) (H : Hp) (args : Args) (us : List Value) (vs : List V) (Q : VK), Room k A → Env0 P w K mg base A outer s H → BindsTo s fd args (ps.zip us) → Vals vs us → sp vs H Q E0 →
    codeAny (model P w) (A.mark (some (.ref a))) (.call (.ref f) args) (CR CX0 outer P w H s Q E0) s
def HasH (P : Program) (w : World) (K : PySem.W.Frag) (mg : Str → Option Value) (base : Heap) (k : Nat) (x : Str) (ps : List Str) (sp : Sp) : Prop :=
  ∃ (f : Addr) (fd : FuncData), FnOkH P w K mg base k f fd ps sp ∧ mg x = some (.ref f) ∧ PySem.W.keepIn K (.ref f) = true ∧ Binds K fd ps []
def tCallH (sp : Sp) (t : TA) : TE := fun σ H Q => t σ H fun vs H1 => sp vs H1 Q E0
section
variable {X : Cx} {k j : Nat} {f a : Addr} {fd : FuncData} {ps : List Str} {sp : Sp} {x : Str} {p pos : Pos} {e : Expr} {es : List Expr} {t : TA}
end
/-! ### isinstance of an exception, with fields or without -/
def XAt (H : Hp) (a C : Addr) (d : Option Addr) : Prop := (∃ vs, H a = some (XObj a C d vs)) ∧ (d = none ∨ ∃ dx fs, d = some dx ∧ H dx = some (XDct dx fs))
theorem XAt.same {H H' : Hp} {a C : Addr} {d : Option Addr} (k : Same H H') (h : XAt H a C d) : XAt H' a C d := ⟨let ⟨vs, e⟩ := h.1; ⟨vs, k _ _ e⟩, h.2.elim .inl fun ⟨dx, fs, e, z⟩ => .inr ⟨dx, fs, e, k _ _ z⟩⟩
def rIsY (K : PySem.W.Frag) : List V → Hp → VK → Prop := fun xs H Q => ∃ (a C : Addr) (d : Option Addr) (c : V) (b : Bool), xs = [.ref a, c] ∧ XAt H a C d ∧ XA K C ∧ (∀ u, RelV c u → PySem.W.kitOne K (.ref C) u = some b) ∧ Q (.bl b) H
/-! ### an own class without an own __init__ is raised -/
structure XBase (K : PySem.W.Frag) (C : Addr) : Prop where
  at_ : ∃ (nm q : Str) (N : Addr) (bs : List Value) (sn : List Str) (sub : List Value) (ab : Bool) (col : Option Bool) (dd : Option Addr) (k0 k1 k2 k3 k5 : Option Value),
    K.lookup C = some (excClassObj nm q C N bs bmV true sn sub ab col dd k0 k1 k2 k3 k5 "ValueError.__new__")
  fi : PySem.W.findIn K (.ref C) "__init__" = some (some (.builtin "ValueError.__init__"))
  kp : PySem.W.keepIn K (.ref C) = true
def tRaiseB (C : Addr) (EX : St → XK) (t : TA) : TS := fun _ σ H => t σ H fun vs H1 => vs.length ≤ 1000 ∧ EX σ (.ref C) none H1
end L2

set_option Elab.async false
set_option linter.all false
set_option maxRecDepth 100000
namespace L2
open PySem PySem.Spec PyProof.Rows
section
variable {X : Cx} {k : Nat}
/-- t != (), t == (), whatever stands in t -/
def rNeT : R2 := fun x y H Q => ∃ (a z : Addr) (xs : List V), x = .ref a ∧ y = .ref z ∧ H a = some (.tup xs) ∧ H z = some (.tup []) ∧ Q (.bl (!xs.isEmpty)) H
end
end L2

set_option Elab.async false
set_option linter.all false
set_option maxRecDepth 100000
/-! set(t), t a tuple of ints and texts; how many are in it -/
namespace L2
open PySem PySem.Spec PyProof.Rows
def hasK (ks : List Key) (k : Key) : Bool := ks.any fun a => decide (a = k)
def metK (val : Nat → Key) : Nat → List Key
  | 0 => []
  | i + 1 => if hasK (metK val i) (val i) = true then metK val i else metK val i ++ [val i]
section
variable {pr : Program} {wo : World} {Ar : Around} {R : Result → Shared → Prop} {I : Addr} {fp wr : List Addr} {G : Array GenState → Array GenState → Prop} {n : Nat} {P : Nat → Value → Prop} {St : Nat → Shared → Prop}
end
section
variable {pr : Program} {wo : World} {Ar : Around} {E : Value → Shared → Prop} {s : Shared}
abbrev eS (led : Bool) : Obj := { cls := .type "set", dict := none, data := .set #[] 0 (.fresh 0 0 led) }
end
/-- set(t), t of ints and texts: a new thing that has so many -/
def SetK (P : Program) (w : World) (a : Addr) (n : Nat) : HO := .ext fun h => ∃ S, h.SetOf (mixKind P w) a S n
def keyV : V → Bool
  | .int _ => true
  | .str _ => true
  | _ => false
def toK : V → Key
  | .int i => .inl i
  | .str x => .inr x
  | _ => .inl 0
def rSetT (X : Cx) : List V → Hp → VK → Prop := fun xs H Q => ∃ (p : Addr) (ys : List V), xs = [.ref p] ∧ H p = some (.tup ys) ∧ ys.all keyV = true ∧ ys.length ≤ 100 ∧ ∀ q, H q = none → Q (.ref q) (upd H q (SetK X.prog X.w q (metK (fun i => (ys.map toK).getD i (.inl 0)) ys.length).length))
def rLenK (X : Cx) : List V → Hp → VK → Prop := fun xs H Q => ∃ (p : Addr) (n : Nat), xs = [.ref p] ∧ H p = some (SetK X.prog X.w p n) ∧ n ≤ 100 ∧ Q (.int (n : Int)) H
end L2

set_option Elab.async false
set_option linter.all false
set_option maxRecDepth 100000
namespace L2
open PySem
/-- names of the language that the program leaves alone -/
structure Bl (mg : Str → Option Value) : Prop where
  len : mg "len" = none
  range : mg "range" = none
  tuple : mg "tuple" = none
  int : mg "int" = none
  bool : mg "bool" = none
  list : mg "list" = none
  str : mg "str" = none
  all : mg "all" = none
  any : mg "any" = none
  isi : mg "isinstance" = none
  repr : mg "repr" = none
  zip : mg "zip" = none
  min : mg "min" = none
  max : mg "max" = none
  sum : mg "sum" = none
  enu : mg "enumerate" = none
  sorted : mg "sorted" = none
  set : mg "set" = none
  dict : mg "dict" = none
  abs : mg "abs" = none
def Kn (mg : Str → Option Value) (x : Str) (i : Int) : Prop := ∃ t, mg x = some (Value.int i t)
def KnS (mg : Str → Option Value) (x : Str) (a : Str) : Prop := ∃ t, mg x = some (Value.str a t)
theorem pe_k {X : Cx} {x : Str} {i : Int} {pos : Pos} (h : Kn X.mg x i) (hg : Gl X x := by rfl) (hd : (x == ("__debug__" : Str)) = false := by decide) : PE X (.Name x pos) (tC (.int i)) := by
  obtain ⟨t, e⟩ := h
  exact pe_glob hg e ⟨t, rfl⟩ hd
theorem pe_ks {X : Cx} {x a : Str} {pos : Pos} (h : KnS X.mg x a) (hg : Gl X x := by rfl) (hd : (x == ("__debug__" : Str)) = false := by decide) : PE X (.Name x pos) (tC (.str a)) := by
  obtain ⟨t, e⟩ := h
  exact pe_glob hg e ⟨t, rfl⟩ hd
/-- range(a, b) that is gone through -/
theorem pi_r2 {X : Cx} {a b tg : Expr} {ta : TA} {p pos : Pos} (hm : X.mg "range" = none) (ha : PA X [a, b] ta) (hg : Gl X "range" := by rfl) (h : isStar a = false := by rfl) (h' : isStar b = false := by rfl) : PI X tg (.Call (.Name "range" p) [a, b] [] pos) (iRng2 ta) := pi_range2 hg hm ha (by rw [star1 h, star1 h']; rfl) (by rw [star1 h']; rfl)
theorem w_forR2 {ta : TA} {g : TG} {tb : TS} {D : Ends} {σ : St} {H : Hp} (h : ta σ H fun vs H1 => ∃ i j : Int, vs = [.int i, .int j] ∧ (-(2 ^ 62) ≤ i ∧ i < 2 ^ 62 ∧ -(2 ^ 62) ≤ j ∧ j < 2 ^ 62) ∧ ForJ (Itr i (j - i).toNat) g tb D σ H1) : tFor (iRng2 ta) g tb D σ H := h
theorem w_gt {K : PySem.W.Frag} {vs : List V} {σ : St} {H : Hp} {Q : VK} (h : ∀ a, SqT K H a vs → Q (.ref a) H) : tGT K vs σ H Q := h
theorem w_orV {ta tb : TE} {σ : St} {H : Hp} {Q : VK} (h : ta σ H fun x H1 => ∃ c, x = .bl c ∧ if c = true then Q (.bl true) H1 else tb σ H1 Q) : tOrV ta tb σ H Q := h
theorem w_andV {ta tb : TE} {σ : St} {H : Hp} {Q : VK} (h : ta σ H fun x H1 => ∃ c, x = .bl c ∧ if c = true then tb σ H1 Q else Q (.bl false) H1) : tAndV ta tb σ H Q := h
theorem at0 {v : V} {xs : List V} : atI (v :: xs) 0 = some v := atI_nat (show (v :: xs)[0]? = some v from rfl)
theorem iteNN {c A B : Prop} [Decidable c] (hc : ¬ c) (h : A) : if (!decide c) = true then A else B := by rw [decide_eq_false hc]; exact iteT h
theorem iteP {c A B : Prop} [Decidable c] (hc : c) (h : A) : if decide c = true then A else B := by rw [decide_eq_true hc]; exact iteT h
theorem iteQ {c A B : Prop} [Decidable c] (hc : ¬ c) (h : B) : if decide c = true then A else B := by rw [decide_eq_false hc]; exact iteF h
end L2

set_option Elab.async false
set_option linter.all false
set_option maxRecDepth 100000
namespace L2
open PySem PySem.Spec PyProof.Rows Builtin Builtin.Str
section
variable {X : Cx}
/-- b.join(tuple of texts) -/
def rJoinT : V → List V → Hp → VK → Prop := fun x vs H Q => ∃ b p xs, x = .str b ∧ vs = [.ref p] ∧ (H p = some (.tup (xs.map V.str)) ∨ ∃ o, H p = some (.frz o (.tup (xs.map V.str)))) ∧ JoinOk b xs = true ∧ (Txt.join b xs).length ≤ sizeLine ∧ Q (.str (Txt.join b xs)) H
/-- ws.index(b), ws a list of texts -/
def rIndexS : V → List V → Hp → VK → Prop := fun x vs H Q => ∃ (l : Addr) (ws : List Str) (b : Str) (k : Nat), x = .ref l ∧ vs = [.str b] ∧ H l = some (.lst (ws.map V.str)) ∧ ws[k]? = some b ∧ (∀ i y, i < k → ws[i]? = some y → y ≠ b) ∧ Q (.int (k : Int)) H
def isT (b : Str) : Value → Bool
  | .str a _ => decide (a = b)
  | _ => false
end
/-! ### range(a, b, 2) -/
def Itrs (lo c : Int) (n : Nat) : It := ⟨fun i _ => i < n, fun i H x H' => H' = H ∧ x = .int (lo + i * c), fun i _ => n ≤ i⟩
def iRng3 (ta : TA) : TI := fun σ H R => ta σ H fun vs H1 => ∃ i j : Int, vs = [.int i, .int j, .int 2] ∧ (0 ≤ i ∧ i < 2 ^ 40 ∧ 0 ≤ j ∧ j < 2 ^ 40) ∧ R (Itrs i 2 ((j - i + 1) / 2).toNat) H1
section
variable {X : Cx} {tg : Expr}
end
theorem eqV_str {a b : Str} : eqV (.str a) (.str b) = decide (a = b) := by
  show _ = _
  unfold eqV
  rfl
theorem inV_strs (x : Str) : ∀ (ws : List Str), inV (.str x) (ws.map V.str) = decide (x ∈ ws)
  | [] => rfl
  | w :: ws => by
    show (eqV (.str w) (.str x) || inV (.str x) (ws.map V.str)) = _
    rw [inV_strs x ws, eqV_str]
    by_cases h : w = x
    · subst h; simp
    · have h' : ¬ x = w := fun e => h e.symm
      simp [h, h']
theorem flat_strs (ws : List Str) : (ws.map V.str).all flatV = true := by
  rw [List.all_map]
  exact List.all_eq_true.mpr fun _ _ => rfl
end L2

set_option Elab.async false
set_option linter.all false
set_option maxRecDepth 100000
namespace L2
open PySem PySem.Spec PyProof.Rows
/-- xs[i] within xs[i] op= e, a list, from the front -/
def rGetL : V → V → Hp → VK → Prop := fun o i H Q => ∃ (p : Addr) (xs : List V) (j : Nat) (v : V), o = .ref p ∧ i = .int (j : Int) ∧ H p = some (.lst xs) ∧ xs[j]? = some v ∧ Q v H
section
variable {X : Cx} {e st : Expr} {te ts : TE} {pos p2 : Pos}
/-- xs[::-1], xs a list: a new list -/
def tRevL (K : PySem.W.Frag) (te : TE) (ts : TO) : TE := fun σ H Q => te σ H fun x H1 => ts σ H1 fun k H2 => k = some (-1) ∧ ∃ a xs, x = .ref a ∧ SqL K H2 a xs ∧ ∀ p, H2 p = none → Q (.ref p) (upd H2 p (.lst xs.reverse))
end
section
variable {D : Addr} {te : TE} {Q : VK} {ρ : St} {H : Hp}
end
end L2

set_option Elab.async false
set_option linter.all false
set_option maxRecDepth 100000
namespace L2
open PySem PySem.Spec PyProof.Rows Builtin Builtin.Str
section
variable {X : Cx}
/-- a text so many times -/
def repS (x : Str) (n : Nat) : Str := ⟨(List.replicate n x.cps).foldl (· ++ ·) #[]⟩
def rRepS : R2 := fun x y H Q => ∃ (a : Str) (n : Nat), x = .str a ∧ y = .int (n : Int) ∧ n ≤ 100 ∧ a.length ≤ 100 ∧ 0 < a.length ∧ (repS a n).length ≤ sizeLine ∧ Q (.str (repS a n)) H
theorem op_repS : OpR X (binaryOp .Mult) rRepS := by
  intro pins s σ H x y v u Q I rx ry h
  obtain ⟨a, n, rfl, rfl, hn, ha, ha0, hz, q⟩ := h
  obtain ⟨t, rfl⟩ := rx
  obtain ⟨t', rfl⟩ := ry
  refine P.mul_str (by rw [decide_eq_false (by omega), decide_eq_false (by omega)]; rfl) (fun h1 h2 => ?_) (fun h1 h2 => ?_) ?_
  · have e : ((2 : Int) ^ 63 - 1) / (n : Int) ≥ 100 := by
      have : (n : Int) * 100 ≤ 2 ^ 63 - 1 := by omega
      exact (Int.le_ediv_iff_mul_le (by omega)).mpr (by omega)
    omega
  · unfold tooLong
    refine decide_eq_false fun z => ?_
    have z : a.length * ((n : Int)).toNat > _ := z
    rw [Int.toNat_natCast] at z
    have : a.length * n ≤ 100 * 100 := Nat.mul_le_mul ha hn
    have hh : 10000 < sizeLine := by decide
    omega
  · match n, hz, q with
    | 0, hz, q =>
      rw [if_pos (by omega)]
      exact ⟨by decide, ⟨.str _, H, I.tok _, ⟨_, rfl⟩, q⟩⟩
    | 1, hz, q =>
      rw [if_neg (by omega), if_pos (by rfl)]
      have e : repS a 1 = a := by
        unfold repS
        apply Str.ext'
        simp
      rw [e] at q
      exact ⟨.str _, H, I, ⟨_, rfl⟩, q⟩
    | n + 2, hz, q =>
      have e2 : ((((n + 2 : Nat) : Int)) == 1 || a.length == 0) = false := by
        rw [Bool.or_eq_false_iff]
        exact ⟨by rw [beq_eq_false_iff_ne]; omega, by rw [beq_eq_false_iff_ne]; omega⟩
      rw [if_neg (by omega), if_neg (by rw [e2]; decide)]
      rw [Int.toNat_natCast]
      exact ⟨hz, ⟨.str _, H, I.tok _, ⟨_, rfl⟩, q⟩⟩
/-- list(text) -/
def rListS : List V → Hp → VK → Prop := fun xs H Q => ∃ (x : Str), xs = [.str x] ∧ x.cps.size ≤ 1000 ∧ ∀ l, H l = none → Q (.ref l) (upd H l (.lst ((sg x).map V.str)))
theorem call_listS (hr : Room k X.A) : CallR X (.type "list") rListS := by
  intro pins s σ H xs us Q I r h
  obtain ⟨x, rfl, hn, q⟩ := h
  obtain ⟨u, rfl, ru⟩ := r.one
  obtain ⟨t, rfl⟩ := ru
  refine call_list_str (hn := Nat.le_of_lt (small1000 hn)) hr.hd x t fun h' tk acc c hk hl hacc => ?_
  obtain ⟨hsz, hit⟩ := hacc
  refine ⟨.ref s.heap.objs.size, _, I.laid (t' := tk) (o := .lst ((sg x).map V.str)) hk (Nat.le_refl _) ?_, rfl, q _ (I.hok.fresh (Nat.le_refl _))⟩
  refine ⟨by rw [List.length_map, sg_len]; exact Nat.le_of_lt (small1000 hn), acc.toList, c, vals_of (by simp [hsz, sg_len]) fun j y u ey eu => ?_, by simpa using hl⟩
  obtain ⟨ch, tk', hc, rfl⟩ := hit j u (by simpa using eu)
  have : y = V.str ⟨#[ch]⟩ := by
    rw [List.getElem?_map, sg_at hc] at ey
    exact (Option.some.inj ey).symm
  subst this
  exact ⟨tk', rfl⟩
end
theorem slice_eq (x : Str) (l u : Option Int) : Txt.slice x l u = StrLaws.sliceText x l u := rfl
theorem startsw (x : Str) (c : Nat) : Txt.startswith x ⟨#[c]⟩ = (match x.cps.toList with | a :: _ => decide (a = c) | [] => false) := by
  unfold Txt.startswith subAt
  obtain ⟨⟨l⟩⟩ := x
  cases l with
  | nil => rfl
  | cons a r =>
    have e1 : (decide (0 + (⟨#[c]⟩ : Str).length ≤ (⟨⟨a :: r⟩⟩ : Str).length)) = true := by
      apply decide_eq_true
      show 0 + 1 ≤ r.length + 1
      omega
    rw [e1, Bool.true_and]
    have e2 : (⟨a :: r⟩ : Array Nat).extract 0 (0 + (⟨#[c]⟩ : Str).length) = #[a] := by
      show (⟨a :: r⟩ : Array Nat).extract 0 1 = #[a]
      simp
    show ((⟨a :: r⟩ : Array Nat).extract 0 (0 + (⟨#[c]⟩ : Str).length) == #[c]) = _
    rw [e2]
    by_cases h : a = c
    · subst h; simp
    · have : ¬ (#[a] : Array Nat) = #[c] := fun e => h (by simpa using e)
      simp [h]
end L2

set_option Elab.async false
set_option linter.all false
set_option maxRecDepth 100000
namespace K23
open PySem L2 G2
local macro_rules | `(tactic| walk_at "v") => `(tactic| repeat (with_reducible first
  | refine w_seq ?_ | refine w_asg ?_ | refine w_gname ?_ | refine w_op ?_ | refine w_var rfl ?_ | refine w_c ?_ | refine w_rI0 ?_ | refine w_ifs ?_ | refine w_ife ?_ | refine w_test ?_ | refine w_tb ?_ | refine w_bl ?_ | refine w_not ?_ | refine w_ret ?_ | refine w_retN ?_
  | refine w_nil ?_ | refine w_cons ?_ | refine w_lst ?_ | refine w_tup ?_ | refine w_cb ?_ | refine w_call ?_ | refine w_gsub ?_ | refine w_and ?_ | refine w_or ?_ | refine w_next ?_ | refine w_all ?_ | refine w_vals ?_ | refine w_compR ?_ | refine w_compT ?_ | refine w_forR ?_ | refine w_forT ?_ | refine w_forL ?_ | refine w_drop ?_ | refine w_bm ?_ | refine w_compZ ?_ | refine w_compL ?_ | refine w_chain ?_ | refine w_sl ?_ | refine w_nopart ?_ | refine w_part ?_ | refine w_unI ?_ | refine iteT ?_ | refine iteF ?_))
theorem inF1 (c : Nat) : inF ⟨#[c]⟩ = decide (48 ≤ c ∧ c ≤ 57) := by
  have h := StrLaws.found_one "0123456789" c
  have e : (Str.ofString "0123456789").cps.toList = [48, 49, 50, 51, 52, 53, 54, 55, 56, 57] := by decide +kernel
  rw [e] at h
  unfold inF
  rw [show Str.length "0123456789" = (Str.ofString "0123456789").length from rfl, h]
  by_cases hc : 48 ≤ c ∧ c ≤ 57
  · rw [decide_eq_true hc]
    apply decide_eq_true
    have : c = 48 ∨ c = 49 ∨ c = 50 ∨ c = 51 ∨ c = 52 ∨ c = 53 ∨ c = 54 ∨ c = 55 ∨ c = 56 ∨ c = 57 := by omega
    simp
    omega
  · rw [decide_eq_false hc]
    apply decide_eq_false
    intro z
    simp at z
    omega
def hdS (x : Str) : Str := match x.cps.toList with | c :: _ => ⟨#[c]⟩ | [] => ""
def figP (x : Str) : Bool := !decide (x = "") && ((sg x).all inF && (decide (x = "0") || !decide (hdS x = "0")))
def sigP (x : Str) : Bool := if Txt.startswith x "-" = true then !decide (x = "-0") && figP (Txt.slice x (some 1) none) else figP x
def okB (x : Str) (i : Int) : Bool := decide (x = fT i) && decide (PySem.intText? x = some i)
theorem one_ok : ∀ a < 10, okB ⟨#[48 + a]⟩ (a : Int) = true := by decide +kernel
theorem two_ok : ∀ a < 10, ∀ b < 10, a ≠ 0 → okB ⟨#[48 + a, 48 + b]⟩ ((10 * a + b : Nat) : Int) = true := by decide +kernel
theorem three_ok : ∀ a < 10, ∀ b < 10, ∀ c < 10, a ≠ 0 → okB ⟨#[48 + a, 48 + b, 48 + c]⟩ ((100 * a + 10 * b + c : Nat) : Int) = true := by decide +kernel
theorem mone_ok : ∀ a < 10, a ≠ 0 → okB ⟨#[45, 48 + a]⟩ (-(a : Int)) = true := by decide +kernel
theorem mtwo_ok : ∀ a < 10, ∀ b < 10, a ≠ 0 → okB ⟨#[45, 48 + a, 48 + b]⟩ (-((10 * a + b : Nat) : Int)) = true := by decide +kernel
theorem all_inF {x : Str} (h : (sg x).all inF = true) : ∀ c ∈ x.cps.toList, 48 ≤ c ∧ c ≤ 57 := fun c hc => by
  have := List.all_eq_true.mp h ⟨#[c]⟩ (List.mem_map.mpr ⟨c, hc, rfl⟩)
  rw [inF1] at this
  exact of_decide_eq_true this
theorem okB_of {x : Str} {i : Int} (h : okB x i = true) : x = fT i ∧ PySem.intText? x = some i := by
  unfold okB at h
  simpa using h
theorem st_dash (x : Str) : Txt.startswith x "-" = (match x.cps.toList with | a :: _ => decide (a = 45) | [] => false) := startsw x 45
theorem hd_zero {a : Nat} {r : List Nat} {x : Str} (e : x.cps.toList = a :: r) : (hdS x = "0") ↔ a = 48 := by
  unfold hdS
  rw [e]
  constructor
  · intro h
    have := congrArg (fun y : Str => y.cps.toList) h
    have e0 : (Str.ofString "0").cps.toList = [48] := by decide +kernel
    have this : [a] = [48] := this.trans e0
    simpa using this
  · intro h
    subst h
    show (⟨#[48]⟩ : Str) = "0"
    decide +kernel
theorem of_list {x : Str} {l : List Nat} (e : x.cps.toList = l) : x = ⟨l.toArray⟩ := Str.ext' (Array.toList_inj.mp (by rw [e]))
/-- figures without a 0 ahead write a number -/
theorem digs_val {l : List Nat} {x : Str} (e : x.cps.toList = l) (hl : l.length ≤ 3) (h1 : l ≠ []) (hd : ∀ c ∈ l, 48 ≤ c ∧ c ≤ 57) (h0 : l = [48] ∨ l.head? ≠ some 48) : ∃ n : Nat, x = fT (n : Int) ∧ PySem.intText? x = some (n : Int) ∧ n < 1000 ∧ (l.length = 1 ∨ 10 ≤ n) ∧ (l.length ≤ 2 ↔ n < 100) := by
  match l, hl, h1 with
  | [a], _, _ =>
    have ha := hd a (by simp)
    obtain ⟨e1, e2⟩ := okB_of (one_ok (a - 48) (by omega))
    rw [show 48 + (a - 48) = a by omega] at e1 e2
    have ex : x = ⟨#[a]⟩ := of_list e
    exact ⟨a - 48, by rw [ex]; exact e1, by rw [ex]; exact e2, by omega, .inl rfl, by simp; omega⟩
  | [a, b], _, _ =>
    have ha := hd a (by simp)
    have hb := hd b (by simp)
    have hz : a ≠ 48 := by
      rcases h0 with h | h
      · simp at h
      · intro z; exact h (by rw [z]; rfl)
    obtain ⟨e1, e2⟩ := okB_of (two_ok (a - 48) (by omega) (b - 48) (by omega) (by omega))
    rw [show 48 + (a - 48) = a by omega, show 48 + (b - 48) = b by omega] at e1 e2
    have ex : x = ⟨#[a, b]⟩ := of_list e
    exact ⟨_, by rw [ex]; exact e1, by rw [ex]; exact e2, by omega, .inr (by omega), by simp; omega⟩
  | [a, b, c], _, _ =>
    have ha := hd a (by simp)
    have hb := hd b (by simp)
    have hc := hd c (by simp)
    have hz : a ≠ 48 := by
      rcases h0 with h | h
      · simp at h
      · intro z; exact h (by rw [z]; rfl)
    obtain ⟨e1, e2⟩ := okB_of (three_ok (a - 48) (by omega) (b - 48) (by omega) (c - 48) (by omega) (by omega))
    rw [show 48 + (a - 48) = a by omega, show 48 + (b - 48) = b by omega, show 48 + (c - 48) = c by omega] at e1 e2
    have ex : x = ⟨#[a, b, c]⟩ := of_list e
    exact ⟨_, by rw [ex]; exact e1, by rw [ex]; exact e2, by omega, .inr (by omega), by simp; omega⟩
theorem neg_val {l : List Nat} {x : Str} (e : x.cps.toList = 45 :: l) (hl : l.length ≤ 2) (h1 : l ≠ []) (hd : ∀ c ∈ l, 48 ≤ c ∧ c ≤ 57) (h0 : l.head? ≠ some 48) : ∃ n : Nat, x = fT (-(n : Int)) ∧ PySem.intText? x = some (-(n : Int)) ∧ 1 ≤ n ∧ n < 100 := by
  match l, hl, h1 with
  | [a], _, _ =>
    have ha := hd a (by simp)
    have hz : a ≠ 48 := fun z => h0 (by rw [z]; rfl)
    obtain ⟨e1, e2⟩ := okB_of (mone_ok (a - 48) (by omega) (by omega))
    rw [show 48 + (a - 48) = a by omega] at e1 e2
    have ex : x = ⟨#[45, a]⟩ := of_list e
    exact ⟨a - 48, by rw [ex]; exact e1, by rw [ex]; exact e2, by omega, by omega⟩
  | [a, b], _, _ =>
    have ha := hd a (by simp)
    have hb := hd b (by simp)
    have hz : a ≠ 48 := fun z => h0 (by rw [z]; rfl)
    obtain ⟨e1, e2⟩ := okB_of (mtwo_ok (a - 48) (by omega) (b - 48) (by omega) (by omega))
    rw [show 48 + (a - 48) = a by omega, show 48 + (b - 48) = b by omega] at e1 e2
    have ex : x = ⟨#[45, a, b]⟩ := of_list e
    exact ⟨_, by rw [ex]; exact e1, by rw [ex]; exact e2, by omega, by omega⟩
theorem figP_digs {x : Str} {l : List Nat} (e : x.cps.toList = l) (h : figP x = true) : l ≠ [] ∧ (∀ c ∈ l, 48 ≤ c ∧ c ≤ 57) ∧ (l = [48] ∨ l.head? ≠ some 48) := by
  unfold figP at h
  simp only [Bool.and_eq_true, Bool.not_eq_true', decide_eq_false_iff_not, Bool.or_eq_true, decide_eq_true_eq] at h
  obtain ⟨h1, h2, h3⟩ := h
  have hne : l ≠ [] := fun z => h1 (by rw [of_list (e.trans z)]; rfl)
  refine ⟨hne, by rw [← e]; exact all_inF h2, ?_⟩
  match l, hne with
  | a :: r, _ =>
    rcases h3 with h3 | h3
    · left
      have e0 : (Str.ofString "0").cps.toList = [48] := by decide +kernel
      rw [h3] at e
      exact e.symm.trans e0
    · right
      intro z
      have : a = 48 := by simpa using z
      exact h3 ((hd_zero e).mpr this)
theorem slice1 {x : Str} {a : Nat} {r : List Nat} (e : x.cps.toList = a :: r) : (Txt.slice x (some 1) none).cps.toList = r := by
  rw [slice_eq, StrLaws.sliceText_from (by rw [e]; simp only [List.length_cons]; omega), e]
  show List.take _ (List.drop 1 (a :: r)) = r
  rw [List.drop_one, List.tail_cons]
  apply List.take_of_length_le
  simp only [List.length_cons]
  omega
theorem slice01 {x : Str} {a : Nat} {r : List Nat} (e : x.cps.toList = a :: r) : Txt.slice x none (some 1) = ⟨#[a]⟩ := by
  rw [slice_eq, StrLaws.sliceText_to (by rw [e]; simp only [List.length_cons]; omega), e]
  rfl
/-- a word that may stand between bounds: a number -/
theorem sig_val {x : Str} (h : sigP x = true) (hl : x.length ≤ 3) : ∃ i : Int, x = fT i ∧ PySem.intText? x = some i ∧ -99 ≤ i ∧ i ≤ 999 := by
  have hl' : x.cps.toList.length ≤ 3 := by rw [Array.length_toList]; exact hl
  unfold sigP at h
  rw [st_dash] at h
  match e : x.cps.toList, hl' with
  | [], _ =>
    rw [e] at h
    simp only [Bool.false_eq_true, if_false] at h
    exact absurd rfl (figP_digs e h).1
  | a :: r, hl' =>
    rw [e] at h
    by_cases ha : a = 45
    · subst ha
      simp only [decide_true, if_true, Bool.and_eq_true, Bool.not_eq_true', decide_eq_false_iff_not] at h
      obtain ⟨h1, h2⟩ := h
      obtain ⟨d1, d2, d3⟩ := figP_digs (slice1 e) h2
      have d3' : r.head? ≠ some 48 := by
        rcases d3 with d3 | d3
        · exfalso
          apply h1
          rw [of_list e, d3]
          decide +kernel
        · exact d3
      obtain ⟨n, e1, e2, n1, n2⟩ := neg_val e (by simp only [List.length_cons] at hl'; omega) d1 d2 d3'
      exact ⟨_, e1, e2, by omega, by omega⟩
    · rw [if_neg (by simpa using ha)] at h
      obtain ⟨d1, d2, d3⟩ := figP_digs e h
      obtain ⟨n, e1, e2, n1, _⟩ := digs_val e hl' d1 d2 d3
      exact ⟨_, e1, e2, by omega, by omega⟩
def csP (lo hi : Int) (x : Str) : Bool := sigP x && (decide (x.length ≤ 3) && (decide (lo ≤ (PySem.intText? x).getD 0) && decide ((PySem.intText? x).getD 0 ≤ hi)))
/-- the law's own look at a number -/
def fgS (x : Str) : Str := if Txt.slice x none (some 1) = "-" then Txt.slice x (some 1) none else x
def numP (x : Str) : Bool := (decide ((fgS x).length = 1) || decide ((fgS x).length = 2)) && ((sg (fgS x)).all inF && (!decide (hdS (fgS x) = "0") || decide (x = "0")))
theorem numP_val {x : Str} (h : numP x = true) : ∃ i : Int, x = fT i ∧ -99 ≤ i ∧ i ≤ 99 := by
  unfold numP at h
  simp only [Bool.and_eq_true, Bool.or_eq_true, Bool.not_eq_true', decide_eq_false_iff_not, decide_eq_true_eq] at h
  obtain ⟨h1, h2, h3⟩ := h
  match e : x.cps.toList with
  | [] =>
    exfalso
    have : x = "" := of_list e
    subst this
    revert h1
    decide +kernel
  | a :: r =>
    have e01 := slice01 e
    by_cases ha : a = 45
    · subst ha
      have ed : ((⟨#[45]⟩ : Str) = "-") := by decide +kernel
      have ef : fgS x = Txt.slice x (some 1) none := by unfold fgS; rw [e01, if_pos ed]
      rw [ef] at h1 h2 h3
      have e1 := slice1 e
      have hl : r.length = 1 ∨ r.length = 2 := by
        have : (Txt.slice x (some 1) none).length = r.length := by rw [← e1, Array.length_toList]; rfl
        omega
      have d2 : ∀ c ∈ r, 48 ≤ c ∧ c ≤ 57 := by rw [← e1]; exact all_inF h2
      match r, hl with
      | b :: r', hl =>
        have d3 : (b :: r').head? ≠ some 48 := by
          rcases h3 with h3 | h3
          · intro z
            have : b = 48 := by simpa using z
            exact h3 ((hd_zero e1).mpr this)
          · exfalso
            rw [h3] at e
            have e0 : (Str.ofString "0").cps.toList = [48] := by decide +kernel
            have := e0.symm.trans e
            simp at this
        obtain ⟨n, e3, _, n1, n2⟩ := neg_val e (by omega) (List.cons_ne_nil _ _) d2 d3
        exact ⟨_, e3, by omega, by omega⟩
    · have ed : ¬ ((⟨#[a]⟩ : Str) = "-") := fun z => ha (by
        have := congrArg (fun y : Str => y.cps.toList) z
        have e0 : (Str.ofString "-").cps.toList = [45] := by decide +kernel
        have this : [a] = [45] := this.trans e0
        simpa using this)
      have ef : fgS x = x := by unfold fgS; rw [e01, if_neg ed]
      rw [ef] at h1 h2 h3
      have hl : (a :: r).length = 1 ∨ (a :: r).length = 2 := by
        have : x.length = (a :: r).length := by rw [← e, Array.length_toList]; rfl
        omega
      have d2 : ∀ c ∈ a :: r, 48 ≤ c ∧ c ≤ 57 := by rw [← e]; exact all_inF h2
      have d3 : (a :: r) = [48] ∨ (a :: r).head? ≠ some 48 := by
        rcases h3 with h3 | h3
        · right
          intro z
          have : a = 48 := by simpa using z
          exact h3 ((hd_zero e).mpr this)
        · left
          rw [h3] at e
          have e0 : (Str.ofString "0").cps.toList = [48] := by decide +kernel
          exact e.symm.trans e0
      obtain ⟨n, e3, _, n1, _, n2⟩ := digs_val e (by omega) (List.cons_ne_nil _ _) d2 d3
      have := n2.mp (by omega)
      exact ⟨_, e3, by omega, by omega⟩
def bothB (i : Int) : Bool := numP (fT i) && sigP (fT i) && decide ((fT i).length ≤ 3) && decide (PySem.intText? (fT i) = some i)
theorem boths : ∀ n : Nat, n < 199 → bothB ((n : Int) - 99) = true := by decide +kernel
theorem both_ok {i : Int} (h0 : -99 ≤ i) (h1 : i ≤ 99) : numP (fT i) = true ∧ sigP (fT i) = true ∧ (fT i).length ≤ 3 ∧ PySem.intText? (fT i) = some i := by
  have h := boths (i + 99).toNat (by omega)
  rw [show (((i + 99).toNat : Nat) : Int) - 99 = i by omega] at h
  unfold bothB at h
  simp only [Bool.and_eq_true, decide_eq_true_eq] at h
  exact ⟨h.1.1.1, h.1.1.2, h.1.2, h.2⟩
theorem csP_val {lo hi : Int} {x : Str} (h : csP lo hi x = true) : ∃ i : Int, x = fT i ∧ lo ≤ i ∧ i ≤ hi := by
  unfold csP at h
  simp only [Bool.and_eq_true, decide_eq_true_eq] at h
  obtain ⟨h1, h2, h3, h4⟩ := h
  obtain ⟨i, e1, e2, _⟩ := sig_val h1 h2
  rw [e2] at h3 h4
  exact ⟨i, e1, h3, h4⟩
theorem csP_of {lo hi i : Int} (h0 : -99 ≤ i) (h1 : i ≤ 99) (a : lo ≤ i) (b : i ≤ hi) : csP lo hi (fT i) = true := by
  obtain ⟨_, e1, e2, e3⟩ := both_ok h0 h1
  unfold csP
  rw [e1, e3, decide_eq_true e2]
  simp [a, b]
theorem line_num (x : Str) : csP (-99) 99 x = numP x := by
  rw [Bool.eq_iff_iff]
  constructor
  · intro h
    obtain ⟨i, rfl, a, b⟩ := csP_val h
    exact (both_ok a b).1
  · intro h
    obtain ⟨i, rfl, a, b⟩ := numP_val h
    exact csP_of a b a b
def eights : List Str := ["2", "3", "4", "5", "6", "7", "8", "9"]
theorem eights_are : ∀ n : Nat, n < 8 → fT ((n : Int) + 2) ∈ eights := by decide +kernel
theorem eights_of : ∀ x ∈ eights, csP 2 9 x = true ∧ numP x = true := by decide +kernel
theorem part_num (x : Str) : csP 2 9 x = (numP x && decide (x ∈ eights)) := by
  rw [Bool.eq_iff_iff, Bool.and_eq_true, decide_eq_true_eq]
  constructor
  · intro h
    obtain ⟨i, rfl, a, b⟩ := csP_val h
    refine ⟨(both_ok (by omega) (by omega)).1, ?_⟩
    have := eights_are (i - 2).toNat (by omega)
    rwa [show (((i - 2).toNat : Nat) : Int) + 2 = i by omega] at this
  · intro h
    exact (eights_of x h.2).1
end K23

set_option Elab.async false
set_option linter.all false
set_option maxRecDepth 100000
namespace K23
open PySem L2 G2
local macro_rules | `(tactic| walk_at "v") => `(tactic| repeat (with_reducible first
  | refine w_seq ?_ | refine w_asg ?_ | refine w_gname ?_ | refine w_op ?_ | refine w_var rfl ?_ | refine w_c ?_ | refine w_rI0 ?_ | refine w_ifs ?_ | refine w_ife ?_ | refine w_test ?_ | refine w_tb ?_ | refine w_bl ?_ | refine w_not ?_ | refine w_ret ?_ | refine w_retN ?_
  | refine w_nil ?_ | refine w_cons ?_ | refine w_lst ?_ | refine w_tup ?_ | refine w_cb ?_ | refine w_call ?_ | refine w_gsub ?_ | refine w_and ?_ | refine w_or ?_ | refine w_next ?_ | refine w_all ?_ | refine w_vals ?_ | refine w_compR ?_ | refine w_compT ?_ | refine w_forR ?_ | refine w_forT ?_ | refine w_forL ?_ | refine w_drop ?_ | refine w_bm ?_ | refine w_compZ ?_ | refine w_compL ?_ | refine w_chain ?_ | refine w_sl ?_ | refine w_nopart ?_ | refine w_part ?_ | refine w_unI ?_ | refine iteT ?_ | refine iteF ?_))
abbrev sFi2 : Stmt := top 12
abbrev nFi2 : List Str := ["word"]
theorem nmFi2 : Nm nFi2 (defScope sFi2) := ⟨by decide +kernel, by decide +kernel⟩
theorem scFi2 : FnScope nFi2 ["word"] (defScope sFi2) := ⟨rfl, rfl, rfl, by decide +kernel, rfl, by decide +kernel, by decide +kernel⟩
def qFi2a (s : Stmt) : Scope := match s with
  | .If (.BoolOp _ [_, (.UnaryOp _ (.Call _ [(.ListComp _ _ sc _)] _ _) _)] _) _ _ _ => sc
  | _ => { kind := .function, names := [], isGenerator := false, isCoroutine := false }
abbrev cFi2a : Scope := qFi2a ((defBody sFi2).getD 0 (.Pass ⟨0, 0, 0, 0⟩))
theorem bsFi2a : BScope (defScope sFi2) cFi2a ["sign"] [] ["FIGURES"] := { okind := by decide +kernel, kind := by decide +kernel, nocell := by decide +kernel, names := by decide +kernel, fr := by decide +kernel, ff := by decide +kernel, nd := by decide +kernel, vis := by decide +kernel, loc := by decide +kernel, gl := by decide +kernel }
def spFi2 : Sp := fun vs H Q _ => ∃ x : Str, vs = [.str x] ∧ x.length ≤ 1000 ∧ ∀ H', Same H H' → Q (.bl (figP x)) H'
section
variable {P : Program} {w : World} {K : PySem.W.Frag} {mg : Str → Option Value} {base : Heap}
set_option maxHeartbeats 4000000 in
theorem ok_Fi2 {f : Addr} {fd : FuncData} (B : Blt mg) (fg : KnS mg "FIGURES" "0123456789") (F : Fun K "is_figures" "is_figures" sFi2 f fd) : FnOk P w K mg base CX0 1 f fd ["word"] spFi2 := by
  refine F.ok scFi2 (fun vs H Q E h => ?_) (fun cdv A outer s H vs Q E hr h => ?_)
  · obtain ⟨x, rfl, _⟩ := h
    rfl
  · obtain ⟨x, rfl, hl, k⟩ := h
    refine' ⟨_, ?hb, ?rd⟩
    case' hb => skip
    case' hb => refine' pss_cons ?g1 ?g2
    case' g2 => refine' pss_one ?g3
    case' g1 => refine' ps_if ?g4 ?g5 pss_nil
    case' g4 => refine' PW.pt ?g7
    case' g7 => refine' pw_or (pt_cmpR op_eq (pvd nmFi2 0) pe_str (nomark _)) ?g8
    case' g8 => refine' pw_or1 ?g9
    case' g9 => refine' pt_not ?g10
    case' g10 => refine' pt_val ?g11
    case' g11 => refine' pe_cB (call_all rfl) B.all PyProof.Rows.boot_all ?g12
    case' g12 => refine' pa_1 ?g13
    case' g13 => refine' pe_comp (ix := []) bsFi2a.toCScope rfl rfl ?g14 ?g15 ?g16 ?g17
    case g14 => exact pi_tx (pvd nmFi2 0)
    case g15 => exact fun _ _ _ _ _ _ => pgb bsFi2a 0
    case g16 => exact fun _ _ _ _ _ _ => pts_nil
    case g17 => exact fun _ _ _ _ _ _ => pe_cmpR op_in_str (pvb bsFi2a 0) (pe_ks fg (bsFi2a.g 0)) (by with_unfolding_all rfl)
    case' g5 => refine' pss_one ?g18
    case g18 => exact ps_ret pe_bl
    case g3 => exact ps_ret (pe_or (pe_cmpR op_eq (pvd nmFi2 0) pe_str (nomark _)) (pe_one (pe_cmpR op_ne (pe_ix ix_str (pvd nmFi2 0) pe_int (fun _ _ => rfl)) pe_str (nomark _))))
    case rd =>
      walk_at "v"
      refine ⟨rfl, ?_⟩
      walk_at "v"
      refine iteD (fun z => ?_) (fun z => ?_)
      · have z := V.str.inj z
        walk_at "v"
        have e : figP x = false := by rw [z]; decide +kernel
        rw [← e]
        exact k _ (Same.refl _)
      have hne : x ≠ "" := fun e => z (by rw [e])
      walk_at "v"
      refine w_compX ?_
      walk_at "v"
      refine ⟨x, rfl, fun D hD => ?_⟩
      have hgl : (sg x).length ≤ 1000 := by rw [sg_len]; exact hl
      refine cgo_tx (ρ := []) (fun i ys H' => ys = (((sg x).take i).map inF).map V.bl ∧ Same H H') ⟨rfl, Same.new (Same.refl H) hD⟩ ?_ ?_
      · rintro i y ys H' hy ⟨rfl, K'⟩ hDy R S kR _
        walk_at "v"
        refine ⟨y, _, rfl, rfl, ?_⟩
        refine kR _ _ hDy (by rw [List.length_map, List.length_map, List.length_take]; exact small1000 (by omega)) ⟨?_, K'.put hD⟩
        rw [List.take_add_one, hy, List.map_append, List.map_append]
        rfl
      rintro ys H1 ⟨rfl, K1⟩ e1
      rw [List.take_of_length_le (by omega)] at e1
      walk_at "v"
      refine ⟨D, (sg x).map inF, rfl, e1, ?_⟩
      rw [show ((sg x).map inF).all id = (sg x).all inF by rw [List.all_map]; rfl]
      walk_at "v"
      cases ha : (sg x).all inF with
      | false =>
        refine iteT ?_
        walk_at "v"
        have e : figP x = false := by unfold figP; rw [ha, Bool.false_and, Bool.and_false]
        rw [← e]
        exact k _ K1
      | true =>
        refine iteF ?_
        walk_at "v"
        refine w_orV ?_
        walk_at "v"
        refine ⟨rfl, ?_⟩
        refine ⟨_, rfl, ?_⟩
        refine iteD (fun z => ?_) (fun z => ?_)
        · have z := V.str.inj z
          have e : figP x = true := by rw [z]; decide +kernel
          rw [← e]
          exact k _ K1
        · have z' : ¬ x = "0" := fun e => z (by rw [e])
          match hc : x.cps.toList with
          | [] => exact absurd (of_list hc) hne
          | c :: cs =>
            walk_at "v"
            refine ⟨x, 0, c, rfl, rfl, Nat.le_of_lt (small1000 hl), (by rw [hc]; exact atI_nat (show (c :: cs)[0]? = some c from rfl)), ?_⟩
            walk_at "v"
            refine ⟨rfl, ?_⟩
            have e : figP x = !decide (V.str (⟨#[c]⟩ : Str) = V.str "0") := by
              unfold figP hdS
              rw [hc, ha, decide_eq_false hne, decide_eq_false z']
              show (true && (true && (false || !decide ((⟨#[c]⟩ : Str) = "0")))) = _
              by_cases q : (⟨#[c]⟩ : Str) = "0"
              · rw [decide_eq_true q, q, decide_eq_true rfl]; rfl
              · rw [decide_eq_false q, decide_eq_false (fun w => q (V.str.inj w))]; rfl
            rw [← e]
            exact k _ K1
end
abbrev sSi2 : Stmt := top 13
abbrev nSi2 : List Str := ["word"]
theorem nmSi2 : Nm nSi2 (defScope sSi2) := ⟨by decide +kernel, by decide +kernel⟩
theorem scSi2 : FnScope nSi2 ["word"] (defScope sSi2) := ⟨rfl, rfl, rfl, by decide +kernel, rfl, by decide +kernel, by decide +kernel⟩
def spSi2 : Sp := fun vs H Q _ => ∃ x : Str, vs = [.str x] ∧ x.length ≤ 1000 ∧ ∀ H', Same H H' → Q (.bl (sigP x)) H'
section
variable {P : Program} {w : World} {K : PySem.W.Frag} {mg : Str → Option Value} {base : Heap}
set_option maxHeartbeats 4000000 in
theorem ok_Si2 {f : Addr} {fd : FuncData} (B : Blt mg) (G : Has P w K mg base 1 "is_figures" ["word"] spFi2) (F : Fun K "is_signed_figures" "is_signed_figures" sSi2 f fd) : FnOk P w K mg base CX0 2 f fd ["word"] spSi2 := by
  refine F.ok scSi2 (fun vs H Q E h => ?_) (fun cdv A outer s H vs Q E hr h => ?_)
  · obtain ⟨x, rfl, _⟩ := h
    rfl
  · obtain ⟨x, rfl, hl, k⟩ := h
    refine' ⟨_, ?hb, ?rd⟩
    case' hb => skip
    case' hb => refine' pss_cons ?g1 ?g2
    case' g2 => refine' pss_one ?g3
    case' g1 => refine' ps_if ?g4 ?g5 pss_nil
    case g4 => exact pt_val (pe_bm PySem.F.plainAttrs_str PySem.F.slot_str_startswith PySem.F.type_str_startswith mt_starts (pvd nmSi2 0) (pa_1 pe_str))
    case' g5 => refine' pss_one ?g7
    case g7 => exact ps_ret (pe_and (pe_cmpR op_ne (pvd nmSi2 0) pe_str (nomark _)) (pe_one (pe_f G hr (by decide) (pa_1 (pe_slice sl_str (pvd nmSi2 0) (po_some pe_int) po_none)))))
    case g3 => exact ps_ret (pe_f G hr (by decide) (pa_1 (pvd nmSi2 0)))
    case rd =>
      walk_at "v"
      refine ⟨rfl, ?_⟩
      walk_at "v"
      refine ⟨x, _, rfl, rfl, ?_⟩
      unfold sigP at k
      by_cases hs : Txt.startswith x "-" = true
      · rw [if_pos hs] at k
        rw [hs]
        walk_at "v"
        refine w_andV ?_
        walk_at "v"
        refine ⟨rfl, ?_⟩
        refine ⟨_, rfl, ?_⟩
        refine iteDN (fun z => ?_) (fun z => ?_)
        · have z' : ¬ x = "-0" := fun e => z (by rw [e])
          rw [decide_eq_false z'] at k
          walk_at "v"
          refine ⟨_, rfl, ?_⟩
          refine ⟨x, rfl, hl, ?_⟩
          walk_at "v"
          refine ⟨_, rfl, ?_, fun H' K' => k H' K'⟩
          have : (Txt.slice x (some 1) none).length ≤ x.length := by
            match e : x.cps.toList with
            | [] =>
              rw [st_dash, e] at hs
              cases hs
            | a :: r =>
              have e1 := slice1 e
              have : (Txt.slice x (some 1) none).length = r.length := by rw [← e1, Array.length_toList]; rfl
              have : x.length = r.length + 1 := by
                show x.cps.size = _
                rw [← Array.length_toList, e]; rfl
              omega
          omega
        · rw [decide_eq_true (V.str.inj z)] at k
          exact k _ (Same.refl _)
      · rw [if_neg hs] at k
        rw [Bool.not_eq_true] at hs
        rw [hs]
        walk_at "v"
        exact ⟨_, rfl, hl, fun H' K' => k H' K'⟩
end
/-- x == text, x a text or a tuple -/
def rEqB (K : PySem.W.Frag) : R2 := fun x y H Q => ∃ b, y = .str b ∧ ((∃ a, x = .str a ∧ Q (.bl (decide (V.str a = V.str b))) H) ∨ ∃ p vs, x = .ref p ∧ SqT K H p vs ∧ Q (.bl false) H)
theorem op_eqB {X : Cx} {k : Nat} (hr : Room k X.A) : OpR X (compareOp .Eq) (rEqB X.K) := by
  intro pins s σ H x y v u Q I rx ry h
  obtain ⟨b, rfl, h⟩ := h
  rcases h with ⟨a, rfl, q⟩ | ⟨p, vs, rfl, hp, q⟩
  · exact op_eq pins s σ H _ _ v u Q I rx ry ⟨rfl, q⟩
  · cases rx
    obtain ⟨t, rfl⟩ := ry
    obtain ⟨its, r, pl, _⟩ := I.tuple hp
    have hu := hr.units
    have R := SeqAt.RcAt.tuple_str (A := X.A) (s := s) b t pl (by omega)
    exact R X.prog X.w X.xe _ ⟨.bl _, H, I, rfl, q⟩
abbrev sCs2 : Stmt := top 25
abbrev nCs2 : List Str := ["word", "due"]
theorem nmCs2 : Nm nCs2 (defScope sCs2) := ⟨by decide +kernel, by decide +kernel⟩
theorem scCs2 : FnScope nCs2 ["word", "due"] (defScope sCs2) := ⟨rfl, rfl, rfl, by decide +kernel, rfl, by decide +kernel, by decide +kernel⟩
/-- what is due: the stroke, or a number between bounds -/
inductive Due (lb pb : Addr) : V → (Str → Bool) → Prop
  | bar : Due lb pb (.str "/") fun x : Str => decide (x = "/")
  | ln : Due lb pb (.ref lb) (csP (-99) 99)
  | pt : Due lb pb (.ref pb) (csP 2 9)
def spCs2 (lb pb : Addr) : Sp := fun vs H Q _ => ∃ (x : Str) (v : V) (g : Str → Bool), vs = [.str x, v] ∧ x.length ≤ 1000 ∧ Due lb pb v g ∧ ∀ H', Same H H' → Q (.bl (g x)) H'
section
variable {P : Program} {w : World} {K : PySem.W.Frag} {mg : Str → Option Value} {base : Heap}
set_option maxHeartbeats 4000000 in
theorem ok_Cs2 {f : Addr} {fd : FuncData} (B : Blt mg) {lb pb : Addr} (U : GB K mg lb pb) (ms : Kn mg "MOST_SIGNS" 3) (G : Has P w K mg base 2 "is_signed_figures" ["word"] spSi2) (F : Fun K "can_stand" "can_stand" sCs2 f fd) : FnOk P w K mg base CX0 3 f fd ["word", "due"] (spCs2 lb pb) := by
  refine F.ok scCs2 (fun vs H Q E h => ?_) (fun cdv A outer s H vs Q E hr h => ?_)
  · obtain ⟨x, v, g, rfl, _⟩ := h
    rfl
  · obtain ⟨x, v, g, rfl, hl, hd, k⟩ := h
    refine' ⟨_, ?hb, ?rd⟩
    case' hb => skip
    case' hb => refine' pss_cons ?g1 ?g2
    case' g2 => refine' pss_cons ?g3 ?g4
    case' g4 => refine' pss_one ?g5
    case' g1 => refine' ps_if ?g6 ?g7 pss_nil
    case g6 => exact pt_cmpR (op_eqB hr) (pvd nmCs2 1) pe_str (nomark _)
    case' g7 => refine' pss_one ?g9
    case g9 => exact ps_ret (pe_cmpR op_eq (pvd nmCs2 0) pe_str (nomark _))
    case' g3 => refine' ps_if ?g10 ?g11 pss_nil
    case g10 => exact PW.pt (pw_or (pt_not (pt_val (pe_f G hr (by decide) (pa_1 (pvd nmCs2 0))))) (pw_or1 (pt_cmpR op_gt (pe_cB call_len_str B.len PySem.boot_len (pa_1 (pvd nmCs2 0))) (pe_k ms) (nomark _))))
    case' g11 => refine' pss_one ?g13
    case g13 => exact ps_ret pe_bl
    case g5 => exact ps_ret (pe_chain op_le op_le (pe_ix ix_tup (pvd nmCs2 1) pe_int (fun _ _ => rfl)) (pe_cT call_intS B.int PyProof.Rows.boot_int (pa_1 (pvd nmCs2 0))) (pe_ix ix_tup (pvd nmCs2 1) pe_int (fun _ _ => rfl)))
    case rd =>
      have hs' : (v = .str "/" ∧ g = fun x : Str => decide (x = "/")) ∨ ∃ (lo hi : Int) (p : Addr), (∀ H, SqT K H p [.int lo, .int hi]) ∧ v = .ref p ∧ g = csP lo hi := by
        cases hd with
        | bar => exact .inl ⟨rfl, rfl⟩
        | ln => exact .inr ⟨_, _, _, U.ls, rfl, rfl⟩
        | pt => exact .inr ⟨_, _, _, U.ps, rfl, rfl⟩
      rcases hs' with ⟨rfl, rfl⟩ | ⟨lo, hi, p, hp, rfl, rfl⟩
      · walk_at "v"
        refine ⟨"/", rfl, .inl ⟨"/", rfl, ?_⟩⟩
        refine ⟨_, rfl, ?_⟩
        refine iteT ?_
        walk_at "v"
        refine ⟨rfl, ?_⟩
        have e : decide (V.str x = V.str "/") = decide (x = "/") := by
          by_cases q : x = "/"
          · rw [q, decide_eq_true rfl, decide_eq_true rfl]
          · rw [decide_eq_false q, decide_eq_false fun w => q (V.str.inj w)]
        rw [e]
        exact k _ (Same.refl _)
      · walk_at "v"
        refine ⟨"/", rfl, .inr ⟨p, _, rfl, hp _, ?_⟩⟩
        refine ⟨_, rfl, ?_⟩
        refine iteF ?_
        walk_at "v"
        refine ⟨x, rfl, hl, fun H1 K1 => ?_⟩
        walk_at "v"
        cases hs : sigP x with
        | false =>
          refine iteT ?_
          walk_at "v"
          have e : csP lo hi x = false := by unfold csP; rw [hs, Bool.false_and]
          rw [← e]
          exact k _ K1
        | true =>
          refine iteF ?_
          walk_at "v"
          refine ⟨_, rfl, Nat.le_of_lt (small1000 hl), ?_⟩
          walk_at "v"
          refine iteD (fun z => ?_) (fun z => ?_)
          · walk_at "v"
            have e : csP lo hi x = false := by unfold csP; rw [decide_eq_false (show ¬ x.length ≤ 3 by omega), Bool.false_and, Bool.and_false]
            rw [← e]
            exact k _ K1
          · have h3 : x.length ≤ 3 := by omega
            obtain ⟨i, _, e2, _⟩ := sig_val hs h3
            have e : csP lo hi x = (decide (lo ≤ i) && decide (i ≤ hi)) := by
              unfold csP
              rw [hs, decide_eq_true h3, e2]
              rfl
            rw [e] at k
            walk_at "v"
            refine ⟨p, _, 0, .int lo, rfl, rfl, hp _, atI_nat (j := 0) rfl, ?_⟩
            walk_at "v"
            refine ⟨_, i, rfl, e2, Nat.le_trans h3 (by decide), ?_⟩
            walk_at "v"
            refine iteD (fun q => ?_) (fun q => ?_)
            · walk_at "v"
              refine ⟨p, _, 1, .int hi, rfl, rfl, hp _, atI_nat (j := 1) rfl, ?_⟩
              walk_at "v"
              rw [decide_eq_true q, Bool.true_and] at k
              exact k _ K1
            · rw [decide_eq_false q, Bool.false_and] at k
              exact k _ K1
end
end K23

set_option Elab.async false
set_option linter.all false
set_option maxRecDepth 100000
namespace K23
open PySem L2 G2
local macro_rules | `(tactic| walk_at "v") => `(tactic| repeat (with_reducible first
  | refine w_seq ?_ | refine w_asg ?_ | refine w_gname ?_ | refine w_op ?_ | refine w_var rfl ?_ | refine w_c ?_ | refine w_rI0 ?_ | refine w_ifs ?_ | refine w_ife ?_ | refine w_test ?_ | refine w_tb ?_ | refine w_bl ?_ | refine w_not ?_ | refine w_ret ?_ | refine w_retN ?_
  | refine w_nil ?_ | refine w_cons ?_ | refine w_lst ?_ | refine w_tup ?_ | refine w_cb ?_ | refine w_call ?_ | refine w_gsub ?_ | refine w_and ?_ | refine w_or ?_ | refine w_next ?_ | refine w_all ?_ | refine w_vals ?_ | refine w_compR ?_ | refine w_compT ?_ | refine w_forR ?_ | refine w_forT ?_ | refine w_forL ?_ | refine w_drop ?_ | refine w_bm ?_ | refine w_compZ ?_ | refine w_compL ?_ | refine w_chain ?_ | refine w_sl ?_ | refine w_nopart ?_ | refine w_part ?_ | refine w_unI ?_ | refine iteT ?_ | refine iteF ?_))
/-- what may stand behind an ask's word -/
inductive Kd | n | m | b
def kds (m : Nat) (w : Str) : Option (List Kd) :=
  if w = "sum" then some (List.replicate (m + 1) .n)
  else if w = "part" then some (List.replicate (m + 1) .n ++ [.m])
  else if w = "least" ∨ w = "most" ∨ w = "more" ∨ w = "same" then some (List.replicate (m + 1) .n ++ (.b :: List.replicate (m + 1) .n))
  else none
def gK : Kd → Str → Bool
  | .n => csP (-99) 99
  | .m => csP 2 9
  | .b => fun x => decide (x = "/")
def kdV (lb pb : Addr) : Kd → V
  | .n => .ref lb
  | .m => .ref pb
  | .b => .str "/"
theorem kd_due {lb pb : Addr} : ∀ d, Due lb pb (kdV lb pb d) (gK d)
  | .n => .ln
  | .m => .pt
  | .b => .bar
def badAt : Nat → List Kd → List Str → Option Nat
  | k, ks, [] => if ks.isEmpty then none else some k
  | k, [], _ :: _ => some k
  | k, d :: ks, x :: r => if gK d x = true then badAt (k + 1) ks r else some k
def rdP (m : Nat) : List Str → Option Nat
  | [] => some 0
  | w :: r => match kds m w with
    | none => some 0
    | some ks => badAt 1 ks r
theorem rdP_none {m : Nat} {w : Str} {r : List Str} (hk : kds m w = none) : rdP m (w :: r) = some 0 := by
  show (match kds m w with | none => some 0 | some ks => badAt 1 ks r) = _
  rw [hk]
theorem rdP_some {m : Nat} {w : Str} {r : List Str} {ks : List Kd} (hk : kds m w = some ks) : rdP m (w :: r) = badAt 1 ks r := by
  show (match kds m w with | none => some 0 | some ks => badAt 1 ks r) = _
  rw [hk]
def Sat : List Kd → List Str → Prop
  | [], [] => True
  | d :: ks, x :: r => gK d x = true ∧ Sat ks r
  | _, _ => False
theorem badAt_none : ∀ {k : Nat} {ks : List Kd} {r : List Str}, badAt k ks r = none → Sat ks r
  | _, [], [], _ => trivial
  | _, _ :: _, [], h => by cases h
  | _, [], _ :: _, h => by cases h
  | k, d :: ks, x :: r, h => by
    have h : (if gK d x = true then badAt (k + 1) ks r else some k) = none := h
    split at h
    · rename_i q
      exact ⟨q, badAt_none h⟩
    · cases h
theorem Sat.app : ∀ {a b : List Kd} {r : List Str}, Sat (a ++ b) r → ∃ r1 r2, r = r1 ++ r2 ∧ Sat a r1 ∧ Sat b r2
  | [], b, r, h => ⟨[], r, rfl, trivial, h⟩
  | d :: a, b, [], h => h.elim
  | d :: a, b, x :: r, h => by
    obtain ⟨r1, r2, e, h1, h2⟩ := Sat.app (a := a) (b := b) (r := r) h.2
    exact ⟨x :: r1, r2, by rw [e]; rfl, ⟨h.1, h1⟩, h2⟩
theorem Sat.nums : ∀ {n : Nat} {r : List Str}, Sat (List.replicate n .n) r → ∃ is : List Int, r = is.map fT ∧ is.length = n ∧ ∀ i ∈ is, -99 ≤ i ∧ i ≤ 99
  | 0, [], _ => ⟨[], rfl, rfl, fun i h => nomatch h⟩
  | 0, _ :: _, h => h.elim
  | n + 1, [], h => h.elim
  | n + 1, x :: r, h => by
    obtain ⟨is, e1, e2, e3⟩ := Sat.nums (n := n) (r := r) h.2
    obtain ⟨i, ex, a, b⟩ := csP_val h.1
    refine ⟨i :: is, by rw [ex, e1]; rfl, by rw [List.length_cons, e2], fun j hj => ?_⟩
    rcases List.mem_cons.mp hj with rfl | hj
    · exact ⟨a, b⟩
    · exact e3 j hj
theorem Sat.line {m : Nat} {r : List Str} (h : Sat (List.replicate (m + 1) .n) r) : ∃ a : Ln, a.ok m ∧ lnW a = r := by
  obtain ⟨is, e1, e2, e3⟩ := h.nums
  have hne : is ≠ [] := fun z => by rw [z] at e2; cases e2
  have el := List.dropLast_concat_getLast hne
  refine ⟨⟨is.dropLast, is.getLast hne⟩, ⟨by show is.dropLast.length = m; rw [List.length_dropLast, e2]; rfl, fun i hi => e3 i (List.dropLast_subset _ hi), (e3 _ (List.getLast_mem hne)).1, (e3 _ (List.getLast_mem hne)).2⟩, ?_⟩
  unfold lnW
  show (is.dropLast ++ [is.getLast hne]).map fT = r
  rw [el, e1]
/-- words that may all stand are an ask's -/
theorem ak_of {m : Nat} {ws : List Str} (h : rdP m ws = none) : ∃ A : Ak, A.ok m ∧ akW A = ws := by
  match ws, h with
  | w :: r, h =>
    have h : (match kds m w with | none => some 0 | some ks => badAt 1 ks r) = none := h
    cases hk : kds m w with
    | none => rw [hk] at h; cases h
    | some ks =>
    rw [hk] at h
    have h : badAt 1 ks r = none := h
    unfold kds at hk
    by_cases h1 : w = "sum"
    · rw [if_pos h1] at hk
      cases hk
      obtain ⟨a, ha, e⟩ := (badAt_none h).line
      exact ⟨.sum a, ha, by rw [h1, ← e]; rfl⟩
    rw [if_neg h1] at hk
    by_cases h2 : w = "part"
    · rw [if_pos h2] at hk
      cases hk
      obtain ⟨r1, r2, e, s1, s2⟩ := (badAt_none h).app
      obtain ⟨a, ha, e1⟩ := s1.line
      match r2, s2 with
      | [x], s2 =>
        obtain ⟨i, ex, i0, i1⟩ := csP_val s2.1
        exact ⟨.part a i, ⟨ha, i0, i1⟩, by rw [h2, e, ← e1, ex]; rfl⟩
      | _ :: _ :: _, s2 => exact s2.2.elim
    rw [if_neg h2] at hk
    by_cases h3 : w = "least" ∨ w = "most" ∨ w = "more" ∨ w = "same"
    · rw [if_pos h3] at hk
      cases hk
      obtain ⟨r1, r2, e, s1, s2⟩ := (badAt_none h).app
      obtain ⟨a, ha, e1⟩ := s1.line
      match r2, s2 with
      | x :: r2, s2 =>
        obtain ⟨b, hb, e2⟩ := Sat.line (m := m) s2.2
        have ex : x = "/" := of_decide_eq_true s2.1
        exact ⟨.two w a b, ⟨h3, ha, hb⟩, by rw [e, ← e1, ex, ← e2]; rfl⟩
    · rw [if_neg h3] at hk
      cases hk
/-- an ask of each word -/
theorem ak_word {m : Nat} {w : Str} {ks : List Kd} {lb pb : Addr} (h : kds m w = some ks) : ∃ A : Ak, A.ok m ∧ akWd A = w ∧ akU lb pb m A = ks.map (kdV lb pb) := by
  have z : (⟨List.replicate m 0, 0⟩ : Ln).ok m := ⟨List.length_replicate, fun i hi => by rw [List.eq_of_mem_replicate hi]; exact ⟨by decide, by decide⟩, (by show (-99 : Int) ≤ 0; decide), (by show (0 : Int) ≤ 99; decide)⟩
  unfold kds at h
  by_cases h1 : w = "sum"
  · rw [if_pos h1] at h
    cases h
    refine ⟨.sum _, z, h1.symm, ?_⟩
    show List.replicate (m + 1) _ = _
    rw [List.map_replicate]; rfl
  rw [if_neg h1] at h
  by_cases h2 : w = "part"
  · rw [if_pos h2] at h
    cases h
    refine ⟨.part _ 2, ⟨z, by decide, by decide⟩, h2.symm, ?_⟩
    show List.replicate (m + 1) _ ++ _ = _
    rw [List.map_append, List.map_replicate]; rfl
  rw [if_neg h2] at h
  by_cases h3 : w = "least" ∨ w = "most" ∨ w = "more" ∨ w = "same"
  · rw [if_pos h3] at h
    cases h
    refine ⟨.two w _ _, ⟨h3, z, z⟩, rfl, ?_⟩
    show List.replicate (m + 1) _ ++ (_ :: List.replicate (m + 1) _) = _
    rw [List.map_append, List.map_cons, List.map_replicate]; rfl
  · rw [if_neg h3] at h
    cases h
theorem kds_in {m : Nat} {w : Str} : (kds m w).isSome = decide (w ∈ words6) := by
  unfold kds words6
  by_cases h1 : w = "sum"
  · rw [if_pos h1, h1]; exact (decide_eq_true (by decide +kernel)).symm
  by_cases h2 : w = "part"
  · rw [if_neg h1, if_pos h2, h2]; exact (decide_eq_true (by decide +kernel)).symm
  by_cases h3 : w = "least" ∨ w = "most" ∨ w = "more" ∨ w = "same"
  · rw [if_neg h1, if_neg h2, if_pos h3]
    symm
    apply decide_eq_true
    rcases h3 with rfl | rfl | rfl | rfl <;> decide +kernel
  · rw [if_neg h1, if_neg h2, if_neg h3]
    symm
    apply decide_eq_false
    simp only [List.mem_cons, List.not_mem_nil, or_false, not_or] at h3 ⊢
    exact ⟨h1, h2, h3⟩
theorem kds_len {m : Nat} {w : Str} {ks : List Kd} (h : kds m w = some ks) (hm : m ≤ 3) : ks.length ≤ 9 := by
  unfold kds at h
  repeat' split at h
  all_goals first | (cases h; simp; omega) | cases h
theorem badAt_step {k : Nat} {d : Kd} {ks : List Kd} {x : Str} {r : List Str} : badAt k (d :: ks) (x :: r) = if gK d x = true then badAt (k + 1) ks r else some k := rfl
theorem split_lens (x : Str) : ((Txt.split x " ").map fun w => w.length + 1).sum = x.length + 1 := by
  have hj : ∀ (ls : List (List Nat)), ls ≠ [] → (jn 32 ls).length + 1 = (ls.map fun l => l.length + 1).sum := by
    intro ls
    induction ls with
    | nil => intro h; exact absurd rfl h
    | cons a r ih =>
      intro _
      cases r with
      | nil => simp [jn]
      | cons b r =>
        have := ih (List.cons_ne_nil _ _)
        show (a ++ 32 :: jn 32 (b :: r)).length + 1 = _
        rw [List.length_append, List.length_cons, List.map_cons, List.sum_cons]
        omega
  rw [blank_is]
  have e := StrLaws.join_split x ⟨#[32]⟩
  have e2 := hj ((Txt.split x ⟨#[32]⟩).map fun w => w.cps.toList) (by rw [Ne, List.map_eq_nil_iff]; exact split_ne x 32)
  rw [← join_list, e, Array.length_toList, List.map_map] at e2
  rw [show x.length = x.cps.size from rfl, e2]
  congr 1
theorem sum_mem {ws : List Str} {w : Str} (h : w ∈ ws) : w.length + 1 ≤ (ws.map fun w => w.length + 1).sum := by
  induction ws with
  | nil => cases h
  | cons a r ih =>
    rw [List.map_cons, List.sum_cons]
    rcases List.mem_cons.mp h with rfl | h
    · omega
    · have := ih h; omega
theorem sum_len (ws : List Str) : ws.length ≤ (ws.map fun w => w.length + 1).sum := by
  induction ws with
  | nil => exact Nat.le_refl _
  | cons a r ih => rw [List.map_cons, List.sum_cons, List.length_cons]; omega
end K23

set_option Elab.async false
set_option linter.all false
set_option maxRecDepth 100000
namespace K23
open PySem L2 G2
local macro_rules | `(tactic| walk_at "v") => `(tactic| repeat (with_reducible first
  | refine w_seq ?_ | refine w_asg ?_ | refine w_gname ?_ | refine w_op ?_ | refine w_var rfl ?_ | refine w_c ?_ | refine w_rI0 ?_ | refine w_ifs ?_ | refine w_ife ?_ | refine w_test ?_ | refine w_tb ?_ | refine w_bl ?_ | refine w_not ?_ | refine w_ret ?_ | refine w_retN ?_
  | refine w_nil ?_ | refine w_cons ?_ | refine w_lst ?_ | refine w_tup ?_ | refine w_cb ?_ | refine w_call ?_ | refine w_gsub ?_ | refine w_and ?_ | refine w_or ?_ | refine w_next ?_ | refine w_all ?_ | refine w_vals ?_ | refine w_compR ?_ | refine w_compT ?_ | refine w_forR ?_ | refine w_forT ?_ | refine w_forL ?_ | refine w_drop ?_ | refine w_bm ?_ | refine w_compZ ?_ | refine w_compL ?_ | refine w_chain ?_ | refine w_sl ?_ | refine w_nopart ?_ | refine w_part ?_ | refine w_unI ?_ | refine iteT ?_ | refine iteF ?_))
def rMt : Prop := True
abbrev sINa : Stmt := methOf (top 4) 0
abbrev nINa : List Str := ["self", "word"]
theorem nmINa : Nm nINa (defScope sINa) := ⟨by decide +kernel, by decide +kernel⟩
theorem scINa : FnScope nINa ["self", "word"] (defScope sINa) := ⟨rfl, rfl, rfl, by decide +kernel, rfl, by decide +kernel, by decide +kernel⟩
section
variable {P : Program} {w : World} {K : PySem.W.Frag} {mg : Str → Option Value} {base : Heap}
set_option maxHeartbeats 4000000 in
theorem ok_INa {f : Addr} {fd : FuncData} (F : Fun K "__init__" "NoAsk.__init__" sINa f fd) : FnOk P w K mg base CX0 1 f fd ["self", "word"] (spXi K ["word"]) := by
  refine F.ok scINa (fun vs H Q E h => ?_) (fun cdv A outer s H vs Q E hr h => ?_)
  · obtain ⟨a, C, v0, us, rfl, hl, _⟩ := h
    show us.length + 1 = 2
    rw [hl]; rfl
  · obtain ⟨a, C, v0, us, rfl, hl, ha, xa, hn, k⟩ := h
    match us, hl, k with
    | [u0], _, k =>
    refine' ⟨_, ?hb, ?rd⟩
    case hb =>
      refine' pss_one ?s1
      case' s1 => refine' ps_xf ?s2 ?s3
      case s2 => exact pvd nmINa 0
      case s3 => exact pvd nmINa 1
    case rd =>
      refine w_sxf (w_var rfl (w_var rfl ?_))
      refine ⟨a, C, none, v0, rfl, ha, xa, hn _ (by simp), fun dx hd hne => ?_⟩
      exact k dx hd hne
end
abbrev sRa2 : Stmt := top 23
abbrev nRa2 : List Str := ["many", "text", "words", "due", "place"]
theorem nmRa2 : Nm nRa2 (defScope sRa2) := ⟨by decide +kernel, by decide +kernel⟩
theorem scRa2 : FnScope nRa2 ["many", "text"] (defScope sRa2) := ⟨rfl, rfl, rfl, by decide +kernel, rfl, by decide +kernel, by decide +kernel⟩
def spRa2 (cA : Addr) : Sp := fun vs H Q E => ∃ (x : Str) (m : Nat), vs = [.int (m : Int), .str x] ∧ x.length ≤ 1000 ∧ m ≤ 3 ∧ (rdP m (Txt.split x " ") = none → ∀ q A H', Same H H' → A.ok m → akW A = Txt.split x " " → AkAt H' q A → Q (.ref q) H') ∧
  (∀ p, rdP m (Txt.split x " ") = some p → ∀ dx H', Same H H' → H' dx = none → E (.ref cA) (some dx) (upd H' dx (XDct dx [("word", .int (p : Int))])))
section
variable {P : Program} {w : World} {K : PySem.W.Frag} {mg : Str → Option Value} {base : Heap}
set_option maxHeartbeats 4000000 in
theorem ok_Ra2 {f : Addr} {fd : FuncData} (B : Blt mg) {lb pb cA : Addr} (wsK : GTup K mg "WORDS" (words6.map V.str)) (G1 : Has P w K mg base 1 "due_behind" ["many", "word"] (spDb lb pb)) (G2 : Has P w K mg base 3 "can_stand" ["word", "due"] (spCs2 lb pb)) (G3 : Has P w K mg base 2 "ask_of_words" ["many", "words"] spAw) (N : HasC P w K mg base 1 "NoAsk" cA ["self", "word"] (spXi K ["word"])) (xa : XA K cA) (hna : NoAttr K cA "word") (F : Fun K "read_ask" "read_ask" sRa2 f fd) : FnOk P w K mg base (CXE P w) 4 f fd ["many", "text"] (spRa2 cA) := by
  refine F.okX scRa2 (fun vs H Q E h => ?_) (fun cdv A outer s H vs Q E hr h L => ?_)
  · obtain ⟨x, m, rfl, _⟩ := h
    rfl
  · obtain ⟨x, m, rfl, hl, hm, kg, kb⟩ := h
    refine' ⟨_, ?hb, ?rd⟩
    case' hb => skip
    case' hb => refine' pss_cons ?g1 ?g2
    case' g2 => refine' pss_cons ?g3 ?g4
    case' g4 => refine' pss_cons ?g5 ?g6
    case' g6 => refine' pss_cons ?g7 ?g8
    case' g8 => refine' pss_cons ?g9 ?g10
    case' g10 => refine' pss_one ?g11
    case g1 => exact ps_setD nmRa2 2 (pe_bm PySem.F.plainAttrs_str PySem.F.slot_str_split PySem.F.type_str_split mt_split (pvd nmRa2 1) (pa_1 pe_str))
    case' g3 => refine' ps_if ?g12 ?g13 pss_nil
    case g12 => exact pt_cmpR op_notIn_seq (pe_ix ix_d (pvd nmRa2 2) pe_int (fun _ _ => rfl)) (pe_gt wsK) (by with_unfolding_all rfl)
    case' g13 => refine' pss_one ?g15
    case g15 => exact ps_raise N L rfl hr (by decide) (pa_1 pe_int)
    case g5 => exact ps_setD nmRa2 3 (pe_op op_cat (pe_lst (pa_1 (pe_ix ix_d (pvd nmRa2 2) pe_int (fun _ _ => rfl)))) (pe_f G1 hr (by decide) (pa_2 (pvd nmRa2 0) (pe_ix ix_d (pvd nmRa2 2) pe_int (fun _ _ => rfl)))))
    case' g7 => refine' ps_for PassesOwn.leaving rfl ?g16 (pgd nmRa2 4) ?g17
    case g16 => exact pi_r2 B.range (pa_2 pe_int (pe_cB call_len_seq B.len PySem.boot_len (pa_1 (pvd nmRa2 2))))
    case' g17 => refine' pss_one ?g18
    case' g18 => refine' ps_if ?g19 ?g20 pss_nil
    case g19 => exact PW.pt (pw_or (pt_cmpR op_ge (pvd nmRa2 4) (pe_cB call_len_seq B.len PySem.boot_len (pa_1 (pvd nmRa2 3))) (nomark _)) (pw_or1 (pt_not (pt_val (pe_f G2 hr (by decide) (pa_2 (pe_ix ix_d (pvd nmRa2 2) (pvd nmRa2 4) (fun _ _ => rfl)) (pe_ix ix_d (pvd nmRa2 3) (pvd nmRa2 4) (fun _ _ => rfl))))))))
    case' g20 => refine' pss_one ?g22
    case g22 => exact ps_raise N L rfl hr (by decide) (pa_1 (pvd nmRa2 4))
    case' g9 => refine' ps_if ?g23 ?g24 pss_nil
    case g23 => exact pt_cmpR op_lt (pe_cB call_len_seq B.len PySem.boot_len (pa_1 (pvd nmRa2 2))) (pe_cB call_len_seq B.len PySem.boot_len (pa_1 (pvd nmRa2 3))) (nomark _)
    case' g24 => refine' pss_one ?g26
    case g26 => exact ps_raise N L rfl hr (by decide) (pa_1 (pe_cB call_len_seq B.len PySem.boot_len (pa_1 (pvd nmRa2 2))))
    case g11 => exact ps_ret (pe_f G3 hr (by decide) (pa_2 (pvd nmRa2 0) (pvd nmRa2 2)))
    case rd =>
      have hsl := split_lens x
      have hlen := sum_len (Txt.split x " ")
      have hmem := fun {w : Str} (h : w ∈ Txt.split x " ") => sum_mem h
      generalize hws : Txt.split x " " = ws at kg kb hsl hlen hmem
      have hne : ws ≠ [] := by rw [← hws, blank_is]; exact split_ne x 32
      match ws, hne with
      | w0 :: r, _ =>
      walk_at "v"
      refine ⟨rfl, ?_⟩
      walk_at "v"
      refine ⟨_, _, rfl, rfl, by decide +kernel, hl, fun l hll => ?_⟩
      rw [hws]
      have K1 : Same H (upd H l (.lst ((w0 :: r).map V.str))) := Same.new (Same.refl H) hll
      have e1 : upd H l (.lst ((w0 :: r).map V.str)) l = some (.lst (V.str w0 :: r.map V.str)) := upd_same
      generalize upd H l (.lst ((w0 :: r).map V.str)) = H1 at K1 e1 ⊢
      walk_at "v"
      refine w_ixL (v := .str w0) e1 at0 ?_
      walk_at "v"
      refine w_gt fun aw hw => ?_
      refine ⟨aw, _, rfl, .inr hw, rfl, flat_strs _, ?_⟩
      rw [inV_strs]
      have hin := kds_in (m := m) (w := w0)
      cases hk : kds m w0 with
      | none =>
        rw [hk] at hin
        rw [← hin]
        walk_at "v"
        refine iteT ?_
        refine w_raise xa (fun f hf => by rcases List.mem_singleton.mp hf with rfl; exact hna) ?_ (fun Q1 Q2 hQ h => hQ _ _ h)
        walk_at "v"
        exact ⟨rfl, by decide, fun dx hd => kb 0 (rdP_none hk) dx H1 K1 hd⟩
      | some ks =>
      rw [hk] at hin
      rw [← hin]
      have hrd : rdP m (w0 :: r) = badAt 1 ks r := rdP_some hk
      rw [hrd] at kg kb
      have k9 := kds_len hk hm
      obtain ⟨A, hA, hAw, hAu⟩ := ak_word (lb := lb) (pb := pb) hk
      walk_at "v"
      refine iteF ?_
      walk_at "v"
      refine w_ixL (v := .str w0) e1 at0 ?_
      walk_at "v"
      refine ⟨by show 1 ≤ sizeLine; decide, fun l1 hl1 => ?_⟩
      have K2 : Same H1 (upd H1 l1 (.lst [.str w0])) := Same.new (Same.refl H1) hl1
      have e2 : upd H1 l1 (.lst [.str w0]) l1 = some (.lst [.str w0]) := upd_same
      generalize upd H1 l1 (.lst [.str w0]) = H2 at K2 e2 ⊢
      walk_at "v"
      refine w_ixL (v := .str w0) (K2 _ _ e1) at0 ?_
      walk_at "v"
      refine ⟨A, m, by rw [hAw]; rfl, hA, hm, fun l2 H3 K3 e3 => ?_⟩
      rw [hAu] at e3
      refine ⟨l1, l2, _, _, rfl, rfl, K3 _ _ e2, e3, by rw [List.length_map]; exact Nat.le_of_lt (small1000 (by simp only [List.length_cons, List.length_nil]; omega)), fun l3 hl3 => ?_⟩
      have K4 : Same H3 (upd H3 l3 (.lst ([V.str w0] ++ ks.map (kdV lb pb)))) := Same.new (Same.refl H3) hl3
      have e4 : upd H3 l3 (.lst ([V.str w0] ++ ks.map (kdV lb pb))) l3 = some (.lst (V.str w0 :: ks.map (kdV lb pb))) := upd_same
      generalize upd H3 l3 (.lst ([V.str w0] ++ ks.map (kdV lb pb))) = H4 at K4 e4 ⊢
      have e5 := K4 _ _ (K3 _ _ (K2 _ _ e1))
      have K14 : Same H H4 := ((K1.trans K2).trans K3).trans K4
      simp only [List.length_cons] at hlen
      walk_at "v"
      refine w_forR2 ?_
      walk_at "v"
      refine ⟨l, _, rfl, .inl (SqL.of e5), ?_⟩
      refine ⟨1, _, rfl, ⟨by decide, by decide, by simp only [List.length_cons, List.length_map]; omega, by simp only [List.length_cons, List.length_map]; omega⟩, ?_⟩
      rw [show (((V.str w0 :: r.map V.str).length : Nat) : Int) - 1 = ((r.length : Nat) : Int) by simp only [List.length_cons, List.length_map]; omega, Int.toNat_natCast]
      refine for_range (n := r.length) (fun i σ H' => ∃ u4, σ = [some (.int (m : Int)), some (.str x), some (.ref l), some (.ref l3), u4] ∧ Same H4 H' ∧ badAt 1 ks r = badAt (1 + i) (ks.drop i) (r.drop i)) ⟨none, rfl, Same.refl _, rfl⟩ ?_ ?_
      · rintro i σ H5 hi ⟨u4, rfl, K5, hb⟩
        have gx : r[i]? = some r[i] := List.getElem?_eq_getElem hi
        have dr : r.drop i = r[i] :: r.drop (i + 1) := List.drop_eq_getElem_cons hi
        walk_at "v"
        refine ⟨l3, _, rfl, .inl (SqL.of (K5 _ _ e4)), ?_⟩
        walk_at "v"
        by_cases hik : ks.length ≤ i
        · refine iteP (by simp only [List.length_cons, List.length_map]; omega) ?_
          walk_at "v"
          rw [List.drop_eq_nil_of_le hik, dr] at hb
          refine w_raise xa (fun f hf => by rcases List.mem_singleton.mp hf with rfl; exact hna) ?_ (fun Q1 Q2 hQ h => by obtain ⟨v, e, h⟩ := h; exact ⟨v, e, hQ _ _ h⟩)
          walk_at "v"
          rw [show ((1 : Int) + (i : Int)) = ((1 + i : Nat) : Int) by omega]
          exact ⟨rfl, by decide, fun dx hd => kb (1 + i) hb dx H5 (K14.trans K5) hd⟩
        · have hik' : i < ks.length := by omega
          have dk : ks.drop i = ks[i] :: ks.drop (i + 1) := List.drop_eq_getElem_cons hik'
          rw [dk, dr, badAt_step] at hb
          refine iteQ (by simp only [List.length_cons, List.length_map]; omega) ?_
          walk_at "v"
          have ei : (1 + (i : Int)) = ((i + 1 : Nat) : Int) := by omega
          rw [ei]
          refine w_ixL (v := .str r[i]) (K5 _ _ e5) (atI_nat (j := i + 1) (by rw [List.getElem?_cons_succ, List.getElem?_map, gx]; rfl)) ?_
          walk_at "v"
          refine w_ixL (v := kdV lb pb ks[i]) (K5 _ _ e4) (atI_nat (j := i + 1) (by rw [List.getElem?_cons_succ, List.getElem?_map, List.getElem?_eq_getElem hik']; rfl)) ?_
          walk_at "v"
          refine ⟨_, _, _, rfl, by have := hmem (List.mem_cons_of_mem w0 (List.getElem_mem hi)); omega, kd_due ks[i], fun H6 K6 => ?_⟩
          cases hg : gK ks[i] r[i] with
          | false =>
            rw [if_neg (by rw [hg]; decide)] at hb
            walk_at "v"
            refine iteT ?_
            refine w_raise xa (fun f hf => by rcases List.mem_singleton.mp hf with rfl; exact hna) ?_ (fun Q1 Q2 hQ h => by obtain ⟨v, e, h⟩ := h; exact ⟨v, e, hQ _ _ h⟩)
            walk_at "v"
            rw [show ((i + 1 : Nat) : Int) = ((1 + i : Nat) : Int) by omega]
            exact ⟨rfl, by decide, fun dx hd => kb (1 + i) hb dx H6 ((K14.trans K5).trans K6) hd⟩
          | true =>
            rw [if_pos hg] at hb
            walk_at "v"
            refine iteF ?_
            walk_at "v"
            exact ⟨_, rfl, K5.trans K6, by rw [hb]; rfl⟩
      rintro σ H5 ⟨u4, rfl, K5, hb⟩
      rw [List.drop_length] at hb
      walk_at "v"
      refine ⟨l, _, rfl, .inl (SqL.of (K5 _ _ e5)), ?_⟩
      walk_at "v"
      refine ⟨l3, _, rfl, .inl (SqL.of (K5 _ _ e4)), ?_⟩
      walk_at "v"
      by_cases hq : r.length < ks.length
      · refine iteP (by simp only [List.length_cons, List.length_map]; omega) ?_
        have hb' : badAt 1 ks r = some (1 + r.length) := by
          rw [hb]
          unfold badAt
          rw [if_neg]
          intro z
          have := List.isEmpty_iff.mp z
          have := congrArg List.length this
          rw [List.length_drop] at this
          simp at this
          omega
        refine w_raise xa (fun f hf => by rcases List.mem_singleton.mp hf with rfl; exact hna) ?_ (fun Q1 Q2 hQ h => by obtain ⟨v, e, p, ys, e2, e3, h⟩ := h; exact ⟨v, e, p, ys, e2, e3, hQ _ _ h⟩)
        walk_at "v"
        refine ⟨l, _, rfl, .inl (SqL.of (K5 _ _ e5)), ?_⟩
        walk_at "v"
        rw [show (((V.str w0 :: r.map V.str).length : Nat) : Int) = ((1 + r.length : Nat) : Int) by simp only [List.length_cons, List.length_map]; omega]
        exact ⟨rfl, by decide, fun dx hd => kb (1 + r.length) hb' dx H5 (K14.trans K5) hd⟩
      · refine iteQ (by simp only [List.length_cons, List.length_map]; omega) ?_
        have hb' : badAt 1 ks r = none := by
          rw [hb, List.drop_eq_nil_of_le (by omega)]
          rfl
        obtain ⟨A2, hA2, eA2⟩ := ak_of (hrd.trans hb')
        walk_at "v"
        refine ⟨l, A2, m, rfl, by rw [K5 _ _ e5, eA2]; rfl, hA2, hm, fun q H6 K6 hq => ?_⟩
        exact kg hb' q A2 H6 ((K14.trans K5).trans K6) hA2 eA2 hq
end
end K23

set_option Elab.async false
set_option linter.all false
set_option maxRecDepth 100000
/-! texts of pots: numbers, names, lines of words, sides of rules -/
namespace PT
open PySem L2 G2
def fT (i : Int) : Str := Str.ofString (toString i)
def inF (y : Str) : Bool := !(Builtin.Str.occurrences "0123456789" y 0 (Str.length "0123456789") 1).isEmpty
def figB (x : Str) : Bool := decide (x.length ≤ 10) && (sg x).all inF && (match x.cps.toList with | [] => false | c :: _ => decide (x = "0") || !decide ((⟨#[c]⟩ : Str) = "0"))
def inL (y : Str) : Bool := !(Builtin.Str.occurrences "abcdefghijklmnopqrstuvwxyz" y 0 (Str.length "abcdefghijklmnopqrstuvwxyz") 1).isEmpty
def noNames : List Str := ["sorts", "begin", "in", "out", "rule", "to"]
def nameB (x : Str) : Bool := decide (1 ≤ x.length) && decide (x.length ≤ 8) && !decide (x ∈ noNames) && (sg x).all inL && x.cps.toList.all fun c => decide (97 ≤ c) && decide (c ≤ 122)
def cntB (i : Int) : Bool := figB (fT i) && decide ((fT i).length ≤ 2) && decide (PySem.intText? (fT i) = some i) && (fT i).cps.toList.all (fun c => decide (48 ≤ c) && decide (c ≤ 57)) && decide (i.natAbs.log2 < 1920)
structure Cnt (i : Int) : Prop where
  fig : figB (fT i) = true
  l2 : (fT i).length ≤ 2
  rd : PySem.intText? (fT i) = some i
  ch : ∀ c ∈ (fT i).cps.toList, 48 ≤ c ∧ c ≤ 57
  lg : i.natAbs.log2 < 1920
/-- a word of a line -/
structure Wd (w : Str) : Prop where
  l : w.length ≤ 8
  ch : ∀ c ∈ w.cps.toList, 33 ≤ c ∧ c ≤ 127
structure Nme (x : Str) : Prop where
  b : nameB x = true
  l1 : 1 ≤ x.length
  l8 : x.length ≤ 8
  no : x ∉ noNames
  al : (sg x).all inL = true
  ch : ∀ c ∈ x.cps.toList, 97 ≤ c ∧ c ≤ 122
theorem nme_ok {x : Str} (h : nameB x = true) : Nme x := by
  have h' := h
  unfold nameB at h'
  simp only [Bool.and_eq_true, decide_eq_true_eq, List.all_eq_true, Bool.not_eq_true', decide_eq_false_iff_not] at h'
  obtain ⟨⟨⟨⟨a, b⟩, c⟩, d⟩, e⟩ := h'
  exact ⟨h, a, b, c, List.all_eq_true.mpr d, e⟩
theorem Wd.name {x : Str} (h : nameB x = true) : Wd x := ⟨(nme_ok h).l8, fun c hc => by have := (nme_ok h).ch c hc; omega⟩
def wdB (w : Str) : Bool := decide (w.length ≤ 8) && w.cps.toList.all fun c => decide (33 ≤ c) && decide (c ≤ 127)
theorem Wd.of {w : Str} (h : wdB w = true) : Wd w := by
  unfold wdB at h
  simp only [Bool.and_eq_true, decide_eq_true_eq, List.all_eq_true] at h
  exact ⟨h.1, h.2⟩
theorem Wd.nb {w : Str} (h : Wd w) : 32 ∉ w.cps.toList := fun z => by have := h.ch 32 z; omega
/-- a line of words -/
def ln (ws : List Str) : Str := Txt.join ⟨#[32]⟩ ws
theorem blank_is : (" " : Str) = ⟨#[32]⟩ := by decide +kernel
theorem jn_len {c B : Nat} : ∀ (ls : List (List Nat)), (∀ l ∈ ls, l.length ≤ B) → (jn c ls).length ≤ ls.length * (B + 1)
  | [], _ => Nat.zero_le _
  | [w], h => by
    have := h w (by simp)
    show w.length ≤ 1 * (B + 1)
    omega
  | w :: v :: r, h => by
    have h1 := h w (by simp)
    have ih := jn_len (c := c) (v :: r) fun l hl => h l (List.mem_cons_of_mem _ hl)
    show (w ++ c :: jn c (v :: r)).length ≤ _
    rw [List.length_append, List.length_cons, List.length_cons, Nat.succ_mul]
    omega
/-! ### sides of rules -/
def prs : Nat → List Int → List (Nat × Int)
  | _, [] => []
  | k, c :: cs => if 0 < c then (k, c) :: prs (k + 1) cs else prs (k + 1) cs
def fill (cs : List Int) (ps : List (Nat × Int)) : List Int := ps.foldl (fun a p => a.set p.1 p.2) cs
/-- the words of a side -/
def sdW (nm : List Str) (ps : List (Nat × Int)) : List Str := ps.flatMap fun p => [fT p.2, nm.getD p.1 ""]
def sideW (nm : List Str) (cs : List Int) : List Str := sdW nm (prs 0 cs)
/-- a side: so many counts from 0 to 9 -/
structure Sd (m : Nat) (cs : List Int) : Prop where
  l : cs.length = m
  b : ∀ c ∈ cs, 0 ≤ c ∧ c ≤ 9
/-! ### pots -/
structure PD where
  nm : List Str
  rl : List (List Int × List Int)
  ins : List Int
  beg : List Int
  ans : Int
structure PD.ok (d : PD) (m : Nat) : Prop where
  nl : d.nm.length = m
  nd : d.nm.Nodup
  nb : ∀ x ∈ d.nm, nameB x = true
  m0 : 0 < m
  m8 : m ≤ 8
  r8 : d.rl.length ≤ 8
  rs : ∀ r ∈ d.rl, Sd m r.1 ∧ Sd m r.2 ∧ (∃ x ∈ r.1, 0 < x) ∧ r.1 ≠ r.2
  hi : ∀ i ∈ d.ins, 0 ≤ i ∧ i < m
  i3 : d.ins.length ≤ 3
  inn : d.ins.Nodup
  bl : d.beg.length = m
  hb : ∀ b ∈ d.beg, 0 ≤ b ∧ b ≤ 99
  ha : 0 ≤ d.ans ∧ d.ans < m
def nmI (nm : List Str) (i : Int) : Str := nm.getD i.toNat ""
def ruW (nm : List Str) (r : List Int × List Int) : List Str := ("rule" : Str) :: (sideW nm r.1 ++ ("to" : Str) :: sideW nm r.2)
/-- the words of a pot's lines -/
def ptW (d : PD) : List (List Str) := [("sorts" : Str) :: d.nm, ("begin" : Str) :: d.beg.map fT, ("in" : Str) :: d.ins.map (nmI d.nm), [("out" : Str), nmI d.nm d.ans]] ++ d.rl.map (ruW d.nm)
def ptL (d : PD) : List Str := (ptW d).map ln
/-! ### as data -/
def ruD (r : List Int × List Int) : PyData := .tuple [.tuple (r.1.map .int), .tuple (r.2.map .int)]
def ptD (d : PD) : PyData := .tuple [.tuple (d.nm.map .str), .tuple (d.rl.map ruD), .tuple (d.ins.map .int), .tuple (d.beg.map .int), .int d.ans]
def liD (ls : List Str) : PyData := .list (ls.map .str)
theorem rdStrs {H : Hp} : ∀ (ws : List Str), RdVs H (ws.map V.str) (ws.map PyData.str)
  | [] => .nil
  | w :: ws => .cons (.str w) (rdStrs ws)
end PT

set_option Elab.async false
set_option linter.all false
set_option maxRecDepth 100000
namespace L2
open PySem PySem.Spec PyProof.Rows
section
variable {X : Cx}
/-- tuple(xs), xs a list: a tuple that is known as an object (so that its methods may be called) -/
def rTupF (K : PySem.W.Frag) : List V → Hp → VK → Prop := fun xs H Q => ∃ p ys, xs = [.ref p] ∧ SqL K H p ys ∧ ∀ l o, H l = none → o.dict = none → o.cls = .type "tuple" → Q (.ref l) (upd H l (.frz o (.tup ys)))
end
section
variable {prog : Program} {w : World} {A : Around} {E : Value → Shared → Prop} {s : Shared}
end

/-- a tuple that is known as an object -/
def TupF (H : Hp) (l : Addr) (ys : List V) : Prop := ∃ o, H l = some (.frz o (.tup ys)) ∧ o.dict = none ∧ o.cls = .type "tuple"
theorem TupF.sq {K : PySem.W.Frag} {H : Hp} {l : Addr} {ys : List V} (t : TupF H l ys) : SqT K H l ys := let ⟨o, e, _⟩ := t; .inl (.inr ⟨o, e⟩)
section
variable {X : Cx} {o e : Expr} {to : TE} {ta : TA} {apos cpos : Pos}
/-- t.index(e), t a known tuple of flat items: the first place where it stands -/
def tIndex (to : TE) (ta : TA) : TE := fun σ H Q => to σ H fun x H1 => (∃ l ys, x = .ref l ∧ TupF H1 l ys) ∧ ta σ H1 fun vs H2 => ∃ (l : Addr) (ys : List V) (v : V) (k : Nat) (hk : k < ys.length), vs = [v] ∧ x = .ref l ∧ TupF H2 l ys ∧ flatV v = true ∧ (∀ y ∈ ys, flatV y = true) ∧
  eqV ys[k] v = true ∧ (∀ i (hi : i < ys.length), i < k → eqV ys[i] v = false) ∧ Q (.int (k : Int)) H2
end
end L2

set_option Elab.async false
set_option linter.all false
set_option maxRecDepth 100000
namespace L2
open PySem
theorem TupF.same {H H' : Hp} {l : Addr} {ys : List V} (t : TupF H l ys) (k : Same H H') : TupF H' l ys := let ⟨o, e, a, b⟩ := t; ⟨o, k _ _ e, a, b⟩
end L2
namespace PT
open PySem L2 G2
/-- where the parts of a pot and of a rule stand -/
structure KP (mg : Str → Option Value) : Prop where
  sorts : Kn mg "SORTS" 0
  rules : Kn mg "RULES" 1
  inputs : Kn mg "INPUTS" 2
  begin : Kn mg "BEGIN" 3
  answer : Kn mg "ANSWER" 4
  takes : Kn mg "TAKES" 0
  gives : Kn mg "GIVES" 1
/-- what the reader of pots finds in its module -/
structure KR (K : PySem.W.Frag) (mg : Str → Option Value) : Prop where
  fig : KnS mg "FIGURES" "0123456789"
  lets : KnS mg "LETTERS" "abcdefghijklmnopqrstuvwxyz"
  no : GTup K mg "NO_NAMES" (noNames.map V.str)
  mlet : Kn mg "MOST_LETTERS" 8
  msor : Kn mg "MOST_SORTS" 8
  mbeg : Kn mg "MOST_BEGIN" 99
  minp : Kn mg "MOST_INPUTS" 3
  mrul : Kn mg "MOST_RULES" 8
  mdro : Kn mg "MOST_DROPS" 9
  mfig : Kn mg "MOST_FIGURES" 2
  l0 : Kn mg "SORTS_LINE" 0
  l1 : Kn mg "BEGIN_LINE" 1
  l2 : Kn mg "IN_LINE" 2
  l3 : Kn mg "OUT_LINE" 3
  l4 : Kn mg "FIRST_RULE" 4
theorem eqV_int {a b : Int} : eqV (.int a) (.int b) = decide (a = b) := by
  unfold eqV
  rfl
theorem inV_ints (x : Int) : ∀ (ws : List Int), inV (.int x) (ws.map V.int) = decide (x ∈ ws)
  | [] => rfl
  | w :: ws => by
    show (eqV (.int w) (.int x) || inV (.int x) (ws.map V.int)) = _
    rw [inV_ints x ws, eqV_int]
    by_cases h : w = x
    · subst h; simp
    · have h' : ¬ x = w := fun e => h e.symm
      simp [h, h']
/-! ### pots in the heap -/
def RlD (H : Hp) (r : Addr) (x : List Int × List Int) : Prop := ∃ a b, H r = some (.tup [.ref a, .ref b]) ∧ H a = some (.tup (x.1.map V.int)) ∧ H b = some (.tup (x.2.map V.int))
theorem RlD.same {H H' : Hp} {r : Addr} {x : List Int × List Int} (h : RlD H r x) (k : Same H H') : RlD H' r x := let ⟨a, b, h1, h2, h3⟩ := h; ⟨a, b, k _ _ h1, k _ _ h2, k _ _ h3⟩
def RlsD (H : Hp) : List Addr → List (List Int × List Int) → Prop
  | [], [] => True
  | r :: rs, x :: xs => RlD H r x ∧ RlsD H rs xs
  | _, _ => False
theorem RlsD.same {H H' : Hp} (k : Same H H') : ∀ {rs : List Addr} {xs : List (List Int × List Int)}, RlsD H rs xs → RlsD H' rs xs
  | [], [], _ => trivial
  | _ :: _, _ :: _, ⟨a, b⟩ => ⟨a.same k, RlsD.same k b⟩
  | [], _ :: _, h => h.elim
  | _ :: _, [], h => h.elim
theorem RlsD.len {H : Hp} : ∀ {rs : List Addr} {xs : List (List Int × List Int)}, RlsD H rs xs → rs.length = xs.length
  | [], [], _ => rfl
  | _ :: _, _ :: _, ⟨_, b⟩ => by rw [List.length_cons, List.length_cons, RlsD.len b]
  | [], _ :: _, h => h.elim
  | _ :: _, [], h => h.elim
theorem RlsD.get {H : Hp} : ∀ {rs : List Addr} {xs : List (List Int × List Int)} {i : Nat} {r : Addr}, RlsD H rs xs → rs[i]? = some r → ∃ x, xs[i]? = some x ∧ RlD H r x
  | r' :: _, x :: _, 0, r, ⟨a, _⟩, e => by cases e; exact ⟨x, rfl, a⟩
  | _ :: _, _ :: _, i + 1, r, ⟨_, b⟩, e => RlsD.get (i := i) b e
  | [], _, _, _, _, e => nomatch e
  | _ :: _, [], _, _, h, _ => h.elim
theorem RlsD.snoc {H : Hp} : ∀ {rs : List Addr} {xs : List (List Int × List Int)} {r : Addr} {x : List Int × List Int}, RlsD H rs xs → RlD H r x → RlsD H (rs ++ [r]) (xs ++ [x])
  | [], [], _, _, _, h => ⟨h, trivial⟩
  | _ :: _, _ :: _, _, _, ⟨a, b⟩, h => ⟨a, RlsD.snoc b h⟩
  | [], _ :: _, _, _, h, _ => h.elim
  | _ :: _, [], _, _, h, _ => h.elim
theorem RlsD.rd {H : Hp} : ∀ {rs : List Addr} {xs : List (List Int × List Int)}, RlsD H rs xs → RdVs H (rs.map V.ref) (xs.map ruD)
  | [], [], _ => .nil
  | _ :: _, _ :: _, ⟨⟨_, _, h1, h2, h3⟩, b⟩ => .cons (.tup h1 (.cons (.tup h2 (rdInts _)) (.cons (.tup h3 (rdInts _)) .nil))) (RlsD.rd b)
  | [], _ :: _, h => h.elim
  | _ :: _, [], h => h.elim
theorem RlD.off {H : Hp} {D r : Addr} {ys : List V} {o : HO} {x : List Int × List Int} (hD : H D = some (.lst ys)) (h : RlD H r x) : RlD (upd H D o) r x := by
  obtain ⟨a, b, h1, h2, h3⟩ := h
  have ne : ∀ {q : Addr} {zs : List V}, H q = some (.tup zs) → q ≠ D := fun e z => by rw [z, hD] at e; cases e
  exact ⟨a, b, by rw [upd_ne (ne h1)]; exact h1, by rw [upd_ne (ne h2)]; exact h2, by rw [upd_ne (ne h3)]; exact h3⟩
theorem RlsD.off {H : Hp} {D : Addr} {ys : List V} {o : HO} (hD : H D = some (.lst ys)) : ∀ {rs : List Addr} {xs : List (List Int × List Int)}, RlsD H rs xs → RlsD (upd H D o) rs xs
  | [], [], _ => trivial
  | _ :: _, _ :: _, ⟨a, b⟩ => ⟨a.off hD, RlsD.off hD b⟩
  | [], _ :: _, h => h.elim
  | _ :: _, [], h => h.elim
/-- a pot; fz: its sorts as a known object -/
structure PotF (fz : Bool) (H : Hp) (p : Addr) (d : PD) : Prop where
  ex : ∃ (ps pr pin pb : Addr) (rs : List Addr), H p = some (.tup [.ref ps, .ref pr, .ref pin, .ref pb, .int d.ans]) ∧ (if fz = true then TupF H ps (d.nm.map V.str) else H ps = some (.tup (d.nm.map V.str))) ∧ H pr = some (.tup (rs.map V.ref)) ∧ RlsD H rs d.rl ∧
    H pin = some (.tup (d.ins.map V.int)) ∧ H pb = some (.tup (d.beg.map V.int))
theorem PotF.same {fz : Bool} {H H' : Hp} {p : Addr} {d : PD} (h : PotF fz H p d) (k : Same H H') : PotF fz H' p d := by
  obtain ⟨ps, pr, pin, pb, rs, h1, h2, h3, h4, h5, h6⟩ := h.ex
  refine ⟨ps, pr, pin, pb, rs, k _ _ h1, ?_, k _ _ h3, h4.same k, k _ _ h5, k _ _ h6⟩
  cases fz
  · exact k _ _ h2
  · exact TupF.same h2 k
theorem PotF.rd {fz : Bool} {H : Hp} {p : Addr} {d : PD} (h : PotF fz H p d) : RdV H (.ref p) (ptD d) := by
  obtain ⟨ps, pr, pin, pb, rs, h1, h2, h3, h4, h5, h6⟩ := h.ex
  refine .tup h1 (.cons ?_ (.cons (.tup h3 h4.rd) (.cons (.tup h5 (rdInts _)) (.cons (.tup h6 (rdInts _)) (.cons (.int _) .nil)))))
  cases fz
  · exact .tup h2 (rdStrs _)
  · obtain ⟨o, e, _⟩ := h2
    exact .ftup e (rdStrs _)
/-- tuples stay -/
def Tst (H H' : Hp) : Prop := ∀ q xs, H q = some (.tup xs) → H' q = some (.tup xs)
theorem Tst.lst {H : Hp} {D : Addr} {ys : List V} {o : HO} (hD : H D = some (.lst ys)) : Tst H (upd H D o) := fun q xs e => by
  rw [upd_ne fun z => by rw [z, hD] at e; cases e]
  exact e
end PT

set_option Elab.async false
set_option linter.all false
set_option maxRecDepth 100000
namespace K23
open PySem L2 G2
local macro_rules | `(tactic| walk_at "v") => `(tactic| repeat (with_reducible first
  | refine w_seq ?_ | refine w_asg ?_ | refine w_gname ?_ | refine w_op ?_ | refine w_var rfl ?_ | refine w_c ?_ | refine w_rI0 ?_ | refine w_ifs ?_ | refine w_ife ?_ | refine w_test ?_ | refine w_tb ?_ | refine w_bl ?_ | refine w_not ?_ | refine w_ret ?_ | refine w_retN ?_
  | refine w_nil ?_ | refine w_cons ?_ | refine w_lst ?_ | refine w_tup ?_ | refine w_cb ?_ | refine w_call ?_ | refine w_gsub ?_ | refine w_and ?_ | refine w_or ?_ | refine w_next ?_ | refine w_all ?_ | refine w_vals ?_ | refine w_compR ?_ | refine w_compT ?_ | refine w_forR ?_ | refine w_forT ?_ | refine w_forL ?_ | refine w_drop ?_ | refine w_bm ?_ | refine w_compZ ?_ | refine w_compL ?_ | refine w_chain ?_ | refine w_sl ?_ | refine w_nopart ?_ | refine w_part ?_ | refine w_unI ?_ | refine iteT ?_ | refine iteF ?_))
theorem w_dget2 {td ty tx : TE} {σ : St} {H : Hp} {Q : VK} (h : td σ H fun x H1 => ∃ a, x = .ref a ∧ IsD H1 a ∧ ty σ H1 fun y H2 => tx σ H2 fun z H3 => ∃ o, DGet H3 a y o ∧ Q (o.getD z) H3) : tDGet2 td ty tx σ H Q := h
theorem w_disp {trs : List (TE × TE)} {σ : St} {H : Hp} {Q : VK} (h : ∀ p, H p = none → tPairs trs σ (upd H p (.dK [])) fun ps H2 => H2 p = some (.dK []) ∧ ∃ kvs : List (Key × V), ps = kvs.map (fun kv => (kV kv.1, kv.2)) ∧ kvs.length ≤ 15 ∧ Q (.ref p) (upd H2 p (.dK (mergeK [] kvs)))) : tDisp trs σ H Q := h
theorem w_pairs {tk tv : TE} {r : List (TE × TE)} {σ : St} {H : Hp} {Q : List (V × V) → Hp → Prop} (h : tk σ H fun x H1 => tv σ H1 fun y H2 => tPairs r σ H2 fun ps H3 => Q ((x, y) :: ps) H3) : tPairs ((tk, tv) :: r) σ H Q := h
theorem w_pairs0 {σ : St} {H : Hp} {Q : List (V × V) → Hp → Prop} (h : Q [] H) : tPairs [] σ H Q := h
abbrev sLn : Stmt := top 33
abbrev nLn : List Str := ["_law_word", "_law_figures"]
theorem nmLn : Nm nLn (defScope sLn) := ⟨by decide +kernel, by decide +kernel⟩
theorem scLn : FnScope nLn ["_law_word"] (defScope sLn) := ⟨rfl, rfl, rfl, by decide +kernel, rfl, by decide +kernel, by decide +kernel⟩
def qLna (s : Stmt) : Scope := match s with
  | .If (.BoolOp _ [_, (.Compare (.ListComp _ _ sc _) _ _ _)] _) _ _ _ => sc
  | _ => { kind := .function, names := [], isGenerator := false, isCoroutine := false }
abbrev cLna : Scope := qLna ((defBody sLn).getD 1 (.Pass ⟨0, 0, 0, 0⟩))
theorem bsLna : BScope (defScope sLn) cLna ["_law_sign"] [] [] := { okind := by decide +kernel, kind := by decide +kernel, nocell := by decide +kernel, names := by decide +kernel, fr := by decide +kernel, ff := by decide +kernel, nd := by decide +kernel, vis := by decide +kernel, loc := by decide +kernel, gl := by decide +kernel }
def spLn : Sp := fun vs H Q _ => ∃ x : Str, vs = [.str x] ∧ x.length ≤ 1000 ∧ ∀ H', Same H H' → Q (.bl (numP x)) H'
theorem fgS_len (x : Str) : (fgS x).length ≤ x.length := by
  unfold fgS
  match e : x.cps.toList with
  | [] =>
    have : x = "" := of_list e
    subst this
    decide +kernel
  | a :: r =>
    split
    · have e1 := slice1 e
      have : (Txt.slice x (some 1) none).length = r.length := by rw [← e1, Array.length_toList]; rfl
      have : x.length = r.length + 1 := by
        show x.cps.size = _
        rw [← Array.length_toList, e]; rfl
      omega
    · exact Nat.le_refl _
theorem filt_all {ys : List Str} : ((ys.filter fun y => !inF y).map V.str).isEmpty = ys.all inF := by
  induction ys with
  | nil => rfl
  | cons y ys ih =>
    rw [List.filter_cons, List.all_cons]
    cases h : inF y with
    | true => simpa using ih
    | false => rfl
theorem numP_len {x : Str} (h : ¬ ((fgS x).length = 1 ∨ (fgS x).length = 2)) : numP x = false := by
  unfold numP
  have h1 : ¬ (fgS x).length = 1 := fun z => h (.inl z)
  have h2 : ¬ (fgS x).length = 2 := fun z => h (.inr z)
  rw [decide_eq_false h1, decide_eq_false h2]
  rfl
theorem numP_sgn {x : Str} (h : (sg (fgS x)).all inF = false) : numP x = false := by
  unfold numP
  rw [h, Bool.false_and, Bool.and_false]
theorem numP_rest {x : Str} {c : Nat} {cs : List Nat} (h1 : (fgS x).length = 1 ∨ (fgS x).length = 2) (h2 : (sg (fgS x)).all inF = true) (hc : (fgS x).cps.toList = c :: cs) : numP x = (!decide (V.str (⟨#[c]⟩ : Str) = V.str "0") || decide (V.str x = V.str "0")) := by
  unfold numP hdS
  rw [h2, hc]
  have e : (decide ((fgS x).length = 1) || decide ((fgS x).length = 2)) = true := by
    rw [Bool.or_eq_true, decide_eq_true_eq, decide_eq_true_eq]
    exact h1
  rw [e]
  show (true && (true && (!decide ((⟨#[c]⟩ : Str) = "0") || decide (x = "0")))) = _
  have q1 : decide ((⟨#[c]⟩ : Str) = "0") = decide (V.str (⟨#[c]⟩ : Str) = V.str "0") := decide_eq_decide.mpr ⟨fun z => by rw [z], V.str.inj⟩
  have q2 : decide (x = "0") = decide (V.str x = V.str "0") := decide_eq_decide.mpr ⟨fun z => by rw [z], V.str.inj⟩
  rw [q1, q2, Bool.true_and, Bool.true_and]
section
variable {P : Program} {w : World} {K : PySem.W.Frag} {mg : Str → Option Value} {base : Heap}
set_option maxHeartbeats 4000000 in
theorem ok_Ln {f : Addr} {fd : FuncData} (B : Bl mg) (F : Fun K "_law_is_number" "_law_is_number" sLn f fd) : FnOk P w K mg base CX0 1 f fd ["_law_word"] spLn := by
  refine F.ok scLn (fun vs H Q E h => ?_) (fun cdv A outer s H vs Q E hr h => ?_)
  · obtain ⟨x, rfl, _⟩ := h
    rfl
  · obtain ⟨x, rfl, hl, k⟩ := h
    refine' ⟨_, ?hb, ?rd⟩
    case' hb => skip
    case' hb => refine' pss_cons ?g1 ?g2
    case' g2 => refine' pss_cons ?g3 ?g4
    case' g4 => refine' pss_one ?g5
    case g1 => exact ps_setD nmLn 1 (pe_ifExp (pt_cmpR op_eq (pe_slice sl_str (pvd nmLn 0) po_none (po_some pe_int)) pe_str (nomark _)) (pe_slice sl_str (pvd nmLn 0) (po_some pe_int) po_none) (pvd nmLn 0))
    case' g3 => refine' ps_if ?g6 ?g7 pss_nil
    case' g6 => refine' PW.pt ?g9
    case' g9 => refine' pw_or (pt_cmpR op_notIn_seq (pe_cB call_len_str B.len PySem.boot_len (pa_1 (pvd nmLn 1))) (pe_tup (pa_2 pe_int pe_int)) (by with_unfolding_all rfl)) ?g10
    case' g10 => refine' pw_or1 ?g11
    case' g11 => refine' pt_cmpR (op_neE hr) ?g12 (pe_lst pa_nil) (nomark _)
    case' g12 => refine' pe_comp (ix := []) bsLna.toCScope rfl rfl ?g13 ?g14 ?g15 ?g16
    case g13 => exact pi_tx (pvd nmLn 1)
    case g14 => exact fun _ _ _ _ _ _ => pgb bsLna 0
    case g15 => exact fun _ _ _ _ _ _ => pts_one (pt_cmpR op_notIn_str (pvb bsLna 0) pe_str (by with_unfolding_all rfl))
    case g16 => exact fun _ _ _ _ _ _ => pvb bsLna 0
    case' g7 => refine' pss_one ?g17
    case g17 => exact ps_ret pe_bl
    case g5 => exact ps_ret (pe_or (pe_cmpR op_ne (pe_ix ix_str (pvd nmLn 1) pe_int (fun _ _ => rfl)) pe_str (nomark _)) (pe_one (pe_cmpR op_eq (pvd nmLn 0) pe_str (nomark _))))
    case rd =>
      have fl := fgS_len x
      walk_at "v"
      refine ⟨_, rfl, ?_⟩
      refine ⟨x, rfl, hl, ?_⟩
      walk_at "v"
      refine ⟨rfl, ?_⟩
      refine ⟨_, rfl, ?_⟩
      refine iteD (fun z => ?_) (fun z => ?_)
      · have ef : Txt.slice x (some 1) none = fgS x := by unfold fgS; rw [if_pos (V.str.inj z)]
        walk_at "v"
        refine ⟨_, rfl, ?_⟩
        refine ⟨x, rfl, hl, ?_⟩
        rw [ef]
        walk_at "v"
        refine ⟨_, rfl, Nat.le_of_lt (small1000 (by omega)), ?_⟩
        walk_at "v"
        refine ⟨by show 2 ≤ sizeLine; decide, fun t ht => ?_⟩
        have K1 : Same H (upd H t (.tup [.int 1, .int 2])) := Same.new (Same.refl H) ht
        have e1 : upd H t (.tup [.int 1, .int 2]) t = some (.tup ([1, 2].map V.int)) := upd_same
        generalize upd H t (.tup [.int 1, .int 2]) = H1 at K1 e1 ⊢
        refine ⟨t, _, rfl, .inr (SqT.of e1), rfl, rfl, ?_⟩
        rw [PT.inV_ints]
        by_cases hlen : (fgS x).length = 1 ∨ (fgS x).length = 2
        · rw [show decide ((((fgS x).length : Nat) : Int) ∈ ([1, 2] : List Int)) = true from decide_eq_true (by rcases hlen with z | z <;> rw [z] <;> decide)]
          walk_at "v"
          refine iteF ?_
          walk_at "v"
          refine w_compX ?_
          walk_at "v"
          refine ⟨fgS x, rfl, fun D hD => ?_⟩
          have hgl : (sg (fgS x)).length ≤ 1000 := by rw [sg_len]; show (fgS x).length ≤ 1000; omega
          refine cgo_tx (ρ := []) (fun i ys H' => ys = (((sg (fgS x)).take i).filter fun y => !inF y).map V.str ∧ Same H1 H') ⟨rfl, Same.new (Same.refl H1) hD⟩ ?_ ?_
          · rintro i y ys H' hy ⟨rfl, K'⟩ hDy R S kR kS
            walk_at "v"
            refine ⟨y, _, rfl, rfl, ?_⟩
            refine ⟨_, rfl, ?_⟩
            show if (!inF y) = true then _ else _
            cases hf : inF y with
            | false =>
              refine iteT ?_
              walk_at "v"
              refine kR _ _ hDy (by rw [List.length_map]; exact small1000 (Nat.le_trans (List.length_filter_le _ _) (by rw [List.length_take]; omega))) ⟨?_, K'.put hD⟩
              rw [List.take_add_one, hy, List.filter_append, List.map_append]
              show _ = _ ++ List.map V.str (List.filter _ [y])
              rw [List.filter_cons, hf]
              rfl
            | true =>
              refine iteF ?_
              refine kS _ hDy ⟨?_, K'⟩
              rw [List.take_add_one, hy, List.filter_append, List.map_append]
              show _ = _ ++ List.map V.str (List.filter _ [y])
              rw [List.filter_cons, hf]
              simp
          rintro ys H2 ⟨rfl, K2⟩ e2
          rw [List.take_of_length_le (by omega)] at e2
          walk_at "v"
          refine ⟨by show 0 ≤ sizeLine; decide, fun z hz => ?_⟩
          have K3 : Same H2 (upd H2 z (.lst [])) := Same.new (Same.refl H2) hz
          have e3 : upd H2 z (.lst []) z = some (.lst []) := upd_same
          generalize upd H2 z (.lst []) = H3 at K3 e3 ⊢
          have KK : Same H H3 := (K1.trans K2).trans K3
          refine ⟨D, z, _, rfl, rfl, K3 _ _ e2, e3, ?_⟩
          rw [filt_all]
          walk_at "v"
          cases ha : (sg (fgS x)).all inF with
          | false =>
            refine iteT ?_
            walk_at "v"
            rw [← numP_sgn ha]
            exact k _ KK
          | true =>
            refine iteF ?_
            match hc : (fgS x).cps.toList with
            | [] =>
              exfalso
              have : (fgS x).length = 0 := by show (fgS x).cps.size = 0; rw [← Array.length_toList, hc]; rfl
              omega
            | c :: cs =>
              rw [numP_rest hlen ha hc] at k
              walk_at "v"
              refine w_orV ?_
              walk_at "v"
              refine ⟨fgS x, 0, c, rfl, rfl, Nat.le_of_lt (small1000 (by omega)), (by rw [hc]; exact atI_nat (show (c :: cs)[0]? = some c from rfl)), ?_⟩
              walk_at "v"
              refine ⟨rfl, ?_⟩
              refine ⟨_, rfl, ?_⟩
              refine iteDN (fun q => ?_) (fun q => ?_)
              · rw [decide_eq_false q] at k
                exact k _ KK
              · rw [decide_eq_true q] at k
                walk_at "v"
                refine ⟨rfl, ?_⟩
                exact k _ KK
        · rw [show decide ((((fgS x).length : Nat) : Int) ∈ ([1, 2] : List Int)) = false from decide_eq_false (by simp only [List.mem_cons, List.not_mem_nil, or_false]; omega)]
          walk_at "v"
          refine iteT ?_
          walk_at "v"
          rw [← numP_len hlen]
          exact k _ K1
      · have ef : fgS x = x := by unfold fgS; rw [if_neg fun q => z (by rw [q])]
        have ef' : (V.str x) = V.str (fgS x) := by rw [ef]
        refine w_var (v := .str (fgS x)) (by rw [← ef']; rfl) ?_
        walk_at "v"
        refine ⟨_, rfl, Nat.le_of_lt (small1000 (by omega)), ?_⟩
        walk_at "v"
        refine ⟨by show 2 ≤ sizeLine; decide, fun t ht => ?_⟩
        have K1 : Same H (upd H t (.tup [.int 1, .int 2])) := Same.new (Same.refl H) ht
        have e1 : upd H t (.tup [.int 1, .int 2]) t = some (.tup ([1, 2].map V.int)) := upd_same
        generalize upd H t (.tup [.int 1, .int 2]) = H1 at K1 e1 ⊢
        refine ⟨t, _, rfl, .inr (SqT.of e1), rfl, rfl, ?_⟩
        rw [PT.inV_ints]
        by_cases hlen : (fgS x).length = 1 ∨ (fgS x).length = 2
        · rw [show decide ((((fgS x).length : Nat) : Int) ∈ ([1, 2] : List Int)) = true from decide_eq_true (by rcases hlen with z | z <;> rw [z] <;> decide)]
          walk_at "v"
          refine iteF ?_
          walk_at "v"
          refine w_compX ?_
          walk_at "v"
          refine ⟨fgS x, rfl, fun D hD => ?_⟩
          have hgl : (sg (fgS x)).length ≤ 1000 := by rw [sg_len]; show (fgS x).length ≤ 1000; omega
          refine cgo_tx (ρ := []) (fun i ys H' => ys = (((sg (fgS x)).take i).filter fun y => !inF y).map V.str ∧ Same H1 H') ⟨rfl, Same.new (Same.refl H1) hD⟩ ?_ ?_
          · rintro i y ys H' hy ⟨rfl, K'⟩ hDy R S kR kS
            walk_at "v"
            refine ⟨y, _, rfl, rfl, ?_⟩
            refine ⟨_, rfl, ?_⟩
            show if (!inF y) = true then _ else _
            cases hf : inF y with
            | false =>
              refine iteT ?_
              walk_at "v"
              refine kR _ _ hDy (by rw [List.length_map]; exact small1000 (Nat.le_trans (List.length_filter_le _ _) (by rw [List.length_take]; omega))) ⟨?_, K'.put hD⟩
              rw [List.take_add_one, hy, List.filter_append, List.map_append]
              show _ = _ ++ List.map V.str (List.filter _ [y])
              rw [List.filter_cons, hf]
              rfl
            | true =>
              refine iteF ?_
              refine kS _ hDy ⟨?_, K'⟩
              rw [List.take_add_one, hy, List.filter_append, List.map_append]
              show _ = _ ++ List.map V.str (List.filter _ [y])
              rw [List.filter_cons, hf]
              simp
          rintro ys H2 ⟨rfl, K2⟩ e2
          rw [List.take_of_length_le (by omega)] at e2
          walk_at "v"
          refine ⟨by show 0 ≤ sizeLine; decide, fun z hz => ?_⟩
          have K3 : Same H2 (upd H2 z (.lst [])) := Same.new (Same.refl H2) hz
          have e3 : upd H2 z (.lst []) z = some (.lst []) := upd_same
          generalize upd H2 z (.lst []) = H3 at K3 e3 ⊢
          have KK : Same H H3 := (K1.trans K2).trans K3
          refine ⟨D, z, _, rfl, rfl, K3 _ _ e2, e3, ?_⟩
          rw [filt_all]
          walk_at "v"
          cases ha : (sg (fgS x)).all inF with
          | false =>
            refine iteT ?_
            walk_at "v"
            rw [← numP_sgn ha]
            exact k _ KK
          | true =>
            refine iteF ?_
            match hc : (fgS x).cps.toList with
            | [] =>
              exfalso
              have : (fgS x).length = 0 := by show (fgS x).cps.size = 0; rw [← Array.length_toList, hc]; rfl
              omega
            | c :: cs =>
              rw [numP_rest hlen ha hc] at k
              walk_at "v"
              refine w_orV ?_
              walk_at "v"
              refine ⟨fgS x, 0, c, rfl, rfl, Nat.le_of_lt (small1000 (by omega)), (by rw [hc]; exact atI_nat (show (c :: cs)[0]? = some c from rfl)), ?_⟩
              walk_at "v"
              refine ⟨rfl, ?_⟩
              refine ⟨_, rfl, ?_⟩
              refine iteDN (fun q => ?_) (fun q => ?_)
              · rw [decide_eq_false q] at k
                exact k _ KK
              · rw [decide_eq_true q] at k
                walk_at "v"
                refine ⟨rfl, ?_⟩
                exact k _ KK
        · rw [show decide ((((fgS x).length : Nat) : Int) ∈ ([1, 2] : List Int)) = false from decide_eq_false (by simp only [List.mem_cons, List.not_mem_nil, or_false]; omega)]
          walk_at "v"
          refine iteT ?_
          walk_at "v"
          rw [← numP_len hlen]
          exact k _ K1
end
abbrev sLf : Stmt := top 34
abbrev nLf : List Str := ["_law_many", "_law_text", "_law_words", "_law_kinds", "_law_k", "_law_kind", "_law_good"]
theorem nmLf : Nm nLf (defScope sLf) := ⟨by decide +kernel, by decide +kernel⟩
theorem scLf : FnScope nLf ["_law_many", "_law_text"] (defScope sLf) := ⟨rfl, rfl, rfl, by decide +kernel, rfl, by decide +kernel, by decide +kernel⟩
def kdC : Kd → Nat
  | .n => 110
  | .m => 109
  | .b => 47
def kdS (ks : List Kd) : Str := ⟨(ks.map kdC).toArray⟩
theorem kdS_len (ks : List Kd) : (kdS ks).length = ks.length := by
  show (ks.map kdC).toArray.size = _
  rw [List.size_toArray, List.length_map]
def kin (m : Nat) (w : Str) : Str := match kds m w with | none => "" | some ks => kdS ks
def kin0 (m : Nat) (w : Str) : Str := if w = "sum" then kdS (List.replicate (m + 1) .n) else if w = "part" then kdS (List.replicate (m + 1) .n ++ [.m]) else ""
theorem rep_n : ∀ m : Nat, m < 4 → repS "n" (m + 1) = kdS (List.replicate (m + 1) .n) ∧ repS "n" (m + 1) ++ "m" = kdS (List.replicate (m + 1) .n ++ [.m]) ∧ (repS "n" (m + 1) ++ "/") ++ repS "n" (m + 1) = kdS (List.replicate (m + 1) .n ++ (.b :: List.replicate (m + 1) .n)) := by decide +kernel
def fV : Option Nat → V
  | none => .non
  | some p => .int (p : Int)
def spLf : Sp := fun vs H Q _ => ∃ (x : Str) (m : Nat), vs = [.int (m : Int), .str x] ∧ x.length ≤ 1000 ∧ m ≤ 3 ∧ ∀ H', Same H H' → Q (fV (rdP m (Txt.split x " "))) H'
def inNm : Kd → Bool
  | .n => true
  | .m => true
  | .b => false
theorem and_nm {c : Bool} {σ : St} {H : Hp} {Q1 : VK} {y : Str} {j : Nat} {g : Bool} (hσ : σ[j]? = some (some (.str y))) (hg : (!(Builtin.Str.occurrences "nm" y 0 (Str.length "nm") 1).isEmpty) = g) (h : Q1 (.bl (c && g)) H) :
    if c = true then tOp (fun x y H Q => ∃ i j, x = .str i ∧ y = .str j ∧ Q (.bl (!(Builtin.Str.occurrences j i 0 j.length 1).isEmpty)) H) (tVar j) (tC (.str "nm")) σ H Q1 else Q1 (.bl false) H := by
  cases c with
  | true => exact iteT (w_op (w_var hσ (w_c ⟨_, _, rfl, rfl, by rw [hg]; exact h⟩)))
  | false => exact iteF h
theorem nm_in : ∀ d : Kd, (!(Builtin.Str.occurrences "nm" ⟨#[kdC d]⟩ 0 (Str.length "nm") 1).isEmpty) = inNm d := fun d => by cases d <;> decide +kernel
theorem bl_in : (!(Builtin.Str.occurrences "nm" ⟨#[32]⟩ 0 (Str.length "nm") 1).isEmpty) = false := by decide +kernel
theorem c_m : ∀ d : Kd, (V.str ⟨#[kdC d]⟩ = V.str "m") ↔ d = .m := fun d => by
  cases d
  · exact ⟨fun z => absurd (V.str.inj z) (by decide +kernel), fun z => nomatch z⟩
  · exact ⟨fun _ => rfl, fun _ => by decide +kernel⟩
  · exact ⟨fun z => absurd (V.str.inj z) (by decide +kernel), fun z => nomatch z⟩
theorem c_b : ∀ d : Kd, (V.str ⟨#[kdC d]⟩ = V.str "/") ↔ d = .b := fun d => by
  cases d
  · exact ⟨fun z => absurd (V.str.inj z) (by decide +kernel), fun z => nomatch z⟩
  · exact ⟨fun z => absurd (V.str.inj z) (by decide +kernel), fun z => nomatch z⟩
  · exact ⟨fun _ => rfl, fun _ => by decide +kernel⟩
theorem sg_eight : sg "23456789" = eights := by decide +kernel
section
variable {P : Program} {w : World} {K : PySem.W.Frag} {mg : Str → Option Value} {base : Heap}
set_option maxHeartbeats 4000000 in
theorem ok_Lf {f : Addr} {fd : FuncData} (B : Bl mg) (G : Has P w K mg base 1 "_law_is_number" ["_law_word"] spLn) (F : Fun K "_law_fault" "_law_fault" sLf f fd) : FnOk P w K mg base CX0 2 f fd ["_law_many", "_law_text"] spLf := by
  refine F.ok scLf (fun vs H Q E h => ?_) (fun cdv A outer s H vs Q E hr h => ?_)
  · obtain ⟨x, m, rfl, _⟩ := h
    rfl
  · obtain ⟨x, m, rfl, hl, hm, k⟩ := h
    have hu : (A.deeper (PyProof.Rows.envOfC "_law_fault" (defScope sLf) s.heap.objs.size f cdv)).units + 1 < PySem.cLine := by have := hr.units; omega
    refine' ⟨_, ?hb, ?rd⟩
    case' hb => skip
    case' hb => refine' pss_cons ?g1 ?g2
    case' g2 => refine' pss_cons ?g3 ?g4
    case' g4 => refine' pss_cons ?g5 ?g6
    case' g6 => refine' pss_cons ?g7 ?g8
    case' g8 => refine' pss_cons ?g9 ?g10
    case' g10 => refine' pss_one ?g11
    case g1 => exact ps_setD nmLf 2 (pe_bm PySem.F.plainAttrs_str PySem.F.slot_str_split PySem.F.type_str_split mt_split (pvd nmLf 1) (pa_1 pe_str))
    case g3 => exact ps_setD nmLf 3 (pe_dget2 hu (pe_disp (pps_cons pe_str (pe_op op_repS pe_str (pe_op op_add (pvd nmLf 0) pe_int)) (pps_cons pe_str (pe_op op_add_str (pe_op op_repS pe_str (pe_op op_add (pvd nmLf 0) pe_int)) pe_str) pps_nil)) rfl rfl (by simp) (by decide)) (pe_ix ix_d (pvd nmLf 2) pe_int (fun _ _ => rfl)) pe_str ⟨rfl, rfl, rfl, rfl⟩)
    case' g5 => refine' ps_if ?g12 ?g13 pss_nil
    case g12 => exact pt_cmpR op_in_seq (pe_ix ix_d (pvd nmLf 2) pe_int (fun _ _ => rfl)) (pe_tup (pa_c pe_str (pa_c pe_str (pa_2 pe_str pe_str)))) (by with_unfolding_all rfl)
    case' g13 => refine' pss_one ?g15
    case g15 => exact ps_setD nmLf 3 (pe_op op_add_str (pe_op op_add_str (pe_op op_repS pe_str (pe_op op_add (pvd nmLf 0) pe_int)) pe_str) (pe_op op_repS pe_str (pe_op op_add (pvd nmLf 0) pe_int)))
    case' g7 => refine' ps_if ?g16 ?g17 pss_nil
    case g16 => exact pt_cmpR op_eq (pvd nmLf 3) pe_str (nomark _)
    case' g17 => refine' pss_one ?g19
    case g19 => exact ps_ret pe_int
    case' g9 => refine' ps_for PassesOwn.never rfl ?g20 (pgd nmLf 4) ?g21
    case g20 => exact pi_r2 B.range (pa_2 pe_int (pe_cB call_len_seq B.len PySem.boot_len (pa_1 (pvd nmLf 2))))
    case' g21 => refine' pss_cons ?g22 ?g23
    case' g23 => refine' pss_cons ?g24 ?g25
    case' g25 => refine' pss_cons ?g26 ?g27
    case' g27 => refine' pss_cons ?g28 ?g29
    case' g29 => refine' pss_one ?g30
    case g22 => exact ps_setD nmLf 5 (pe_ix ix_str (pe_op op_add_str (pvd nmLf 3) pe_str) (pe_cB (call_min2 rfl) B.min PyProof.Rows.boot_min (pa_2 (pe_op op_sub (pvd nmLf 4) pe_int) (pe_cB call_len_str B.len PySem.boot_len (pa_1 (pvd nmLf 3))))) (fun _ _ => rfl))
    case g24 => exact ps_setD nmLf 6 (pe_and (pe_f G hr (by decide) (pa_1 (pe_ix ix_d (pvd nmLf 2) (pvd nmLf 4) (fun _ _ => rfl)))) (pe_one (pe_cmpR op_in_str (pvd nmLf 5) pe_str (by with_unfolding_all rfl))))
    case' g26 => refine' ps_if ?g31 ?g32 pss_nil
    case g31 => exact PW.pt (pw_and (pt_cmpR op_eq (pvd nmLf 5) pe_str (nomark _)) (pw_and1 (pt_cmpR op_notIn_seq (pe_ix ix_d (pvd nmLf 2) (pvd nmLf 4) (fun _ _ => rfl)) (pe_cT (call_listS hr) B.list PyProof.Rows.boot_list (pa_1 pe_str)) (by with_unfolding_all rfl))))
    case' g32 => refine' pss_one ?g34
    case g34 => exact ps_setD nmLf 6 pe_bl
    case' g28 => refine' ps_if ?g35 ?g36 pss_nil
    case g35 => exact pt_cmpR op_eq (pvd nmLf 5) pe_str (nomark _)
    case' g36 => refine' pss_one ?g38
    case g38 => exact ps_setD nmLf 6 (pe_cmpR op_eq (pe_ix ix_d (pvd nmLf 2) (pvd nmLf 4) (fun _ _ => rfl)) pe_str (nomark _))
    case' g30 => refine' ps_if ?g39 ?g40 pss_nil
    case g39 => exact pt_not (pt_val (pvd nmLf 6))
    case' g40 => refine' pss_one ?g42
    case g42 => exact ps_ret (pvd nmLf 4)
    case g11 => exact ps_ret (pe_ifExp (pt_cmpR op_le (pe_cB call_len_seq B.len PySem.boot_len (pa_1 (pvd nmLf 2))) (pe_cB call_len_str B.len PySem.boot_len (pa_1 (pvd nmLf 3))) (nomark _)) (pe_cB call_len_seq B.len PySem.boot_len (pa_1 (pvd nmLf 2))) pe_non)
    case rd =>
      have hsl := split_lens x
      have hlen := sum_len (Txt.split x " ")
      have hmem := fun {w : Str} (h : w ∈ Txt.split x " ") => sum_mem h
      generalize hws : Txt.split x " " = ws at k hsl hlen hmem
      have hne : ws ≠ [] := by rw [← hws, blank_is]; exact split_ne x 32
      match ws, hne with
      | w0 :: r, _ =>
      obtain ⟨p1, p2, p3⟩ := rep_n m (by omega)
      have rl : (repS "n" (m + 1)).length ≤ 10 := by
        rw [p1, kdS_len, List.length_replicate]; omega
      walk_at "v"
      refine ⟨rfl, ?_⟩
      walk_at "v"
      refine ⟨_, _, rfl, rfl, by decide +kernel, hl, fun l hll => ?_⟩
      rw [hws]
      have K1 : Same H (upd H l (.lst ((w0 :: r).map V.str))) := Same.new (Same.refl H) hll
      have e1 : upd H l (.lst ((w0 :: r).map V.str)) l = some (.lst (V.str w0 :: r.map V.str)) := upd_same
      generalize upd H l (.lst ((w0 :: r).map V.str)) = H1 at K1 e1 ⊢
      walk_at "v"
      refine w_dget2 ?_
      refine w_disp fun d hd => ?_
      refine w_pairs ?_
      walk_at "v"
      rw [show (m : Int) + 1 = ((m + 1 : Nat) : Int) by omega]
      refine ⟨"n", m + 1, rfl, rfl, by omega, by decide +kernel, by decide +kernel, Nat.le_trans rl (by decide), ?_⟩
      refine w_pairs ?_
      walk_at "v"
      rw [show (m : Int) + 1 = ((m + 1 : Nat) : Int) by omega]
      refine ⟨"n", m + 1, rfl, rfl, by omega, by decide +kernel, by decide +kernel, Nat.le_trans rl (by decide), ?_⟩
      walk_at "v"
      refine ⟨_, _, rfl, rfl, Nat.le_of_lt (small1000 (by show (repS "n" (m + 1)).length + 1 ≤ 1000; omega)), ?_⟩
      refine w_pairs0 ?_
      refine ⟨upd_same, [(.inr "sum", .str (repS "n" (m + 1))), (.inr "part", .str (repS "n" (m + 1) ++ "m"))], rfl, by show 2 ≤ 15; decide, ?_⟩
      have K2 : Same H1 (upd (upd H1 d (.dK [])) d (.dK (mergeK [] [(.inr "sum", .str (repS "n" (m + 1))), (.inr "part", .str (repS "n" (m + 1) ++ "m"))]))) := by
        rw [upd_upd]
        exact Same.new (Same.refl H1) hd
      have e2 : upd (upd H1 d (.dK [])) d (.dK (mergeK [] [(.inr "sum", .str (repS "n" (m + 1))), (.inr "part", .str (repS "n" (m + 1) ++ "m"))])) d = some (.dK [(.inr "sum", .str (repS "n" (m + 1))), (.inr "part", .str (repS "n" (m + 1) ++ "m"))]) := upd_same
      generalize upd (upd H1 d (.dK [])) d _ = H2 at K2 e2 ⊢
      refine ⟨d, rfl, ?_, ?_⟩
      · exact .inl ⟨_, .inl e2⟩
      walk_at "v"
      refine w_ixL (v := .str w0) (K2 _ _ e1) at0 ?_
      walk_at "v"
      refine ⟨_, DGet.k (k := .inr w0) e2, ?_⟩
      have hv : (valV [((.inr "sum" : Key), V.str (repS "n" (m + 1))), (.inr "part", .str (repS "n" (m + 1) ++ "m"))] (.inr w0)).getD (.str "") = .str (kin0 m w0) := by
        unfold kin0 valV
        by_cases h1 : w0 = "sum"
        · subst h1
          rw [if_pos rfl, ← p1]
          rfl
        · rw [if_neg h1]
          have n1 : ¬ ((.inr "sum" : Key) = .inr w0) := fun z => h1 (Sum.inr.inj z).symm
          by_cases h2 : w0 = "part"
          · subst h2
            rw [if_pos rfl, ← p2, List.find?_cons_of_neg (by simpa using n1)]
            rfl
          · rw [if_neg h2]
            have n2 : ¬ ((.inr "part" : Key) = .inr w0) := fun z => h2 (Sum.inr.inj z).symm
            rw [List.find?_cons_of_neg (by simpa using n1), List.find?_cons_of_neg (by simpa using n2)]
            rfl
      rw [hv]
      refine w_gname ?_
      with_reducible refine seq_post (fun σ' H' => σ' = [some (.int (m : Int)), some (.str x), some (.ref l), some (.str (kin m w0)), none, none, none] ∧ Same H1 H') ?tail fun inner => ?first
      case first =>
        walk_at "v"
        refine w_ixL (v := .str w0) (K2 _ _ e1) at0 ?_
        walk_at "v"
        refine ⟨by show 4 ≤ sizeLine; decide, fun t ht => ?_⟩
        have K3 : Same H2 (upd H2 t (.tup [.str "least", .str "most", .str "more", .str "same"])) := Same.new (Same.refl _) ht
        have e3 : upd H2 t (.tup [.str "least", .str "most", .str "more", .str "same"]) t = some (.tup ((["least", "most", "more", "same"] : List Str).map V.str)) := upd_same
        generalize upd H2 t (.tup [.str "least", .str "most", .str "more", .str "same"]) = H3 at K3 e3 ⊢
        refine ⟨t, _, rfl, .inr (SqT.of e3), rfl, rfl, ?_⟩
        rw [inV_strs]
        by_cases h3 : w0 = "least" ∨ w0 = "most" ∨ w0 = "more" ∨ w0 = "same"
        · have h1 : ¬ w0 = "sum" := by rcases h3 with rfl | rfl | rfl | rfl <;> decide +kernel
          have h2 : ¬ w0 = "part" := by rcases h3 with rfl | rfl | rfl | rfl <;> decide +kernel
          rw [show decide (w0 ∈ (["least", "most", "more", "same"] : List Str)) = true from decide_eq_true (by simpa using h3)]
          walk_at "v"
          refine iteT ?_
          walk_at "v"
          rw [show (m : Int) + 1 = ((m + 1 : Nat) : Int) by omega]
          refine ⟨"n", m + 1, rfl, rfl, by omega, by decide +kernel, by decide +kernel, Nat.le_trans rl (by decide), ?_⟩
          walk_at "v"
          refine ⟨_, _, rfl, rfl, Nat.le_of_lt (small1000 (by show (repS "n" (m + 1)).length + 1 ≤ 1000; omega)), ?_⟩
          walk_at "v"
          rw [show (m : Int) + 1 = ((m + 1 : Nat) : Int) by omega]
          refine ⟨"n", m + 1, rfl, rfl, by omega, by decide +kernel, by decide +kernel, Nat.le_trans rl (by decide), ?_⟩
          refine ⟨_, _, rfl, rfl, Nat.le_of_lt (small1000 (by show (repS "n" (m + 1) ++ ("/" : Str)).length + (repS "n" (m + 1)).length ≤ 1000; have : (repS "n" (m + 1) ++ ("/" : Str)).length = (repS "n" (m + 1)).length + 1 := Array.size_append; omega)), ?_⟩
          rw [p3]
          refine w_gname ?_
          refine inner _ _ ⟨?_, K2.trans K3⟩
          have : kin m w0 = kdS (List.replicate (m + 1) .n ++ (.b :: List.replicate (m + 1) .n)) := by
            unfold kin kds
            rw [if_neg h1, if_neg h2, if_pos h3]
          rw [this]
          rfl
        · rw [show decide (w0 ∈ (["least", "most", "more", "same"] : List Str)) = false from decide_eq_false (by simpa using h3)]
          refine ⟨_, rfl, ?_⟩
          refine iteF ?_
          refine w_next ?_
          refine inner _ _ ⟨?_, K2.trans K3⟩
          have : kin m w0 = kin0 m w0 := by
            unfold kin kin0 kds
            by_cases h1 : w0 = "sum"
            · rw [if_pos h1, if_pos h1]
            · by_cases h2 : w0 = "part"
              · rw [if_neg h1, if_neg h1, if_pos h2, if_pos h2]
              · rw [if_neg h1, if_neg h1, if_neg h2, if_neg h2, if_neg h3]
          rw [this]
          rfl
      case tail =>
      rintro σ' H4 ⟨rfl, K4⟩
      walk_at "v"
      refine ⟨rfl, ?_⟩
      refine ⟨_, rfl, ?_⟩
      cases hk : kds m w0 with
      | none =>
        have : kin m w0 = "" := by unfold kin; rw [hk]
        rw [this]
        refine iteT ?_
        walk_at "v"
        have : rdP m (w0 :: r) = some 0 := rdP_none hk
        rw [this] at k
        exact k _ (K1.trans K4)
      | some ks =>
      have hkin : kin m w0 = kdS ks := by unfold kin; rw [hk]
      rw [hkin]
      have k9 := kds_len hk hm
      have kpos : 0 < ks.length := by
        unfold kds at hk
        repeat' split at hk
        all_goals first | (cases hk; simp only [List.length_append, List.length_replicate, List.length_cons, List.length_nil]; omega) | cases hk
      have hnem : ¬ (V.str (kdS ks) = V.str "") := fun z => by
        have := congrArg Str.length (V.str.inj z)
        rw [kdS_len] at this
        have e0 : Str.length ("" : Str) = 0 := by decide +kernel
        omega
      refine iteQ hnem ?_
      rw [rdP_some hk] at k
      have e4 := K4 _ _ e1
      simp only [List.length_cons] at hlen
      walk_at "v"
      refine w_forR2 ?_
      walk_at "v"
      refine ⟨l, _, rfl, .inl (SqL.of e4), ?_⟩
      refine ⟨1, _, rfl, ⟨by decide, by decide, by simp only [List.length_cons, List.length_map]; omega, by simp only [List.length_cons, List.length_map]; omega⟩, ?_⟩
      rw [show (((V.str w0 :: r.map V.str).length : Nat) : Int) - 1 = ((r.length : Nat) : Int) by simp only [List.length_cons, List.length_map]; omega, Int.toNat_natCast]
      refine for_range (n := r.length) (fun i σ H' => ∃ u4 u5 u6, σ = [some (.int (m : Int)), some (.str x), some (.ref l), some (.str (kdS ks)), u4, u5, u6] ∧ Same H4 H' ∧ badAt 1 ks r = badAt (1 + i) (ks.drop i) (r.drop i)) ⟨none, none, none, rfl, Same.refl _, rfl⟩ ?_ ?_
      · rintro i σ H5 hi ⟨u4, u5, u6, rfl, K5, hb⟩
        have gx : r[i]? = some r[i] := List.getElem?_eq_getElem hi
        have dr : r.drop i = r[i] :: r.drop (i + 1) := List.drop_eq_getElem_cons hi
        have hwl := hmem (List.mem_cons_of_mem w0 (List.getElem_mem hi))
        have at' : atI (V.str w0 :: r.map V.str) ((i + 1 : Nat) : Int) = some (.str r[i]) := atI_nat (j := i + 1) (by rw [List.getElem?_cons_succ, List.getElem?_map, gx]; rfl)
        have cpl : (kdS ks ++ (" " : Str)).cps.toList = ks.map kdC ++ [32] := by
          show ((kdS ks).cps ++ _).toList = _
          rw [Array.toList_append]
          rfl
        have apl : (kdS ks ++ (" " : Str)).length = ks.length + 1 := by
          show (kdS ks ++ (" " : Str)).cps.size = _
          rw [← Array.length_toList, cpl, List.length_append, List.length_map]; rfl
        rw [show ((1 : Int) + (i : Int)) = ((i + 1 : Nat) : Int) by omega]
        walk_at "v"
        refine ⟨_, _, rfl, rfl, Nat.le_of_lt (small1000 (by show (kdS ks).length + 1 ≤ 1000; rw [kdS_len]; omega)), ?_⟩
        walk_at "v"
        refine ⟨_, rfl, Nat.le_of_lt (small1000 (by rw [kdS_len]; omega)), ?_⟩
        rw [kdS_len]
        walk_at "v"
        refine ⟨_, _, rfl, ?_⟩
        by_cases hik : ks.length ≤ i
        · rw [List.drop_eq_nil_of_le hik, dr] at hb
          have hmn : (if (ks.length : Int) < ((i + 1 : Nat) : Int) - 1 then (ks.length : Int) else ((i + 1 : Nat) : Int) - 1) = ((ks.length : Nat) : Int) := by
            split <;> omega
          rw [hmn]
          refine ⟨_, _, 32, rfl, rfl, Nat.le_of_lt (small1000 (by omega)), by rw [cpl]; exact atI_nat (by rw [List.getElem?_append_right (by rw [List.length_map]; exact Nat.le_refl _), List.length_map, Nat.sub_self]; rfl), ?_⟩
          walk_at "v"
          refine w_andV ?_
          walk_at "v"
          refine w_ixL (v := .str r[i]) (K5 _ _ e4) at' ?_
          walk_at "v"
          refine ⟨_, rfl, by omega, fun H6 K6 => ?_⟩
          refine ⟨_, rfl, ?_⟩
          refine and_nm rfl bl_in ?_
          rw [Bool.and_false]
          walk_at "v"
          refine ⟨rfl, ?_⟩
          refine ⟨_, rfl, ?_⟩
          refine iteQ (fun z => absurd (V.str.inj z) (by decide +kernel)) ?_
          walk_at "v"
          refine ⟨rfl, ?_⟩
          refine ⟨_, rfl, ?_⟩
          refine iteQ (fun z => absurd (V.str.inj z) (by decide +kernel)) ?_
          walk_at "v"
          refine iteT ?_
          walk_at "v"
          have hb : badAt 1 ks r = some (1 + i) := hb
          rw [hb] at k
          have k := k H6 ((K1.trans K4).trans (K5.trans K6))
          rw [show ((i + 1 : Nat) : Int) = ((1 + i : Nat) : Int) by omega]
          exact k
        · have hik' : i < ks.length := by omega
          have dk : ks.drop i = ks[i] :: ks.drop (i + 1) := List.drop_eq_getElem_cons hik'
          rw [dk, dr, badAt_step] at hb
          have hmn : (if (ks.length : Int) < ((i + 1 : Nat) : Int) - 1 then (ks.length : Int) else ((i + 1 : Nat) : Int) - 1) = ((i : Nat) : Int) := by
            split <;> omega
          rw [hmn]
          generalize hd : ks[i] = dd at hb
          refine ⟨_, _, kdC dd, rfl, rfl, Nat.le_of_lt (small1000 (by omega)), by rw [cpl]; exact atI_nat (by rw [List.getElem?_append_left (by rw [List.length_map]; exact hik'), List.getElem?_map, List.getElem?_eq_getElem hik', hd]; rfl), ?_⟩
          walk_at "v"
          refine w_andV ?_
          walk_at "v"
          refine w_ixL (v := .str r[i]) (K5 _ _ e4) at' ?_
          walk_at "v"
          refine ⟨_, rfl, by omega, fun H6 K6 => ?_⟩
          refine ⟨_, rfl, ?_⟩
          refine and_nm rfl (nm_in dd) ?_
          walk_at "v"
          refine ⟨rfl, ?_⟩
          refine ⟨_, rfl, ?_⟩
          have K56 := K5.trans K6
          have K16 := K4.trans K56
          have e6 := K6 _ _ (K5 _ _ e4)
          cases dd with
          | n =>
            refine iteQ (fun z => nomatch (c_m .n).mp z) ?_
            walk_at "v"
            refine ⟨rfl, ?_⟩
            refine ⟨_, rfl, ?_⟩
            refine iteQ (fun z => nomatch (c_b .n).mp z) ?_
            walk_at "v"
            have hb : badAt 1 ks r = if csP (-99) 99 r[i] = true then badAt (1 + i + 1) (ks.drop (i + 1)) (r.drop (i + 1)) else some (1 + i) := hb
            rw [line_num] at hb
            show if (!(numP r[i] && true)) = true then _ else _
            cases hn : numP r[i] with
            | true =>
              rw [if_pos hn] at hb
              refine iteF ?_
              walk_at "v"
              exact ⟨_, _, _, rfl, K56, hb⟩
            | false =>
              rw [if_neg (by rw [hn]; decide)] at hb
              refine iteT ?_
              walk_at "v"
              rw [hb] at k
              rw [show ((i + 1 : Nat) : Int) = ((1 + i : Nat) : Int) by omega]
              exact k H6 (K1.trans K16)
          | m =>
            have hb : badAt 1 ks r = if csP 2 9 r[i] = true then badAt (1 + i + 1) (ks.drop (i + 1)) (r.drop (i + 1)) else some (1 + i) := hb
            rw [part_num] at hb
            refine iteP ((c_m .m).mpr rfl) ?_
            walk_at "v"
            refine w_ixL (v := .str r[i]) e6 at' ?_
            walk_at "v"
            refine ⟨"23456789", rfl, by decide +kernel, fun l7 hl7 => ?_⟩
            rw [sg_eight]
            have K7 : Same H6 (upd H6 l7 (.lst (eights.map V.str))) := Same.new (Same.refl _) hl7
            have e7 : upd H6 l7 (.lst (eights.map V.str)) l7 = some (.lst (eights.map V.str)) := upd_same
            generalize upd H6 l7 (.lst (eights.map V.str)) = H7 at K7 e7 ⊢
            refine ⟨l7, _, rfl, .inl (SqL.of e7), rfl, flat_strs _, ?_⟩
            rw [inV_strs]
            cases he : decide (r[i] ∈ eights) with
            | true =>
              walk_at "v"
              refine iteF ?_
              walk_at "v"
              refine ⟨rfl, ?_⟩
              refine ⟨_, rfl, ?_⟩
              refine iteQ (fun z => nomatch (c_b .m).mp z) ?_
              walk_at "v"
              rw [he] at hb
              cases hn : numP r[i] with
              | true =>
                rw [hn] at hb
                refine iteF ?_
                walk_at "v"
                exact ⟨_, _, _, rfl, K56.trans K7, hb⟩
              | false =>
                rw [hn] at hb
                refine iteT ?_
                walk_at "v"
                have hb : badAt 1 ks r = some (1 + i) := hb
                rw [hb] at k
                rw [show ((i + 1 : Nat) : Int) = ((1 + i : Nat) : Int) by omega]
                exact k H7 (K1.trans (K16.trans K7))
            | false =>
              walk_at "v"
              refine iteT ?_
              walk_at "v"
              refine ⟨rfl, ?_⟩
              refine ⟨_, rfl, ?_⟩
              refine iteQ (fun z => nomatch (c_b .m).mp z) ?_
              walk_at "v"
              refine iteT ?_
              walk_at "v"
              rw [he, Bool.and_false] at hb
              have hb : badAt 1 ks r = some (1 + i) := hb
              rw [hb] at k
              rw [show ((i + 1 : Nat) : Int) = ((1 + i : Nat) : Int) by omega]
              exact k H7 (K1.trans (K16.trans K7))
          | b =>
            refine iteQ (fun z => nomatch (c_m .b).mp z) ?_
            walk_at "v"
            refine ⟨rfl, ?_⟩
            refine ⟨_, rfl, ?_⟩
            refine iteP ((c_b .b).mpr rfl) ?_
            walk_at "v"
            refine w_ixL (v := .str r[i]) e6 at' ?_
            walk_at "v"
            refine ⟨rfl, ?_⟩
            have hb : badAt 1 ks r = if decide (r[i] = "/") = true then badAt (1 + i + 1) (ks.drop (i + 1)) (r.drop (i + 1)) else some (1 + i) := hb
            walk_at "v"
            by_cases hq : r[i] = "/"
            · rw [if_pos (decide_eq_true hq)] at hb
              rw [decide_eq_true (show V.str r[i] = V.str "/" by rw [hq])]
              refine iteF ?_
              walk_at "v"
              exact ⟨_, _, _, rfl, K56, hb⟩
            · rw [if_neg (by rw [decide_eq_true_eq]; exact hq)] at hb
              rw [decide_eq_false fun z => hq (V.str.inj z)]
              refine iteT ?_
              walk_at "v"
              rw [hb] at k
              rw [show ((i + 1 : Nat) : Int) = ((1 + i : Nat) : Int) by omega]
              exact k H6 (K1.trans K16)
      rintro σ H5 ⟨u4, u5, u6, rfl, K5, hb⟩
      rw [List.drop_length] at hb
      walk_at "v"
      refine ⟨l, _, rfl, .inl (SqL.of (K5 _ _ e4)), ?_⟩
      walk_at "v"
      refine ⟨_, rfl, Nat.le_of_lt (small1000 (by rw [kdS_len]; omega)), ?_⟩
      rw [kdS_len]
      walk_at "v"
      by_cases hq : r.length < ks.length
      · refine iteP (by simp only [List.length_cons, List.length_map]; omega) ?_
        have hb' : badAt 1 ks r = some (1 + r.length) := by
          rw [hb]
          unfold badAt
          rw [if_neg]
          intro z
          have := List.isEmpty_iff.mp z
          have := congrArg List.length this
          rw [List.length_drop] at this
          simp at this
          omega
        rw [hb'] at k
        walk_at "v"
        refine ⟨l, _, rfl, .inl (SqL.of (K5 _ _ e4)), ?_⟩
        rw [show (((V.str w0 :: r.map V.str).length : Nat) : Int) = ((1 + r.length : Nat) : Int) by simp only [List.length_cons, List.length_map]; omega]
        exact k _ (K1.trans (K4.trans K5))
      · refine iteQ (by simp only [List.length_cons, List.length_map]; omega) ?_
        have hb' : badAt 1 ks r = none := by
          rw [hb, List.drop_eq_nil_of_le (by omega)]
          rfl
        rw [hb'] at k
        walk_at "v"
        exact k _ (K1.trans (K4.trans K5))
end
end K23

set_option Elab.async false
set_option linter.all false
set_option maxRecDepth 100000
namespace K23
open PySem L2 G2
local macro_rules | `(tactic| walk_at "v") => `(tactic| repeat (with_reducible first
  | refine w_seq ?_ | refine w_asg ?_ | refine w_gname ?_ | refine w_op ?_ | refine w_var rfl ?_ | refine w_c ?_ | refine w_rI0 ?_ | refine w_ifs ?_ | refine w_ife ?_ | refine w_test ?_ | refine w_tb ?_ | refine w_bl ?_ | refine w_not ?_ | refine w_ret ?_ | refine w_retN ?_
  | refine w_nil ?_ | refine w_cons ?_ | refine w_lst ?_ | refine w_tup ?_ | refine w_cb ?_ | refine w_call ?_ | refine w_gsub ?_ | refine w_and ?_ | refine w_or ?_ | refine w_next ?_ | refine w_all ?_ | refine w_vals ?_ | refine w_compR ?_ | refine w_compT ?_ | refine w_forR ?_ | refine w_forT ?_ | refine w_forL ?_ | refine w_drop ?_ | refine w_bm ?_ | refine w_compZ ?_ | refine w_compL ?_ | refine w_chain ?_ | refine w_sl ?_ | refine w_nopart ?_ | refine w_part ?_ | refine w_unI ?_ | refine iteT ?_ | refine iteF ?_))
/-- how long words are together, each with a blank -/
def tl (ws : List Str) : Nat := (ws.map fun w => w.length + 1).sum
theorem tl_app (a b : List Str) : tl (a ++ b) = tl a + tl b := by
  unfold tl
  rw [List.map_append, List.sum_append]
theorem tl_sub {a b : List Str} (h : a.Sublist b) : tl a ≤ tl b := by
  induction h with
  | slnil => exact Nat.le_refl _
  | cons x _ ih => unfold tl at ih ⊢; rw [List.map_cons, List.sum_cons]; omega
  | cons_cons x _ ih => unfold tl at ih ⊢; rw [List.map_cons, List.sum_cons, List.map_cons, List.sum_cons]; omega
theorem jn_tl : ∀ (ws : List Str), (jn 32 (ws.map fun w => w.cps.toList)).length ≤ tl ws
  | [] => Nat.zero_le _
  | [w] => by
    show w.cps.toList.length ≤ tl [w]
    rw [Array.length_toList]
    show w.length ≤ w.length + 1 + 0
    omega
  | w :: v :: r => by
    have ih := jn_tl (v :: r)
    show (w.cps.toList ++ 32 :: jn 32 ((v :: r).map fun w => w.cps.toList)).length ≤ w.length + 1 + tl (v :: r)
    rw [List.length_append, List.length_cons, Array.length_toList]
    show w.length + _ ≤ _
    omega
theorem join_any {ws : List Str} (h : tl ws ≤ 2000) : JoinOk " " ws = true ∧ (Txt.join " " ws).length ≤ tl ws := by
  rw [blank_is]
  constructor
  · unfold JoinOk
    have hn := sum_len ws
    have z := StrLaws.joinFits (sep := ⟨#[32]⟩) (B := 2000) (fun w hw => by have := sum_mem (ws := ws) hw; unfold tl at h; omega) (by
      have : ws.length ≤ 2000 := Nat.le_trans hn h
      show ws.length * 2000 + ws.length * 1 ≤ 16777216
      omega)
    rw [z]
    rfl
  · have e0 : Txt.join ⟨#[32]⟩ ws = Str.join ⟨#[32]⟩ ws := StrLaws.glued_eq_join _ _
    rw [e0]
    show (Str.join ⟨#[32]⟩ ws).cps.size ≤ _
    rw [← Array.length_toList, join_list]
    exact jn_tl ws
theorem cut_map (ws : List Str) (lo hi : Option Int) : ∃ us : List Str, cutV (ws.map V.str) lo hi = us.map V.str ∧ us.Sublist ws := by
  unfold cutV
  rw [List.length_map]
  exact ⟨(ws.drop _).take _, by rw [List.map_take, List.map_drop], (List.take_sublist _ _).trans (List.drop_sublist _ _)⟩
theorem slice_to {x : Str} {j : Nat} (h : j ≤ x.length) : (Txt.slice x none (some (j : Int))).length = j := by
  rw [slice_eq, StrLaws.sliceText_to ⟨by omega, by rw [Array.length_toList]; show (j : Int) ≤ (x.length : Nat); omega⟩]
  show (List.toArray _).size = j
  rw [List.size_toArray, List.length_take, List.length_drop, Array.length_toList]
  show min _ (x.length - 0) = j
  omega
theorem slice_from {x : Str} {j : Nat} (h : j ≤ x.length) : (Txt.slice x (some (j : Int)) none).length = x.length - j := by
  rw [slice_eq, StrLaws.sliceText_from ⟨by omega, by rw [Array.length_toList]; show (j : Int) ≤ (x.length : Nat); omega⟩]
  show (List.toArray _).size = _
  rw [List.size_toArray, List.length_take, List.length_drop, Array.length_toList]
  show min ((x.length : Int) - (j : Int)).toNat (x.length - (j : Int).toNat) = x.length - j
  omega
def some18 : List Str := ["/", "0", "-0", "00", "01", "-1", "99", "-99", "100", "-100", "+1", "1_0", "", "-", "a", "sum", "part", "9"]
theorem some_len : ∀ w ∈ some18, w.length ≤ 4 := by decide +kernel
theorem pick18 {r : Int} (h0 : 0 ≤ r) (h1 : r < 18) : ∃ w ∈ some18, atI (some18.map V.str) r = some (.str w) := by
  obtain ⟨j, rfl⟩ := ofI h0
  have hj : j < some18.length := by show j < 18; omega
  exact ⟨some18[j], List.getElem_mem hj, atI_nat (by rw [List.getElem?_map, List.getElem?_eq_getElem hj]; rfl)⟩
theorem pick7 {r : Int} (h0 : 0 ≤ r) (h1 : r < 7) : ∃ c, atI (Str.ofString " -/01s\n").cps.toList r = some c := by
  obtain ⟨j, rfl⟩ := ofI h0
  have hl : (Str.ofString " -/01s\n").cps.toList.length = 7 := by decide +kernel
  have hj : j < (Str.ofString " -/01s\n").cps.toList.length := by omega
  exact ⟨_, atI_nat (List.getElem?_eq_getElem hj)⟩
abbrev sLb : Stmt := top 35
abbrev nLb : List Str := ["_law_tape_here", "_law_text", "_law_words", "_law_at", "_law_some", "_law_other", "_law_way", "_law_place"]
theorem nmLb : Nm nLb (defScope sLb) := ⟨by decide +kernel, by decide +kernel⟩
theorem scLb : FnScope nLb ["_law_tape_here", "_law_text"] (defScope sLb) := ⟨rfl, rfl, rfl, by decide +kernel, rfl, by decide +kernel, by decide +kernel⟩
def spLb : Sp := fun vs H Q _ => ∃ (p l : Addr) (ms : List Int) (x : Str), vs = [.ref p, .str x] ∧ Tp H p l ms ∧ x.length ≤ 400 ∧ ∀ y H', y.length ≤ 2 * x.length + 8 → Tp H' p l ms → TK H H' → Q (.str y) H'
theorem two_part {H : Hp} {Q : VK} {lw lo : Addr} {us vs : List Str} (h : tl (us ++ vs) ≤ 2000) (e1 : H lw = some (.lst (us.map V.str))) (e2 : H lo = some (.lst (vs.map V.str))) (k : ∀ p, H p = none → Q (.ref p) (upd H p (.lst ((us ++ vs).map V.str)))) : rCat (.ref lw) (.ref lo) H Q := by
  refine ⟨lw, lo, _, _, rfl, rfl, e1, e2, ?_, fun p hp => ?_⟩
  · rw [List.length_map, List.length_map]
    have := sum_len (us ++ vs)
    unfold tl at h
    rw [List.length_append] at this
    exact Nat.le_trans (Nat.le_trans this h) (by decide)
  · have := k p hp
    rwa [List.map_append] at this
section
variable {P : Program} {w : World} {K : PySem.W.Frag} {mg : Str → Option Value} {base : Heap}
set_option maxHeartbeats 4000000 in
theorem ok_Lb {f : Addr} {fd : FuncData} (B : Bl mg) (D : Has P w K mg base 1 "_law_draw" ["_law_tape_here", "_law_many"] spDraw) (F : Fun K "_law_bent" "_law_bent" sLb f fd) : FnOk P w K mg base CX0 2 f fd ["_law_tape_here", "_law_text"] spLb := by
  refine F.ok scLb (fun vs H Q E h => ?_) (fun cdv A outer s H vs Q E hr h => ?_)
  · obtain ⟨p, l, ms, x, rfl, _⟩ := h
    rfl
  · obtain ⟨p, l, ms, x, rfl, T, hx, k⟩ := h
    refine' ⟨_, ?hb, ?rd⟩
    case' hb => skip
    case' hb => refine' pss_cons ?g1 ?g2
    case' g2 => refine' pss_cons ?g3 ?g4
    case' g4 => refine' pss_cons ?g5 ?g6
    case' g6 => refine' pss_cons ?g7 ?g8
    case' g8 => refine' pss_cons ?g9 ?g10
    case' g10 => refine' pss_cons ?g11 ?g12
    case' g12 => refine' pss_cons ?g13 ?g14
    case' g14 => refine' pss_cons ?g15 ?g16
    case' g16 => refine' pss_cons ?g17 ?g18
    case' g18 => refine' pss_cons ?g19 ?g20
    case' g20 => refine' pss_cons ?g21 ?g22
    case' g22 => refine' pss_one ?g23
    case g1 => exact ps_setD nmLb 2 (pe_bm PySem.F.plainAttrs_str PySem.F.slot_str_split PySem.F.type_str_split mt_split (pvd nmLb 1) (pa_1 pe_str))
    case g3 => exact ps_setD nmLb 3 (pe_f D hr (by decide) (pa_2 (pvd nmLb 0) (pe_cB call_len_seq B.len PySem.boot_len (pa_1 (pvd nmLb 2)))))
    case' g5 => refine' ps_setD nmLb 4 ?g24
    case g24 =>
      refine pe_lstC (vs := some18.map V.str) ?_
      decide +kernel
    case g7 => exact ps_setD nmLb 5 (pe_ix ix_d (pvd nmLb 4) (pe_f D hr (by decide) (pa_2 (pvd nmLb 0) pe_int)) (fun _ _ => rfl))
    case g9 => exact ps_setD nmLb 6 (pe_f D hr (by decide) (pa_2 (pvd nmLb 0) pe_int))
    case' g11 => refine' ps_if ?g25 ?g26 pss_nil
    case g25 => exact pt_cmpR op_eq (pvd nmLb 6) pe_int (nomark _)
    case' g26 => refine' pss_one ?g28
    case g28 => exact ps_ret (pe_bm PySem.F.plainAttrs_str PySem.F.slot_str_join PySem.F.type_str_join mt_join pe_str (pa_1 (pe_op op_cat (pe_slice sl_list (pvd nmLb 2) po_none (po_some (pvd nmLb 3))) (pe_slice sl_list (pvd nmLb 2) (po_some (pe_op op_add (pvd nmLb 3) pe_int)) po_none))))
    case' g13 => refine' ps_if ?g29 ?g30 pss_nil
    case g29 => exact pt_cmpR op_lt (pvd nmLb 6) pe_int (nomark _)
    case' g30 => refine' pss_one ?g32
    case g32 => exact ps_ret (pe_bm PySem.F.plainAttrs_str PySem.F.slot_str_join PySem.F.type_str_join mt_join pe_str (pa_1 (pe_op op_cat (pe_op op_cat (pe_slice sl_list (pvd nmLb 2) po_none (po_some (pvd nmLb 3))) (pe_lst (pa_1 (pvd nmLb 5)))) (pe_slice sl_list (pvd nmLb 2) (po_some (pe_op op_add (pvd nmLb 3) (pe_op op_fdiv (pvd nmLb 6) pe_int))) po_none))))
    case' g15 => refine' ps_if ?g33 ?g34 pss_nil
    case g33 => exact pt_cmpR op_eq (pvd nmLb 6) pe_int (nomark _)
    case' g34 => refine' pss_one ?g36
    case g36 => exact ps_ret (pe_bm PySem.F.plainAttrs_str PySem.F.slot_str_join PySem.F.type_str_join mt_join pe_str (pa_1 (pe_op op_cat (pvd nmLb 2) (pe_lst (pa_1 (pvd nmLb 5))))))
    case' g17 => refine' ps_if ?g37 ?g38 pss_nil
    case g37 => exact pt_cmpR op_eq (pvd nmLb 6) pe_int (nomark _)
    case' g38 => refine' pss_one ?g40
    case g40 => exact ps_ret (pe_bm PySem.F.plainAttrs_str PySem.F.slot_str_join PySem.F.type_str_join mt_join pe_str (pa_1 (pe_op op_cat (pe_slice sl_list (pvd nmLb 2) po_none (po_some (pe_op op_add (pvd nmLb 3) pe_int))) (pe_slice sl_list (pvd nmLb 2) (po_some (pvd nmLb 3)) po_none))))
    case' g19 => refine' ps_if ?g41 ?g42 pss_nil
    case g41 => exact pt_cmpR op_eq (pvd nmLb 6) pe_int (nomark _)
    case' g42 => refine' pss_one ?g44
    case g44 => exact ps_ret (pe_bm PySem.F.plainAttrs_str PySem.F.slot_str_join PySem.F.type_str_join mt_join pe_str (pa_1 (pe_slice sl_list (pvd nmLb 2) po_none (po_some (pe_op op_add (pvd nmLb 3) pe_int)))))
    case g21 => exact ps_setD nmLb 7 (pe_f D hr (by decide) (pa_2 (pvd nmLb 0) (pe_op op_add (pe_cB call_len_str B.len PySem.boot_len (pa_1 (pvd nmLb 1))) pe_int)))
    case g23 => exact ps_ret (pe_op op_add_str (pe_op op_add_str (pe_slice sl_str (pvd nmLb 1) po_none (po_some (pvd nmLb 7))) (pe_ix ix_str pe_str (pe_f D hr (by decide) (pa_2 (pvd nmLb 0) pe_int)) (fun _ _ => rfl))) (pe_slice sl_str (pvd nmLb 1) (po_some (pvd nmLb 7)) po_none))
    case rd =>
      have hsl := split_lens x
      have hlen := sum_len (Txt.split x " ")
      have hne : Txt.split x " " ≠ [] := by rw [blank_is]; exact split_ne x 32
      generalize hws : Txt.split x " " = ws at hsl hlen hne
      have htl : tl ws = x.length + 1 := hsl
      have wpos : 0 < ws.length := List.length_pos_iff.mpr hne
      walk_at "v"
      refine ⟨rfl, ?_⟩
      walk_at "v"
      refine ⟨_, _, rfl, rfl, by decide +kernel, by omega, fun lw hlw => ?_⟩
      rw [hws]
      have T1 := T.new (o := .lst (ws.map V.str)) hlw
      have Q1 : TK H (upd H lw (.lst (ws.map V.str))) := TK.new hlw
      have npw : p ≠ lw := T.np hlw
      have ew1 : upd H lw (.lst (ws.map V.str)) lw = some (.lst (ws.map V.str)) := upd_same
      generalize upd H lw (.lst (ws.map V.str)) = H1 at T1 Q1 ew1 ⊢
      walk_at "v"
      refine ⟨lw, _, rfl, .inl (SqL.of ew1), ?_⟩
      walk_at "v"
      refine ⟨p, l, ms, (ws.length : Int), by rw [List.length_map]; rfl, T1, by omega, by omega, fun a c1 d1 a0 a1 => ?_⟩
      obtain ⟨a, rfl⟩ := ofI a0
      have T2 := T1.draw (c := c1) (e := d1)
      have Q2 := Q1.trans (T1.tk (o := .lst [.ref l, .int c1, .int d1]))
      have ew2 : upd H1 p (.lst [.ref l, .int c1, .int d1]) lw = some (.lst (ws.map V.str)) := by rw [upd_ne (Ne.symm npw)]; exact ew1
      generalize upd H1 p (.lst [.ref l, .int c1, .int d1]) = H2 at T2 Q2 ew2 ⊢
      walk_at "v"
      refine ⟨by show 18 ≤ sizeLine; decide, fun ls hls => ?_⟩
      have T3 := T2.new (o := .lst (some18.map V.str)) hls
      have Q3 := Q2.trans (TK.new (o := .lst (some18.map V.str)) hls)
      have nps : p ≠ ls := T2.np hls
      have es3 : upd H2 ls (.lst (some18.map V.str)) ls = some (.lst (some18.map V.str)) := upd_same
      have ew3 : upd H2 ls (.lst (some18.map V.str)) lw = some (.lst (ws.map V.str)) := by rw [upd_ne (ne_of_none ew2 hls)]; exact ew2
      generalize upd H2 ls (.lst (some18.map V.str)) = H3 at T3 Q3 es3 ew3 ⊢
      walk_at "v"
      refine ⟨p, l, ms, 18, rfl, T3, by decide, by decide, fun b c2 d2 b0 b1 => ?_⟩
      obtain ⟨oth, ho, hat⟩ := pick18 b0 b1
      have hol := some_len oth ho
      have T4 := T3.draw (c := c2) (e := d2)
      have Q4 := Q3.trans (T3.tk (o := .lst [.ref l, .int c2, .int d2]))
      have es4 : upd H3 p (.lst [.ref l, .int c2, .int d2]) ls = some (.lst (some18.map V.str)) := by rw [upd_ne (Ne.symm nps)]; exact es3
      have ew4 : upd H3 p (.lst [.ref l, .int c2, .int d2]) lw = some (.lst (ws.map V.str)) := by rw [upd_ne (Ne.symm npw)]; exact ew3
      generalize upd H3 p (.lst [.ref l, .int c2, .int d2]) = H4 at T4 Q4 es4 ew4 ⊢
      refine w_ixL (v := .str oth) es4 hat ?_
      walk_at "v"
      refine ⟨p, l, ms, 8, rfl, T4, by decide, by decide, fun wy c3 d3 wy0 wy1 => ?_⟩
      have T5 := T4.draw (c := c3) (e := d3)
      have Q5 := Q4.trans (T4.tk (o := .lst [.ref l, .int c3, .int d3]))
      have ew5 : upd H4 p (.lst [.ref l, .int c3, .int d3]) lw = some (.lst (ws.map V.str)) := by rw [upd_ne (Ne.symm npw)]; exact ew4
      generalize upd H4 p (.lst [.ref l, .int c3, .int d3]) = H5 at T5 Q5 ew5 ⊢
      have tlo : tl [oth] ≤ 5 := by show oth.length + 1 + 0 ≤ 5; omega
      walk_at "v"
      refine ⟨rfl, ?_⟩
      refine ⟨_, rfl, ?_⟩
      refine iteD (fun z => ?_) (fun z0 => ?_)
      · walk_at "v"
        refine ⟨rfl, ?_⟩
        walk_at "v"
        refine ⟨_, rfl, ?_⟩
        refine ⟨lw, _, rfl, SqL.of ew5, fun q1 hq1 => ?_⟩
        obtain ⟨u1, cu1, su1⟩ := cut_map ws (none) (some (a : Int))
        rw [cu1]
        have K6 : Same H5 (upd H5 q1 (.lst (u1.map V.str))) := Same.new (Same.refl _) hq1
        have eq1 : upd H5 q1 (.lst (u1.map V.str)) q1 = some (.lst (u1.map V.str)) := upd_same
        have T6 := T5.new (o := .lst (u1.map V.str)) hq1
        have Q6 := Q5.trans (TK.new (o := .lst (u1.map V.str)) hq1)
        generalize upd H5 q1 (.lst (u1.map V.str)) = H6 at K6 eq1 T6 Q6 ⊢
        have ew6 := K6 _ _ ew5
        have tu1 := tl_sub su1
        walk_at "v"
        refine ⟨_, rfl, ?_⟩
        walk_at "v"
        refine ⟨lw, _, rfl, SqL.of ew6, fun q2 hq2 => ?_⟩
        obtain ⟨u2, cu2, su2⟩ := cut_map ws (some ((a : Int) + 1)) (none)
        rw [cu2]
        have K7 : Same H6 (upd H6 q2 (.lst (u2.map V.str))) := Same.new (Same.refl _) hq2
        have eq2 : upd H6 q2 (.lst (u2.map V.str)) q2 = some (.lst (u2.map V.str)) := upd_same
        have T7 := T6.new (o := .lst (u2.map V.str)) hq2
        have Q7 := Q6.trans (TK.new (o := .lst (u2.map V.str)) hq2)
        generalize upd H6 q2 (.lst (u2.map V.str)) = H7 at K7 eq2 T7 Q7 ⊢
        have ew7 := K7 _ _ ew6
        replace eq1 := K7 _ _ eq1
        have tu2 := tl_sub su2
        refine two_part (us := u1) (vs := u2) (by (try simp only [tl_app]); omega) eq1 eq2 fun q3 hq3 => ?_
        have K8 : Same H7 (upd H7 q3 (.lst ((u1 ++ u2).map V.str))) := Same.new (Same.refl _) hq3
        have eq3 : upd H7 q3 (.lst ((u1 ++ u2).map V.str)) q3 = some (.lst ((u1 ++ u2).map V.str)) := upd_same
        have T8 := T7.new (o := .lst ((u1 ++ u2).map V.str)) hq3
        have Q8 := Q7.trans (TK.new (o := .lst ((u1 ++ u2).map V.str)) hq3)
        generalize upd H7 q3 (.lst ((u1 ++ u2).map V.str)) = H8 at K8 eq3 T8 Q8 ⊢
        have ew8 := K8 _ _ ew7
        replace eq1 := K8 _ _ eq1
        replace eq2 := K8 _ _ eq2
        walk_at "v"
        obtain ⟨j1, j2⟩ := join_any (ws := u1 ++ u2) (by (try simp only [tl_app]); omega)
        refine ⟨" ", q3, u1 ++ u2, rfl, rfl, eq3, j1, Nat.le_trans j2 (Nat.le_trans (by (try simp only [tl_app]); omega : tl (u1 ++ u2) ≤ 2000) (by decide)), ?_⟩
        refine k _ _ ?_ T8 Q8
        try simp only [tl_app] at j2
        omega
      walk_at "v"
      refine iteD (fun z => ?_) (fun z1 => ?_)
      · walk_at "v"
        refine ⟨rfl, ?_⟩
        walk_at "v"
        refine ⟨_, rfl, ?_⟩
        refine ⟨lw, _, rfl, SqL.of ew5, fun q1 hq1 => ?_⟩
        obtain ⟨u1, cu1, su1⟩ := cut_map ws (none) (some (a : Int))
        rw [cu1]
        have K6 : Same H5 (upd H5 q1 (.lst (u1.map V.str))) := Same.new (Same.refl _) hq1
        have eq1 : upd H5 q1 (.lst (u1.map V.str)) q1 = some (.lst (u1.map V.str)) := upd_same
        have T6 := T5.new (o := .lst (u1.map V.str)) hq1
        have Q6 := Q5.trans (TK.new (o := .lst (u1.map V.str)) hq1)
        generalize upd H5 q1 (.lst (u1.map V.str)) = H6 at K6 eq1 T6 Q6 ⊢
        have ew6 := K6 _ _ ew5
        have tu1 := tl_sub su1
        walk_at "v"
        refine ⟨by show 1 ≤ sizeLine; decide, fun q2 hq2 => ?_⟩
        have K7 : Same H6 (upd H6 q2 (.lst [.str oth])) := Same.new (Same.refl _) hq2
        have eq2 : upd H6 q2 (.lst [.str oth]) q2 = some (.lst ([oth].map V.str)) := upd_same
        have T7 := T6.new (o := .lst [.str oth]) hq2
        have Q7 := Q6.trans (TK.new (o := .lst [.str oth]) hq2)
        generalize upd H6 q2 (.lst [.str oth]) = H7 at K7 eq2 T7 Q7 ⊢
        have ew7 := K7 _ _ ew6
        replace eq1 := K7 _ _ eq1
        refine two_part (us := u1) (vs := [oth]) (by (try simp only [tl_app]); omega) eq1 eq2 fun q3 hq3 => ?_
        have K8 : Same H7 (upd H7 q3 (.lst ((u1 ++ [oth]).map V.str))) := Same.new (Same.refl _) hq3
        have eq3 : upd H7 q3 (.lst ((u1 ++ [oth]).map V.str)) q3 = some (.lst ((u1 ++ [oth]).map V.str)) := upd_same
        have T8 := T7.new (o := .lst ((u1 ++ [oth]).map V.str)) hq3
        have Q8 := Q7.trans (TK.new (o := .lst ((u1 ++ [oth]).map V.str)) hq3)
        generalize upd H7 q3 (.lst ((u1 ++ [oth]).map V.str)) = H8 at K8 eq3 T8 Q8 ⊢
        have ew8 := K8 _ _ ew7
        replace eq1 := K8 _ _ eq1
        replace eq2 := K8 _ _ eq2
        walk_at "v"
        refine w_rI ⟨by decide, by decide⟩ ?_
        walk_at "v"
        refine ⟨_, rfl, ?_⟩
        walk_at "v"
        refine ⟨lw, _, rfl, SqL.of ew8, fun q4 hq4 => ?_⟩
        obtain ⟨u4, cu4, su4⟩ := cut_map ws (some ((a : Int) + wy / 2)) (none)
        rw [cu4]
        have K9 : Same H8 (upd H8 q4 (.lst (u4.map V.str))) := Same.new (Same.refl _) hq4
        have eq4 : upd H8 q4 (.lst (u4.map V.str)) q4 = some (.lst (u4.map V.str)) := upd_same
        have T9 := T8.new (o := .lst (u4.map V.str)) hq4
        have Q9 := Q8.trans (TK.new (o := .lst (u4.map V.str)) hq4)
        generalize upd H8 q4 (.lst (u4.map V.str)) = H9 at K9 eq4 T9 Q9 ⊢
        have ew9 := K9 _ _ ew8
        replace eq1 := K9 _ _ eq1
        replace eq2 := K9 _ _ eq2
        replace eq3 := K9 _ _ eq3
        have tu4 := tl_sub su4
        refine two_part (us := (u1 ++ [oth])) (vs := u4) (by (try simp only [tl_app]); omega) eq3 eq4 fun q5 hq5 => ?_
        have K10 : Same H9 (upd H9 q5 (.lst (((u1 ++ [oth]) ++ u4).map V.str))) := Same.new (Same.refl _) hq5
        have eq5 : upd H9 q5 (.lst (((u1 ++ [oth]) ++ u4).map V.str)) q5 = some (.lst (((u1 ++ [oth]) ++ u4).map V.str)) := upd_same
        have T10 := T9.new (o := .lst (((u1 ++ [oth]) ++ u4).map V.str)) hq5
        have Q10 := Q9.trans (TK.new (o := .lst (((u1 ++ [oth]) ++ u4).map V.str)) hq5)
        generalize upd H9 q5 (.lst (((u1 ++ [oth]) ++ u4).map V.str)) = H10 at K10 eq5 T10 Q10 ⊢
        have ew10 := K10 _ _ ew9
        replace eq1 := K10 _ _ eq1
        replace eq2 := K10 _ _ eq2
        replace eq3 := K10 _ _ eq3
        replace eq4 := K10 _ _ eq4
        walk_at "v"
        obtain ⟨j1, j2⟩ := join_any (ws := (u1 ++ [oth]) ++ u4) (by (try simp only [tl_app]); omega)
        refine ⟨" ", q5, (u1 ++ [oth]) ++ u4, rfl, rfl, eq5, j1, Nat.le_trans j2 (Nat.le_trans (by (try simp only [tl_app]); omega : tl ((u1 ++ [oth]) ++ u4) ≤ 2000) (by decide)), ?_⟩
        refine k _ _ ?_ T10 Q10
        try simp only [tl_app] at j2
        omega
      walk_at "v"
      refine ⟨rfl, ?_⟩
      refine ⟨_, rfl, ?_⟩
      refine iteD (fun z => ?_) (fun z2 => ?_)
      · walk_at "v"
        refine ⟨rfl, ?_⟩
        walk_at "v"
        refine ⟨by show 1 ≤ sizeLine; decide, fun q2 hq2 => ?_⟩
        have K6 : Same H5 (upd H5 q2 (.lst [.str oth])) := Same.new (Same.refl _) hq2
        have eq2 : upd H5 q2 (.lst [.str oth]) q2 = some (.lst ([oth].map V.str)) := upd_same
        have T6 := T5.new (o := .lst [.str oth]) hq2
        have Q6 := Q5.trans (TK.new (o := .lst [.str oth]) hq2)
        generalize upd H5 q2 (.lst [.str oth]) = H6 at K6 eq2 T6 Q6 ⊢
        have ew6 := K6 _ _ ew5
        have elw := ew6
        refine two_part (us := ws) (vs := [oth]) (by (try simp only [tl_app]); omega) elw eq2 fun q3 hq3 => ?_
        have K7 : Same H6 (upd H6 q3 (.lst ((ws ++ [oth]).map V.str))) := Same.new (Same.refl _) hq3
        have eq3 : upd H6 q3 (.lst ((ws ++ [oth]).map V.str)) q3 = some (.lst ((ws ++ [oth]).map V.str)) := upd_same
        have T7 := T6.new (o := .lst ((ws ++ [oth]).map V.str)) hq3
        have Q7 := Q6.trans (TK.new (o := .lst ((ws ++ [oth]).map V.str)) hq3)
        generalize upd H6 q3 (.lst ((ws ++ [oth]).map V.str)) = H7 at K7 eq3 T7 Q7 ⊢
        have ew7 := K7 _ _ ew6
        replace eq2 := K7 _ _ eq2
        replace elw := K7 _ _ elw
        walk_at "v"
        obtain ⟨j1, j2⟩ := join_any (ws := ws ++ [oth]) (by (try simp only [tl_app]); omega)
        refine ⟨" ", q3, ws ++ [oth], rfl, rfl, eq3, j1, Nat.le_trans j2 (Nat.le_trans (by (try simp only [tl_app]); omega : tl (ws ++ [oth]) ≤ 2000) (by decide)), ?_⟩
        refine k _ _ ?_ T7 Q7
        try simp only [tl_app] at j2
        omega
      walk_at "v"
      refine ⟨rfl, ?_⟩
      refine ⟨_, rfl, ?_⟩
      refine iteD (fun z => ?_) (fun z3 => ?_)
      · walk_at "v"
        refine ⟨rfl, ?_⟩
        walk_at "v"
        refine ⟨_, rfl, ?_⟩
        refine ⟨lw, _, rfl, SqL.of ew5, fun q1 hq1 => ?_⟩
        obtain ⟨u1, cu1, su1⟩ := cut_map ws (none) (some ((a : Int) + 1))
        rw [cu1]
        have K6 : Same H5 (upd H5 q1 (.lst (u1.map V.str))) := Same.new (Same.refl _) hq1
        have eq1 : upd H5 q1 (.lst (u1.map V.str)) q1 = some (.lst (u1.map V.str)) := upd_same
        have T6 := T5.new (o := .lst (u1.map V.str)) hq1
        have Q6 := Q5.trans (TK.new (o := .lst (u1.map V.str)) hq1)
        generalize upd H5 q1 (.lst (u1.map V.str)) = H6 at K6 eq1 T6 Q6 ⊢
        have ew6 := K6 _ _ ew5
        have tu1 := tl_sub su1
        walk_at "v"
        refine ⟨_, rfl, ?_⟩
        walk_at "v"
        refine ⟨lw, _, rfl, SqL.of ew6, fun q2 hq2 => ?_⟩
        obtain ⟨u2, cu2, su2⟩ := cut_map ws (some (a : Int)) (none)
        rw [cu2]
        have K7 : Same H6 (upd H6 q2 (.lst (u2.map V.str))) := Same.new (Same.refl _) hq2
        have eq2 : upd H6 q2 (.lst (u2.map V.str)) q2 = some (.lst (u2.map V.str)) := upd_same
        have T7 := T6.new (o := .lst (u2.map V.str)) hq2
        have Q7 := Q6.trans (TK.new (o := .lst (u2.map V.str)) hq2)
        generalize upd H6 q2 (.lst (u2.map V.str)) = H7 at K7 eq2 T7 Q7 ⊢
        have ew7 := K7 _ _ ew6
        replace eq1 := K7 _ _ eq1
        have tu2 := tl_sub su2
        refine two_part (us := u1) (vs := u2) (by (try simp only [tl_app]); omega) eq1 eq2 fun q3 hq3 => ?_
        have K8 : Same H7 (upd H7 q3 (.lst ((u1 ++ u2).map V.str))) := Same.new (Same.refl _) hq3
        have eq3 : upd H7 q3 (.lst ((u1 ++ u2).map V.str)) q3 = some (.lst ((u1 ++ u2).map V.str)) := upd_same
        have T8 := T7.new (o := .lst ((u1 ++ u2).map V.str)) hq3
        have Q8 := Q7.trans (TK.new (o := .lst ((u1 ++ u2).map V.str)) hq3)
        generalize upd H7 q3 (.lst ((u1 ++ u2).map V.str)) = H8 at K8 eq3 T8 Q8 ⊢
        have ew8 := K8 _ _ ew7
        replace eq1 := K8 _ _ eq1
        replace eq2 := K8 _ _ eq2
        walk_at "v"
        obtain ⟨j1, j2⟩ := join_any (ws := u1 ++ u2) (by (try simp only [tl_app]); omega)
        refine ⟨" ", q3, u1 ++ u2, rfl, rfl, eq3, j1, Nat.le_trans j2 (Nat.le_trans (by (try simp only [tl_app]); omega : tl (u1 ++ u2) ≤ 2000) (by decide)), ?_⟩
        refine k _ _ ?_ T8 Q8
        try simp only [tl_app] at j2
        omega
      walk_at "v"
      refine ⟨rfl, ?_⟩
      refine ⟨_, rfl, ?_⟩
      refine iteD (fun z => ?_) (fun z4 => ?_)
      · walk_at "v"
        refine ⟨rfl, ?_⟩
        walk_at "v"
        refine ⟨_, rfl, ?_⟩
        refine ⟨lw, _, rfl, SqL.of ew5, fun q1 hq1 => ?_⟩
        obtain ⟨u1, cu1, su1⟩ := cut_map ws (none) (some ((a : Int) + 1))
        rw [cu1]
        have K6 : Same H5 (upd H5 q1 (.lst (u1.map V.str))) := Same.new (Same.refl _) hq1
        have eq1 : upd H5 q1 (.lst (u1.map V.str)) q1 = some (.lst (u1.map V.str)) := upd_same
        have T6 := T5.new (o := .lst (u1.map V.str)) hq1
        have Q6 := Q5.trans (TK.new (o := .lst (u1.map V.str)) hq1)
        generalize upd H5 q1 (.lst (u1.map V.str)) = H6 at K6 eq1 T6 Q6 ⊢
        have ew6 := K6 _ _ ew5
        have tu1 := tl_sub su1
        walk_at "v"
        obtain ⟨j1, j2⟩ := join_any (ws := u1) (by (try simp only [tl_app]); omega)
        refine ⟨" ", q1, u1, rfl, rfl, eq1, j1, Nat.le_trans j2 (Nat.le_trans (by (try simp only [tl_app]); omega : tl (u1) ≤ 2000) (by decide)), ?_⟩
        refine k _ _ ?_ T6 Q6
        try simp only [tl_app] at j2
        omega
      walk_at "v"
      refine ⟨_, rfl, Nat.le_of_lt (small1000 (by omega)), ?_⟩
      walk_at "v"
      refine ⟨p, l, ms, ((x.length + 1 : Nat) : Int), by rfl, T5, by omega, by omega, fun e c4 d4 e0 e1 => ?_⟩
      obtain ⟨e, rfl⟩ := ofI e0
      have T6 := T5.draw (c := c4) (e := d4)
      have Q6 := Q5.trans (T5.tk (o := .lst [.ref l, .int c4, .int d4]))
      generalize upd H5 p (.lst [.ref l, .int c4, .int d4]) = H6 at T6 Q6 ⊢
      walk_at "v"
      refine ⟨_, rfl, ?_⟩
      refine ⟨x, rfl, by omega, ?_⟩
      have hs1 := slice_to (x := x) (j := e) (by omega)
      have hs2 := slice_from (x := x) (j := e) (by omega)
      walk_at "v"
      refine ⟨p, l, ms, 7, rfl, T6, by decide, by decide, fun g c5 d5 g0 g1 => ?_⟩
      obtain ⟨ch, hch⟩ := pick7 g0 g1
      have T7 := T6.draw (c := c5) (e := d5)
      have Q7 := Q6.trans (T6.tk (o := .lst [.ref l, .int c5, .int d5]))
      generalize upd H6 p (.lst [.ref l, .int c5, .int d5]) = H7 at T7 Q7 ⊢
      refine ⟨_, g, ch, rfl, rfl, by decide +kernel, hch, ?_⟩
      have hap : ∀ a b : Str, (a ++ b).length = a.length + b.length := fun a b => Array.size_append
      have h1c : (⟨#[ch]⟩ : Str).length = 1 := rfl
      refine ⟨_, _, rfl, rfl, Nat.le_of_lt (small1000 (by rw [h1c]; omega)), ?_⟩
      walk_at "v"
      refine ⟨_, rfl, ?_⟩
      walk_at "v"
      refine ⟨x, rfl, by omega, ?_⟩
      refine ⟨_, _, rfl, rfl, Nat.le_of_lt (small1000 (by rw [hap, h1c]; omega)), ?_⟩
      exact k _ _ (by rw [hap, hap, h1c]; omega) T7 Q7
end
end K23

set_option Elab.async false
set_option linter.all false
set_option maxRecDepth 100000
namespace K23
open PySem L2 G2
local macro_rules | `(tactic| walk_at "v") => `(tactic| repeat (with_reducible first
  | refine w_seq ?_ | refine w_asg ?_ | refine w_gname ?_ | refine w_op ?_ | refine w_var rfl ?_ | refine w_c ?_ | refine w_rI0 ?_ | refine w_ifs ?_ | refine w_ife ?_ | refine w_test ?_ | refine w_tb ?_ | refine w_bl ?_ | refine w_not ?_ | refine w_ret ?_ | refine w_retN ?_
  | refine w_nil ?_ | refine w_cons ?_ | refine w_lst ?_ | refine w_tup ?_ | refine w_cb ?_ | refine w_call ?_ | refine w_gsub ?_ | refine w_and ?_ | refine w_or ?_ | refine w_next ?_ | refine w_all ?_ | refine w_vals ?_ | refine w_compR ?_ | refine w_compT ?_ | refine w_forR ?_ | refine w_forT ?_ | refine w_forL ?_ | refine w_drop ?_ | refine w_bm ?_ | refine w_compZ ?_ | refine w_compL ?_ | refine w_chain ?_ | refine w_sl ?_ | refine w_nopart ?_ | refine w_part ?_ | refine w_unI ?_ | refine iteT ?_ | refine iteF ?_))
theorem w_isN {ta : TE} {σ : St} {H : Hp} {Q : VK} (h : ta σ H fun x H1 => Q (.bl (decide (x = .non))) H1) : tIsN ta σ H Q := h
abbrev sLt : Stmt := top 36
abbrev nLt : List Str := ["_law_many", "_law_text", "_law_caught", "_law_ask_here", "e"]
theorem nmLt : Nm nLt (defScope sLt) := ⟨by decide +kernel, by decide +kernel⟩
theorem scLt : FnScope nLt ["_law_many", "_law_text"] (defScope sLt) := ⟨rfl, rfl, rfl, by decide +kernel, rfl, by decide +kernel, by decide +kernel⟩
theorem locE : (defScope sLt).names.lookup ("e" : Str) = some .local := by decide +kernel
def tdV (x : Str) : Option Nat → V
  | none => .str x
  | some p => .int (p : Int)
def spLt : Sp := fun vs H Q _ => ∃ (x : Str) (m : Nat), vs = [.int (m : Int), .str x] ∧ x.length ≤ 1000 ∧ m ≤ 3 ∧ ∀ H', Same H H' → Q (tdV x (rdP m (Txt.split x " "))) H'
section
variable {P : Program} {w : World} {K : PySem.W.Frag} {mg : Str → Option Value} {base : Heap}
set_option maxHeartbeats 4000000 in
theorem ok_Lt {f : Addr} {fd : FuncData} {cD cA c0 c1 c2 c3 c4 c5 c6 : Addr} (B : Bl mg) (vaE : mg "ValueError" = none) (U : XUni K mg cD [("NoAsk", cA), ("NoFault", c0), ("NoJoin", c1), ("NoLines", c2), ("NoPaper", c3), ("NoPot", c4), ("NoRow", c5), ("NoStep", c6)])
    (G : HasX P w K mg base 4 "read_ask" ["many", "text"] (spRa2 cA)) (fS : Has P w K mg base 2 "shown_ask" ["ask"] spSa) (hna : NoAttr K cA "word") (F : Fun K "_law_told" "_law_told" sLt f fd) : FnOk P w K mg base CX0 5 f fd ["_law_many", "_law_text"] spLt := by
  refine F.ok scLt (fun vs H Q E h => ?_) (fun cdv A outer s H vs Q E hr h => ?_)
  · obtain ⟨x, m, rfl, _⟩ := h
    rfl
  · obtain ⟨x, m, rfl, hl, hm, k⟩ := h
    refine' ⟨_, ?hb, ?rd⟩
    case hb =>
      refine' pss_cons ?s1 ?r1
      case' r1 => refine' pss_cons ?s2 ?r2
      case' r2 => refine' pss_cons ?s3 ?r3
      case' r3 => refine' pss_cons ?s4 ?r4
      case' r4 => refine' pss_cons ?s5 ?r5
      case' r5 => refine' pss_cons ?s6 ?r6
      case' r6 => refine' pss_one ?s7
      case s1 => exact ps_setD nmLt 2 pe_non
      case s2 => exact ps_setD nmLt 3 pe_non
      case s3 =>
        refine' ps_try (tb := fun EX => tAsg (tCallX (spRa2 cA) EX (tCons (tVar 0) (tCons (tVar 1) tNil))) (gName 3)) (i := 4) nmLt rfl rfl rfl U.mD U.base rfl locE ?tb ?ts
        case tb =>
          intro pn xe EX _ L
          exact pss_one (ps_setD nmLt 3 (pe_fX G L hr (by decide) (pa_2 (pvd nmLt 0) (pvd nmLt 1))))
        case ts =>
          intro a
          exact pss_one (ps_setD nmLt 2 (pvd nmLt 4))
      case s4 =>
        refine' ps_if (pt_cmp (pc_isN (pvd nmLt 2))) ?a1 pss_nil
        case a1 => exact pss_one (ps_ret (pe_f fS hr (by decide) (pa_1 (pvd nmLt 3))))
      case s5 =>
        refine' ps_if ?b1 (pss_one (ps_ret (pe_un un_neg pe_int))) pss_nil
        case' b1 => refine' pt_val ?b2
        case' b2 => refine' pe_cB (isXT_K (K := K) rfl) B.isi PyProof.Rows.boot_isinstance ?b3
        case' b3 => refine' pa_2 (pvd nmLt 2) ?b4
        case b4 => exact (pe_tup (pa_c (pe_cls (C := c0) (U.cls ("NoFault", c0) (by simp)).1) (pa_c (pe_cls (C := c1) (U.cls ("NoJoin", c1) (by simp)).1) (pa_c (pe_cls (C := c2) (U.cls ("NoLines", c2) (by simp)).1) (pa_c (pe_cls (C := c3) (U.cls ("NoPaper", c3) (by simp)).1) (pa_c (pe_cls (C := c4) (U.cls ("NoPot", c4) (by simp)).1) (pa_2 (pe_cls (C := c5) (U.cls ("NoRow", c5) (by simp)).1) (pe_cls (C := c6) (U.cls ("NoStep", c6) (by simp)).1))))))))
      case s6 =>
        refine' ps_if ?d1 (pss_one (ps_ret (pe_un un_neg pe_int))) pss_nil
        case' d1 => refine' PW.pt ?d2
        case' d2 => refine' pw_or ?d3 ?d4
        case d3 => exact pt_not (pt_val (pe_cB (isX_K (K := K) rfl) B.isi PyProof.Rows.boot_isinstance (pa_2 (pvd nmLt 2) (pe_cls (C := cA) (U.cls ("NoAsk", cA) (by simp)).1))))
        case' d4 => refine' pw_or ?d5 ?d6
        case d5 => exact pt_not (pt_val (pe_cB (isX_K (K := K) rfl) B.isi PyProof.Rows.boot_isinstance (pa_2 (pvd nmLt 2) (pe_bltn (v := .ty "ValueError") rfl vaE PyProof.Rows.Boot.«ValueError» rfl))))
        case' d6 => refine' pw_or1 ?d7
        case d7 => exact pt_val (pe_cB call_isI B.isi PyProof.Rows.boot_isinstance (pa_2 (pe_xfK (K := K) rfl (pvd nmLt 2)) (pe_bltn (v := .ty "bool") rfl B.bool PyProof.Rows.boot_bool rfl)))
      case s7 => exact ps_ret (pe_xfK (K := K) rfl (pvd nmLt 2))
    case rd =>
      have nd := U.nd
      obtain ⟨_, xcN, xaN⟩ := U.cls ("NoAsk", cA) (by simp)
      walk_at "v"
      refine w_try ?_
      walk_at "v"
      refine w_callX ?_
      walk_at "v"
      refine ⟨x, m, rfl, hl, hm, fun hn q T H1 K1 hT eT hq => ?_, fun p hp dx H1 K1 hd => ?_⟩
      · rw [hn] at k
        walk_at "v"
        refine w_isN ?_
        walk_at "v"
        refine iteP rfl ?_
        walk_at "v"
        refine ⟨q, T, m, rfl, hq, hT, hm, fun H2 K2 => ?_⟩
        rw [eT, ← blank_is]
        have : Txt.join " " (Txt.split x " ") = x := by
          rw [blank_is]
          exact (StrLaws.glued_eq_join _ _).trans (StrLaws.join_split x ⟨#[32]⟩)
        rw [this]
        exact k _ (K1.trans K2)
      · rw [hp] at k
        refine ⟨cA, _, rfl, xcN, contains_D, fun a vs ha => ?_⟩
        have hda : dx ≠ a := fun z => by rw [z, upd_same] at ha; cases ha
        have K2 : Same H (upd (upd H1 dx (XDct dx [("word", .int (p : Int))])) a (XObj a cA (some dx) vs)) := (K1.new hd).new ha
        have ea : upd (upd H1 dx (XDct dx [("word", .int (p : Int))])) a (XObj a cA (some dx) vs) a = some (XObj a cA (some dx) vs) := upd_same
        have ed : upd (upd H1 dx (XDct dx [("word", .int (p : Int))])) a (XObj a cA (some dx) vs) dx = some (XDct dx [("word", .int (p : Int))]) := by rw [upd_ne hda, upd_same]
        generalize upd (upd H1 dx (XDct dx [("word", .int (p : Int))])) a (XObj a cA (some dx) vs) = H2 at K2 ea ed ⊢
        walk_at "v"
        refine w_unE ?_
        walk_at "v"
        refine w_isN ?_
        walk_at "v"
        refine iteQ (fun z => nomatch z) ?_
        walk_at "v"
        refine ⟨by show 7 ≤ sizeLine; decide, fun o2 ho2 => ?_⟩
        have K4 := K2.new (o := .tup [.ref c0, .ref c1, .ref c2, .ref c3, .ref c4, .ref c5, .ref c6]) ho2
        have ea4 : upd H2 o2 (.tup [.ref c0, .ref c1, .ref c2, .ref c3, .ref c4, .ref c5, .ref c6]) a = some (XObj a cA (some dx) vs) := by rw [upd_ne (ne_of_none ea ho2)]; exact ea
        have ed4 : upd H2 o2 (.tup [.ref c0, .ref c1, .ref c2, .ref c3, .ref c4, .ref c5, .ref c6]) dx = some (XDct dx [("word", .int (p : Int))]) := by rw [upd_ne (ne_of_none ed ho2)]; exact ed
        have eo4 : upd H2 o2 (.tup [.ref c0, .ref c1, .ref c2, .ref c3, .ref c4, .ref c5, .ref c6]) o2 = some (.tup [.ref c0, .ref c1, .ref c2, .ref c3, .ref c4, .ref c5, .ref c6]) := upd_same
        walk_at "v"
        refine w_isXT (cs := [c0, c1, c2, c3, c4, c5, c6].map V.ref) (b := false) ea4 ed4 xaN eo4 (fun us hus => ?_) ?_
        · rw [vals_refs hus]
          refine kit_none xcN fun c hc => ?_
          have hne : c ≠ cA ∧ c ≠ cD := by
            simp only [List.map_cons, List.map_nil, List.nodup_cons, List.mem_cons, List.not_mem_nil, not_or, or_false] at nd hc
            rcases hc with rfl | rfl | rfl | rfl | rfl | rfl | rfl <;> exact ⟨by intro z; simp [z] at nd, by intro z; simp [z] at nd⟩
          have hx : ∃ x : Str, (x, c) ∈ ([("NoAsk", cA), ("NoFault", c0), ("NoJoin", c1), ("NoLines", c2), ("NoPaper", c3), ("NoPot", c4), ("NoRow", c5), ("NoStep", c6)] : List (Str × Addr)) := by
            simp only [List.mem_cons, List.not_mem_nil, or_false] at hc
            rcases hc with rfl | rfl | rfl | rfl | rfl | rfl | rfl
            · exact ⟨"NoFault", by simp⟩
            · exact ⟨"NoJoin", by simp⟩
            · exact ⟨"NoLines", by simp⟩
            · exact ⟨"NoPaper", by simp⟩
            · exact ⟨"NoPot", by simp⟩
            · exact ⟨"NoRow", by simp⟩
            · exact ⟨"NoStep", by simp⟩
          obtain ⟨x, hx⟩ := hx
          exact ⟨_, (U.cls (x, c) hx).2.1, contains_ne hne.1.symm hne.2⟩
        generalize upd H2 o2 (.tup [.ref c0, .ref c1, .ref c2, .ref c3, .ref c4, .ref c5, .ref c6]) = H4 at K4 ea4 ed4 ⊢
        walk_at "v"
        refine w_isX (b := true) ea4 ed4 xaN (fun u hu => by cases hu; rw [kit_xx xcN xcN]; simp) ?_
        walk_at "v"
        refine iteF ?_
        walk_at "v"
        refine w_isX (b := true) ea4 ed4 xaN (fun u hu => by cases hu; exact kit_xv xcN) ?_
        walk_at "v"
        refine iteF ?_
        walk_at "v"
        refine w_xf ?_
        walk_at "v"
        refine ⟨a, cA, dx, vs, _, _, rfl, ea4, ed4, xaN, hna, rfl, ?_⟩
        walk_at "v"
        refine ⟨_, "bool", _, false, rfl, .int _, kit_ib _, ?_⟩
        walk_at "v"
        refine w_xf ?_
        walk_at "v"
        exact ⟨a, cA, dx, vs, _, _, rfl, ea4, ed4, xaN, hna, rfl, k _ K4⟩
end
end K23

set_option Elab.async false
set_option linter.all false
set_option maxRecDepth 100000
namespace K23
open PySem L2 G2
local macro_rules | `(tactic| walk_at "v") => `(tactic| repeat (with_reducible first
  | refine w_seq ?_ | refine w_asg ?_ | refine w_gname ?_ | refine w_op ?_ | refine w_var rfl ?_ | refine w_c ?_ | refine w_rI0 ?_ | refine w_ifs ?_ | refine w_ife ?_ | refine w_test ?_ | refine w_tb ?_ | refine w_bl ?_ | refine w_not ?_ | refine w_ret ?_ | refine w_retN ?_
  | refine w_nil ?_ | refine w_cons ?_ | refine w_lst ?_ | refine w_tup ?_ | refine w_cb ?_ | refine w_call ?_ | refine w_gsub ?_ | refine w_and ?_ | refine w_or ?_ | refine w_next ?_ | refine w_all ?_ | refine w_vals ?_ | refine w_compR ?_ | refine w_compT ?_ | refine w_forR ?_ | refine w_forT ?_ | refine w_forL ?_ | refine w_drop ?_ | refine w_bm ?_ | refine w_compZ ?_ | refine w_compL ?_ | refine w_chain ?_ | refine w_sl ?_ | refine w_nopart ?_ | refine w_part ?_ | refine w_unI ?_ | refine iteT ?_ | refine iteF ?_))
abbrev sLaw : Stmt := top 37
abbrev nLaw : List Str := ["_law_script", "_law_tape_here", "_law_k", "_law_many", "_law_text", "_law_bent_here", "_law_one", "_law_inputs", "_law_fault_here"]
theorem nmLaw : Nm nLaw (defScope sLaw) := ⟨by decide +kernel, by decide +kernel⟩
theorem scLaw : FnScope nLaw ["_law_script"] (defScope sLaw) := ⟨rfl, rfl, rfl, by decide +kernel, rfl, by decide +kernel, by decide +kernel⟩
def spLaw (K : PySem.W.Frag) : Sp := fun vs H Q _ => ∃ (a : Addr) (ns : List Int), vs = [.ref a] ∧ SqF K H a (ns.map V.int) ∧ ns.length ≤ 63 ∧ ∀ H', Q (.bl true) H'
section
variable {P : Program} {w : World} {K : PySem.W.Frag} {mg : Str → Option Value} {base : Heap}
set_option maxHeartbeats 4000000 in
theorem ok_Law {f : Addr} {fd : FuncData} (B : Bl mg) (fT : Has P w K mg base 1 "_law_tape" ["_law_script"] (spTape K)) (D : Has P w K mg base 1 "_law_draw" ["_law_tape_here", "_law_many"] spDraw) (fA : Has P w K mg base 3 "_law_ask" ["_law_tape_here", "_law_many"] spAsk) (fS : Has P w K mg base 2 "shown_ask" ["ask"] spSa) (fB : Has P w K mg base 2 "_law_bent" ["_law_tape_here", "_law_text"] spLb) (fF : Has P w K mg base 2 "_law_fault" ["_law_many", "_law_text"] spLf) (fL : Has P w K mg base 5 "_law_told" ["_law_many", "_law_text"] spLt) (F : Fun K "law" "law" sLaw f fd) : FnOk P w K mg base CX0 6 f fd ["_law_script"] (spLaw K) := by
  refine F.ok scLaw (fun vs H Q E h => ?_) (fun cdv A outer s H vs Q E hr h => ?_)
  · obtain ⟨a, ns, rfl, _⟩ := h
    rfl
  · obtain ⟨a, ns, rfl, hS, hl, k⟩ := h
    refine' ⟨_, ?hb, ?rd⟩
    case' hb => skip
    case' hb => refine' pss_cons ?g1 ?g2
    case' g2 => refine' pss_cons ?g3 ?g4
    case' g4 => refine' pss_one ?g5
    case g1 => exact ps_setD nmLaw 1 (pe_f fT hr (by decide) (pa_1 (pvd nmLaw 0)))
    case' g3 => refine' ps_for PassesOwn.never rfl ?g6 (pgd nmLaw 2) ?g7
    case g6 => exact pi_r1 B.range (pa_1 pe_int)
    case' g7 => refine' pss_cons ?g8 ?g9
    case' g9 => refine' pss_cons ?g10 ?g11
    case' g11 => refine' pss_cons ?g12 ?g13
    case' g13 => refine' pss_one ?g14
    case g8 => exact ps_setD nmLaw 3 (pe_f D hr (by decide) (pa_2 (pvd nmLaw 1) pe_int))
    case g10 => exact ps_setD nmLaw 4 (pe_f fS hr (by decide) (pa_1 (pe_f fA hr (by decide) (pa_2 (pvd nmLaw 1) (pvd nmLaw 3)))))
    case g12 => exact ps_setD nmLaw 5 (pe_f fB hr (by decide) (pa_2 (pvd nmLaw 1) (pvd nmLaw 4)))
    case' g14 => refine' ps_for PassesOwn.never rfl ?g15 (pgd nmLaw 6) ?g16
    case g15 => exact pi_list (pe_lst (pa_c (pvd nmLaw 4) (pa_c (pvd nmLaw 5) (pa_c (pe_f fB hr (by decide) (pa_2 (pvd nmLaw 1) (pvd nmLaw 5))) (pa_c pe_str (pa_2 (pe_op op_add_str pe_str (pvd nmLaw 4)) (pe_op op_add_str (pvd nmLaw 4) pe_str)))))))
    case' g16 => refine' pss_one ?g17
    case' g17 => refine' ps_for PassesOwn.never rfl ?g18 (pgd nmLaw 7) ?g19
    case g18 => exact pi_list (pe_lst (pa_2 (pvd nmLaw 3) (pe_op op_mod (pe_op op_add (pvd nmLaw 3) pe_int) pe_int)))
    case' g19 => refine' pss_cons ?g20 ?g21
    case' g21 => refine' pss_one ?g22
    case g20 => exact ps_setD nmLaw 8 (pe_f fF hr (by decide) (pa_2 (pvd nmLaw 7) (pvd nmLaw 6)))
    case' g22 => refine' ps_if ?g23 ?g24 pss_nil
    case g23 => exact pt_cmpR op_ne (pe_f fL hr (by decide) (pa_2 (pvd nmLaw 7) (pvd nmLaw 6))) (pe_ifExp (pt_cmp (pc_isN (pvd nmLaw 8))) (pvd nmLaw 6) (pvd nmLaw 8)) (nomark _)
    case' g24 => refine' pss_one ?g26
    case g26 => exact ps_ret pe_bl
    case g5 => exact ps_ret pe_bl
    case rd =>
      walk_at "v"
      refine ⟨a, ns, rfl, hS.sq, fun p l ms H1 hms T1 K1 => ?_⟩
      walk_at "v"
      refine ⟨10, rfl, by decide, by decide, ?_⟩
      refine for_range (n := 10) (fun i σ H' => ∃ (u2 u3 u4 u5 u6 u7 u8 : Option V), σ = [some (.ref a), some (.ref p), u2, u3, u4, u5, u6, u7, u8] ∧ Tp H' p l ms) ⟨none, none, none, none, none, none, none, rfl, T1⟩ ?_ ?_
      · rintro i σ H2 hi ⟨u2, u3, u4, u5, u6, u7, u8, rfl, T2⟩
        walk_at "v"
        refine ⟨p, l, ms, 4, rfl, T2, by decide, by decide, fun r c e r0 r1 => ?_⟩
        obtain ⟨m, rfl⟩ := ofI r0
        have hm3 : m ≤ 3 := by omega
        have T3 := T2.draw (c := c) (e := e)
        generalize upd H2 p (.lst [.ref l, .int c, .int e]) = H3 at T3 ⊢
        walk_at "v"
        refine ⟨p, l, ms, m, rfl, T3, hm3, fun q A H4 hok hq T4 TK4 => ?_⟩
        obtain ⟨hW, hL⟩ := akW_ok hok hm3
        walk_at "v"
        refine ⟨q, A, m, rfl, hq, hok, hm3, fun H5 K5 => ?_⟩
        have T5 := T4.same K5
        have hx : (Txt.join ⟨#[32]⟩ (akW A)).length ≤ 60 := by
          have e0 : Txt.join ⟨#[32]⟩ (akW A) = Str.join ⟨#[32]⟩ (akW A) := StrLaws.glued_eq_join _ _
          rw [e0]
          show (Str.join ⟨#[32]⟩ (akW A)).cps.size ≤ _
          rw [← Array.length_toList, join_list]
          refine Nat.le_trans (jn_len (B := 5) _ fun l hl => ?_) ?_
          · obtain ⟨p, hp, rfl⟩ := List.mem_map.mp hl
            rw [Array.length_toList]
            exact (hW p hp).1
          · rw [List.length_map]
            omega
        generalize Txt.join ⟨#[32]⟩ (akW A) = x at hx ⊢
        walk_at "v"
        refine ⟨p, l, ms, x, rfl, T5, by omega, fun y H6 hy T6 TK6 => ?_⟩
        walk_at "v"
        refine ⟨p, l, ms, y, rfl, T6, by omega, fun z H7 hz T7 TK7 => ?_⟩
        have hap : ∀ a b : Str, (a ++ b).length = a.length + b.length := fun a b => Array.size_append
        have hb1 : (Str.ofString " ").length = 1 := by decide +kernel
        have hb0 : (Str.ofString "").length = 0 := by decide +kernel
        walk_at "v"
        refine ⟨_, _, rfl, rfl, Nat.le_of_lt (small1000 (by rw [hb1]; omega)), ?_⟩
        walk_at "v"
        refine ⟨_, _, rfl, rfl, Nat.le_of_lt (small1000 (by rw [hb1]; omega)), ?_⟩
        walk_at "v"
        refine ⟨by show 6 ≤ sizeLine; decide, fun l8 hl8 => ?_⟩
        have T8 := T7.new (o := .lst (([x, y, z, "", " " ++ x, x ++ " "] : List Str).map V.str)) hl8
        have e8 : upd H7 l8 (.lst (([x, y, z, "", " " ++ x, x ++ " "] : List Str).map V.str)) l8 = some (.lst (([x, y, z, "", " " ++ x, x ++ " "] : List Str).map V.str)) := upd_same
        have hal : ∀ v ∈ ([x, y, z, "", " " ++ x, x ++ " "] : List Str), v.length ≤ 1000 := fun v hv => by
          simp only [List.mem_cons, List.not_mem_nil, or_false] at hv
          rcases hv with rfl | rfl | rfl | rfl | rfl | rfl
          · omega
          · omega
          · omega
          · rw [hb0]; omega
          · rw [hap, hb1]; omega
          · rw [hap, hb1]; omega
        change ∃ a, V.ref l8 = .ref a ∧ (∃ xs, SqL _ (upd H7 l8 (.lst (([x, y, z, "", " " ++ x, x ++ " "] : List Str).map V.str))) a xs) ∧ ForJ _ _ _ _ _ (upd H7 l8 (.lst (([x, y, z, "", " " ++ x, x ++ " "] : List Str).map V.str)))
        generalize ([x, y, z, "", " " ++ x, x ++ " "] : List Str) = ts at T8 e8 hal ⊢
        generalize upd H7 l8 (.lst (ts.map V.str)) = H8 at T8 e8 ⊢
        refine ⟨l8, rfl, ⟨_, SqL.of e8⟩, ?_⟩
        refine for_list (xs := ts.map V.str) (fun j σ H' => ∃ (u6 u7 u8 : Option V), σ = [some (.ref a), some (.ref p), some (.int (0 + (i : Int))), some (.int (m : Int)), some (.str x), some (.str y), u6, u7, u8] ∧ Same H8 H') ⟨u6, u7, u8, rfl, Same.refl _⟩ (fun j σ H' _ ⟨_, _, _, _, k'⟩ => SqL.of (k' _ _ e8)) ?_ ?_
        · rintro j xv σ H9 hxv ⟨u6, u7, u8, rfl, K9⟩
          have hj : j < ts.length := by
            have := (List.getElem?_eq_some_iff.mp hxv).1
            simpa using this
          have ex : xv = .str ts[j] := by
            rw [List.getElem?_map, List.getElem?_eq_getElem hj] at hxv
            exact (Option.some.inj hxv).symm
          have hv := hal _ (List.getElem_mem hj)
          subst ex
          generalize ts[j] = v at hv hxv ⊢
          walk_at "v"
          refine w_rI (by decide) ?_
          walk_at "v"
          have emod : ((m : Int) + 1) % 4 = (((m + 1) % 4 : Nat) : Int) := by omega
          rw [emod]
          refine ⟨by show 2 ≤ sizeLine; decide, fun l9 hl9 => ?_⟩
          have K10 : Same H9 (upd H9 l9 (.lst [.int (m : Int), .int (((m + 1) % 4 : Nat) : Int)])) := Same.new (Same.refl _) hl9
          have e10 : upd H9 l9 (.lst [.int (m : Int), .int (((m + 1) % 4 : Nat) : Int)]) l9 = some (.lst (([m, (m + 1) % 4] : List Nat).map fun (n : Nat) => V.int (n : Int))) := upd_same
          generalize upd H9 l9 (.lst [.int (m : Int), .int (((m + 1) % 4 : Nat) : Int)]) = H10 at K10 e10 ⊢
          have hin : ∀ n ∈ ([m, (m + 1) % 4] : List Nat), n ≤ 3 := fun n hn => by
            simp only [List.mem_cons, List.not_mem_nil, or_false] at hn
            rcases hn with rfl | rfl <;> omega
          generalize ([m, (m + 1) % 4] : List Nat) = nsl at e10 hin
          refine ⟨l9, rfl, ⟨_, SqL.of e10⟩, ?_⟩
          refine for_list (xs := nsl.map fun (n : Nat) => V.int (n : Int)) (fun j σ H' => ∃ (u7 u8 : Option V), σ = [some (.ref a), some (.ref p), some (.int (0 + (i : Int))), some (.int (m : Int)), some (.str x), some (.str y), some (.str v), u7, u8] ∧ Same H10 H') ⟨u7, u8, rfl, Same.refl _⟩ (fun j σ H' _ ⟨_, _, _, k'⟩ => SqL.of (k' _ _ e10)) ?_ ?_
          · rintro j2 nv σ H11 hnv ⟨u7, u8, rfl, K11⟩
            have hj2 : j2 < nsl.length := by
              have := (List.getElem?_eq_some_iff.mp hnv).1
              simpa using this
            have en : nv = .int ((nsl[j2] : Nat) : Int) := by
              rw [List.getElem?_map, List.getElem?_eq_getElem hj2] at hnv
              exact (Option.some.inj hnv).symm
            have hn3 := hin _ (List.getElem_mem hj2)
            subst en
            generalize nsl[j2] = n at hn3 hnv ⊢
            walk_at "v"
            refine ⟨v, n, rfl, hv, hn3, fun H12 K12 => ?_⟩
            walk_at "v"
            refine ⟨v, n, rfl, hv, hn3, fun H13 K13 => ?_⟩
            have fin : Same H10 H13 := (K11.trans K12).trans K13
            walk_at "v"
            refine w_isN ?_
            walk_at "v"
            cases hr2 : rdP n (Txt.split v " ") with
            | none =>
              refine iteP rfl ?_
              walk_at "v"
              refine ⟨rfl, ?_⟩
              walk_at "v"
              refine iteNS rfl ?_
              exact ⟨_, _, rfl, fin⟩
            | some pp =>
              refine iteQ (fun z => nomatch z) ?_
              walk_at "v"
              refine ⟨rfl, ?_⟩
              walk_at "v"
              refine iteNS rfl ?_
              exact ⟨_, _, rfl, fin⟩
          · rintro σ H11 ⟨u7, u8, rfl, K11⟩
            exact ⟨_, _, _, rfl, (K9.trans K10).trans K11⟩
        · rintro σ H9 ⟨u6, u7, u8, rfl, K9⟩
          exact ⟨_, _, _, _, _, _, _, rfl, T8.same K9⟩
      · rintro σ H2 ⟨u2, u3, u4, u5, u6, u7, u8, rfl, T2⟩
        walk_at "v"
        exact k _
end
end K23

set_option Elab.async false
set_option linter.all false
set_option maxRecDepth 100000
namespace K23
open PySem L2 G2
theorem all_mk {l : PySem.W.OpenLaw} {w : World} {K : PySem.W.Frag} {h : Heap} {mg : Str → Option Value} {fa f1 f2 f3 f4 f5 f6 f7 f8 f9 f10 f11 f12 f13 f14 f15 f16 f17 f18 : Addr} (X : K.In h) (G : h.Ns mainGlobals mg) (hfa : mg "law" = some (.ref fa))
    {od1 an1 od2 an2 od3 an3 od4 an4 od5 an5 od6 an6 od7 an7 od8 an8 od9 an9 od10 an10 od11 an11 od12 an12 od13 an13 od14 an14 od15 an15 od16 an16 od17 an17 od18 an18 : Option Addr} {sl1 sl2 sl3 sl4 sl5 sl6 sl7 sl8 sl9 sl10 sl11 sl12 sl13 sl14 sl15 sl16 sl17 sl18 : Array (Option Value)} {oc1 kV1 dc1 pm1 cd1 ct1 oc2 kV2 dc2 pm2 cd2 ct2 oc3 kV3 dc3 pm3 cd3 ct3 oc4 kV4 dc4 pm4 cd4 ct4 oc5 kV5 dc5 pm5 cd5 ct5 oc6 kV6 dc6 pm6 cd6 ct6 oc7 kV7 dc7 pm7 cd7 ct7 oc8 kV8 dc8 pm8 cd8 ct8 oc9 kV9 dc9 pm9 cd9 ct9 oc10 kV10 dc10 pm10 cd10 ct10 oc11 kV11 dc11 pm11 cd11 ct11 oc12 kV12 dc12 pm12 cd12 ct12 oc13 kV13 dc13 pm13 cd13 ct13 oc14 kV14 dc14 pm14 cd14 ct14 oc15 kV15 dc15 pm15 cd15 ct15 oc16 kV16 dc16 pm16 cd16 ct16 oc17 kV17 dc17 pm17 cd17 ct17 oc18 kV18 dc18 pm18 cd18 ct18 : Value} {t1 t2 t3 t4 : Tok} {ta1 : Addr} {td1 : Option Addr} {tn1 : Nat} {ts1 : Array (Option Value)} {tt1_0 tt1_1 tt1_2 tt1_3 tt1_4 tt1_5 : Tok} {ta2 : Addr} {td2 : Option Addr} {tn2 : Nat} {ts2 : Array (Option Value)} {tt2_0 tt2_1 : Tok} {ta3 : Addr} {td3 : Option Addr} {tn3 : Nat} {ts3 : Array (Option Value)} {tt3_0 tt3_1 : Tok}
    {x0 xN0 x1 xN1 x2 xN2 x3 xN3 x4 xN4 x5 xN5 x6 xN6 x7 xN7 x8 xN8 : Addr} {xm0 xq0 xm1 xq1 xm2 xq2 xm3 xq3 xm4 xq4 xm5 xq5 xm6 xq6 xm7 xq7 xm8 xq8 : Str} {xb0 xu0 xb1 xu1 xb2 xu2 xb3 xu3 xb4 xu4 xb5 xu5 xb6 xu6 xb7 xu7 xb8 xu8 : List Value} {xn0 xn1 xn2 xn3 xn4 xn5 xn6 xn7 xn8 : List Str} {xh0 xh1 xh2 xh3 xh4 xh5 xh6 xh7 xh8 : Bool} {xo0 xo1 xo2 xo3 xo4 xo5 xo6 xo7 xo8 : Option Bool} {xd0 xd1 xd2 xd3 xd4 xd5 xd6 xd7 xd8 : Option Addr} {xk0_0 xk0_1 xk0_2 xk0_3 xk0_5 xk1_0 xk1_1 xk1_2 xk1_3 xk1_5 xk2_0 xk2_1 xk2_2 xk2_3 xk2_5 xk3_0 xk3_1 xk3_2 xk3_3 xk3_5 xk4_0 xk4_1 xk4_2 xk4_3 xk4_5 xk5_0 xk5_1 xk5_2 xk5_3 xk5_5 xk6_0 xk6_1 xk6_2 xk6_3 xk6_5 xk7_0 xk7_1 xk7_2 xk7_3 xk7_5 xk8_0 xk8_1 xk8_2 xk8_3 xk8_5 : Option Value}
    {i1 : Addr} {id1 ia1 : Option Addr} {is1 : Array (Option Value)} {ic1 iV1 iD1 ip1 iC1 iT1 : Value}
    (a1 : PySem.W.nsIn K mainGlobals "_law_tape" = some (some (.ref f1))) (l1 : K.lookup f1 = some ⟨oc1, od1, .func (PySem.W.fnOf "_law_tape" "_law_tape" (defArgs sTape) (defBody sTape) (defScope sTape) .none kV1 dc1 pm1 an1 cd1 ct1), sl1⟩) (c1 : PySem.W.codeIn K cd1 "_law_tape" = true) (k1 : PySem.W.keepIn K (.ref f1) = true)
    (a2 : PySem.W.nsIn K mainGlobals "_law_draw" = some (some (.ref f2))) (l2 : K.lookup f2 = some ⟨oc2, od2, .func (PySem.W.fnOf "_law_draw" "_law_draw" (defArgs sDraw) (defBody sDraw) (defScope sDraw) .none kV2 dc2 pm2 an2 cd2 ct2), sl2⟩) (c2 : PySem.W.codeIn K cd2 "_law_draw" = true) (k2 : PySem.W.keepIn K (.ref f2) = true)
    (a3 : PySem.W.nsIn K mainGlobals "_law_line" = some (some (.ref f3))) (l3 : K.lookup f3 = some ⟨oc3, od3, .func (PySem.W.fnOf "_law_line" "_law_line" (defArgs sLine) (defBody sLine) (defScope sLine) .none kV3 dc3 pm3 an3 cd3 ct3), sl3⟩) (c3 : PySem.W.codeIn K cd3 "_law_line" = true) (k3 : PySem.W.keepIn K (.ref f3) = true)
    (a4 : PySem.W.nsIn K mainGlobals "_law_ask" = some (some (.ref f4))) (l4 : K.lookup f4 = some ⟨oc4, od4, .func (PySem.W.fnOf "_law_ask" "_law_ask" (defArgs sAsk) (defBody sAsk) (defScope sAsk) .none kV4 dc4 pm4 an4 cd4 ct4), sl4⟩) (c4 : PySem.W.codeIn K cd4 "_law_ask" = true) (k4 : PySem.W.keepIn K (.ref f4) = true)
    (a5 : PySem.W.nsIn K mainGlobals "is_figures" = some (some (.ref f5))) (l5 : K.lookup f5 = some ⟨oc5, od5, .func (PySem.W.fnOf "is_figures" "is_figures" (defArgs sFi2) (defBody sFi2) (defScope sFi2) .none kV5 dc5 pm5 an5 cd5 ct5), sl5⟩) (c5 : PySem.W.codeIn K cd5 "is_figures" = true) (k5 : PySem.W.keepIn K (.ref f5) = true)
    (a6 : PySem.W.nsIn K mainGlobals "is_signed_figures" = some (some (.ref f6))) (l6 : K.lookup f6 = some ⟨oc6, od6, .func (PySem.W.fnOf "is_signed_figures" "is_signed_figures" (defArgs sSi2) (defBody sSi2) (defScope sSi2) .none kV6 dc6 pm6 an6 cd6 ct6), sl6⟩) (c6 : PySem.W.codeIn K cd6 "is_signed_figures" = true) (k6 : PySem.W.keepIn K (.ref f6) = true)
    (a7 : PySem.W.nsIn K mainGlobals "shown_line" = some (some (.ref f7))) (l7 : K.lookup f7 = some ⟨oc7, od7, .func (PySem.W.fnOf "shown_line" "shown_line" (defArgs sSl) (defBody sSl) (defScope sSl) .none kV7 dc7 pm7 an7 cd7 ct7), sl7⟩) (c7 : PySem.W.codeIn K cd7 "shown_line" = true) (k7 : PySem.W.keepIn K (.ref f7) = true)
    (a8 : PySem.W.nsIn K mainGlobals "shown_ask" = some (some (.ref f8))) (l8 : K.lookup f8 = some ⟨oc8, od8, .func (PySem.W.fnOf "shown_ask" "shown_ask" (defArgs sSa) (defBody sSa) (defScope sSa) .none kV8 dc8 pm8 an8 cd8 ct8), sl8⟩) (c8 : PySem.W.codeIn K cd8 "shown_ask" = true) (k8 : PySem.W.keepIn K (.ref f8) = true)
    (a9 : PySem.W.nsIn K mainGlobals "line_of_words" = some (some (.ref f9))) (l9 : K.lookup f9 = some ⟨oc9, od9, .func (PySem.W.fnOf "line_of_words" "line_of_words" (defArgs sLw) (defBody sLw) (defScope sLw) .none kV9 dc9 pm9 an9 cd9 ct9), sl9⟩) (c9 : PySem.W.codeIn K cd9 "line_of_words" = true) (k9 : PySem.W.keepIn K (.ref f9) = true)
    (a10 : PySem.W.nsIn K mainGlobals "ask_of_words" = some (some (.ref f10))) (l10 : K.lookup f10 = some ⟨oc10, od10, .func (PySem.W.fnOf "ask_of_words" "ask_of_words" (defArgs sAw) (defBody sAw) (defScope sAw) .none kV10 dc10 pm10 an10 cd10 ct10), sl10⟩) (c10 : PySem.W.codeIn K cd10 "ask_of_words" = true) (k10 : PySem.W.keepIn K (.ref f10) = true)
    (a11 : PySem.W.nsIn K mainGlobals "due_behind" = some (some (.ref f11))) (l11 : K.lookup f11 = some ⟨oc11, od11, .func (PySem.W.fnOf "due_behind" "due_behind" (defArgs sDb) (defBody sDb) (defScope sDb) .none kV11 dc11 pm11 an11 cd11 ct11), sl11⟩) (c11 : PySem.W.codeIn K cd11 "due_behind" = true) (k11 : PySem.W.keepIn K (.ref f11) = true)
    (a12 : PySem.W.nsIn K mainGlobals "can_stand" = some (some (.ref f12))) (l12 : K.lookup f12 = some ⟨oc12, od12, .func (PySem.W.fnOf "can_stand" "can_stand" (defArgs sCs2) (defBody sCs2) (defScope sCs2) .none kV12 dc12 pm12 an12 cd12 ct12), sl12⟩) (c12 : PySem.W.codeIn K cd12 "can_stand" = true) (k12 : PySem.W.keepIn K (.ref f12) = true)
    (a13 : PySem.W.nsIn K mainGlobals "read_ask" = some (some (.ref f13))) (l13 : K.lookup f13 = some ⟨oc13, od13, .func (PySem.W.fnOf "read_ask" "read_ask" (defArgs sRa2) (defBody sRa2) (defScope sRa2) .none kV13 dc13 pm13 an13 cd13 ct13), sl13⟩) (c13 : PySem.W.codeIn K cd13 "read_ask" = true) (k13 : PySem.W.keepIn K (.ref f13) = true)
    (a14 : PySem.W.nsIn K mainGlobals "_law_is_number" = some (some (.ref f14))) (l14 : K.lookup f14 = some ⟨oc14, od14, .func (PySem.W.fnOf "_law_is_number" "_law_is_number" (defArgs sLn) (defBody sLn) (defScope sLn) .none kV14 dc14 pm14 an14 cd14 ct14), sl14⟩) (c14 : PySem.W.codeIn K cd14 "_law_is_number" = true) (k14 : PySem.W.keepIn K (.ref f14) = true)
    (a15 : PySem.W.nsIn K mainGlobals "_law_fault" = some (some (.ref f15))) (l15 : K.lookup f15 = some ⟨oc15, od15, .func (PySem.W.fnOf "_law_fault" "_law_fault" (defArgs sLf) (defBody sLf) (defScope sLf) .none kV15 dc15 pm15 an15 cd15 ct15), sl15⟩) (c15 : PySem.W.codeIn K cd15 "_law_fault" = true) (k15 : PySem.W.keepIn K (.ref f15) = true)
    (a16 : PySem.W.nsIn K mainGlobals "_law_bent" = some (some (.ref f16))) (l16 : K.lookup f16 = some ⟨oc16, od16, .func (PySem.W.fnOf "_law_bent" "_law_bent" (defArgs sLb) (defBody sLb) (defScope sLb) .none kV16 dc16 pm16 an16 cd16 ct16), sl16⟩) (c16 : PySem.W.codeIn K cd16 "_law_bent" = true) (k16 : PySem.W.keepIn K (.ref f16) = true)
    (a17 : PySem.W.nsIn K mainGlobals "_law_told" = some (some (.ref f17))) (l17 : K.lookup f17 = some ⟨oc17, od17, .func (PySem.W.fnOf "_law_told" "_law_told" (defArgs sLt) (defBody sLt) (defScope sLt) .none kV17 dc17 pm17 an17 cd17 ct17), sl17⟩) (c17 : PySem.W.codeIn K cd17 "_law_told" = true) (k17 : PySem.W.keepIn K (.ref f17) = true)
    (a18 : PySem.W.nsIn K mainGlobals "law" = some (some (.ref f18))) (l18 : K.lookup f18 = some ⟨oc18, od18, .func (PySem.W.fnOf "law" "law" (defArgs sLaw) (defBody sLaw) (defScope sLaw) .none kV18 dc18 pm18 an18 cd18 ct18), sl18⟩) (c18 : PySem.W.codeIn K cd18 "law" = true) (k18 : PySem.W.keepIn K (.ref f18) = true)
    (z1 : PySem.W.nsIn K mainGlobals "len" = some none) (z2 : PySem.W.nsIn K mainGlobals "range" = some none) (z3 : PySem.W.nsIn K mainGlobals "tuple" = some none) (z4 : PySem.W.nsIn K mainGlobals "int" = some none) (z5 : PySem.W.nsIn K mainGlobals "bool" = some none) (z6 : PySem.W.nsIn K mainGlobals "list" = some none) (z7 : PySem.W.nsIn K mainGlobals "str" = some none) (z8 : PySem.W.nsIn K mainGlobals "all" = some none) (z9 : PySem.W.nsIn K mainGlobals "any" = some none) (z10 : PySem.W.nsIn K mainGlobals "isinstance" = some none) (z11 : PySem.W.nsIn K mainGlobals "repr" = some none) (z12 : PySem.W.nsIn K mainGlobals "zip" = some none) (z13 : PySem.W.nsIn K mainGlobals "min" = some none) (z14 : PySem.W.nsIn K mainGlobals "max" = some none) (z15 : PySem.W.nsIn K mainGlobals "sum" = some none) (z16 : PySem.W.nsIn K mainGlobals "enumerate" = some none) (z17 : PySem.W.nsIn K mainGlobals "sorted" = some none) (z18 : PySem.W.nsIn K mainGlobals "set" = some none) (z19 : PySem.W.nsIn K mainGlobals "dict" = some none) (z20 : PySem.W.nsIn K mainGlobals "abs" = some none) (z21 : PySem.W.nsIn K mainGlobals "ValueError" = some none)
    (g1 : PySem.W.nsIn K mainGlobals "BY" = some (some (.int (0) t1))) (g2 : PySem.W.nsIn K mainGlobals "LINE_PLUS" = some (some (.int (1) t2))) (g3 : PySem.W.nsIn K mainGlobals "MOST_SIGNS" = some (some (.int (3) t3))) (g4 : PySem.W.nsIn K mainGlobals "FIGURES" = some (some (.str "0123456789" t4))) (tg1 : PySem.W.nsIn K mainGlobals "WORDS" = some (some (.ref ta1))) (tl1 : K.lookup ta1 = some ⟨.type "tuple", td1, .seq #[.str "sum" tt1_0, .str "part" tt1_1, .str "least" tt1_2, .str "most" tt1_3, .str "more" tt1_4, .str "same" tt1_5] tn1, ts1⟩) (tg2 : PySem.W.nsIn K mainGlobals "LINE_BOUNDS" = some (some (.ref ta2))) (tl2 : K.lookup ta2 = some ⟨.type "tuple", td2, .seq #[.int (-99) tt2_0, .int (99) tt2_1] tn2, ts2⟩) (tg3 : PySem.W.nsIn K mainGlobals "PART_BOUNDS" = some (some (.ref ta3))) (tl3 : K.lookup ta3 = some ⟨.type "tuple", td3, .seq #[.int (2) tt3_0, .int (9) tt3_1] tn3, ts3⟩)
    (xa0 : PySem.W.nsIn K mainGlobals "DropError" = some (some (.ref x0))) (xl0 : K.lookup x0 = some (excClassObj xm0 xq0 x0 xN0 xb0 bmV true xn0 xu0 xh0 xo0 xd0 xk0_0 xk0_1 xk0_2 xk0_3 xk0_5 "ValueError.__new__"))
    (xa1 : PySem.W.nsIn K mainGlobals "NoAsk" = some (some (.ref x1))) (xl1 : K.lookup x1 = some (excClassObj xm1 xq1 x1 xN1 xb1 (.ref x0 :: bmV) true xn1 xu1 xh1 xo1 xd1 xk1_0 xk1_1 xk1_2 xk1_3 xk1_5 "ValueError.__new__"))
    (xa2 : PySem.W.nsIn K mainGlobals "NoFault" = some (some (.ref x2))) (xl2 : K.lookup x2 = some (excClassObj xm2 xq2 x2 xN2 xb2 (.ref x0 :: bmV) true xn2 xu2 xh2 xo2 xd2 xk2_0 xk2_1 xk2_2 xk2_3 xk2_5 "ValueError.__new__"))
    (xa3 : PySem.W.nsIn K mainGlobals "NoJoin" = some (some (.ref x3))) (xl3 : K.lookup x3 = some (excClassObj xm3 xq3 x3 xN3 xb3 (.ref x0 :: bmV) true xn3 xu3 xh3 xo3 xd3 xk3_0 xk3_1 xk3_2 xk3_3 xk3_5 "ValueError.__new__"))
    (xa4 : PySem.W.nsIn K mainGlobals "NoLines" = some (some (.ref x4))) (xl4 : K.lookup x4 = some (excClassObj xm4 xq4 x4 xN4 xb4 (.ref x0 :: bmV) true xn4 xu4 xh4 xo4 xd4 xk4_0 xk4_1 xk4_2 xk4_3 xk4_5 "ValueError.__new__"))
    (xa5 : PySem.W.nsIn K mainGlobals "NoPaper" = some (some (.ref x5))) (xl5 : K.lookup x5 = some (excClassObj xm5 xq5 x5 xN5 xb5 (.ref x0 :: bmV) true xn5 xu5 xh5 xo5 xd5 xk5_0 xk5_1 xk5_2 xk5_3 xk5_5 "ValueError.__new__"))
    (xa6 : PySem.W.nsIn K mainGlobals "NoPot" = some (some (.ref x6))) (xl6 : K.lookup x6 = some (excClassObj xm6 xq6 x6 xN6 xb6 (.ref x0 :: bmV) true xn6 xu6 xh6 xo6 xd6 xk6_0 xk6_1 xk6_2 xk6_3 xk6_5 "ValueError.__new__"))
    (xa7 : PySem.W.nsIn K mainGlobals "NoRow" = some (some (.ref x7))) (xl7 : K.lookup x7 = some (excClassObj xm7 xq7 x7 xN7 xb7 (.ref x0 :: bmV) true xn7 xu7 xh7 xo7 xd7 xk7_0 xk7_1 xk7_2 xk7_3 xk7_5 "ValueError.__new__"))
    (xa8 : PySem.W.nsIn K mainGlobals "NoStep" = some (some (.ref x8))) (xl8 : K.lookup x8 = some (excClassObj xm8 xq8 x8 xN8 xb8 (.ref x0 :: bmV) true xn8 xu8 xh8 xo8 xd8 xk8_0 xk8_1 xk8_2 xk8_3 xk8_5 "ValueError.__new__"))
    (xg1 : PySem.W.findIn K (.ref x1) "__getattribute__" = some (some (.builtin "BaseException.__getattribute__"))) (xt1 : PySem.W.findIn K (.ref x1) "__getattr__" = some none) (xs1 : PySem.W.findIn K (.ref x1) "__setattr__" = some (some (.builtin "object.__setattr__"))) (xc1 : PySem.W.findIn K (.ref x1) "__class__" = some (some (.builtin "object.__class__")))
    (xg2 : PySem.W.findIn K (.ref x2) "__getattribute__" = some (some (.builtin "BaseException.__getattribute__"))) (xt2 : PySem.W.findIn K (.ref x2) "__getattr__" = some none) (xs2 : PySem.W.findIn K (.ref x2) "__setattr__" = some (some (.builtin "object.__setattr__"))) (xc2 : PySem.W.findIn K (.ref x2) "__class__" = some (some (.builtin "object.__class__")))
    (xg3 : PySem.W.findIn K (.ref x3) "__getattribute__" = some (some (.builtin "BaseException.__getattribute__"))) (xt3 : PySem.W.findIn K (.ref x3) "__getattr__" = some none) (xs3 : PySem.W.findIn K (.ref x3) "__setattr__" = some (some (.builtin "object.__setattr__"))) (xc3 : PySem.W.findIn K (.ref x3) "__class__" = some (some (.builtin "object.__class__")))
    (xg4 : PySem.W.findIn K (.ref x4) "__getattribute__" = some (some (.builtin "BaseException.__getattribute__"))) (xt4 : PySem.W.findIn K (.ref x4) "__getattr__" = some none) (xs4 : PySem.W.findIn K (.ref x4) "__setattr__" = some (some (.builtin "object.__setattr__"))) (xc4 : PySem.W.findIn K (.ref x4) "__class__" = some (some (.builtin "object.__class__")))
    (xg5 : PySem.W.findIn K (.ref x5) "__getattribute__" = some (some (.builtin "BaseException.__getattribute__"))) (xt5 : PySem.W.findIn K (.ref x5) "__getattr__" = some none) (xs5 : PySem.W.findIn K (.ref x5) "__setattr__" = some (some (.builtin "object.__setattr__"))) (xc5 : PySem.W.findIn K (.ref x5) "__class__" = some (some (.builtin "object.__class__")))
    (xg6 : PySem.W.findIn K (.ref x6) "__getattribute__" = some (some (.builtin "BaseException.__getattribute__"))) (xt6 : PySem.W.findIn K (.ref x6) "__getattr__" = some none) (xs6 : PySem.W.findIn K (.ref x6) "__setattr__" = some (some (.builtin "object.__setattr__"))) (xc6 : PySem.W.findIn K (.ref x6) "__class__" = some (some (.builtin "object.__class__")))
    (xg7 : PySem.W.findIn K (.ref x7) "__getattribute__" = some (some (.builtin "BaseException.__getattribute__"))) (xt7 : PySem.W.findIn K (.ref x7) "__getattr__" = some none) (xs7 : PySem.W.findIn K (.ref x7) "__setattr__" = some (some (.builtin "object.__setattr__"))) (xc7 : PySem.W.findIn K (.ref x7) "__class__" = some (some (.builtin "object.__class__")))
    (xg8 : PySem.W.findIn K (.ref x8) "__getattribute__" = some (some (.builtin "BaseException.__getattribute__"))) (xt8 : PySem.W.findIn K (.ref x8) "__getattr__" = some none) (xs8 : PySem.W.findIn K (.ref x8) "__setattr__" = some (some (.builtin "object.__setattr__"))) (xc8 : PySem.W.findIn K (.ref x8) "__class__" = some (some (.builtin "object.__class__")))
    (xsg : PySem.W.specialIn K (.builtin "object.__class__") "__get__" = some (some (.builtin "getset_descriptor.__get__"))) (xtk : PySem.W.takesIn K (.builtin "object.__class__") = some true) (xnd : [x0, x1, x2, x3, x4, x5, x6, x7, x8].Nodup)
    (ii1 : PySem.W.findIn K (.ref x1) "__init__" = some (some (.ref i1))) (il1 : K.lookup i1 = some ⟨ic1, id1, .func (PySem.W.fnOf "__init__" "NoAsk.__init__" (defArgs sINa) (defBody sINa) (defScope sINa) .none iV1 iD1 ip1 ia1 iC1 iT1), is1⟩) (ie1 : PySem.W.codeIn K iC1 "NoAsk.__init__" = true) (if1 : PySem.W.isFn K (.ref i1) = true) (ik1 : PySem.W.keepIn K (.ref i1) = true) (im1 : PySem.W.keepIn K (.ref x1) = true) (iq1_0 : PySem.W.findIn K (.ref x1) "word" = some none) :
    ∃ fd : FuncData, (∀ (s : Shared) (v : Value), BindsTo s fd ⟨[v], []⟩ [("_law_script", v)]) ∧ ∀ base : Heap, K.In base → base.Ns mainGlobals mg → FnOk l.prog w K mg base CX0 6 fa fd ["_law_script"] (spLaw K) := by
  have e := hfa.symm.trans (PySem.W.mg_of X G a18)
  cases e
  have F1 := fun_mk (st := sTape) l1 c1 k1
  have b1 := F1.binds (ps := ["_law_script"]) fun _ _ _ _ _ _ us hl => match us, hl with | [_], _ => rfl
  have m1 := PySem.W.mg_of X G a1
  have F2 := fun_mk (st := sDraw) l2 c2 k2
  have b2 := F2.binds (ps := ["_law_tape_here", "_law_many"]) fun _ _ _ _ _ _ us hl => match us, hl with | [_, _], _ => rfl
  have m2 := PySem.W.mg_of X G a2
  have F3 := fun_mk (st := sLine) l3 c3 k3
  have b3 := F3.binds (ps := ["_law_tape_here", "_law_many"]) fun _ _ _ _ _ _ us hl => match us, hl with | [_, _], _ => rfl
  have m3 := PySem.W.mg_of X G a3
  have F4 := fun_mk (st := sAsk) l4 c4 k4
  have b4 := F4.binds (ps := ["_law_tape_here", "_law_many"]) fun _ _ _ _ _ _ us hl => match us, hl with | [_, _], _ => rfl
  have m4 := PySem.W.mg_of X G a4
  have F5 := fun_mk (st := sFi2) l5 c5 k5
  have b5 := F5.binds (ps := ["word"]) fun _ _ _ _ _ _ us hl => match us, hl with | [_], _ => rfl
  have m5 := PySem.W.mg_of X G a5
  have F6 := fun_mk (st := sSi2) l6 c6 k6
  have b6 := F6.binds (ps := ["word"]) fun _ _ _ _ _ _ us hl => match us, hl with | [_], _ => rfl
  have m6 := PySem.W.mg_of X G a6
  have F7 := fun_mk (st := sSl) l7 c7 k7
  have b7 := F7.binds (ps := ["line"]) fun _ _ _ _ _ _ us hl => match us, hl with | [_], _ => rfl
  have m7 := PySem.W.mg_of X G a7
  have F8 := fun_mk (st := sSa) l8 c8 k8
  have b8 := F8.binds (ps := ["ask"]) fun _ _ _ _ _ _ us hl => match us, hl with | [_], _ => rfl
  have m8 := PySem.W.mg_of X G a8
  have F9 := fun_mk (st := sLw) l9 c9 k9
  have b9 := F9.binds (ps := ["words"]) fun _ _ _ _ _ _ us hl => match us, hl with | [_], _ => rfl
  have m9 := PySem.W.mg_of X G a9
  have F10 := fun_mk (st := sAw) l10 c10 k10
  have b10 := F10.binds (ps := ["many", "words"]) fun _ _ _ _ _ _ us hl => match us, hl with | [_, _], _ => rfl
  have m10 := PySem.W.mg_of X G a10
  have F11 := fun_mk (st := sDb) l11 c11 k11
  have b11 := F11.binds (ps := ["many", "word"]) fun _ _ _ _ _ _ us hl => match us, hl with | [_, _], _ => rfl
  have m11 := PySem.W.mg_of X G a11
  have F12 := fun_mk (st := sCs2) l12 c12 k12
  have b12 := F12.binds (ps := ["word", "due"]) fun _ _ _ _ _ _ us hl => match us, hl with | [_, _], _ => rfl
  have m12 := PySem.W.mg_of X G a12
  have F13 := fun_mk (st := sRa2) l13 c13 k13
  have b13 := F13.binds (ps := ["many", "text"]) fun _ _ _ _ _ _ us hl => match us, hl with | [_, _], _ => rfl
  have m13 := PySem.W.mg_of X G a13
  have F14 := fun_mk (st := sLn) l14 c14 k14
  have b14 := F14.binds (ps := ["_law_word"]) fun _ _ _ _ _ _ us hl => match us, hl with | [_], _ => rfl
  have m14 := PySem.W.mg_of X G a14
  have F15 := fun_mk (st := sLf) l15 c15 k15
  have b15 := F15.binds (ps := ["_law_many", "_law_text"]) fun _ _ _ _ _ _ us hl => match us, hl with | [_, _], _ => rfl
  have m15 := PySem.W.mg_of X G a15
  have F16 := fun_mk (st := sLb) l16 c16 k16
  have b16 := F16.binds (ps := ["_law_tape_here", "_law_text"]) fun _ _ _ _ _ _ us hl => match us, hl with | [_, _], _ => rfl
  have m16 := PySem.W.mg_of X G a16
  have F17 := fun_mk (st := sLt) l17 c17 k17
  have b17 := F17.binds (ps := ["_law_many", "_law_text"]) fun _ _ _ _ _ _ us hl => match us, hl with | [_, _], _ => rfl
  have m17 := PySem.W.mg_of X G a17
  have F18 := fun_mk (st := sLaw) l18 c18 k18
  have y1 := PySem.W.mg_none_of X G z1
  have y2 := PySem.W.mg_none_of X G z2
  have y3 := PySem.W.mg_none_of X G z3
  have y4 := PySem.W.mg_none_of X G z4
  have y5 := PySem.W.mg_none_of X G z5
  have y6 := PySem.W.mg_none_of X G z6
  have y7 := PySem.W.mg_none_of X G z7
  have y8 := PySem.W.mg_none_of X G z8
  have y9 := PySem.W.mg_none_of X G z9
  have y10 := PySem.W.mg_none_of X G z10
  have y11 := PySem.W.mg_none_of X G z11
  have y12 := PySem.W.mg_none_of X G z12
  have y13 := PySem.W.mg_none_of X G z13
  have y14 := PySem.W.mg_none_of X G z14
  have y15 := PySem.W.mg_none_of X G z15
  have y16 := PySem.W.mg_none_of X G z16
  have y17 := PySem.W.mg_none_of X G z17
  have y18 := PySem.W.mg_none_of X G z18
  have y19 := PySem.W.mg_none_of X G z19
  have y20 := PySem.W.mg_none_of X G z20
  have y21 := PySem.W.mg_none_of X G z21
  have XC0 : XC K x0 bmV := ⟨⟨_, _, _, _, _, _, _, _, _, _, _, _, _, _, xl0⟩, .base⟩
  have XC1 : XC K x1 (.ref x0 :: bmV) := ⟨⟨_, _, _, _, _, _, _, _, _, _, _, _, _, _, xl1⟩, .own _ .base⟩
  have XC2 : XC K x2 (.ref x0 :: bmV) := ⟨⟨_, _, _, _, _, _, _, _, _, _, _, _, _, _, xl2⟩, .own _ .base⟩
  have XC3 : XC K x3 (.ref x0 :: bmV) := ⟨⟨_, _, _, _, _, _, _, _, _, _, _, _, _, _, xl3⟩, .own _ .base⟩
  have XC4 : XC K x4 (.ref x0 :: bmV) := ⟨⟨_, _, _, _, _, _, _, _, _, _, _, _, _, _, xl4⟩, .own _ .base⟩
  have XC5 : XC K x5 (.ref x0 :: bmV) := ⟨⟨_, _, _, _, _, _, _, _, _, _, _, _, _, _, xl5⟩, .own _ .base⟩
  have XC6 : XC K x6 (.ref x0 :: bmV) := ⟨⟨_, _, _, _, _, _, _, _, _, _, _, _, _, _, xl6⟩, .own _ .base⟩
  have XC7 : XC K x7 (.ref x0 :: bmV) := ⟨⟨_, _, _, _, _, _, _, _, _, _, _, _, _, _, xl7⟩, .own _ .base⟩
  have XC8 : XC K x8 (.ref x0 :: bmV) := ⟨⟨_, _, _, _, _, _, _, _, _, _, _, _, _, _, xl8⟩, .own _ .base⟩
  have XA1 : XA K x1 := ⟨⟨_, XC1⟩, xg1, xt1, xs1, xc1, xsg, xtk⟩
  have XA2 : XA K x2 := ⟨⟨_, XC2⟩, xg2, xt2, xs2, xc2, xsg, xtk⟩
  have XA3 : XA K x3 := ⟨⟨_, XC3⟩, xg3, xt3, xs3, xc3, xsg, xtk⟩
  have XA4 : XA K x4 := ⟨⟨_, XC4⟩, xg4, xt4, xs4, xc4, xsg, xtk⟩
  have XA5 : XA K x5 := ⟨⟨_, XC5⟩, xg5, xt5, xs5, xc5, xsg, xtk⟩
  have XA6 : XA K x6 := ⟨⟨_, XC6⟩, xg6, xt6, xs6, xc6, xsg, xtk⟩
  have XA7 : XA K x7 := ⟨⟨_, XC7⟩, xg7, xt7, xs7, xc7, xsg, xtk⟩
  have XA8 : XA K x8 := ⟨⟨_, XC8⟩, xg8, xt8, xs8, xc8, xsg, xtk⟩
  have U : XUni K mg x0 [("NoAsk", x1), ("NoFault", x2), ("NoJoin", x3), ("NoLines", x4), ("NoPaper", x5), ("NoPot", x6), ("NoRow", x7), ("NoStep", x8)] := ⟨XC0, PySem.W.mg_of X G xa0, fun c hc => ?_, by simpa using xnd⟩
  rotate_left
  · simp only [List.mem_cons, List.not_mem_nil, or_false] at hc
    rcases hc with rfl | rfl | rfl | rfl | rfl | rfl | rfl | rfl
    · exact ⟨PySem.W.mg_of X G xa1, XC1, XA1⟩
    · exact ⟨PySem.W.mg_of X G xa2, XC2, XA2⟩
    · exact ⟨PySem.W.mg_of X G xa3, XC3, XA3⟩
    · exact ⟨PySem.W.mg_of X G xa4, XC4, XA4⟩
    · exact ⟨PySem.W.mg_of X G xa5, XC5, XA5⟩
    · exact ⟨PySem.W.mg_of X G xa6, XC6, XA6⟩
    · exact ⟨PySem.W.mg_of X G xa7, XC7, XA7⟩
    · exact ⟨PySem.W.mg_of X G xa8, XC8, XA8⟩
  have FI1 := fun_mk (st := sINa) il1 ie1 ik1
  have BI1 := FI1.binds (ps := ["self", "word"]) fun _ _ _ _ _ _ us hl => match us, hl with | [_, _], _ => rfl
  have B : Blt mg := ⟨y1, y2, y3, y4, y5, y6, y7, y8, y10, ⟨_, PySem.W.mg_of X G g1⟩, ⟨_, PySem.W.mg_of X G g2⟩⟩
  have B2 : Bl mg := ⟨y1, y2, y3, y4, y5, y6, y7, y8, y9, y10, y11, y12, y13, y14, y15, y16, y17, y18, y19, y20⟩
  have wk : GTup K mg "WORDS" (words6.map V.str) := ⟨ta1, _, _, _, PySem.W.mg_of X G tg1, tl1, rfl, rfl, by show 6 ≤ sizeLine; decide, (.cons ⟨_, rfl⟩ (.cons ⟨_, rfl⟩ (.cons ⟨_, rfl⟩ (.cons ⟨_, rfl⟩ (.cons ⟨_, rfl⟩ (.cons ⟨_, rfl⟩ .nil))))))⟩
  have lk : GTup K mg "LINE_BOUNDS" [.int (-99), .int 99] := ⟨ta2, _, _, _, PySem.W.mg_of X G tg2, tl2, rfl, rfl, by show 2 ≤ sizeLine; decide, (.cons ⟨_, rfl⟩ (.cons ⟨_, rfl⟩ .nil))⟩
  have pk : GTup K mg "PART_BOUNDS" [.int 2, .int 9] := ⟨ta3, _, _, _, PySem.W.mg_of X G tg3, tl3, rfl, rfl, by show 2 ≤ sizeLine; decide, (.cons ⟨_, rfl⟩ (.cons ⟨_, rfl⟩ .nil))⟩
  obtain ⟨lb, lm, ls⟩ := lk.sq
  obtain ⟨pb, pm, ps⟩ := pk.sq
  have GU : GB K mg lb pb := ⟨lm, ls, pm, ps⟩
  have ms : Kn mg "MOST_SIGNS" 3 := ⟨_, PySem.W.mg_of X G g3⟩
  have fg : KnS mg "FIGURES" "0123456789" := ⟨_, PySem.W.mg_of X G g4⟩
  refine ⟨PySem.W.fnOf "law" "law" (defArgs sLaw) (defBody sLaw) (defScope sLaw) .none kV18 dc18 pm18 an18 cd18 ct18, fun s v => .of_eq rfl, fun base _ _ => ?_⟩
  have HC1 : HasC l.prog w K mg base 1 "NoAsk" x1 ["self", "word"] (spXi K ["word"]) := ⟨_, _, ⟨ii1, if1, im1, XA1⟩, ok_INa FI1, PySem.W.mg_of X G xa1, BI1⟩
  have H1 : Has l.prog w K mg base 1 "_law_tape" ["_law_script"] (spTape K) := ⟨_, _, ok_tape F1, m1, k1, b1⟩
  have H2 : Has l.prog w K mg base 1 "_law_draw" ["_law_tape_here", "_law_many"] spDraw := ⟨_, _, ok_draw B F2, m2, k2, b2⟩
  have H3 : Has l.prog w K mg base 2 "_law_line" ["_law_tape_here", "_law_many"] spLine := ⟨_, _, ok_line B H2 F3, m3, k3, b3⟩
  have H4 : Has l.prog w K mg base 3 "_law_ask" ["_law_tape_here", "_law_many"] spAsk := ⟨_, _, ok_ask B H2 H3 F4, m4, k4, b4⟩
  have H5 : Has l.prog w K mg base 1 "is_figures" ["word"] spFi2 := ⟨_, _, ok_Fi2 B fg F5, m5, k5, b5⟩
  have H6 : Has l.prog w K mg base 2 "is_signed_figures" ["word"] spSi2 := ⟨_, _, ok_Si2 B H5 F6, m6, k6, b6⟩
  have H7 : Has l.prog w K mg base 1 "shown_line" ["line"] spSl := ⟨_, _, ok_Sl B F7, m7, k7, b7⟩
  have H8 : Has l.prog w K mg base 2 "shown_ask" ["ask"] spSa := ⟨_, _, ok_Sa B H7 F8, m8, k8, b8⟩
  have H9 : Has l.prog w K mg base 1 "line_of_words" ["words"] spLw := ⟨_, _, ok_Lw B F9, m9, k9, b9⟩
  have H10 : Has l.prog w K mg base 2 "ask_of_words" ["many", "words"] spAw := ⟨_, _, ok_Aw B H9 F10, m10, k10, b10⟩
  have H11 : Has l.prog w K mg base 1 "due_behind" ["many", "word"] (spDb lb pb) := ⟨_, _, ok_Db B GU F11, m11, k11, b11⟩
  have H12 : Has l.prog w K mg base 3 "can_stand" ["word", "due"] (spCs2 lb pb) := ⟨_, _, ok_Cs2 B GU ms H6 F12, m12, k12, b12⟩
  have H13 : HasX l.prog w K mg base 4 "read_ask" ["many", "text"] (spRa2 x1) := ⟨_, _, ok_Ra2 B wk H11 H12 H10 HC1 XA1 iq1_0 F13, m13, k13, b13⟩
  have H14 : Has l.prog w K mg base 1 "_law_is_number" ["_law_word"] spLn := ⟨_, _, ok_Ln B2 F14, m14, k14, b14⟩
  have H15 : Has l.prog w K mg base 2 "_law_fault" ["_law_many", "_law_text"] spLf := ⟨_, _, ok_Lf B2 H14 F15, m15, k15, b15⟩
  have H16 : Has l.prog w K mg base 2 "_law_bent" ["_law_tape_here", "_law_text"] spLb := ⟨_, _, ok_Lb B2 H2 F16, m16, k16, b16⟩
  have H17 : Has l.prog w K mg base 5 "_law_told" ["_law_many", "_law_text"] spLt := ⟨_, _, ok_Lt B2 y21 U H13 H8 iq1_0 F17, m17, k17, b17⟩
  exact ok_Law B2 H1 H2 H4 H8 H16 H15 H17 F18
theorem walk {l : PySem.W.OpenLaw} {q : Program} {loose : List Str} {XP : (Str → Option Value) → Heap → Prop} {YP : World → Heap → Prop} {d : DefRec} {K : Params → PySem.W.Frag} (hn : l.most = some 63) (hdf : d.params.defaults = [])
    (hY : ∀ (w : World) (h : Heap), YP w h → (K w.params).In h)
    (F : ∀ (w : World) (mg : Str → Option Value) (fa : Addr) (h : Heap), (K w.params).In h → h.Ns mainGlobals mg → mg d.name = some (.ref fa) →
      ∃ fd : FuncData, (∀ (s : Shared) (u : Value), BindsTo s fd ⟨[u], []⟩ [("_law_script", u)]) ∧ ∀ base : Heap, (K w.params).In base → base.Ns mainGlobals mg → FnOk l.prog w (K w.params) mg base CX0 6 fa fd ["_law_script"] (spLaw (K w.params))) :
    PySem.W.WalkO q loose XP YP l.row.toRowW d [] (fun f vs => PySem.call f vs) :=
  L2.walk_of (n := 63) (k := 6) (x := "_law_script") (CX := fun _ => CX0) (sp := fun w => spLaw (K w.params)) hn (by decide) hdf ⟨rfl, by decide, by decide, rfl⟩ hY F (fun _ H a ns hl hO hS => ⟨a, ns, rfl, SqF.of hO hS, hl, fun _ => rfl⟩) fun _ _ _ _ _ z => z
end K23
open PySem PySem.W PyProof.Rows
set_option maxRecDepth 100000 in
set_option maxHeartbeats 0 in
theorem PySem.Challenge.cw_dropsums_k23_texts_that_write_no_ask_holds : PySem.Challenge.rw_dropsums_k23_texts_that_write_no_ask.Holds := by
  w_on; o_law; k_head; (case hw => w_witness2)
  k_fill
  refine K23.walk (l := PySem.Challenge.rw_dropsums_k23_texts_that_write_no_ask) rfl rfl (fun w h Y => PySem.W.kIn_of Y) ?F
  case F =>
    intro w mg fa h KX G hmg
    refine' K23.all_mk KX G hmg ?a1 ?l1 ?c1 ?k1 ?a2 ?l2 ?c2 ?k2 ?a3 ?l3 ?c3 ?k3 ?a4 ?l4 ?c4 ?k4 ?a5 ?l5 ?c5 ?k5 ?a6 ?l6 ?c6 ?k6 ?a7 ?l7 ?c7 ?k7 ?a8 ?l8 ?c8 ?k8 ?a9 ?l9 ?c9 ?k9 ?a10 ?l10 ?c10 ?k10 ?a11 ?l11 ?c11 ?k11 ?a12 ?l12 ?c12 ?k12 ?a13 ?l13 ?c13 ?k13 ?a14 ?l14 ?c14 ?k14 ?a15 ?l15 ?c15 ?k15 ?a16 ?l16 ?c16 ?k16 ?a17 ?l17 ?c17 ?k17 ?a18 ?l18 ?c18 ?k18 ?z1 ?z2 ?z3 ?z4 ?z5 ?z6 ?z7 ?z8 ?z9 ?z10 ?z11 ?z12 ?z13 ?z14 ?z15 ?z16 ?z17 ?z18 ?z19 ?z20 ?z21 ?g1 ?g2 ?g3 ?g4 ?tg1 ?tl1 ?tg2 ?tl2 ?tg3 ?tl3 ?xa0 ?xl0 ?xa1 ?xl1 ?xa2 ?xl2 ?xa3 ?xl3 ?xa4 ?xl4 ?xa5 ?xl5 ?xa6 ?xl6 ?xa7 ?xl7 ?xa8 ?xl8 ?xg1 ?xt1 ?xs1 ?xc1 ?xg2 ?xt2 ?xs2 ?xc2 ?xg3 ?xt3 ?xs3 ?xc3 ?xg4 ?xt4 ?xs4 ?xc4 ?xg5 ?xt5 ?xs5 ?xc5 ?xg6 ?xt6 ?xs6 ?xc6 ?xg7 ?xt7 ?xs7 ?xc7 ?xg8 ?xt8 ?xs8 ?xc8 ?xsg ?xtk ?xnd ?ii1 ?il1 ?ie1 ?if1 ?ik1 ?im1 ?iq1_0
    (case a1 => k_is)
    (case l1 => k_is)
    (case c1 => k_is)
    (case k1 => k_is)
    (case a2 => k_is)
    (case l2 => k_is)
    (case c2 => k_is)
    (case k2 => k_is)
    (case a3 => k_is)
    (case l3 => k_is)
    (case c3 => k_is)
    (case k3 => k_is)
    (case a4 => k_is)
    (case l4 => k_is)
    (case c4 => k_is)
    (case k4 => k_is)
    (case a5 => k_is)
    (case l5 => k_is)
    (case c5 => k_is)
    (case k5 => k_is)
    (case a6 => k_is)
    (case l6 => k_is)
    (case c6 => k_is)
    (case k6 => k_is)
    (case a7 => k_is)
    (case l7 => k_is)
    (case c7 => k_is)
    (case k7 => k_is)
    (case a8 => k_is)
    (case l8 => k_is)
    (case c8 => k_is)
    (case k8 => k_is)
    (case a9 => k_is)
    (case l9 => k_is)
    (case c9 => k_is)
    (case k9 => k_is)
    (case a10 => k_is)
    (case l10 => k_is)
    (case c10 => k_is)
    (case k10 => k_is)
    (case a11 => k_is)
    (case l11 => k_is)
    (case c11 => k_is)
    (case k11 => k_is)
    (case a12 => k_is)
    (case l12 => k_is)
    (case c12 => k_is)
    (case k12 => k_is)
    (case a13 => k_is)
    (case l13 => k_is)
    (case c13 => k_is)
    (case k13 => k_is)
    (case a14 => k_is)
    (case l14 => k_is)
    (case c14 => k_is)
    (case k14 => k_is)
    (case a15 => k_is)
    (case l15 => k_is)
    (case c15 => k_is)
    (case k15 => k_is)
    (case a16 => k_is)
    (case l16 => k_is)
    (case c16 => k_is)
    (case k16 => k_is)
    (case a17 => k_is)
    (case l17 => k_is)
    (case c17 => k_is)
    (case k17 => k_is)
    (case a18 => k_is)
    (case l18 => k_is)
    (case c18 => k_is)
    (case k18 => k_is)
    (case z1 => k_is)
    (case z2 => k_is)
    (case z3 => k_is)
    (case z4 => k_is)
    (case z5 => k_is)
    (case z6 => k_is)
    (case z7 => k_is)
    (case z8 => k_is)
    (case z9 => k_is)
    (case z10 => k_is)
    (case z11 => k_is)
    (case z12 => k_is)
    (case z13 => k_is)
    (case z14 => k_is)
    (case z15 => k_is)
    (case z16 => k_is)
    (case z17 => k_is)
    (case z18 => k_is)
    (case z19 => k_is)
    (case z20 => k_is)
    (case z21 => k_is)
    (case g1 => k_is)
    (case g2 => k_is)
    (case g3 => k_is)
    (case g4 => k_is)
    (case tg1 => k_is)
    (case tl1 => k_is)
    (case tg2 => k_is)
    (case tl2 => k_is)
    (case tg3 => k_is)
    (case tl3 => k_is)
    (case xa0 => k_is)
    (case xl0 => k_is)
    (case xa1 => k_is)
    (case xl1 => k_is)
    (case xa2 => k_is)
    (case xl2 => k_is)
    (case xa3 => k_is)
    (case xl3 => k_is)
    (case xa4 => k_is)
    (case xl4 => k_is)
    (case xa5 => k_is)
    (case xl5 => k_is)
    (case xa6 => k_is)
    (case xl6 => k_is)
    (case xa7 => k_is)
    (case xl7 => k_is)
    (case xa8 => k_is)
    (case xl8 => k_is)
    (case xg1 => k_is)
    (case xt1 => k_is)
    (case xs1 => k_is)
    (case xc1 => k_is)
    (case xg2 => k_is)
    (case xt2 => k_is)
    (case xs2 => k_is)
    (case xc2 => k_is)
    (case xg3 => k_is)
    (case xt3 => k_is)
    (case xs3 => k_is)
    (case xc3 => k_is)
    (case xg4 => k_is)
    (case xt4 => k_is)
    (case xs4 => k_is)
    (case xc4 => k_is)
    (case xg5 => k_is)
    (case xt5 => k_is)
    (case xs5 => k_is)
    (case xc5 => k_is)
    (case xg6 => k_is)
    (case xt6 => k_is)
    (case xs6 => k_is)
    (case xc6 => k_is)
    (case xg7 => k_is)
    (case xt7 => k_is)
    (case xs7 => k_is)
    (case xc7 => k_is)
    (case xg8 => k_is)
    (case xt8 => k_is)
    (case xs8 => k_is)
    (case xc8 => k_is)
    (case xsg => k_is)
    (case xtk => k_is)
    (case xnd => decide)
    (case ii1 => k_is)
    (case il1 => k_is)
    (case ie1 => k_is)
    (case if1 => k_is)
    (case ik1 => k_is)
    (case im1 => k_is)
    (case iq1_0 => k_is)

