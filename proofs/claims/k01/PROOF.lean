import PyProof.Rows.All
import Wide.All
import OpenK.AllK
import Wide.FinOn
import Lean
import PyProof.EqAt
import PyProof.EqKinds
import PyProof.TupleCall
import PyProof.Rows.SumAny
import PyProof.Draws
import PyProof.ZipIter
import PyProof.EnumMake
import PyProof.Rows.ZipGen
import PyProof.FitsInt
import PyProof.ReprLen
import KE.IntBitsLaws
import PyProof.NeData
import PyProof.ConsumeWalk
import PyProof.WalkInts
import PyProof.Rows.SeqMore
import PyProof.ListMulRoad
import PyProof.DictUpdate
import KE.KRevSl
import PyProof.StrWalks
import PyProof.Rows.SetFrom
import PyProof.WalksMore
import PyProof.FactsAll.subtypes_4
import PySem.Challenge.RW_dropsums_k01_names_and_pots
-- CHANGE: your row's module here, as the last of these rows
set_option Elab.async false
set_option linter.all false
set_option maxRecDepth 100000
/-! THE HAND LAYER, for ints, bools, texts, own classes, LISTS and tuples (index, slices, in, append, pop ..), calls, loops. Paste it whole ahead of your own text; what your proof does not reach may be deleted. -/
namespace L2
open PySem PySem.Spec PyProof.Rows

/-- a key: an int or a str -/
abbrev Key := Sum Int Str
def keyIs : Key → Value → Bool
  | .inl k, v => Value.isInt k v
  | .inr x, v => Value.isStrOf x v
def keyH (w : World) : Key → Int
  | .inl k => hashInt k
  | .inr x => hashStr w x
theorem keyIs_shape : ∀ {k : Key} {v : Value}, keyIs k v = true → (∃ i t, k = Sum.inl i ∧ v = Value.int i t) ∨ (∃ x t, k = Sum.inr x ∧ v = Value.str x t)
  | .inl i, v, h => by
    obtain ⟨t, e⟩ := Value.isInt_shape (k := i) (v := v) h
    exact .inl ⟨i, t, rfl, e⟩
  | .inr x, v, h => by
    obtain ⟨t, e⟩ := Value.isStrOf_shape (x := x) (v := v) h
    exact .inr ⟨x, t, rfl, e⟩
theorem keyIs_int (i : Int) (t : Tok) : keyIs (.inl i) (.int i t) = true := by simp [keyIs, Value.isInt]
theorem keyIs_str (x : Str) (t : Tok) : keyIs (.inr x) (.str x t) = true := by simp [keyIs, Value.isStrOf]
theorem key_ll (a b : Int) : decide ((Sum.inl a : Key) = Sum.inl b) = (a == b) := by
  by_cases e : a = b
  · subst e; simp
  · have h : ¬ (Sum.inl a : Key) = Sum.inl b := fun q => e (Sum.inl.inj q)
    rw [decide_eq_false h]
    exact (beq_eq_false_iff_ne.mpr e).symm
theorem key_rr (a b : Str) : decide ((Sum.inr a : Key) = Sum.inr b) = decide (a = b) := by
  by_cases e : a = b
  · subst e; simp
  · have h : ¬ (Sum.inr a : Key) = Sum.inr b := fun q => e (Sum.inr.inj q)
    rw [decide_eq_false h, decide_eq_false e]
theorem key_lr (a : Int) (b : Str) : decide ((Sum.inl a : Key) = Sum.inr b) = false := decide_eq_false (fun q => nomatch q)
theorem key_rl (a : Str) (b : Int) : decide ((Sum.inr a : Key) = Sum.inl b) = false := decide_eq_false (fun q => nomatch q)

def mixKind (prog : Program) (w : World) : PySem.KeyKind prog w Key where
  is := keyIs
  hash := keyH w
  inj := fun v a b ha hb => by
    rcases keyIs_shape ha with ⟨i, t, rfl, rfl⟩ | ⟨x, t, rfl, rfl⟩
    · rcases keyIs_shape hb with ⟨j, u, rfl, e⟩ | ⟨y, u, rfl, e⟩
      · injection e with e1 _; rw [e1]
      · exact nomatch e
    · rcases keyIs_shape hb with ⟨j, u, rfl, e⟩ | ⟨y, u, rfl, e⟩
      · exact nomatch e
      · injection e with e1 _; rw [e1]
  byValue := fun k v h => by
    rcases keyIs_shape h with ⟨i, t, rfl, rfl⟩ | ⟨x, t, rfl, rfl⟩ <;> rfl
  pyHash := fun hv h => by
    rcases keyIs_shape hv with ⟨i, t, rfl, rfl⟩ | ⟨x, t, rfl, rfl⟩
    · exact wpAny_pyHash_int h
    · exact wpAny_pyHash_str h
  eqBool := fun hu hv h => by
    rcases keyIs_shape hu with ⟨i, t, rfl, rfl⟩ | ⟨x, t, rfl, rfl⟩
    · rcases keyIs_shape hv with ⟨j, u, rfl, rfl⟩ | ⟨y, u, rfl, rfl⟩
      · rw [key_ll] at h; exact wpAny_eqBool_int h
      · rw [key_lr] at h; exact SeqAt.EqAt.int_str i t y u _ _ _ _ h
    · rcases keyIs_shape hv with ⟨j, u, rfl, rfl⟩ | ⟨y, u, rfl, rfl⟩
      · rw [key_rl] at h; exact SeqAt.EqAt.str_int x t j u _ _ _ _ h
      · rw [key_rr] at h; exact wpAny_eqBool_str h
  «strs» := fun k x t v h => by
    rcases keyIs_shape h with ⟨i, u, rfl, e⟩ | ⟨y, u, rfl, e⟩
    · exact nomatch e
    · injection e with e1 _
      subst e1
      cases v <;> rfl

theorem mixKind_int (prog : Program) (w : World) (i : Int) (t : Tok) : (mixKind prog w).is (.inl i) (.int i t) = true := keyIs_int i t
theorem mixKind_str (prog : Program) (w : World) (x : Str) (t : Tok) : (mixKind prog w).is (.inr x) (.str x t) = true := keyIs_str x t
end L2

namespace L2
open PySem PySem.Spec PyProof.Rows

/-- a value, without the heap -/
inductive V where
  | non | bl (b : Bool) | int (i : Int) | str (x : Str) | byt (b : Array UInt8) | flt (b : UInt64) | ref (a : Addr) | ty (n : String)
  deriving DecidableEq

def RelV : V → Value → Prop
  | .non, u => u = Value.none
  | .bl b, u => u = Value.bool b
  | .int i, u => ∃ t, u = Value.int i t
  | .str x, u => ∃ t, u = Value.str x t
  | .byt b, u => ∃ t, u = Value.bytes b t
  | .flt b, u => ∃ t, u = Value.float b t
  | .ref a, u => u = Value.ref a
  | .ty n, u => u = Value.type n

abbrev Vals : List V → List Value → Prop := Paired RelV
theorem Vals.length {xs : List V} {us : List Value} (r : Vals xs us) : xs.length = us.length := Paired.length r
theorem Vals.get : ∀ {xs : List V} {us : List Value} {i : Nat} {x : V}, Vals xs us → xs[i]? = some x → ∃ u, us[i]? = some u ∧ RelV x u
  | _, _, _, _, .nil, e => by simp at e
  | _, _, 0, _, .cons r _, e => by simp at e; subst e; exact ⟨_, rfl, r⟩
  | _, _, i + 1, x, .cons _ t, e => by
    obtain ⟨u, h1, h2⟩ := Vals.get (i := i) (x := x) t (by simpa using e)
    exact ⟨u, by simpa using h1, h2⟩
theorem Vals.set {x : V} {u : Value} (r : RelV x u) : ∀ {xs : List V} {us : List Value} (i : Nat), Vals xs us → Vals (xs.set i x) (us.set i u)
  | _, _, _, .nil => .nil
  | _, _, 0, .cons _ t => .cons r t
  | _, _, i + 1, .cons q t => .cons q (Vals.set r i t)
theorem Vals.append : ∀ {xs ys : List V} {us ws : List Value}, Vals xs us → Vals ys ws → Vals (xs ++ ys) (us ++ ws)
  | _, _, _, _, .nil, s => s
  | _, _, _, _, .cons r t, s => .cons r (Vals.append t s)
theorem Vals.take : ∀ {xs : List V} {us : List Value} (n : Nat), Vals xs us → Vals (xs.take n) (us.take n)
  | _, _, 0, _ => .nil
  | _, _, _ + 1, .nil => .nil
  | _, _, n + 1, .cons r t => .cons r (Vals.take n t)
theorem Vals.drop : ∀ {xs : List V} {us : List Value} (n : Nat), Vals xs us → Vals (xs.drop n) (us.drop n)
  | _, _, 0, r => r
  | _, _, _ + 1, .nil => .nil
  | _, _, n + 1, .cons _ t => Vals.drop n t

def RelO : Option V → Option Value → Prop
  | some v, some u => RelV v u
  | none, none => True
  | _, _ => False
def KV {κ : Type} : List (κ × V) → List (κ × Value) → Prop := Paired fun (p : κ × V) (q : κ × Value) => p.1 = q.1 ∧ RelV p.2 q.2

/-- a key of a dict (00_mix): an int or a text -/
def kV : Key → V
  | .inl i => .int i
  | .inr x => .str x

/-- what stands at a tracked address -/
inductive HO where
  /-- a list -/
  | lst (xs : List V)
  /-- a tuple (never changes) -/
  | tup (xs : List V)
  /-- a dict whose keys are ints and texts; one whose keys are tuples of ints and texts (the empty one is both) -/
  | dK (kvs : List (Key × V)) | dT (kvs : List (List Key × V))
  /-- a set of ints: its members, its size -/
  | set (S : Int → Bool) (n : Nat)
  /-- an instance of the class at C, its dict at dx, its attributes -/
  | ins (C dx : Addr) (fs : List (Str × V))
  /-- the dict of the instance at x -/
  | own (x : Addr)
  /-- the dict of an exception -/
  | xd (fs : List (Str × V))
  /-- a bound method, f of x -/
  | met (f x : Addr)
  /-- a range object lo, lo + 1, .. below hi -/
  | rng (lo hi : Int)
  /-- a thing that is known to the object (the script; a dict while a loop walks it): read, never written while it is so -/
  | frz (o : Obj) (u : HO)
  /-- a code object's table -/
  | tbl (ps : Array Value)
  /-- any other thing, by what is true of its one object (a def of one's own: SetO a S n := HO.ext fun h => ..) -/
  | ext (φ : Heap → Prop)

abbrev Hp := Addr → Option HO
def upd (H : Hp) (a : Addr) (o : HO) : Hp := fun b => if b = a then some o else H b
theorem upd_same {H : Hp} {a : Addr} {o : HO} : upd H a o a = some o := by unfold upd; rw [if_pos rfl]
theorem upd_ne {H : Hp} {a b : Addr} {o : HO} (h : b ≠ a) : upd H a o b = H b := by unfold upd; rw [if_neg h]
theorem upd_upd {H : Hp} {a : Addr} {o u : HO} : upd (upd H a o) a u = upd H a u := by
  funext b; unfold upd; split <;> rfl
/-- two objects of different content stand apart -/
theorem ne_of {H : Hp} {a b : Addr} {o u : HO} (h : H a = some o) (h' : H b = some u) (d : o ≠ u) : a ≠ b := by
  intro e; subst e; rw [h] at h'; exact d (Option.some.inj h')
theorem ne_of_none {H : Hp} {a b : Addr} {o : HO} (h : H a = some o) (h' : H b = none) : a ≠ b := by
  intro e; subst e; rw [h] at h'; cases h'

section
variable (P : Program) (w : World)
def ObjOk (H : Hp) (h : Heap) (a : Addr) : HO → Prop
  | .lst xs => xs.length ≤ sizeLine ∧ ∃ (its : List Value) (n : Nat), Vals xs its ∧ h.get? a = some { cls := .type "list", data := .seq its.toArray n }
  | .tup xs => xs.length ≤ sizeLine ∧ ∃ its : List Value, Vals xs its ∧ IsTup h a its.toArray
  | .dK kvs => kvs.length ≤ sizeLine ∧ (a == sysModules) = false ∧ ∃ vs, KV kvs vs ∧ h.DictOf (mixKind P w) a vs
  | .dT kvs => kvs.length ≤ sizeLine ∧ (a == sysModules) = false ∧ ∃ xs : List (List Key × Addr × Value),
      Paired (fun (p : List Key × V) (q : List Key × Addr × Value) => p.1 = q.1 ∧ H q.2.1 = some (.tup (p.1.map kV)) ∧ RelV p.2 q.2.2) kvs xs ∧
      ∃ o es ep, h.get? a = some o ∧ o.ExactDict ∧ o.data = .dict es ep ∧ es.toList = xs.map (entryOfKey (tupleKind (mixKind P w))) ∧ (xs.map (·.1)).Nodup
  | .set S n => h.SetOf (intKind P w) a S n
  | .ins C dx fs => H dx = some (.own a) ∧ fs.length ≤ 1000 ∧ dx ≠ a ∧ h.get? a = some (PySem.W.instObj C dx) ∧
      ∃ mA, h.Ns1 dx mA ∧ (∀ f, RelO (fs.lookup f) (mA f)) ∧ PySem.Within mA (fs.map (·.1))
  | .own _ => ∃ o, h.get? a = some o
  | .xd fs => ∃ mA, h.Ns1 a mA ∧ ∀ f, RelO (fs.lookup f) (mA f)
  | .rng lo hi => ∃ t u v, h.get? a = some { cls := .type "range", data := .fields #[.int lo t, .int hi u, .int 1 v] }
  | .frz o u => h.get? a = some o ∧ ObjOk H h a u
  | .tbl ps => h.get? a = some { cls := .none, data := .fields ps }
  | .met f x => h.get? a = some (PySem.W.methodObj (.ref f) (.ref x))
  | .ext φ => φ h ∧ (∃ o, h.get? a = some o) ∧ ∀ h1 h2 : Heap, φ h1 → (∀ o, h1.get? a = some o → h2.get? a = some o) → φ h2
/-- the abstract heap is held -/
def HOk (H : Hp) (h : Heap) : Prop := ∀ a o, H a = some o → ObjOk P w H h a o
end

section
variable {P : Program} {w : World} {H H' : Hp} {h h' : Heap} {a : Addr} {o : HO}
theorem ObjOk.lt (x : ObjOk P w H h a o) : a < h.objs.size := by
  cases o with
  | lst xs => obtain ⟨_, _, _, _, e⟩ := x; exact Heap.lt_size e
  | tup xs => obtain ⟨_, _, _, p⟩ := x; exact p.lt
  | dK kvs => obtain ⟨_, _, _, _, o, _, _, e, _⟩ := x; exact Heap.lt_size e
  | dT kvs => obtain ⟨_, _, _, _, o, _, _, e, _⟩ := x; exact Heap.lt_size e
  | set S n => obtain ⟨o, _, _, _, e, _⟩ := x; exact Heap.lt_size e
  | ins C dx fs => obtain ⟨_, _, _, e, _⟩ := x; exact Heap.lt_size e
  | own y => obtain ⟨_, e⟩ := x; exact Heap.lt_size e
  | xd fs => obtain ⟨_, ⟨_, _, _, e, _⟩, _⟩ := x; exact Heap.lt_size e
  | rng lo hi => obtain ⟨_, _, _, e⟩ := x; exact Heap.lt_size e
  | frz ob u => obtain ⟨e, _⟩ := x; exact Heap.lt_size e
  | tbl ps => exact Heap.lt_size (show h.get? a = some _ from x)
  | met f y => exact Heap.lt_size (show h.get? a = some _ from x)
  | ext φ => obtain ⟨_, ⟨_, e⟩, _⟩ := x; exact Heap.lt_size e
theorem Paired.mapP {α β : Type} {F G : α → β → Prop} : ∀ {l₁ : List α} {l₂ : List β}, Paired F l₁ l₂ → (∀ a b, F a b → G a b) → Paired G l₁ l₂
  | _, _, .nil, _ => .nil
  | _, _, .cons r t, f => .cons (f _ _ r) (Paired.mapP t f)
/-- what an object's description leans on: its own object, its own dict, the tuples -/
theorem ObjOk.stay (x : ObjOk P w H h a o) (k : ∀ b u, (b = a ∨ H b = some (.own a)) → h.get? b = some u → h'.get? b = some u)
    (ho : ∀ b, H b = some (.own a) → H' b = some (.own a)) (ht : ∀ b xs, H b = some (.tup xs) → H' b = some (.tup xs)) : ObjOk P w H' h' a o := by
  induction o with
  | lst xs => obtain ⟨z, its, n, r, e⟩ := x; exact ⟨z, its, n, r, k _ _ (.inl rfl) e⟩
  | tup xs => obtain ⟨z, its, r, ob, e, c⟩ := x; exact ⟨z, its, r, ob, k _ _ (.inl rfl) e, c⟩
  | dK kvs => obtain ⟨z, y, vs, r, ob, es, ep, e, c⟩ := x; exact ⟨z, y, vs, r, ob, es, ep, k _ _ (.inl rfl) e, c⟩
  | dT kvs =>
    obtain ⟨z, y, xs, r, ob, es, ep, e, c⟩ := x
    exact ⟨z, y, xs, Paired.mapP r fun p q z => ⟨z.1, ht _ _ z.2.1, z.2.2⟩, ob, es, ep, k _ _ (.inl rfl) e, c⟩
  | set S n => obtain ⟨ob, es, ep, t, e, c⟩ := x; exact ⟨ob, es, ep, t, k _ _ (.inl rfl) e, c⟩
  | ins C dx fs =>
    obtain ⟨d, z, ne, e, mA, ⟨od, es, ep, e2, c⟩, r⟩ := x
    exact ⟨ho _ d, z, ne, k _ _ (.inl rfl) e, mA, ⟨od, es, ep, k _ _ (.inr d) e2, c⟩, r⟩
  | own y => obtain ⟨ob, e⟩ := x; exact ⟨ob, k _ _ (.inl rfl) e⟩
  | xd fs => obtain ⟨mA, ⟨od, es, ep, e, c⟩, r⟩ := x; exact ⟨mA, ⟨od, es, ep, k _ _ (.inl rfl) e, c⟩, r⟩
  | rng lo hi => obtain ⟨t, u, v, e⟩ := x; exact ⟨t, u, v, k _ _ (.inl rfl) e⟩
  | frz ob u ih => obtain ⟨e, q⟩ := x; exact ⟨k _ _ (.inl rfl) e, ih q⟩
  | tbl ps =>
    have e : h.get? a = some { cls := .none, data := .fields ps } := x
    show h'.get? a = some { cls := .none, data := .fields ps }
    exact k a _ (.inl rfl) e
  | met f y =>
    have e : h.get? a = some (PySem.W.methodObj (.ref f) (.ref y)) := x
    show h'.get? a = some (PySem.W.methodObj (.ref f) (.ref y))
    exact k a _ (.inl rfl) e
  | ext φ => obtain ⟨p, ⟨o, e⟩, st⟩ := x; exact ⟨st _ _ p fun o q => k _ _ (.inl rfl) q, ⟨o, k _ _ (.inl rfl) e⟩, st⟩
theorem HOk.lt (x : HOk P w H h) (e : H a = some o) : a < h.objs.size := (x a o e).lt
theorem HOk.fresh (x : HOk P w H h) (e : h.objs.size ≤ a) : H a = none := by
  cases q : H a with
  | none => rfl
  | some u => exact absurd (Nat.lt_of_lt_of_le (x.lt q) e) (Nat.lt_irrefl _)
/-- every object of the heap is kept -/
theorem HOk.kept (x : HOk P w H h) (k : ∀ b u, h.get? b = some u → h'.get? b = some u) : HOk P w H h' := fun a o e =>
  (x a o e).stay (fun b u _ q => k b u q) (fun _ q => q) fun _ _ q => q
/-- a new object is laid and tracked -/
theorem HOk.laid (x : HOk P w H h) (k : ∀ b u, h.get? b = some u → h'.get? b = some u) (hp : h.objs.size ≤ a) (new : ObjOk P w (upd H a o) h' a o) : HOk P w (upd H a o) h' := fun b u e => by
  have hn := x.fresh hp
  by_cases hb : b = a
  · subst hb; rw [upd_same] at e; cases e; exact new
  · rw [upd_ne hb] at e
    exact (x b u e).stay (fun c v _ q => k c v q) (fun c q => by rw [upd_ne (ne_of_none q hn)]; exact q) fun c xs q => by rw [upd_ne (ne_of_none q hn)]; exact q
end

/-- what may be read as u: it is u, or a known u -/
def Rd (H : Hp) (a : Addr) (u : HO) : Prop := H a = some u ∨ ∃ o, H a = some (.frz o u)
theorem Rd.of {H : Hp} {a : Addr} {u : HO} (h : H a = some u) : Rd H a u := .inl h
theorem Rd.ok {P : Program} {w : World} {H : Hp} {h : Heap} {a : Addr} {u : HO} (r : Rd H a u) (x : HOk P w H h) : ObjOk P w H h a u := by
  rcases r with r | ⟨o, r⟩
  · exact x a u r
  · obtain ⟨_, q⟩ := x a _ r
    exact q
/-- what may be written -/
def Mut : Option HO → Prop
  | some (.lst _) => True
  | some (.dK _) => True
  | some (.dT _) => True
  | some (.set _ _) => True
  | some (.ins _ _ _) => True
  | some (.ext _) => True
  | _ => False
section
variable {P : Program} {w : World} {H : Hp} {h h' : Heap} {x e : Addr} {o' : HO}
/-- the object at e is changed: x itself, or the dict of the instance x -/
theorem HOk.write (ok : HOk P w H h) (mu : Mut (H x)) (he : e = x ∨ H e = some (.own x)) (k : ∀ b u, b ≠ e → h.get? b = some u → h'.get? b = some u) (heo : ∃ u, h'.get? e = some u)
    (new : ObjOk P w (upd H x o') h' x o') : HOk P w (upd H x o') h' := fun b u q => by
  have nown : ∀ c y, H c = some (.own y) → c ≠ x := fun c y r z => by subst z; rw [r] at mu; exact mu
  have ntup : ∀ c xs, H c = some (.tup xs) → c ≠ x := fun c xs r z => by subst z; rw [r] at mu; exact mu
  by_cases hb : b = x
  · subst hb; rw [upd_same] at q; cases q; exact new
  · rw [upd_ne hb] at q
    by_cases hbe : b = e
    · have q' : H b = some (.own x) := by
        rcases he with z | z
        · exact absurd (hbe.trans z) hb
        · rw [hbe]; exact z
      rw [q] at q'; cases q'
      obtain ⟨v, hv⟩ := heo
      exact ⟨v, by rw [hbe]; exact hv⟩
    · refine (ok b u q).stay (fun c v hc r => k c v ?_ r) (fun c r => by rw [upd_ne (nown c b r)]; exact r) fun c xs r => by rw [upd_ne (ntup c xs r)]; exact r
      rcases hc with rfl | hc
      · exact hbe
      · rintro rfl
        rcases he with z | z
        · exact nown c b hc z
        · rw [hc] at z; cases z; exact hb rfl
end

/-! ### kept unless tracked; of the frames at fs (the callers') the slots may change (an exception that passes writes there); of the records at ex (iterators) nothing is said -/
structure Un (fs ex : List Addr) (H H' : Hp) (h h' : Heap) : Prop where
  keep : ∀ b o, h.get? b = some o → H b = none → b ∉ fs → b ∉ ex → h'.get? b = some o
  slot : ∀ b o, h.get? b = some o → H b = none → b ∈ fs → b ∉ ex → ∃ sl, h'.get? b = some { o with slots := sl }
  free : ∀ b o, h.get? b = some o → H b = none → b ∉ ex → H' b = none
  there : ∀ b o, h.get? b = some o → b ∉ ex → ∃ o', h'.get? b = some o'
  tups : ∀ b xs, H b = some (.tup xs) → H' b = some (.tup xs)
  frzs : ∀ b o u, H b = some (.frz o u) → H' b = some (.frz o u)
  tbls : ∀ b ps, H b = some (.tbl ps) → ∃ more, H' b = some (.tbl (ps ++ more))
section
variable {fs fs' ex ex' : List Addr} {H H1 H2 : Hp} {h h1 h2 h' : Heap} {a x e : Addr} {o : HO}
theorem Un.any (u : Un fs ex H H1 h h1) {b : Addr} {ob : Obj} (q : h.get? b = some ob) (n : H b = none) (hx : b ∉ ex) : ∃ sl, h1.get? b = some { ob with slots := sl } := by
  by_cases hb : b ∈ fs
  · exact u.slot b ob q n hb hx
  · exact ⟨ob.slots, u.keep b ob q n hb hx⟩
theorem Un.trans (a : Un fs ex H H1 h h1) (b : Un fs ex H1 H2 h1 h2) : Un fs ex H H2 h h2 where
  keep := fun c ob q n hc hx => b.keep c ob (a.keep c ob q n hc hx) (a.free c ob q n hx) hc hx
  slot := fun c ob q n hc hx => by
    obtain ⟨sl, e1⟩ := a.slot c ob q n hc hx
    obtain ⟨sl', e2⟩ := b.slot c _ e1 (a.free c ob q n hx) hc hx
    exact ⟨sl', e2⟩
  free := fun c ob q n hx => by
    obtain ⟨o', e1⟩ := a.there c ob q hx
    exact b.free c o' e1 (a.free c ob q n hx) hx
  there := fun c ob q hx => by
    obtain ⟨o', e1⟩ := a.there c ob q hx
    exact b.there c o' e1 hx
  tups := fun c xs q => b.tups c xs (a.tups c xs q)
  frzs := fun c ob xs q => b.frzs c ob xs (a.frzs c ob xs q)
  tbls := fun c ps q => by
    obtain ⟨m1, e1⟩ := a.tbls c ps q
    obtain ⟨m2, e2⟩ := b.tbls c _ e1
    exact ⟨m1 ++ m2, by rw [e2, Array.append_assoc]⟩
theorem Un.kept (k : ∀ b u, h.get? b = some u → h'.get? b = some u) : Un fs ex H H h h' :=
  ⟨fun b ob q _ _ _ => k b ob q, fun b ob q _ _ _ => ⟨ob.slots, k b ob q⟩, fun _ _ _ n _ => n, fun b ob q _ => ⟨ob, k b ob q⟩, fun _ _ q => q, fun _ _ _ q => q, fun _ ps q => ⟨#[], by rw [q]; simp⟩⟩
theorem Un.refl : Un fs ex H H h h := Un.kept fun _ _ q => q
theorem Un.laid (k : ∀ b u, h.get? b = some u → h'.get? b = some u) (hp : h.objs.size ≤ a) (hn : H a = none) : Un fs ex H (upd H a o) h h' where
  keep := fun b u q _ _ _ => k b u q
  slot := fun b u q _ _ _ => ⟨u.slots, k b u q⟩
  free := fun b u q n _ => by rw [upd_ne (Nat.ne_of_lt (Nat.lt_of_lt_of_le (Heap.lt_size q) hp))]; exact n
  there := fun b u q _ => ⟨u, k b u q⟩
  tups := fun b xs q => by rw [upd_ne (ne_of_none q hn)]; exact q
  frzs := fun b u xs q => by rw [upd_ne (ne_of_none q hn)]; exact q
  tbls := fun b ps q => ⟨#[], by rw [upd_ne (ne_of_none q hn), q]; simp⟩
theorem Un.write (mu : Mut (H x)) (he : e = x ∨ H e = some (.own x)) (k : ∀ b u, b ≠ e → h.get? b = some u → h'.get? b = some u) (heo : ∃ u, h'.get? e = some u) : Un fs ex H (upd H x o) h h' := by
  have hx : ∀ b, H b = none → b ≠ x := fun b n z => by subst z; rw [n] at mu; exact mu
  have hb : ∀ b, H b = none → b ≠ e := fun b n z => by
    subst z
    rcases he with r | r
    · exact hx b n r
    · rw [n] at r; cases r
  have hm : ∀ b u, H b = some u → ¬ Mut (some u) → b ≠ x := fun b u q nm z => by subst z; rw [q] at mu; exact nm mu
  refine ⟨fun b u q n _ _ => k b u (hb b n) q, fun b u q n _ _ => ⟨u.slots, k b u (hb b n) q⟩, fun b u q n _ => by rw [upd_ne (hx b n)]; exact n, fun b u q _ => ?_,
    fun b xs q => by rw [upd_ne (hm b _ q fun z => z)]; exact q, fun b u xs q => by rw [upd_ne (hm b _ q fun z => z)]; exact q, fun b ps q => ⟨#[], by rw [upd_ne (hm b _ q fun z => z), q]; simp⟩⟩
  by_cases hbe : b = e
  · subst hbe; exact heo
  · exact ⟨u, k b u hbe q⟩
theorem Un.mono (u : Un fs ex H H1 h h1) (hs : ∀ b ∈ fs, b ∈ fs') (hx : ∀ b ∈ ex, b ∈ ex') : Un fs' ex' H H1 h h1 :=
  ⟨fun b ob q n hb he => u.keep b ob q n (fun z => hb (hs b z)) fun z => he (hx b z), fun _ _ q n _ he => u.any q n fun z => he (hx _ z), fun b ob q n he => u.free b ob q n fun z => he (hx b z), fun b ob q he => u.there b ob q fun z => he (hx b z), u.tups, u.frzs, u.tbls⟩
end

/-! ### the heap without what is tracked -/
def trk (h : Heap) (H : Hp) : List Addr := (List.range h.objs.size).filter fun a => (H a).isSome
def hidT (h : Heap) (H : Hp) : Heap := PySem.W.hideAll h (trk h H)
theorem hidT_size (h : Heap) (H : Hp) : (hidT h H).objs.size = h.objs.size := PySem.W.hideAll_size _ _
theorem hidT_get {h : Heap} {H : Hp} {b : Addr} {o : Obj} (e : h.get? b = some o) (n : H b = none) : (hidT h H).get? b = some o :=
  PySem.W.hideAll_get _ e fun hm => by
    have q : (H b).isSome = true := (List.mem_filter.mp hm).2
    rw [n] at q; simp at q
theorem of_hidT {h : Heap} {H : Hp} {b : Addr} {o : Obj} (e : (hidT h H).get? b = some o) : h.get? b = some o ∧ H b = none := by
  have e' : h.get? b = some o := PySem.W.of_hideAll (trk h H) e
  refine ⟨e', ?_⟩
  cases q : H b with
  | none => rfl
  | some x =>
    have hm : b ∈ trk h H := List.mem_filter.mpr ⟨List.mem_range.mpr (Heap.lt_size e'), by simp [q]⟩
    have z : (hidT h H).get? b = none := PySem.W.hideAll_none (trk h H) hm
    rw [z] at e; cases e

/-! ### OpenK's ledger, filled with every new object but one -/
def allNews (g h : Heap) (L : Addr) : List (Addr × Obj) := (List.range h.objs.size).filterMap fun a => if a = L ∨ (g.get? a).isSome = true then none else (h.get? a).map fun o => (a, o)
def rest (g h : Heap) (L d : Addr) : List (Addr × Obj) := (allNews g h L).filter fun p => decide (p.1 ≠ d)
end L2

namespace L2
open PySem PySem.Spec PyProof.Rows

/-- the module's facts, over the base: the heap at the law's entry without what is tracked there -/
structure Mod (K : PySem.W.Frag) (mg : Str → Option Value) (base : Heap) : Prop where
  kin : K.In base
  glob : base.Ns mainGlobals mg
  blt : ∃ mb, base.Ns builtinsNs mb ∧ ∀ x : Str, x ≠ "__name__" → mb x = bootBuiltins x
  nolimit : base.NoLimit

/-- the context: a def's body (or a comprehension's block) running. base: fixed through the whole law; s₀, H₀: the entry; outer: the frames whose slots others may change (a def's callers); stack: all frames that run;
   ex: iterators that were made ahead of the entry and are walked here (a comprehension's); fn: the names whose cells were made at the entry (a def: all; a comprehension's block: its own); calm: not within an except suite; pn: pins that every state bears; xe: what is wanted of an exception that leaves the code -/
structure Cx where
  prog : Program
  w : World
  K : PySem.W.Frag
  mg : Str → Option Value
  base : Heap
  A : Around
  N : List Str
  s₀ : Shared
  H₀ : Hp
  env : Env
  outer : List Env
  stack : List Env
  ex : List Addr
  fn : Str → Bool
  calm : Bool
  pn : List (Addr × Obj)
  xe : Value → Shared → Prop
/-- the callers' frames -/
def frs (l : List Env) : List Addr := l.filterMap (·.frame)
abbrev Cx.fs (X : Cx) : List Addr := frs X.outer

def Vis (sc : Scope) (x : Str) : Prop := sc.names.lookup x = some .local ∨ sc.names.lookup x = some .cell ∨ sc.names.lookup x = some .free
def Loc (sc : Scope) (x : Str) : Prop := sc.names.lookup x = some .local ∨ sc.names.lookup x = some .cell
def Look (env : Env) (h : Heap) (m : Str → Option Value) (x : Str) (u : Value) : Prop :=
  (env.kindOf x = some .local ∧ m x = some u) ∨ ((env.kindOf x = some .cell ∨ env.kindOf x = some .free) ∧ ∃ c, env.cells.lookup x = some c ∧ h.IsCell c (some u))

structure Cx.Ok (X : Cx) : Prop where
  mod : Mod X.K X.mg X.base
  kind : X.env.scope.kind = .function
  glob : X.env.globals = mainGlobals
  blt : X.env.builtins = builtinsNs
  above : X.s₀.heap.objs.size ≤ X.env.locals
  inj : ∀ x y c, X.env.cells.lookup x = some c → X.env.cells.lookup y = some c → x = y
  has : ∀ x, (X.env.kindOf x = some .cell ∨ X.env.kindOf x = some .free) → ∃ c, X.env.cells.lookup x = some c
  cab : ∀ x c, X.fn x = true → X.env.cells.lookup x = some c → X.s₀.heap.objs.size ≤ c
  hd : X.calm = true → X.A.handled = none
  frames : X.A.frames = some X.stack
  stk : X.stack = X.outer ∨ (X.stack = X.env :: X.outer ∧ X.env.frame = some X.env.locals)
  exf : ∀ b ∈ X.ex, b ≠ X.env.locals ∧ ∀ x c, X.env.cells.lookup x = some c → c ≠ b
  bs : ∀ b o, X.base.get? b = some o → X.s₀.heap.get? b = some o ∧ X.H₀ b = none
  bsz : X.base.objs.size ≤ X.s₀.heap.objs.size
  noex : ∀ b o, X.base.get? b = some o → b ∉ X.ex
  exfs : ∀ b ∈ X.ex, b ∉ X.fs
  funs : X.s₀.heap.FunFrames X.base X.outer
  frf : ∀ b ∈ X.fs, X.H₀ b = none

structure Inv (X : Cx) (pins : List (Addr × Obj)) (σ : List (Option V)) (H : Hp) (s : Shared) : Prop where
  ok : X.Ok
  os : s.os = X.s₀.os
  bare : AllBare s.gens
  base : Un X.fs X.ex X.H₀ H X.s₀.heap s.heap
  loc : ∃ m, s.heap.Ns X.env.locals m ∧ ∀ (i : Nat) (x : Str) (v : V), X.N[i]? = some x → σ[i]? = some (some v) → Vis X.env.scope x → ∃ u, RelV v u ∧ Look X.env s.heap m x u
  cell : ∀ x c, X.env.cells.lookup x = some c → ∃ v, s.heap.IsCell c v
  free : H X.env.locals = none
  freeC : ∀ x c, X.env.cells.lookup x = some c → H c = none
  pin : ∀ p ∈ X.pn ++ pins, s.heap.get? p.1 = some p.2 ∧ H p.1 = none ∧ p.1 ≠ X.env.locals ∧ p.1 ∉ X.fs ∧ ∀ v, p.2.data ≠ .cell v
  hok : HOk X.prog X.w H s.heap
  len : σ.length = X.N.length

section
variable {X : Cx} {pins : List (Addr × Obj)} {σ : List (Option V)} {H H' : Hp} {s : Shared} {h' : Heap}

theorem Cx.Ok.nofr (ok : X.Ok) {b : Addr} {o : Obj} (e : X.base.get? b = some o) : b ∉ X.fs := fun hb => by
  have := (ok.funs.mem hb).1
  rw [e] at this; cases this
theorem Inv.bs (I : Inv X pins σ H s) : ∀ b o, X.base.get? b = some o → s.heap.get? b = some o ∧ H b = none := fun b o e =>
  ⟨I.base.keep b o (I.ok.bs b o e).1 (I.ok.bs b o e).2 (I.ok.nofr e) (I.ok.noex b o e), I.base.free b o (I.ok.bs b o e).1 (I.ok.bs b o e).2 (I.ok.noex b o e)⟩
theorem Inv.bk (I : Inv X pins σ H s) : ∀ b o, X.base.get? b = some o → s.heap.get? b = some o := fun b o e => (I.bs b o e).1
theorem Inv.mod (I : Inv X pins σ H s) : Mod X.K X.mg X.base := I.ok.mod
theorem Inv.kIn (I : Inv X pins σ H s) : X.K.In s.heap := I.ok.mod.kin.keeps I.bk
theorem Inv.nolimit (I : Inv X pins σ H s) : s.heap.NoLimit := I.ok.mod.nolimit.keeps I.bk
/-- the frame over the base: for OpenK's rules (K.In X.base is I.mod.kin) -/
theorem Inv.fr (I : Inv X pins σ H s) : ∃ m, Fr X.base X.env.locals s.heap m :=
  let ⟨m, hn, _⟩ := I.loc
  ⟨m, hn, I.bk, Nat.le_trans I.ok.bsz I.ok.above⟩
theorem Inv.lt (I : Inv X pins σ H s) : X.env.locals < s.heap.objs.size := let ⟨_, hn, _⟩ := I.loc; hn.lt
theorem Inv.sz (I : Inv X pins σ H s) : X.s₀.heap.objs.size ≤ s.heap.objs.size := Nat.le_trans I.ok.above (Nat.le_of_lt I.lt)
theorem Inv.nofs (I : Inv X pins σ H s) {a : Addr} (h : s.heap.objs.size ≤ a) : a ∉ X.fs := fun hb => by
  obtain ⟨_, o, ho, _⟩ := I.ok.funs.mem hb
  exact absurd (Nat.lt_of_lt_of_le (Heap.lt_size ho) (Nat.le_trans I.sz h)) (Nat.lt_irrefl _)
theorem Inv.cne (I : Inv X pins σ H s) : ∀ x c, X.env.cells.lookup x = some c → c ≠ X.env.locals := fun x c e z => by
  obtain ⟨v, o, ho, hd⟩ := I.cell x c e
  obtain ⟨m, ⟨o', es, ep, ho', hd', _⟩, _⟩ := I.loc
  rw [z, ho'] at ho; cases ho; rw [hd'] at hd; cases hd
theorem Inv.funs (I : Inv X pins σ H s) : s.heap.FunFrames X.base X.outer := by
  have all : ∀ (l : List Env), (∀ b ∈ frs l, b ∈ X.fs) → X.s₀.heap.FunFrames X.base l → s.heap.FunFrames X.base l := by
    intro l
    induction l with
    | nil => intro _ _; trivial
    | cons env r ih =>
      intro hs hl
      obtain ⟨hk, ⟨L, o, hf, hn, ho, hd⟩, hr⟩ := hl
      have hL : L ∈ X.fs := hs L (by unfold frs; rw [List.filterMap_cons, hf]; exact List.mem_cons_self)
      obtain ⟨sl, e⟩ := I.base.slot L o ho (I.ok.frf L hL) hL fun z => I.ok.exfs L z hL
      exact ⟨hk, ⟨L, _, hf, hn, e, hd⟩, ih (fun b hb => hs b (by unfold frs; rw [List.filterMap_cons, hf]; exact List.mem_cons_of_mem _ hb)) hr⟩
  exact all X.outer (fun _ hb => hb) I.ok.funs

/-- the frames that run, for a call -/
theorem Inv.stack (I : Inv X pins σ H s) : s.heap.FunFrames X.base X.stack := by
  rcases I.ok.stk with e | ⟨e, hf⟩
  · rw [e]; exact I.funs
  · rw [e]
    obtain ⟨m, hn, _⟩ := I.loc
    refine .cons (by rw [I.ok.kind]; decide) hf hn ?_ I.funs
    exact Heap.get?_none_of_le (Nat.le_trans I.ok.bsz I.ok.above)
theorem Inv.stkSub (I : Inv X pins σ H s) : ∀ b ∈ frs X.stack, b ∈ X.env.locals :: X.fs := fun b hb => by
  rcases I.ok.stk with e | ⟨e, hf⟩
  · rw [e] at hb; exact List.mem_cons_of_mem _ hb
  · rw [e] at hb
    unfold frs at hb
    rw [List.filterMap_cons, hf] at hb
    exact hb
theorem Inv.stkFree (I : Inv X pins σ H s) : ∀ b ∈ frs X.stack, H b = none := fun b hb => by
  rcases List.mem_cons.mp (I.stkSub b hb) with e | hb
  · rw [e]; exact I.free
  · obtain ⟨_, o, ho, _⟩ := I.ok.funs.mem hb
    exact I.base.free b o ho (I.ok.frf b hb) fun z => I.ok.exfs b z hb

/-- THE STEP: the untracked objects but the frame and the records at ch are kept (the callers' frames up to slots), the frame's map is kept, the new abstract heap is held -/
theorem Inv.step {g' : Array GenState} {t' : Nat} {d' : Drawn} {ch : List Addr} (I : Inv X pins σ H s)
    (hch : ∀ b ∈ ch, (b ∈ X.ex ∨ X.s₀.heap.objs.size ≤ b) ∧ b ≠ X.env.locals ∧ (∀ x c, X.env.cells.lookup x = some c → c ≠ b) ∧ ∀ p ∈ X.pn ++ pins, p.1 ≠ b)
    (keep : ∀ b o, b ≠ X.env.locals → b ∉ X.fs → b ∉ ch → s.heap.get? b = some o → H b = none → h'.get? b = some o)
    (slot : ∀ b o, b ≠ X.env.locals → b ∈ X.fs → b ∉ ch → s.heap.get? b = some o → H b = none → ∃ sl, h'.get? b = some { o with slots := sl }) (free : ∀ b o, b ∉ ch → s.heap.get? b = some o → H b = none → H' b = none)
    (there : ∀ b o, b ∉ ch → s.heap.get? b = some o → ∃ o', h'.get? b = some o')
    (tups : ∀ b xs, H b = some (.tup xs) → H' b = some (.tup xs)) (frzs : ∀ b o u, H b = some (.frz o u) → H' b = some (.frz o u)) (tbls : ∀ b ps, H b = some (.tbl ps) → ∃ more, H' b = some (.tbl (ps ++ more)))
    (ns : ∀ m, s.heap.Ns X.env.locals m → h'.Ns X.env.locals m) (hok : HOk X.prog X.w H' h') (hg : AllBare g') :
    Inv X pins σ H' { s with heap := h', gens := g', drawn := d', toks := t' } := by
  have neL : ∀ b o, X.s₀.heap.get? b = some o → b ≠ X.env.locals := fun b o e => Nat.ne_of_lt (Nat.lt_of_lt_of_le (Heap.lt_size e) I.ok.above)
  have neC : ∀ b o, X.s₀.heap.get? b = some o → b ∉ X.ex → b ∉ ch := fun b o e hx hb => by
    rcases (hch b hb).1 with z | z
    · exact hx z
    · exact absurd (Nat.lt_of_lt_of_le (Heap.lt_size e) z) (Nat.lt_irrefl _)
  have cellK : ∀ x c, X.env.cells.lookup x = some c → ∀ v, s.heap.IsCell c v → h'.IsCell c v := fun x c e v ⟨o, ho, hd⟩ => by
    have nch : c ∉ ch := fun z => (hch c z).2.2.1 x c e rfl
    by_cases hc : c ∈ X.fs
    · obtain ⟨sl, q⟩ := slot c o (I.cne x c e) hc nch ho (I.freeC x c e)
      exact ⟨_, q, hd⟩
    · exact ⟨o, keep c o (I.cne x c e) hc nch ho (I.freeC x c e), hd⟩
  refine ⟨I.ok, I.os, hg, ⟨fun b o e n hb hx => ?_, fun b o e n hb hx => ?_, fun b o e n hx => ?_, fun b o e hx => ?_, fun b xs e => tups b xs (I.base.tups b xs e), fun b o xs e => frzs b o xs (I.base.frzs b o xs e), fun b ps e => ?_⟩, ?_, fun x c e => ?_, ?_, fun x c e => ?_, fun p hp => ?_, hok, I.len⟩
  · exact keep b o (neL b o e) hb (neC b o e hx) (I.base.keep b o e n hb hx) (I.base.free b o e n hx)
  · obtain ⟨sl, e1⟩ := I.base.slot b o e n hb hx
    obtain ⟨sl', e2⟩ := slot b _ (neL b o e) hb (neC b o e hx) e1 (I.base.free b o e n hx)
    exact ⟨sl', e2⟩
  · obtain ⟨o', e1⟩ := I.base.there b o e hx
    exact free b o' (neC b o e hx) e1 (I.base.free b o e n hx)
  · obtain ⟨o', e1⟩ := I.base.there b o e hx
    exact there b o' (neC b o e hx) e1
  · obtain ⟨m1, e1⟩ := I.base.tbls b ps e
    obtain ⟨m2, e2⟩ := tbls b _ e1
    exact ⟨m1 ++ m2, by rw [e2, Array.append_assoc]⟩
  · obtain ⟨m, hn, hl⟩ := I.loc
    refine ⟨m, ns m hn, fun i x v e1 e2 e3 => ?_⟩
    obtain ⟨u, r, l⟩ := hl i x v e1 e2 e3
    refine ⟨u, r, ?_⟩
    rcases l with l | ⟨k, c, e, z⟩
    · exact .inl l
    · exact .inr ⟨k, c, e, cellK x c e _ z⟩
  · obtain ⟨v, z⟩ := I.cell x c e
    exact ⟨v, cellK x c e v z⟩
  · obtain ⟨m, ⟨o, _, _, ho, _⟩, _⟩ := I.loc
    exact free _ o (fun z => (hch _ z).2.1 rfl) ho I.free
  · obtain ⟨v, o, ho, hd⟩ := I.cell x c e
    exact free c o (fun z => (hch c z).2.2.1 x c e rfl) ho (I.freeC x c e)
  · obtain ⟨e, n, ne, nf, d⟩ := I.pin p hp
    have nch : p.1 ∉ ch := fun z => (hch p.1 z).2.2.2 p hp rfl
    exact ⟨keep p.1 p.2 ne nf nch e n, free p.1 p.2 nch e n, ne, nf, d⟩
/-- .. where the frame's own object is kept too -/
theorem Inv.un {t' : Nat} (I : Inv X pins σ H s) (u : Un X.fs [] H H' s.heap h') (hok : HOk X.prog X.w H' h') : Inv X pins σ H' { s with heap := h', toks := t' } := by
  obtain ⟨m, ⟨o, es, ep, ho, r⟩, _⟩ := id I.loc
  obtain ⟨sl, hL⟩ := u.any ho I.free (by simp)
  exact I.step (g' := s.gens) (d' := s.drawn) (ch := []) (fun _ z => nomatch z) (fun b o _ hb _ e n => u.keep b o e n hb (by simp)) (fun b o _ hb _ e n => u.slot b o e n hb (by simp)) (fun b o _ e n => u.free b o e n (by simp)) (fun b o _ e => u.there b o e (by simp)) u.tups u.frzs u.tbls (fun m' hm => by
    obtain ⟨o', es', ep', ho', r'⟩ := hm
    rw [ho] at ho'; cases ho'
    exact ⟨_, es', ep', hL, r'⟩) hok I.bare
/-- behind a call (or a comprehension's block): the slots of this frame may have changed too, the records at ch may have turned -/
theorem Inv.call {g' : Array GenState} {t' : Nat} {d' : Drawn} {ch : List Addr} (I : Inv X pins σ H s) (u : Un (frs X.stack) ch H H' s.heap h') (hok : HOk X.prog X.w H' h') (hg : AllBare g')
    (hch : ∀ b ∈ ch, (b ∈ X.ex ∨ X.s₀.heap.objs.size ≤ b) ∧ b ≠ X.env.locals ∧ (∀ x c, X.env.cells.lookup x = some c → c ≠ b) ∧ ∀ p ∈ X.pn ++ pins, p.1 ≠ b) :
    Inv X pins σ H' { s with heap := h', gens := g', drawn := d', toks := t' } := by
  obtain ⟨m, ⟨o, es, ep, ho, r⟩, _⟩ := id I.loc
  obtain ⟨sl, hL⟩ := u.any ho I.free fun z => (hch _ z).2.1 rfl
  exact I.step (ch := ch) hch (fun b o hL hb hc e n => u.keep b o e n (fun z => (List.mem_cons.mp (I.stkSub b z)).elim hL hb) hc) (fun b o _ _ hc e n => u.any e n hc) (fun b o hc e n => u.free b o e n hc) (fun b o hc e => u.there b o e hc) u.tups u.frzs u.tbls (fun m' hm => by
    obtain ⟨o', es', ep', ho', r'⟩ := hm
    rw [ho] at ho'; cases ho'
    exact ⟨_, es', ep', hL, r'⟩) hok hg
/-- an untracked record of ours (an iterator) has turned -/
theorem Inv.turned {t' : Nat} {it : Addr} (I : Inv X pins σ H s) (k : ∀ b o, b ≠ it → s.heap.get? b = some o → h'.get? b = some o) (hn : H it = none) (hL : it ≠ X.env.locals)
    (h1 : it ∈ X.ex ∨ X.s₀.heap.objs.size ≤ it) (h2 : ∀ x c, X.env.cells.lookup x = some c → c ≠ it) (h3 : ∀ p ∈ X.pn ++ pins, p.1 ≠ it) : Inv X pins σ H { s with heap := h', toks := t' } := by
  have nit : ∀ b u, H b = some u → b ≠ it := fun b u e z => by rw [z, hn] at e; cases e
  refine I.step (g' := s.gens) (d' := s.drawn) (ch := [it]) (fun b hb => ?_) (fun b o _ _ hc e _ => k b o (fun z => hc (by simp [z])) e) (fun b o _ _ hc e _ => ⟨o.slots, k b o (fun z => hc (by simp [z])) e⟩) (fun _ _ _ _ n => n)
    (fun b o hc e => ⟨o, k b o (fun z => hc (by simp [z])) e⟩) (fun _ _ e => e) (fun _ _ _ e => e) (fun b ps e => ⟨#[], by rw [e]; simp⟩) (fun m hm => ?_) (fun b u e => ?_) I.bare
  · have e : b = it := by simpa using hb
    subst e
    exact ⟨h1, hL, h2, h3⟩
  · obtain ⟨o, es, ep, ho, r⟩ := hm
    exact ⟨o, es, ep, k _ o (Ne.symm hL) ho, r⟩
  · refine (I.hok b u e).stay (fun c v hc q => k c v ?_ q) (fun _ q => q) fun _ _ q => q
    rcases hc with z | z
    · rw [z]; exact nit b u e
    · exact nit c _ z
theorem Inv.tok (I : Inv X pins σ H s) (t : Nat) : Inv X pins σ H { s with toks := t } := I.un (h' := s.heap) (t' := t) Un.refl I.hok
/-- all objects kept -/
theorem Inv.kept {t' : Nat} (I : Inv X pins σ H s) (k : ∀ b u, s.heap.get? b = some u → h'.get? b = some u) : Inv X pins σ H { s with heap := h', toks := t' } := I.un (Un.kept k) (I.hok.kept k)
/-- a new object laid and tracked -/
theorem Inv.laid {a : Addr} {o : HO} {t' : Nat} (I : Inv X pins σ H s) (k : ∀ b u, s.heap.get? b = some u → h'.get? b = some u) (hp : s.heap.objs.size ≤ a) (new : ObjOk X.prog X.w (upd H a o) h' a o) :
    Inv X pins σ (upd H a o) { s with heap := h', toks := t' } := I.un (Un.laid k hp (I.hok.fresh hp)) (I.hok.laid k hp new)
/-- an object written -/
theorem Inv.write {x e : Addr} {o : HO} {t' : Nat} (I : Inv X pins σ H s) (mu : Mut (H x)) (he : e = x ∨ H e = some (.own x)) (k : ∀ b u, b ≠ e → s.heap.get? b = some u → h'.get? b = some u) (heo : ∃ u, h'.get? e = some u)
    (new : ObjOk X.prog X.w (upd H x o) h' x o) : Inv X pins σ (upd H x o) { s with heap := h', toks := t' } := I.un (Un.write mu he k heo) (I.hok.write mu he k heo new)
theorem Inv.pins_of {pins' : List (Addr × Obj)} (I : Inv X pins σ H s) (h : ∀ p ∈ pins', s.heap.get? p.1 = some p.2 ∧ H p.1 = none ∧ p.1 ≠ X.env.locals ∧ p.1 ∉ X.fs ∧ ∀ v, p.2.data ≠ .cell v) : Inv X pins' σ H s :=
  ⟨I.ok, I.os, I.bare, I.base, I.loc, I.cell, I.free, I.freeC, fun p hp => (List.mem_append.mp hp).elim (fun z => I.pin p (List.mem_append_left _ z)) (h p), I.hok, I.len⟩

theorem nodup_ix {N : List Str} (hN : N.Nodup) {i j : Nat} {x : Str} (a : N[i]? = some x) (b : N[j]? = some x) : i = j := by
  obtain ⟨h1, e1⟩ := List.getElem?_eq_some_iff.mp a
  obtain ⟨h2, e2⟩ := List.getElem?_eq_some_iff.mp b
  exact (List.getElem_inj hN).mp (e1.trans e2.symm)

/-- a name is stored; what changed -/
theorem store_ok2 {M : Model} {A : Around} {E : Value → Shared → Prop} {i : Nat} {x : Str} {v : V} {u : Value} {Q : Unit → Shared → Prop} (I : Inv X pins σ H s) (hN : X.N.Nodup) (hi : X.N[i]? = some x) (hx : Loc X.env.scope x) (r : RelV v u)
    (h : ∀ s', Inv X pins (σ.set i (some v)) H s' → (∃ a, Heap.SameBut a s.heap s'.heap ∧ (a = X.env.locals ∨ X.env.cells.lookup x = some a)) → Q () s') (hf : X.fn x = true ∨ X.env.scope.names.lookup x = some .local := by first | exact .inl rfl | exact .inr rfl | assumption) : wpAny M A (storeName X.env x u) Q E s := by
  obtain ⟨m, hn, hl⟩ := id I.loc
  have hcls : (X.env.scope.kind == .class || (X.env.scope.kind == .module && X.env.locals != X.env.globals)) = false := by rw [I.ok.kind]; rfl
  have hiσ : i < σ.length := by rw [I.len]; exact (List.getElem?_eq_some_iff.mp hi).1
  have cne := I.cne
  have tracked : ∀ {a : Addr} {h' : Heap}, (∃ o, s.heap.get? a = some o ∧ H a = none) → Heap.SameBut a s.heap h' → HOk X.prog X.w H h' := fun {a h'} ha hs b ob e => by
    obtain ⟨_, _, hfree⟩ := ha
    refine (I.hok b ob e).stay (fun c w' hc q => (hs.2 c ?_).trans q) (fun _ q => q) fun _ _ q => q
    rintro rfl
    rcases hc with rfl | hc
    · rw [hfree] at e; cases e
    · rw [hfree] at hc; cases hc
  rcases hx with hk | hk
  · refine wpAny_storeName_local hk hn (fun h' hn' hs => ?_) hcls
    obtain ⟨oL, _, _, hoL, _⟩ := id hn
    refine h _ ⟨I.ok, I.os, I.bare, ⟨fun b o e n hb hx => ?_, fun b o e n hb hx => ?_, I.base.free, fun b o e hx => ?_, I.base.tups, I.base.frzs, I.base.tbls⟩, ⟨_, hn', fun j y v' e1 e2 e3 => ?_⟩, fun y c e => ?_, I.free, I.freeC, fun p hp => ?_, tracked ⟨oL, hoL, I.free⟩ hs, by simpa using I.len⟩ ⟨_, hs, .inl rfl⟩
    · exact (hs.2 b (Nat.ne_of_lt (Nat.lt_of_lt_of_le (Heap.lt_size e) I.ok.above))).trans (I.base.keep b o e n hb hx)
    · obtain ⟨sl, e1⟩ := I.base.slot b o e n hb hx
      exact ⟨sl, (hs.2 b (Nat.ne_of_lt (Nat.lt_of_lt_of_le (Heap.lt_size e) I.ok.above))).trans e1⟩
    · obtain ⟨o', e1⟩ := I.base.there b o e hx
      exact ⟨o', (hs.2 b (Nat.ne_of_lt (Nat.lt_of_lt_of_le (Heap.lt_size e) I.ok.above))).trans e1⟩
    · by_cases hj : j = i
      · subst hj
        rw [hi] at e1; cases e1
        rw [List.getElem?_set_self hiσ] at e2
        cases e2
        exact ⟨u, r, .inl ⟨hk, by simp⟩⟩
      · rw [List.getElem?_set_ne (Ne.symm hj)] at e2
        obtain ⟨u', r', q⟩ := hl j y v' e1 e2 e3
        refine ⟨u', r', ?_⟩
        rcases q with ⟨k, e⟩ | ⟨k, c, e, z⟩
        · refine .inl ⟨k, ?_⟩
          have : y ≠ x := fun e => hj (nodup_ix hN e1 (e ▸ hi))
          simp [this, e]
        · exact .inr ⟨k, c, e, z.sameBut hs (cne y c e)⟩
    · obtain ⟨w', z⟩ := I.cell y c e
      exact ⟨w', z.sameBut hs (cne y c e)⟩
    · obtain ⟨e, n, ne, nf, d⟩ := I.pin p hp
      exact ⟨(hs.2 p.1 ne).trans e, n, ne, nf, d⟩
  · have hfn : X.fn x = true := by
      rcases hf with z | z
      · exact z
      · rw [z] at hk; cases hk
    obtain ⟨c, hc⟩ := I.ok.has x (.inl hk)
    obtain ⟨w', z⟩ := I.cell x c hc
    refine wpAny_storeName_cell I.ok.kind hk hc z (fun h' hc' hs => ?_)
    obtain ⟨oc, hoc, hocd⟩ := id z
    refine h { s with heap := h' } ⟨I.ok, I.os, I.bare, ⟨fun b o e n hb hx => ?_, fun b o e n hb hx => ?_, I.base.free, fun b o e hx => ?_, I.base.tups, I.base.frzs, I.base.tbls⟩, ⟨m, hn.sameBut hs (Ne.symm (cne x c hc)), fun j y v' e1 e2 e3 => ?_⟩, fun y c' e => ?_, I.free, I.freeC, fun p hp => ?_, tracked ⟨oc, hoc, I.freeC x c hc⟩ hs, by simpa using I.len⟩ ⟨c, hs, .inr hc⟩
    · exact (hs.2 b (Nat.ne_of_lt (Nat.lt_of_lt_of_le (Heap.lt_size e) (I.ok.cab x c hfn hc)))).trans (I.base.keep b o e n hb hx)
    · obtain ⟨sl, e1⟩ := I.base.slot b o e n hb hx
      exact ⟨sl, (hs.2 b (Nat.ne_of_lt (Nat.lt_of_lt_of_le (Heap.lt_size e) (I.ok.cab x c hfn hc)))).trans e1⟩
    · obtain ⟨o', e1⟩ := I.base.there b o e hx
      exact ⟨o', (hs.2 b (Nat.ne_of_lt (Nat.lt_of_lt_of_le (Heap.lt_size e) (I.ok.cab x c hfn hc)))).trans e1⟩
    · by_cases hj : j = i
      · subst hj
        rw [hi] at e1; cases e1
        rw [List.getElem?_set_self hiσ] at e2
        cases e2
        exact ⟨u, r, .inr ⟨.inl hk, c, hc, hc'⟩⟩
      · rw [List.getElem?_set_ne (Ne.symm hj)] at e2
        obtain ⟨u', r', q⟩ := hl j y v' e1 e2 e3
        refine ⟨u', r', ?_⟩
        rcases q with q | ⟨k, c', e, z'⟩
        · exact .inl q
        · refine .inr ⟨k, c', e, z'.sameBut hs ?_⟩
          rintro rfl
          exact hj (nodup_ix hN e1 (I.ok.inj _ _ _ e hc ▸ hi))
    · by_cases hcc : c' = c
      · subst hcc; exact ⟨_, hc'⟩
      · obtain ⟨w2, z2⟩ := I.cell y c' e
        exact ⟨w2, z2.sameBut hs hcc⟩
    · obtain ⟨e, n, ne, nf, d⟩ := I.pin p hp
      refine ⟨(hs.2 p.1 ?_).trans e, n, ne, nf, d⟩
      intro q
      rw [q, hoc] at e
      have q' : oc = p.2 := Option.some.inj e
      exact d w' (by rw [← q']; exact hocd)
theorem store_ok {M : Model} {A : Around} {E : Value → Shared → Prop} {i : Nat} {x : Str} {v : V} {u : Value} {Q : Unit → Shared → Prop} (I : Inv X pins σ H s) (hN : X.N.Nodup) (hi : X.N[i]? = some x) (hx : Loc X.env.scope x) (r : RelV v u)
    (h : ∀ s', Inv X pins (σ.set i (some v)) H s' → Q () s') (hf : X.fn x = true ∨ X.env.scope.names.lookup x = some .local := by first | exact .inl rfl | exact .inr rfl | assumption) : wpAny M A (storeName X.env x u) Q E s :=
  store_ok2 I hN hi hx r (fun s' I' _ => h s' I') hf
/-- behind a call or a block, the state as it is -/
theorem Inv.call' {s' : Shared} {ch : List Addr} (I : Inv X pins σ H s) (ho : s'.os = s.os) (u : Un (frs X.stack) ch H H' s.heap s'.heap) (hok : HOk X.prog X.w H' s'.heap) (hg : AllBare s'.gens)
    (hch : ∀ b ∈ ch, (b ∈ X.ex ∨ X.s₀.heap.objs.size ≤ b) ∧ b ≠ X.env.locals ∧ (∀ x c, X.env.cells.lookup x = some c → c ≠ b) ∧ ∀ p ∈ X.pn ++ pins, p.1 ≠ b) : Inv X pins σ H' s' := by
  obtain ⟨h', g', d', t', o'⟩ := s'
  have e : o' = s.os := ho
  subst e
  exact I.call (g' := g') (t' := t') (d' := d') u hok hg hch
end

/-! ### the judgements -/
/-- an exception: its class, its own dict's address (where it has one), the abstract heap behind it -/
abbrev XK := Value → Option Addr → Hp → Prop
abbrev St := List (Option V)
abbrev VK := V → Hp → Prop
/-- an expression's reading; a test's; an argument list's -/
abbrev TE := St → Hp → VK → Prop
abbrev TT := St → Hp → (Bool → Hp → Prop) → Prop
abbrev TA := St → Hp → (List V → Hp → Prop) → Prop
/-- what is wanted behind a statement -/
structure Ends where
  nx : St → Hp → Prop
  rt : VK
  bk : St → Hp → Prop := fun _ _ => False
  ct : St → Hp → Prop := fun _ _ => False
abbrev TS := Ends → St → Hp → Prop

def EP (X : Cx) (pins : List (Addr × Obj)) (σ : St) (Q : VK) (u : Value) (s' : Shared) : Prop := ∃ v H', Inv X pins σ H' s' ∧ RelV v u ∧ Q v H'
def TP (X : Cx) (pins : List (Addr × Obj)) (σ : St) (Q : Bool → Hp → Prop) (b : Bool) (s' : Shared) : Prop := ∃ H', Inv X pins σ H' s' ∧ Q b H'
def AP (X : Cx) (pins : List (Addr × Obj)) (σ : St) (Q : List V → Hp → Prop) (us : List Value) (s' : Shared) : Prop := ∃ vs H', Inv X pins σ H' s' ∧ Vals vs us ∧ Q vs H'
def SP (X : Cx) (pins : List (Addr × Obj)) (D : Ends) (f : Flow) (s' : Shared) : Prop :=
  match f with
  | .next => ∃ σ' H', Inv X pins σ' H' s' ∧ D.nx σ' H'
  | .brk => ∃ σ' H', Inv X pins σ' H' s' ∧ D.bk σ' H'
  | .cont => ∃ σ' H', Inv X pins σ' H' s' ∧ D.ct σ' H'
  | .ret u => ∃ v σ' H', Inv X pins σ' H' s' ∧ RelV v u ∧ D.rt v H'

def PE (X : Cx) (e : Expr) (t : TE) : Prop :=
  ∀ (pins : List (Addr × Obj)) (s : Shared) (σ : St) (H : Hp) (Q : VK), Inv X pins σ H s → t σ H Q → wpAny (model X.prog X.w) X.A (eval e X.env) (EP X pins σ Q) X.xe s
def PT (X : Cx) (e : Expr) (t : TT) : Prop :=
  ∀ (pins : List (Addr × Obj)) (s : Shared) (σ : St) (H : Hp) (Q : Bool → Hp → Prop), Inv X pins σ H s → t σ H Q → wpAny (model X.prog X.w) X.A (isTrue e X.env (eval e X.env)) (TP X pins σ Q) X.xe s
/-- a test whatever its 'whole' is (and, or) -/
def PW (X : Cx) (e : Expr) (t : TT) : Prop :=
  ∀ (whole : Sem Value) (pins : List (Addr × Obj)) (s : Shared) (σ : St) (H : Hp) (Q : Bool → Hp → Prop), Inv X pins σ H s → t σ H Q → wpAny (model X.prog X.w) X.A (isTrue e X.env whole) (TP X pins σ Q) X.xe s
theorem PW.pt {X : Cx} {e : Expr} {t : TT} (h : PW X e t) : PT X e t := h _
/-- an argument list (no star), from the left -/
def PA (X : Cx) (es : List Expr) (t : TA) : Prop :=
  ∀ (pos : Pos) (pins : List (Addr × Obj)) (s : Shared) (σ : St) (H : Hp) (Q : List V → Hp → Prop), Inv X pins σ H s → t σ H Q → wpAny (model X.prog X.w) X.A (spliced (backTo pos (starEach es X.env))) (AP X pins σ Q) X.xe s
def PS (X : Cx) (st : Stmt) (t : TS) : Prop :=
  ∀ (pins : List (Addr × Obj)) (s : Shared) (σ : St) (H : Hp) (D : Ends), Inv X pins σ H s → t D σ H → wpAny (model X.prog X.w) X.A (exec st X.env) (SP X pins D) X.xe s
def PSs (X : Cx) (st : List Stmt) (t : TS) : Prop :=
  ∀ (pins : List (Addr × Obj)) (s : Shared) (σ : St) (H : Hp) (D : Ends), Inv X pins σ H s → t D σ H → wpAny (model X.prog X.w) X.A (execs st X.env) (SP X pins D) X.xe s
/-- weaken the end -/
theorem thn {α : Type} {t : Sem α} {Q Q' : α → Shared → Prop} {M : Model} {A : Around} {E : Value → Shared → Prop} {s : Shared} (h : wpAny M A t Q E s) (hQ : ∀ a s, Q a s → Q' a s) : wpAny M A t Q' E s := wpAny_mono h hQ fun _ _ x => x
end L2

namespace L2
open PySem PySem.Spec PyProof.Rows
section
variable {X : Cx}


/-! ### names and constants -/
def tVar (i : Nat) : TE := fun σ H Q => ∃ v, σ[i]? = some (some v) ∧ Q v H
def tC (v : V) : TE := fun _ H Q => Q v H
theorem pe_var {i : Nat} {x : Str} {pos : Pos} (hN : X.N[i]? = some x) (hv : Vis X.env.scope x) (hd : (x == ("__debug__" : Str)) = false := by decide) (hcd : (x == ("__classdict__" : Str)) = false := by decide) : PE X (.Name x pos) (tVar i) := by
  intro pins s σ H Q I h
  obtain ⟨v, e, h⟩ := h
  obtain ⟨m, hn, hl⟩ := I.loc
  obtain ⟨u, r, l⟩ := hl i x v hN e hv
  have fin : EP X pins σ Q u s := ⟨v, H, I, r, h⟩
  rcases l with ⟨hk, hm⟩ | ⟨hk, c, hc, hcell⟩
  · exact wpAny_Name (wpAny_loadName_local I.ok.kind hk hn hm fin) hd
  · rcases hk with hk | hk
    · exact wpAny_Name (wpAny_loadName_cell I.ok.kind hk hc hcell fin) hd
    · exact wpAny_Name (wpAny_loadName_free I.ok.kind hk hc hcell fin hcd) hd
theorem pe_int {i j pos} : PE X (.Constant (.int i) j pos) (tC (.int i)) := fun _ _ _ H _ I h => wpAny_Constant_int ⟨.int i, H, I.tok _, ⟨_, rfl⟩, h⟩
theorem pe_bl {b j pos} : PE X (.Constant (.bool b) j pos) (tC (.bl b)) := fun _ _ _ H _ I h => Constant_bool ⟨.bl b, H, I, rfl, h⟩
theorem pe_non {j pos} : PE X (.Constant .none j pos) (tC .non) := fun _ _ _ H _ I h => Constant_none ⟨.non, H, I, rfl, h⟩
theorem pe_str {x j pos} : PE X (.Constant (.str x) j pos) (tC (.str x)) := fun _ _ _ H _ I h => Calls.Constant_str ⟨.str x, H, I.tok _, ⟨_, rfl⟩, h⟩

/-- a global name of the def -/
def Gl (X : Cx) (x : Str) : Prop := X.env.kindOf x = some .globalImplicit
theorem ld_glob {E : Value → Shared → Prop} {pins : List (Addr × Obj)} {s : Shared} {σ : St} {H : Hp} {x : Str} {u : Value} {pos : Pos} {Q : Value → Shared → Prop} (I : Inv X pins σ H s) (hg : Gl X x) (hm : X.mg x = some u) (h : Q u s)
    (hd : (x == ("__debug__" : Str)) = false := by decide) : wpAny (model X.prog X.w) X.A (eval (.Name x pos) X.env) Q E s :=
  Calls.Name_function_global I.ok.kind hg (Calls.loadGlobal_global (by rw [I.ok.glob]; exact I.mod.glob.keeps I.bk) hm h) hd
theorem ld_blt {E : Value → Shared → Prop} {pins : List (Addr × Obj)} {s : Shared} {σ : St} {H : Hp} {x : Str} {u : Value} {pos : Pos} {Q : Value → Shared → Prop} (I : Inv X pins σ H s) (hg : Gl X x) (hm : X.mg x = none) (hv : bootBuiltins x = some u) (h : Q u s)
    (hn : x ≠ "__name__" := by decide) (hd : (x == ("__debug__" : Str)) = false := by decide) : wpAny (model X.prog X.w) X.A (eval (.Name x pos) X.env) Q E s := by
  obtain ⟨mb, h1, h2⟩ := I.mod.blt
  exact Calls.Name_function_global I.ok.kind hg (Calls.loadGlobal_builtin (by rw [I.ok.glob]; exact I.mod.glob.keeps I.bk) hm (by rw [I.ok.blt]; exact h1.keeps I.bk) ((h2 x hn).trans hv) h) hd
/-- a module's constant, a class, a function, as a value -/
theorem pe_glob {x : Str} {v : V} {u : Value} {pos : Pos} (hg : Gl X x) (hm : X.mg x = some u) (r : RelV v u) (hd : (x == ("__debug__" : Str)) = false := by decide) : PE X (.Name x pos) (tC v) :=
  fun _ _ _ H _ I h => ld_glob I hg hm ⟨v, H, I, r, h⟩ hd
theorem pe_bltn {x : Str} {v : V} {u : Value} {pos : Pos} (hg : Gl X x) (hm : X.mg x = none) (hv : bootBuiltins x = some u) (r : RelV v u) (hn : x ≠ "__name__" := by decide) (hd : (x == ("__debug__" : Str)) = false := by decide) : PE X (.Name x pos) (tC v) :=
  fun _ _ _ H _ I h => ld_blt I hg hm hv ⟨v, H, I, r, h⟩ hn hd

/-! ### arithmetic -/
/-- two ints -/
def t2I (ta tb : TE) (k : Int → Int → Hp → Prop) : St → Hp → Prop := fun σ H => ta σ H fun x H1 => tb σ H1 fun y H2 => ∃ i j, x = .int i ∧ y = .int j ∧ k i j H2
def tAdd (ta tb : TE) : TE := fun σ H Q => t2I ta tb (fun i j H2 => Q (.int (i + j)) H2) σ H
def tSub (ta tb : TE) : TE := fun σ H Q => t2I ta tb (fun i j H2 => Q (.int (i - j)) H2) σ H
/-- the left factor below 2^64 -/
def tMul (ta tb : TE) : TE := fun σ H Q => t2I ta tb (fun i j H2 => (-(2 ^ 64) < i ∧ i < 2 ^ 64) ∧ Q (.int (i * j)) H2) σ H
variable {a b : Expr} {ta tb : TE} {pos : Pos}

/-! ### comparisons -/
def PC (X : Cx) (op : CmpOp) (a b : Expr) (t : TE) : Prop :=
  ∀ (pins : List (Addr × Obj)) (s : Shared) (σ : St) (H : Hp) (Q : VK), Inv X pins σ H s → t σ H Q →
    wpAny (model X.prog X.w) X.A (eval a X.env) (fun v s₁ => wpAny (model X.prog X.w) X.A (eval b X.env) (fun u s₂ => wpAny (model X.prog X.w) X.A (compareOp op v u) (EP X pins σ Q) X.xe s₂) X.xe s₁) X.xe s
def tCmp (p : Int → Int → Bool) (ta tb : TE) : TE := fun σ H Q => t2I ta tb (fun i j H2 => Q (.bl (p i j)) H2) σ H
abbrev tLt : TE → TE → TE := tCmp fun i j => decide (i < j)
abbrev tLe : TE → TE → TE := tCmp fun i j => decide (i ≤ j)
abbrev tGt : TE → TE → TE := tCmp fun i j => decide (j < i)
abbrev tGe : TE → TE → TE := tCmp fun i j => decide (j ≤ i)
abbrev tEqI : TE → TE → TE := tCmp fun i j => decide (i = j)
abbrev tNeI : TE → TE → TE := tCmp fun i j => !decide (i = j)
/-- is None -/
def tIsN (ta : TE) : TE := fun σ H Q => ta σ H fun x H1 => Q (.bl (decide (x = .non))) H1
def tNotN (ta : TE) : TE := fun σ H Q => ta σ H fun x H1 => Q (.bl (!decide (x = .non))) H1
/-- a comparison as a value, as a test -/
def tB (t : TE) : TT := fun σ H Q => t σ H fun x H1 => ∃ c, x = .bl c ∧ Q c H1
/-- an expression whose value is a bool, as a test -/
theorem pt_val {e : Expr} {t : TE} (h : PE X e t) (he : ∀ whole, isTrue e X.env whole = (do let v ← whole; standAt e.pos; holding [v] (truthy v)) := by intro _; rfl) : PT X e (tB t) := by
  intro pins s σ H Q I hw
  refine isTrue_plain (thn (h pins s σ H _ I hw) fun v s1 ⟨x, H1, I1, r1, q1⟩ => ?_) (he _)
  obtain ⟨d, rfl, q⟩ := q1
  cases r1
  exact wpAny_truthy_bool ⟨H1, I1, q⟩

/-! ### and, or, not -/
variable {tA tB' : TT} {rest : List Expr}
def tAnd (t u : TT) : TT := fun σ H Q => t σ H fun c H1 => if c = true then u σ H1 Q else Q false H1
def tOr (t u : TT) : TT := fun σ H Q => t σ H fun c H1 => if c = true then Q true H1 else u σ H1 Q
def tNot (t : TT) : TT := fun σ H Q => t σ H fun c H1 => Q (!c) H1
theorem pw_and1 (ha : PT X a tA) : PW X (.BoolOp .And [a] pos) tA := by
  intro wh pins s σ H Q I h
  refine isTrue_and (thn (ha pins s σ H Q I h) fun c s1 e => ?_)
  cases c with
  | true => exact isTrue_and_nil e
  | false => exact e
theorem pw_or1 (ha : PT X a tA) : PW X (.BoolOp .Or [a] pos) tA := by
  intro wh pins s σ H Q I h
  refine isTrue_or (thn (ha pins s σ H Q I h) fun c s1 e => ?_)
  cases c with
  | false => exact isTrue_or_nil e
  | true => exact e
theorem pw_and (ha : PT X a tA) (hb : PW X (.BoolOp .And (b :: rest) pos) tB') : PW X (.BoolOp .And (a :: b :: rest) pos) (tAnd tA tB') := by
  intro wh pins s σ H Q I h
  refine isTrue_and (thn (ha pins s σ H _ I h) fun c s1 ⟨H1, I1, q1⟩ => ?_)
  cases c with
  | true => exact hb wh pins s1 σ H1 Q I1 q1
  | false => exact ⟨H1, I1, q1⟩
theorem pw_or (ha : PT X a tA) (hb : PW X (.BoolOp .Or (b :: rest) pos) tB') : PW X (.BoolOp .Or (a :: b :: rest) pos) (tOr tA tB') := by
  intro wh pins s σ H Q I h
  refine isTrue_or (thn (ha pins s σ H _ I h) fun c s1 ⟨H1, I1, q1⟩ => ?_)
  cases c with
  | true => exact ⟨H1, I1, q1⟩
  | false => exact hb wh pins s1 σ H1 Q I1 q1
theorem pt_not (ha : PT X a tA) : PT X (.UnaryOp .Not a pos) (tNot tA) := by
  intro pins s σ H Q I h
  exact isTrue_not (ha pins s σ H (fun c H1 => Q (!c) H1) I h)
/-- .. as values (bools) -/
def tAndV (ta tb : TE) : TE := fun σ H Q => ta σ H fun x H1 => ∃ c, x = .bl c ∧ if c = true then tb σ H1 Q else Q (.bl false) H1
def tOrV (ta tb : TE) : TE := fun σ H Q => ta σ H fun x H1 => ∃ c, x = .bl c ∧ if c = true then Q (.bl true) H1 else tb σ H1 Q
def tNotV (ta : TE) : TE := fun σ H Q => ta σ H fun x H1 => ∃ c, x = .bl c ∧ Q (.bl (!c)) H1
theorem pe_one {op} {t : TE} (h : PE X a t) : PE X (.BoolOp op [a] pos) t := fun pins s σ H Q I hw => BoolOp_one (h pins s σ H Q I hw)
theorem pe_and (ha : PE X a ta) (hb : PE X (.BoolOp .And (b :: rest) pos) tb) : PE X (.BoolOp .And (a :: b :: rest) pos) (tAndV ta tb) := by
  intro pins s σ H Q I h
  refine BoolOp_and (thn (ha pins s σ H _ I h) fun v s1 ⟨x, H1, I1, r1, q1⟩ => ?_)
  obtain ⟨c, rfl, q1⟩ := q1
  cases r1
  refine wpAny_truthy_bool ?_
  cases c with
  | true => exact hb pins s1 σ H1 Q I1 q1
  | false => exact ⟨.bl false, H1, I1, rfl, q1⟩
theorem pe_not (ha : PE X a ta) : PE X (.UnaryOp .Not a pos) (tNotV ta) := by
  intro pins s σ H Q I h
  refine UnaryOp_ (thn (ha pins s σ H _ I h) fun v s1 ⟨x, H1, I1, r1, q1⟩ => ?_)
  obtain ⟨c, rfl, q1⟩ := q1
  cases r1
  exact not_of (wpAny_truthy_bool ⟨.bl (!c), H1, I1, rfl, q1⟩)
/-- a if t else b -/
def tIf (t : TT) (ta tb : TE) : TE := fun σ H Q => t σ H fun c H1 => if c = true then ta σ H1 Q else tb σ H1 Q
theorem pe_ifExp {c : Expr} (hc : PT X c tA) (ha : PE X a ta) (hb : PE X b tb) : PE X (.IfExp c a b pos) (tIf tA ta tb) := by
  intro pins s σ H Q I h
  refine wpAny_IfExp (thn (hc pins s σ H _ I h) fun d s1 ⟨H1, I1, q1⟩ => ?_)
  cases d with
  | true => exact ha pins s1 σ H1 Q I1 q1
  | false => exact hb pins s1 σ H1 Q I1 q1
end
end L2

namespace L2
open PySem PySem.Spec PyProof.Rows

/-! ### a list, a tuple that is read: tracked, frozen, or an object of the module -/
def SqL (K : PySem.W.Frag) (H : Hp) (a : Addr) (xs : List V) : Prop :=
  Rd H a (.lst xs) ∨
    ∃ (o : Obj) (its : Array Value) (n : Nat), K.lookup a = some o ∧ o.cls = .type "list" ∧ o.dict = none ∧ o.data = .seq its n ∧ its.size ≤ sizeLine ∧ Vals xs its.toList
def SqT (K : PySem.W.Frag) (H : Hp) (a : Addr) (xs : List V) : Prop :=
  Rd H a (.tup xs) ∨
    ∃ (o : Obj) (its : Array Value) (n : Nat), K.lookup a = some o ∧ o.cls = .type "tuple" ∧ o.data = .seq its n ∧ its.size ≤ sizeLine ∧ Vals xs its.toList
def absV : Value → Option V
  | .none => some .non
  | .bool b => some (.bl b)
  | .int i _ => some (.int i)
  | .str x _ => some (.str x)
  | .bytes b _ => some (.byt b)
  | .float b _ => some (.flt b)
  | .ref a => some (.ref a)
  | .type n => some (.ty n)
  | _ => none
theorem RelV.abs {x : V} {u : Value} (r : RelV x u) : absV u = some x := by
  cases x with
  | non => cases r; rfl
  | bl _ => cases r; rfl
  | int _ => obtain ⟨t, rfl⟩ := r; rfl
  | str _ => obtain ⟨t, rfl⟩ := r; rfl
  | byt _ => obtain ⟨t, rfl⟩ := r; rfl
  | flt _ => obtain ⟨t, rfl⟩ := r; rfl
  | ref _ => cases r; rfl
  | ty _ => cases r; rfl
theorem RelV.inj {x y : V} {u : Value} (r : RelV x u) (q : RelV y u) : x = y := Option.some.inj (r.abs.symm.trans q.abs)
theorem Vals.inj : ∀ {xs ys : List V} {us : List Value}, Vals xs us → Vals ys us → xs = ys
  | _, _, _, .nil, .nil => rfl
  | _, _, _, .cons r t, .cons r' t' => by rw [r.inj r', Vals.inj t t']
section
variable {X : Cx} {pins : List (Addr × Obj)} {σ : St} {H : Hp} {s : Shared} {a : Addr} {xs ys : List V}
theorem SqL.of {K : PySem.W.Frag} (h : H a = some (.lst xs)) : SqL K H a xs := .inl (.inl h)
theorem SqT.of {K : PySem.W.Frag} (h : H a = some (.tup xs)) : SqT K H a xs := .inl (.inl h)
theorem Inv.list (I : Inv X pins σ H s) (h : SqL X.K H a xs) : ∃ its : List Value, Vals xs its ∧ PlainL s.heap a its.toArray ∧ xs.length ≤ sizeLine := by
  rcases h with h | ⟨o, its, n, hk, hc, hd, hs, hz, r⟩
  · obtain ⟨z, its, n, r, e⟩ := h.ok I.hok
    exact ⟨its, r, ⟨_, n, e, rfl, rfl, rfl⟩, z⟩
  · refine ⟨its.toList, r, ⟨o, n, I.kIn a o hk, hc, hd, by simpa using hs⟩, ?_⟩
    have e := r.length
    simp only [Array.length_toList] at e
    omega
theorem Inv.tuple (I : Inv X pins σ H s) (h : SqT X.K H a xs) : ∃ its : List Value, Vals xs its ∧ IsTup s.heap a its.toArray ∧ xs.length ≤ sizeLine := by
  rcases h with h | ⟨o, its, n, hk, hc, hs, hz, r⟩
  · obtain ⟨z, its, r, p⟩ := h.ok I.hok
    exact ⟨its, r, p, z⟩
  · refine ⟨its.toList, r, ⟨o, I.kIn a o hk, hc, n, by simpa using hs⟩, ?_⟩
    have e := r.length
    simp only [Array.length_toList] at e
    omega
theorem Inv.list_inj (I : Inv X pins σ H s) (h : SqL X.K H a xs) (h' : SqL X.K H a ys) : xs = ys := by
  obtain ⟨its, r, ⟨o, n, e, _, _, d⟩, _⟩ := I.list h
  obtain ⟨its', r', ⟨o', n', e', _, _, d'⟩, _⟩ := I.list h'
  rw [e] at e'; cases e'
  rw [d] at d'
  injection d' with d1 _
  have : its = its' := by simpa using congrArg Array.toList d1
  subst this
  exact r.inj r'
theorem Inv.tuple_inj (I : Inv X pins σ H s) (h : SqT X.K H a xs) (h' : SqT X.K H a ys) : xs = ys := by
  obtain ⟨its, r, ⟨o, e, _, n, d⟩, _⟩ := I.tuple h
  obtain ⟨its', r', ⟨o', e', _, n', d'⟩, _⟩ := I.tuple h'
  rw [e] at e'; cases e'
  rw [d] at d'
  injection d' with d1 _
  have : its = its' := by simpa using congrArg Array.toList d1
  subst this
  exact r.inj r'
end

/-! ### another wish about exceptions -/
abbrev Cx.wish (X : Cx) (E : Value → Shared → Prop) : Cx := { X with xe := E }
/-- no exception leaves -/
abbrev Cx.nox (X : Cx) : Cx := X.wish fun _ _ => False
theorem Cx.Ok.wish {X : Cx} (ok : X.Ok) (E : Value → Shared → Prop) : (X.wish E).Ok :=
  ⟨ok.mod, ok.kind, ok.glob, ok.blt, ok.above, ok.inj, ok.has, ok.cab, ok.hd, ok.frames, ok.stk, ok.exf, ok.bs, ok.bsz, ok.noex, ok.exfs, ok.funs, ok.frf⟩
theorem Cx.Ok.unwish {X : Cx} {E : Value → Shared → Prop} (ok : (X.wish E).Ok) : X.Ok :=
  ⟨ok.mod, ok.kind, ok.glob, ok.blt, ok.above, ok.inj, ok.has, ok.cab, ok.hd, ok.frames, ok.stk, ok.exf, ok.bs, ok.bsz, ok.noex, ok.exfs, ok.funs, ok.frf⟩
section
variable {X : Cx} {pins : List (Addr × Obj)} {σ : St} {H : Hp} {s : Shared} {E : Value → Shared → Prop}
theorem Inv.wish (I : Inv X pins σ H s) (E : Value → Shared → Prop) : Inv (X.wish E) pins σ H s := ⟨I.ok.wish E, I.os, I.bare, I.base, I.loc, I.cell, I.free, I.freeC, I.pin, I.hok, I.len⟩
theorem Inv.unwish (I : Inv (X.wish E) pins σ H s) : Inv X pins σ H s := ⟨I.ok.unwish, I.os, I.bare, I.base, I.loc, I.cell, I.free, I.freeC, I.pin, I.hok, I.len⟩
theorem SP.unwish {D : Ends} {f : Flow} {s' : Shared} (h : SP (X.wish E) pins D f s') : SP X pins D f s' := by
  cases f with
  | next => obtain ⟨σ', H', I, q⟩ := h; exact ⟨σ', H', I.unwish, q⟩
  | brk => obtain ⟨σ', H', I, q⟩ := h; exact ⟨σ', H', I.unwish, q⟩
  | cont => obtain ⟨σ', H', I, q⟩ := h; exact ⟨σ', H', I.unwish, q⟩
  | ret u => obtain ⟨v, σ', H', I, r, q⟩ := h; exact ⟨v, σ', H', I.unwish, r, q⟩
theorem PE.nox {e : Expr} {t : TE} (h : PE X.nox e t) : PE X e t := fun pins s σ H Q I hw =>
  wpAny_mono (h pins s σ H Q (I.wish _) hw) (fun _ _ ⟨v, H', I', r, q⟩ => ⟨v, H', I'.unwish, r, q⟩) fun _ _ z => False.elim z
theorem PT.nox {e : Expr} {t : TT} (h : PT X.nox e t) : PT X e t := fun pins s σ H Q I hw =>
  wpAny_mono (h pins s σ H Q (I.wish _) hw) (fun _ _ ⟨H', I', q⟩ => ⟨H', I'.unwish, q⟩) fun _ _ z => False.elim z
theorem PSs.nox {st : List Stmt} {t : TS} (h : PSs X.nox st t) : PSs X st t := fun pins s σ H D I hw =>
  wpAny_mono (h pins s σ H D (I.wish _) hw) (fun _ _ q => q.unwish) fun _ _ z => False.elim z
end

/-! ### blocks and small statements -/
section
variable {X : Cx} {st : Stmt} {rest : List Stmt} {t u : TS} {e : Expr} {te : TE} {pos : Pos}
def tNext : TS := fun D σ H => D.nx σ H
def tSeq (t u : TS) : TS := fun D σ H => t { D with nx := u D } σ H
theorem pss_nil : PSs X [] tNext := fun _ _ σ H _ I h => wpAny_execs_nil ⟨σ, H, I, h⟩
theorem pss_cons (h1 : PS X st t) (h2 : PSs X rest u) : PSs X (st :: rest) (tSeq t u) := by
  intro pins s σ H D I h
  refine wpAny_execs_cons (thn (h1 pins s σ H { D with nx := u D } I h) fun f s1 q => ?_)
  cases f with
  | next =>
    obtain ⟨σ', H', I', q⟩ := q
    exact h2 pins s1 σ' H' D I' q
  | ret v => exact q
  | brk => exact q
  | cont => exact q
theorem pss_one (h1 : PS X st t) : PSs X [st] t := by
  intro pins s σ H D I h
  refine wpAny_execs_cons (thn (h1 pins s σ H D I h) fun f s1 q => ?_)
  cases f with
  | next => exact wpAny_execs_nil q
  | ret v => exact q
  | brk => exact q
  | cont => exact q
def tBreak : TS := fun D σ H => D.bk σ H
def tCont : TS := fun D σ H => D.ct σ H
/-- in a def's body nothing is shown -/
theorem Inv.quiet {pins : List (Addr × Obj)} {σ : St} {H : Hp} {s : Shared} (I : Inv X pins σ H s) : interactive X.env = false := by simp [interactive, I.ok.kind]
/-- an expression whose value is dropped -/
def tDrop (te : TE) : TS := fun D σ H => te σ H fun _ H1 => D.nx σ H1
theorem ps_expr (he : PE X e te) (hs : swapsWith e none pos.line X.env = pure false := by rfl) : PS X (.Expr e pos) (tDrop te) := by
  intro pins s σ H D I h
  exact wpAny_Expr_any (thn (he pins s σ H _ I h) fun v s1 ⟨x, H1, I1, r1, q1⟩ => ⟨σ, H1, I1, q1⟩) I.quiet hs
def tRet (te : TE) : TS := fun D σ H => te σ H D.rt
theorem ps_ret (he : PE X e te) : PS X (.Return (some e) pos) (tRet te) := by
  intro pins s σ H D I h
  exact wpAny_Return_some (thn (he pins s σ H _ I h) fun v s1 ⟨x, H1, I1, r1, q1⟩ => ⟨x, σ, H1, I1, r1, q1⟩)
def tRetN : TS := fun D _ H => D.rt .non H
def tIfS (c : TT) (t u : TS) : TS := fun D σ H => c σ H fun b H1 => if b = true then t D σ H1 else u D σ H1
theorem ps_if {c : Expr} {a b : List Stmt} {tc : TT} (hc : PT X c tc) (ha : PSs X a t) (hb : PSs X b u) : PS X (.If c a b pos) (tIfS tc t u) := by
  intro pins s σ H D I h
  refine wpAny_If (thn (hc pins s σ H _ I h) fun d s1 ⟨H1, I1, q1⟩ => ?_)
  cases d with
  | true => exact ha pins s1 σ H1 D I1 q1
  | false => exact hb pins s1 σ H1 D I1 q1
/-- code that the proof never comes to -/
def tNever : TS := fun _ _ _ => False
end

/-! ### targets -/
abbrev TG := V → St → Hp → (St → Hp → Prop) → Prop
abbrev TGs := List V → St → Hp → (St → Hp → Prop) → Prop
def PG (X : Cx) (target : Expr) (t : TG) : Prop :=
  ∀ (pins : List (Addr × Obj)) (s : Shared) (σ : St) (H : Hp) (v : V) (u : Value) (Q : St → Hp → Prop), Inv X pins σ H s → RelV v u → t v σ H Q →
    wpAny (model X.prog X.w) X.A (assign target X.env u) (fun _ s' => ∃ σ' H', Inv X pins σ' H' s' ∧ Q σ' H') X.xe s
/-- several targets, one after another -/
def PGs (X : Cx) (ts : List Expr) (t : TGs) : Prop :=
  ∀ (pins : List (Addr × Obj)) (s : Shared) (σ : St) (H : Hp) (vs : List V) (us : List Value) (Q : St → Hp → Prop), Inv X pins σ H s → Vals vs us → t vs σ H Q →
    wpAny (model X.prog X.w) X.A (assignInOrder ((assignEach ts X.env).map (·.2)) us) (fun _ s' => ∃ σ' H', Inv X pins σ' H' s' ∧ Q σ' H') X.xe s
/-- o[i] = v, by values -/
abbrev TSet := V → V → V → Hp → (Hp → Prop) → Prop
def PSet (X : Cx) (t : TSet) : Prop :=
  ∀ (pins : List (Addr × Obj)) (s : Shared) (σ : St) (H : Hp) (o i v : V) (ov iv u : Value) (Q : Hp → Prop), Inv X pins σ H s → RelV o ov → RelV i iv → RelV v u → t o i v H Q →
    wpAny (model X.prog X.w) X.A (setItem ov iv u) (fun _ s' => ∃ H', Inv X pins σ H' s' ∧ Q H') X.xe s
/-- a op= b, by values -/
abbrev TIp := V → V → Hp → VK → Prop
def PIp (X : Cx) (op : Operator) (t : TIp) : Prop :=
  ∀ (pins : List (Addr × Obj)) (s : Shared) (σ : St) (H : Hp) (x y : V) (v u : Value) (Q : VK), Inv X pins σ H s → RelV x v → RelV y u → t x y H Q →
    wpAny (model X.prog X.w) X.A (inplaceOp op v u) (EP X pins σ Q) X.xe s
section
variable {X : Cx} {pos : Pos}
def gName (i : Nat) : TG := fun v σ H Q => Q (σ.set i (some v)) H
theorem pg_name {i : Nat} {x : Str} (hN : X.N.Nodup) (hi : X.N[i]? = some x) (hx : Loc X.env.scope x) (hf : X.fn x = true ∨ X.env.scope.names.lookup x = some .local := by first | exact .inl rfl | exact .inr rfl | assumption) : PG X (.Name x pos) (gName i) := by
  intro pins s σ H v u Q I r h
  exact wpAny_assign_Name (store_ok I hN hi hx r (fun s' I' => ⟨_, H, I', h⟩) hf)
def gNil : TGs := fun vs σ H Q => vs = [] ∧ Q σ H
def gCons (t : TG) (u : TGs) : TGs := fun vs σ H Q => ∃ v r, vs = v :: r ∧ t v σ H fun σ' H' => u r σ' H' Q
theorem pgs_nil : PGs X [] gNil := by
  intro pins s σ H vs us Q I r h
  obtain ⟨e, h⟩ := h
  subst e
  cases r
  exact assignInOrder_nil ⟨σ, H, I, h⟩
theorem pgs_cons {e : Expr} {es : List Expr} {t : TG} {u : TGs} (h1 : PG X e t) (h2 : PGs X es u)
    (hs : (assignEach (e :: es) X.env).map (·.2) = assign e X.env :: (assignEach es X.env).map (·.2) := by rfl) : PGs X (e :: es) (gCons t u) := by
  intro pins s σ H vs us Q I r h
  obtain ⟨v, vr, e1, h⟩ := h
  subst e1
  cases r with
  | cons r rr =>
    rw [hs]
    refine assignInOrder_cons (thn (h1 pins s σ H _ _ _ I r h) fun _ s1 ⟨σ1, H1, I1, q1⟩ => ?_)
    exact h2 pins s1 σ1 H1 _ _ Q I1 rr q1
/-- (a, b, ..) = a tuple of that length -/
def gTup (K : PySem.W.Frag) (n : Nat) (t : TGs) : TG := fun v σ H Q => ∃ a xs, v = .ref a ∧ SqT K H a xs ∧ xs.length = n ∧ t xs σ H Q
theorem pg_tup {es : List Expr} {k : Nat} {t : TGs} {n : Nat} (hc : X.calm = true) (h : PGs X es t)
    (hn : (assignEach es X.env).length = n := by rfl) (hst : (assignEach es X.env).findIdx? (·.1) = none := by rfl) : PG X (.Tuple es k pos) (gTup X.K n t) := by
  intro pins s σ H v u Q I r hw
  obtain ⟨a, xs, e1, hq, hl, hw⟩ := hw
  subst e1
  cases r
  obtain ⟨its, rv, ht, hz⟩ := I.tuple hq
  refine assign_Tuple_tuple (I.ok.hd hc) ht (by simp [hn, ← hl, rv.length]) hst fun h' hx => ?_
  have I1 : Inv X pins σ H { s with heap := h' } := I.kept (t' := s.toks) fun b o e => hx b o (Nat.ne_of_lt (Heap.lt_size e)) e
  exact h pins _ σ H xs _ Q I1 (by simpa using rv) hw
/-- o[i] = .. -/
def gSub (to ti : TE) (t : TSet) : TG := fun v σ H Q => to σ H fun o H1 => ti σ H1 fun i H2 => t o i v H2 fun H3 => Q σ H3
theorem pg_sub {o i : Expr} {to ti : TE} {t : TSet} (ho : PE X o to) (hi : PE X i ti) (hs : PSet X t)
    (ha : ∀ v, assign (.Subscript o i pos) X.env v = (do
      let ov ← holding [v] (eval o X.env)
      let iv ← holding [v, ov] (eval i X.env)
      standAt pos
      holding [v, ov, iv] (setItem ov iv v)
      release [v, ov, iv] []) := by intro _; rfl) : PG X (.Subscript o i pos) (gSub to ti t) := by
  intro pins s σ H v u Q I r h
  rw [ha]
  refine wpAny_bind (wpAny_holding (thn (ho pins s σ H _ I h) fun ov s1 ⟨x, H1, I1, r1, q1⟩ => ?_))
  refine wpAny_bind (wpAny_holding (thn (hi pins s1 σ H1 _ I1 q1) fun iv s2 ⟨y, H2, I2, r2, q2⟩ => ?_))
  refine wpAny_bind (wpAny_standAt (wpAny_bind (wpAny_holding (thn (hs pins s2 σ H2 x y v ov iv u _ I2 r1 r2 r q2) fun _ s3 ⟨H3, I3, q3⟩ => ?_))))
  exact wpAny_release ⟨σ, H3, I3, q3⟩
/-- target = value -/
def tAsg (te : TE) (g : TG) : TS := fun D σ H => te σ H fun x H1 => g x σ H1 D.nx
theorem ps_asg {tg e : Expr} {te : TE} {g : TG} (he : PE X e te) (hg : PG X tg g) (hs : swapsWithSole [tg] e pos.line X.env = pure false := by rfl) (hw : swappedStores [tg] e X.env = pure none := by rfl)
    (h1 : (assignEach [tg] X.env).map (·.2) = [assign tg X.env] := by rfl) : PS X (.Assign [tg] e pos) (tAsg te g) := by
  intro pins s σ H D I h
  refine wpAny_Assign_stores (thn (he pins s σ H _ I h) fun v s1 ⟨x, H1, I1, r1, q1⟩ => ?_) hs hw
  rw [h1]
  exact thn (hg pins s1 σ H1 x v _ I1 r1 q1) fun _ s2 q => q
/-- name = value -/
theorem ps_set {i : Nat} {x : Str} {e : Expr} {te : TE} {pos' : Pos} (hN : X.N.Nodup) (hi : X.N[i]? = some x) (hx : Loc X.env.scope x) (he : PE X e te) (hs : swapsWith e (some (.Name x pos')) pos.line X.env = pure false := by rfl) (hf : X.fn x = true ∨ X.env.scope.names.lookup x = some .local := by first | exact .inl rfl | exact .inr rfl | assumption) :
    PS X (.Assign [.Name x pos'] e pos) (tAsg te (gName i)) := by
  intro pins s σ H D I h
  refine wpAny_Assign_Name (thn (he pins s σ H _ I h) fun v s1 ⟨y, H1, I1, r1, q1⟩ => ?_) hs
  exact store_ok I1 hN hi hx r1 (fun s2 I2 => ⟨_, H1, I2, q1⟩) hf
/-- a, b = x, y with plain local names: stored from the right; the pair itself is not tracked (the opening rows as in PyProof/Rows/TupAssign.lean:23) -/
def tPar (i j : Nat) (ta : TA) : TS := fun D σ H => ta σ H fun vs H1 => ∃ v w, vs = [v, w] ∧ D.nx ((σ.set i (some v)).set j (some w)) H1
/-- name op= e -/
def tAug (i : Nat) (te : TE) (ti : TIp) : TS := fun D σ H => ∃ x, σ[i]? = some (some x) ∧ te σ H fun y H1 => ti x y H1 fun z H2 => D.nx (σ.set i (some z)) H2
/-- o[i] op= e -/
def tAugS (to ti te : TE) (tget : V → V → Hp → VK → Prop) (tip : TIp) (tset : TSet) : TS := fun D σ H => to σ H fun o H1 => ti σ H1 fun i H2 => tget o i H2 fun x H3 => te σ H3 fun y H4 => tip x y H4 fun z H5 => tset o i z H5 fun H6 => D.nx σ H6
/-- o[i], by values -/
def PGet (X : Cx) (t : V → V → Hp → VK → Prop) : Prop :=
  ∀ (pins : List (Addr × Obj)) (s : Shared) (σ : St) (H : Hp) (o i : V) (ov iv : Value) (Q : VK), Inv X pins σ H s → RelV o ov → RelV i iv → t o i H Q →
    wpAny (model X.prog X.w) X.A (getItem ov iv) (EP X pins σ Q) X.xe s
/-- ints -/
def ipI (f : Int → Int → Int) : TIp := fun x y H Q => ∃ i j, x = .int i ∧ y = .int j ∧ Q (.int (f i j)) H
end

/-! ### while -/
section
variable {X : Cx} {pos : Pos}
/-- the invariant W with its measure -/
def tWhile (c : TT) (tb : TS) : TS := fun D σ H => ∃ W : Nat → St → Hp → Prop, (∃ m, W m σ H) ∧ ∀ m σ H, W m σ H →
  c σ H fun b H1 => if b = true then ∃ N : St → Hp → Prop, (∀ σ' H', N σ' H' → ∃ m', m' < m ∧ W m' σ' H') ∧ tb { D with nx := N, ct := N, bk := D.nx } σ H1 else D.nx σ H1
end

/-! ### what a loop or a comprehension walks -/
/-- at turn i: it yields x (the heap may grow), or it stops -/
structure It where
  go : Nat → Hp → Prop
  yld : Nat → Hp → V → Hp → Prop
  stop : Nat → Hp → Prop
/-- the iterator's own objects may turn: they are not the frame's, not pinned, younger than the entry (or a comprehension's own) -/
def FpOk (X : Cx) (pins : List (Addr × Obj)) (H : Hp) (b : Addr) : Prop :=
  H b = none ∧ b ≠ X.env.locals ∧ b ∉ X.fs ∧ (b ∈ X.ex ∨ X.s₀.heap.objs.size ≤ b) ∧ (∀ x c, X.env.cells.lookup x = some c → c ≠ b) ∧ ∀ p ∈ X.pn ++ pins, p.1 ≠ b
theorem Inv.fpOk {X : Cx} {pins : List (Addr × Obj)} {σ : St} {H H' : Hp} {s : Shared} {b : Addr} (I : Inv X pins σ H s) (hb : s.heap.objs.size ≤ b) (hn : H' b = none) : FpOk X pins H' b := by
  refine ⟨hn, Nat.ne_of_gt (Nat.lt_of_lt_of_le I.lt hb), I.nofs hb, .inr (Nat.le_trans I.sz hb), fun x c e z => ?_, fun p hp z => ?_⟩
  · obtain ⟨v, q⟩ := I.cell x c e
    exact absurd (Nat.lt_of_lt_of_le q.lt (by rw [z]; exact hb)) (Nat.lt_irrefl _)
  · exact absurd (Nat.lt_of_lt_of_le (Heap.lt_size (I.pin p hp).1) (by rw [z]; exact hb)) (Nat.lt_irrefl _)
structure Turn (P : Program) (w : World) (K : PySem.W.Frag) (tg : Expr) (J : It) (fp : List Addr) (it : Addr) (tn : Nat → Heap → Prop) : Prop where
  mem : it ∈ fp
  obj : ∀ i h, tn i h → ∀ b ∈ fp, ∃ o, h.get? b = some o ∧ ∀ v, o.data ≠ .cell v
  keep : ∀ i h h', tn i h → (∀ b ∈ fp, ∀ o, h.get? b = some o → h'.get? b = some o) → tn i h'
  item : ∀ (X : Cx), X.prog = P → X.w = w → X.K = K → X.calm = true → ∀ (i : Nat) (pins : List (Addr × Obj)) (s : Shared) (σ : St) (H : Hp) (E : Value → Shared → Prop), Inv X pins σ H s → (∀ b ∈ fp, FpOk X pins H b) → tn i s.heap → J.go i H →
    wpAny (model P w) X.A (pyNext (.ref it)) (fun r s1 => ∃ u, r = some u ∧
      wpAny (model P w) X.A (letOwnedTupleGo tg (.ref it) u) (fun _ s2 => ∃ x H', Inv X pins σ H' s2 ∧ RelV x u ∧ J.yld i H x H' ∧ tn (i + 1) s2.heap ∧ ∀ b ∈ fp, H' b = none) E s1) E s
  done : ∀ (X : Cx), X.prog = P → X.w = w → X.K = K → X.calm = true → ∀ (i : Nat) (pins : List (Addr × Obj)) (s : Shared) (σ : St) (H : Hp) (E : Value → Shared → Prop), Inv X pins σ H s → (∀ b ∈ fp, FpOk X pins H b) → tn i s.heap → J.stop i H →
    wpAny (model P w) X.A (pyNext (.ref it)) (fun r s1 => r = none ∧ Inv X pins σ H s1) E s
  self : ∀ (A : Around) (i : Nat) (s : Shared) (Q : Value → Shared → Prop) (E : Value → Shared → Prop), tn i s.heap → Q (.ref it) s → wpAny (model P w) A (pyIter (.ref it)) Q E s
abbrev TI := St → Hp → (It → Hp → Prop) → Prop
/-- an iterator has come -/
def PIE (X : Cx) (pins : List (Addr × Obj)) (σ : St) (tg : Expr) (R : It → Hp → Prop) (itv : Value) (s2 : Shared) : Prop :=
  ∃ (it : Addr) (fp : List Addr) (tn : Nat → Heap → Prop) (J : It) (H' : Hp), itv = .ref it ∧ Inv X pins σ H' s2 ∧ Turn X.prog X.w X.K tg J fp it tn ∧ tn 0 s2.heap ∧ (∀ b ∈ fp, FpOk X pins H' b) ∧ R J H'
def PI (X : Cx) (tg iter : Expr) (wi : TI) : Prop :=
  ∀ (pins : List (Addr × Obj)) (s : Shared) (σ : St) (H : Hp) (R : It → Hp → Prop), Inv X pins σ H s → wi σ H R →
    wpAny (model X.prog X.w) X.A (eval iter X.env) (fun v s1 => wpAny (model X.prog X.w) X.A (pyIter v) (PIE X pins σ tg R) X.xe s1) X.xe s

/-- the step ahead of the store is nothing for an iterator that keeps no tuple -/
theorem go_of {M : Model} {A : Around} {E : Value → Shared → Prop} {s : Shared} {tg : Expr} {it : Addr} {u : Value} {o : Obj} {n : String} {vs : Array Value} {Q : Unit → Shared → Prop} (ho : s.heap.get? it = some o) (hc : o.cls = .type n) (hd : o.data = .fields vs)
    (hn : ["enumerate", "zip", "dict_itemiterator", "dict_reverseitemiterator", "odict_iterator", "itertools.zip_longest", "itertools.pairwise"].contains n = false) (hQ : Q () s) : wpAny M A (letOwnedTupleGo tg (.ref it) u) Q E s := by
  unfold letOwnedTupleGo
  cases tg <;> first
    | exact wpAny_pure hQ
    | (cases u <;> first
        | exact wpAny_pure hQ
        | (refine wpAny_bind (wpAny_load ho ?_)
           rw [hc, hd]
           show wpAny M A (if (["enumerate", "zip", "dict_itemiterator", "dict_reverseitemiterator", "odict_iterator", "itertools.zip_longest", "itertools.pairwise"].contains n && vs[0]? == some (rawInt _)) = true then _ else _) Q E s
           rw [if_neg (by intro h; rw [hn, Bool.false_and] at h; cases h)]
           exact wpAny_pure hQ))

/-- the list at a, as it stands at each turn (a loop may append to it) -/
def Itl (K : PySem.W.Frag) (a : Addr) : It :=
  ⟨fun i H => ∃ xs x, SqL K H a xs ∧ xs[i]? = some x, fun i H x H' => H' = H ∧ ∀ xs, SqL K H a xs → xs[i]? = some x, fun i H => ∃ xs, SqL K H a xs ∧ xs.length ≤ i⟩
def Itt (K : PySem.W.Frag) (a : Addr) : It :=
  ⟨fun i H => ∃ xs x, SqT K H a xs ∧ xs[i]? = some x, fun i H x H' => H' = H ∧ ∀ xs, SqT K H a xs → xs[i]? = some x, fun i H => ∃ xs, SqT K H a xs ∧ xs.length ≤ i⟩
/-- lo, lo + 1, .. (n of them) -/
def Itr (lo : Int) (n : Nat) : It := ⟨fun i _ => i < n, fun i H x H' => H' = H ∧ x = .int (lo + i), fun i _ => n ≤ i⟩
theorem turn_list {P : Program} {w : World} {K : PySem.W.Frag} {tg : Expr} (a it : Addr) : Turn P w K tg (Itl K a) [it] it (fun i h => h.IsListIter it a i) where
  mem := by simp
  obj := fun i h st b hb => by
    have e : b = it := by simpa using hb
    subst e
    obtain ⟨o, e, c, d⟩ := st
    exact ⟨o, e, fun v z => by rw [d] at z; cases z⟩
  keep := fun i h h' st k => st.at fun o e => k it (by simp) o e
  item := by
    intro X hP hw hK hc i pins s σ H E I hf st hg
    subst hP hw hK
    obtain ⟨xs, x, hq, hx⟩ := hg
    obtain ⟨its, rv, p, hz⟩ := I.list hq
    obtain ⟨u, hu, ru⟩ := rv.get hx
    obtain ⟨f0, f1, f2, f3, f4, f5⟩ := hf it (by simp)
    refine wpAny_pyNext_list_item st p.isList (x := u) (by simpa using hu) fun h' st' sb => ?_
    have I1 : Inv X pins σ H { s with heap := h' } := I.turned (t' := s.toks) (fun b o hb e => (sb.2 b hb).trans e) f0 f1 f3 f4 f5
    obtain ⟨o, e, c, d⟩ := id st'
    exact ⟨u, rfl, go_of (s := { s with heap := h' }) e c d (by decide) ⟨x, H, I1, ru, ⟨rfl, fun ys hy => by rw [I.list_inj hy hq]; exact hx⟩, st', fun b hb => (hf b hb).1⟩⟩
  done := by
    intro X hP hw hK hc i pins s σ H E I hf st hg
    subst hP hw hK
    obtain ⟨xs, hq, hx⟩ := hg
    obtain ⟨its, rv, p, hz⟩ := I.list hq
    obtain ⟨f0, f1, f2, f3, f4, f5⟩ := hf it (by simp)
    have hl := rv.length
    exact wpAny_pyNext_list_end (I.ok.hd hc) st p.isList (by simp; omega) fun h' eb => ⟨rfl, I.turned (t' := s.toks) (fun b o hb e => eb b o hb e) f0 f1 f3 f4 f5⟩
  self := fun _ _ _ _ _ st h => wpAny_pyIter_listiter st h
theorem turn_tuple {P : Program} {w : World} {K : PySem.W.Frag} {tg : Expr} (a it : Addr) : Turn P w K tg (Itt K a) [it] it (fun i h => h.IsTupleIter it a i) where
  mem := by simp
  obj := fun i h st b hb => by
    have e : b = it := by simpa using hb
    subst e
    obtain ⟨o, e, c, d⟩ := st
    exact ⟨o, e, fun v z => by rw [d] at z; cases z⟩
  keep := fun i h h' st k => st.at fun o e => k it (by simp) o e
  item := by
    intro X hP hw hK hc i pins s σ H E I hf st hg
    subst hP hw hK
    obtain ⟨xs, x, hq, hx⟩ := hg
    obtain ⟨its, rv, p, hz⟩ := I.tuple hq
    obtain ⟨u, hu, ru⟩ := rv.get hx
    obtain ⟨f0, f1, f2, f3, f4, f5⟩ := hf it (by simp)
    refine wpAny_pyNext_tuple_item st (show s.heap.IsTuple a its.toArray from p) (x := u) (by simpa using hu) fun h' st' sb => ?_
    have I1 : Inv X pins σ H { s with heap := h' } := I.turned (t' := s.toks) (fun b o hb e => (sb.2 b hb).trans e) f0 f1 f3 f4 f5
    obtain ⟨o, e, c, d⟩ := id st'
    exact ⟨u, rfl, go_of (s := { s with heap := h' }) e c d (by decide) ⟨x, H, I1, ru, ⟨rfl, fun ys hy => by rw [I.tuple_inj hy hq]; exact hx⟩, st', fun b hb => (hf b hb).1⟩⟩
  done := by
    intro X hP hw hK hc i pins s σ H E I hf st hg
    subst hP hw hK
    obtain ⟨xs, hq, hx⟩ := hg
    obtain ⟨its, rv, p, hz⟩ := I.tuple hq
    obtain ⟨f0, f1, f2, f3, f4, f5⟩ := hf it (by simp)
    have hl := rv.length
    exact wpAny_pyNext_tuple_end (I.ok.hd hc) st (show s.heap.IsTuple a its.toArray from p) (by simp; omega) fun h' eb => ⟨rfl, I.turned (t' := s.toks) (fun b o hb e => eb b o hb e) f0 f1 f3 f4 f5⟩
  self := fun _ _ _ _ _ st h => wpAny_pyIter_tupleiter st h
theorem turn_range {P : Program} {w : World} {K : PySem.W.Frag} {tg : Expr} (it : Addr) (lo : Int) (n : Nat) : Turn P w K tg (Itr lo n) [it] it (fun i h => IsRangeIter h it (lo + (i : Nat) * 1) ((n : Int) - (i : Nat)) 1) where
  mem := by simp
  obj := fun i h st b hb => by
    have e : b = it := by simpa using hb
    subst e
    exact ⟨_, st, fun v z => by
      have z' : Data.fields _ = Data.cell v := z
      cases z'⟩
  keep := fun i h h' st k => k it (by simp) _ st
  item := by
    intro X hP hw hK hc i pins s σ H E I hf st hg
    subst hP hw hK
    obtain ⟨f0, f1, f2, f3, f4, f5⟩ := hf it (by simp)
    have W := Walks.range (prog := X.prog) (w := X.w) (I.ok.hd hc) it lo 1 n
    refine W.item i s _ _ hg st fun v h' tk hv st' kk => ?_
    obtain ⟨t, rfl⟩ := hv
    have I1 : Inv X pins σ H { s with heap := h', toks := tk } := I.turned (fun b o hb e => kk b o (by simpa using hb) e) f0 f1 f3 f4 f5
    refine ⟨_, rfl, go_of (s := { s with heap := h', toks := tk }) (n := "range_iterator") st' rfl rfl (by decide) ⟨.int (lo + i), H, I1, ⟨t, ?_⟩, ⟨rfl, rfl⟩, st', fun b hb => (hf b hb).1⟩⟩
    rw [Int.mul_one]
  done := by
    intro X hP hw hK hc i pins s σ H E I hf st hg
    subst hP hw hK
    obtain ⟨f0, f1, f2, f3, f4, f5⟩ := hf it (by simp)
    exact wpAny_pyNext_range_end (I.ok.hd hc) st (by have : n ≤ i := hg; omega) fun h' eb => ⟨rfl, I.turned (t' := s.toks) (fun b o hb e => eb b o hb e) f0 f1 f3 f4 f5⟩
  self := fun _ _ _ _ _ st h => wpAny_pyIter_rangeiter st h
end L2

namespace L2
open PySem PySem.Spec PyProof.Rows
section
variable {X : Cx} {tg : Expr}
def iList (K : PySem.W.Frag) (tl : TE) : TI := fun σ H R => tl σ H fun x H1 => ∃ a, x = .ref a ∧ (∃ xs, SqL K H1 a xs) ∧ R (Itl K a) H1
def iTup (K : PySem.W.Frag) (tl : TE) : TI := fun σ H R => tl σ H fun x H1 => ∃ a, x = .ref a ∧ (∃ xs, SqT K H1 a xs) ∧ R (Itt K a) H1
theorem pi_list {l : Expr} {tl : TE} (hl : PE X l tl) : PI X tg l (iList X.K tl) := by
  intro pins s σ H R I h
  refine thn (hl pins s σ H _ I h) fun v s1 ⟨x, H1, I1, r1, q1⟩ => ?_
  obtain ⟨a, e, ⟨xs, hq⟩, q⟩ := q1
  subst e
  cases r1
  obtain ⟨its, rv, p, hz⟩ := I1.list hq
  refine wpAny_pyIter_list p.isList ?_
  refine ⟨s1.heap.objs.size, [s1.heap.objs.size], _, _, H1, rfl, I1.kept (t' := s1.toks) fun b o e => Heap.get?_push_of_some _ e, turn_list a _, ⟨_, Heap.get?_push_size _ rfl, rfl, rfl⟩, fun b hb => ?_, q⟩
  have e : b = s1.heap.objs.size := by simpa using hb
  subst e
  exact I1.fpOk (Nat.le_refl _) (I1.hok.fresh (Nat.le_refl _))
theorem pi_tup {l : Expr} {tl : TE} (hl : PE X l tl) : PI X tg l (iTup X.K tl) := by
  intro pins s σ H R I h
  refine thn (hl pins s σ H _ I h) fun v s1 ⟨x, H1, I1, r1, q1⟩ => ?_
  obtain ⟨a, e, ⟨xs, hq⟩, q⟩ := q1
  subst e
  cases r1
  obtain ⟨its, rv, p, hz⟩ := I1.tuple hq
  refine wpAny_pyIter_tuple (show s1.heap.IsTuple a its.toArray from p) ?_
  refine ⟨s1.heap.objs.size, [s1.heap.objs.size], _, _, H1, rfl, I1.kept (t' := s1.toks) fun b o e => Heap.get?_push_of_some _ e, turn_tuple a _, ⟨_, Heap.get?_push_size _ rfl, rfl, rfl⟩, fun b hb => ?_, q⟩
  have e : b = s1.heap.objs.size := by simpa using hb
  subst e
  exact I1.fpOk (Nat.le_refl _) (I1.hok.fresh (Nat.le_refl _))
/-- a range object just made, walked -/
theorem range_it {pins : List (Addr × Obj)} {σ : St} {H : Hp} {s : Shared} {R : It → Hp → Prop} {E : Value → Shared → Prop} {lo hi : Int} {t u v : Tok} {tk : Nat} (I : Inv X pins σ H s) (h1 : -(2 ^ 62) ≤ lo) (h2 : lo < 2 ^ 62) (h3 : -(2 ^ 62) ≤ hi) (h4 : hi < 2 ^ 62)
    (q : R (Itr lo (hi - lo).toNat) H) : wpAny (model X.prog X.w) X.A (pyIter (.ref s.heap.objs.size)) (PIE X pins σ tg R) E { s with heap := s.heap.push { cls := .type "range", data := .fields #[.int lo t, .int hi u, .int 1 v] }, toks := tk } := by
  refine wpAny_pyIter_range (IsRange.new ..) (small_one h1 h2 h3 h4) ?_
  have I1 : Inv X pins σ H { s with heap := s.heap.push { cls := .type "range", data := .fields #[.int lo t, .int hi u, .int 1 v] }, toks := tk } := I.kept fun b o e => Heap.get?_push_of_some _ e
  refine ⟨(s.heap.push { cls := .type "range", data := .fields #[.int lo t, .int hi u, .int 1 v] }).objs.size, [(s.heap.push { cls := .type "range", data := .fields #[.int lo t, .int hi u, .int 1 v] }).objs.size], _, _, H, rfl,
    I1.kept (t' := tk) fun b o e => Heap.get?_push_of_some _ e, turn_range _ lo (hi - lo).toNat, ?_, fun b hb => ?_, q⟩
  · have e1 : lo + ((0 : Nat) : Int) * 1 = lo := by simp
    have e2 : (((hi - lo).toNat : Nat) : Int) - ((0 : Nat) : Int) = Builtin.Range.rangeSize lo hi 1 := by rw [rangeSize_one]; split <;> omega
    show IsRangeIter _ _ (lo + ((0 : Nat) : Int) * 1) ((((hi - lo).toNat : Nat) : Int) - ((0 : Nat) : Int)) 1
    rw [e1, e2]
    exact Heap.get?_push_size _ rfl
  · have e : b = (s.heap.push { cls := .type "range", data := .fields #[.int lo t, .int hi u, .int 1 v] }).objs.size := by simpa using hb
    subst e
    exact I1.fpOk (Nat.le_refl _) (I1.hok.fresh (Nat.le_refl _))
def iRng1 (ta : TA) : TI := fun σ H R => ta σ H fun vs H1 => ∃ j : Int, vs = [.int j] ∧ -(2 ^ 62) ≤ j ∧ j < 2 ^ 62 ∧ R (Itr 0 j.toNat) H1
def iRng2 (ta : TA) : TI := fun σ H R => ta σ H fun vs H1 => ∃ i j : Int, vs = [.int i, .int j] ∧ (-(2 ^ 62) ≤ i ∧ i < 2 ^ 62 ∧ -(2 ^ 62) ≤ j ∧ j < 2 ^ 62) ∧ R (Itr i (j - i).toNat) H1
theorem pi_range1 {a : Expr} {ta : TA} {p pos : Pos} (hg : Gl X "range") (hm : X.mg "range" = none) (ha : PA X [a] ta) (hs : starEach [a] X.env = [(false, eval a X.env)] := by rfl) : PI X tg (.Call (.Name "range" p) [a] [] pos) (iRng1 ta) := by
  intro pins s σ H R I h
  refine Call_ (ld_blt I hg hm boot_range (PyProof.Rows.callWith_type1 (thn (ha pos pins s σ H _ I h) fun us s1 ⟨vs, H1, I1, r1, q1⟩ => ?_) hs rfl))
  obtain ⟨j, e, q1, q2, q⟩ := q1
  subst e
  cases r1 with
  | cons r rr =>
    cases rr
    obtain ⟨t, rfl⟩ := r
    exact call_range_1 (range_it I1 (by omega) (by omega) q1 q2 (by simpa using q))

/-! ### for -/
/-- W: the invariant by the turn and a measure; N: what the body is to reach -/
def tFor (wi : TI) (g : TG) (tb : TS) : TS := fun D σ H => wi σ H fun J H1 => ∃ W : Nat → Nat → St → Hp → Prop, (∃ m, W 0 m σ H1) ∧ ∀ i m σ H, W i m σ H →
  (J.stop i H ∧ D.nx σ H) ∨ (J.go i H ∧ ∃ N : St → Hp → Prop, (∀ σ' H', N σ' H' → ∃ m', m' < m ∧ W (i + 1) m' σ' H') ∧ ∀ x H', J.yld i H x H' → g x σ H' fun σ2 H2 => tb { D with nx := N, ct := N, bk := D.nx } σ2 H2)
/-- the records at fp as they stand -/
def pinsAt (fp : List Addr) (h : Heap) : List (Addr × Obj) := fp.filterMap fun b => (h.get? b).map fun o => (b, o)
theorem mem_pinsAt {fp : List Addr} {h : Heap} {b : Addr} {o : Obj} (hb : b ∈ fp) (e : h.get? b = some o) : (b, o) ∈ pinsAt fp h := List.mem_filterMap.mpr ⟨b, hb, by rw [e]; rfl⟩
theorem of_pinsAt {fp : List Addr} {h : Heap} {p : Addr × Obj} (hp : p ∈ pinsAt fp h) : p.1 ∈ fp ∧ h.get? p.1 = some p.2 := by
  obtain ⟨b, hb, e⟩ := List.mem_filterMap.mp hp
  cases q : h.get? b with
  | none => rw [q] at e; cases e
  | some o =>
    rw [q] at e
    have e' : (b, o) = p := Option.some.inj e
    subst e'
    exact ⟨hb, q⟩
theorem Inv.pinned {pins : List (Addr × Obj)} {σ : St} {H : Hp} {s : Shared} {fp : List Addr} (I : Inv X pins σ H s) (hf : ∀ b ∈ fp, FpOk X pins H b) (ho : ∀ b ∈ fp, ∃ o, s.heap.get? b = some o ∧ ∀ v, o.data ≠ .cell v) : Inv X (pins ++ pinsAt fp s.heap) σ H s :=
  I.pins_of fun p hp => (List.mem_append.mp hp).elim (fun z => I.pin p (List.mem_append_right _ z)) fun z => by
    obtain ⟨hb, e⟩ := of_pinsAt z
    obtain ⟨f0, f1, f2, _⟩ := hf p.1 hb
    obtain ⟨o, e', d⟩ := ho p.1 hb
    rw [e] at e'; cases e'
    exact ⟨e, f0, f1, f2, d⟩
theorem Inv.unpinned {pins pl : List (Addr × Obj)} {σ : St} {H : Hp} {s : Shared} (I : Inv X (pins ++ pl) σ H s) : Inv X pins σ H s := I.pins_of fun p hp => I.pin p (List.mem_append_right _ (List.mem_append_left _ hp))
theorem ps_for {iter : Expr} {body : List Stmt} {wi : TI} {g : TG} {tb : TS} {pos : Pos} (hp : PassesOwn (model X.prog X.w) X.A X.env X.xe) (hc : X.calm = true) (hi : PI X tg iter wi) (hg : PG X tg g) (hb : PSs X body tb)
    (hs : ∀ x, foldedSetIterable iter X.env x = pure x := by intro _; rfl) : PS X (.For tg iter body [] pos) (tFor wi g tb) := by
  intro pins s σ H D I h
  refine wpAny_For (thn (hi pins s σ H _ I h) fun v s1 h1 => thn h1 fun itv s2 h2 => ?_) hs
  obtain ⟨it, fp, tn, J, H2, e, I2, T, st2, f2, W, ⟨m0, w0⟩, turn⟩ := h2
  subst e
  -- what stays true of the iterator's objects through the loop
  have stat : ∀ {H' : Hp}, (∀ b ∈ fp, H' b = none) → ∀ b ∈ fp, FpOk X pins H' b := fun hn b hb => ⟨hn b hb, (f2 b hb).2⟩
  refine codeAny_forLoop_any (fun n s' => ∃ i σ' H', Inv X pins σ' H' s' ∧ tn i s'.heap ∧ (∀ b ∈ fp, H' b = none) ∧ W i n σ' H') ?_ m0 ⟨0, σ, H2, I2, st2, fun b hb => (f2 b hb).1, w0⟩
  rintro n s3 ⟨i, σ3, H3, I3, st3, fr3, w3⟩
  rcases turn i n σ3 H3 w3 with ⟨stop, qn⟩ | ⟨go, N, hN, step⟩
  · refine wpAny_passesOwn hp (thn (T.done X rfl rfl rfl hc i pins s3 σ3 H3 X.xe I3 (stat fr3) st3 stop) fun r s4 ⟨hr, I4⟩ => ?_)
    subst hr
    exact wpAny_execs_nil ⟨σ3, H3, I4, qn⟩
  · refine wpAny_passesOwn hp (thn (T.item X rfl rfl rfl hc i pins s3 σ3 H3 X.xe I3 (stat fr3) st3 go) fun r s4 ⟨u, hr, h4⟩ => ?_)
    subst hr
    refine wpAny_passesOwn hp (thn h4 fun _ s5 ⟨x, H5, I5, r5, y5, st5, fr5⟩ => ?_)
    have I5' := I5.pinned (stat fr5) (T.obj _ _ st5)
    refine wpAny_passesOwn hp (thn (hg _ s5 σ3 H5 x u _ I5' r5 (step x H5 y5)) fun _ s6 ⟨σ6, H6, I6, q6⟩ => ?_)
    refine wpAny_passesOwn hp (thn (hb _ s6 σ6 H6 _ I6 q6) fun f s7 q7 => ?_)
    have again : ∀ {σ7 : St} {H7 : Hp}, Inv X (pins ++ pinsAt fp s5.heap) σ7 H7 s7 → N σ7 H7 → ∃ m, m < n ∧ ∃ i σ' H', Inv X pins σ' H' s7 ∧ tn i s7.heap ∧ (∀ b ∈ fp, H' b = none) ∧ W i m σ' H' := fun {σ7 H7} I7 n7 => by
      obtain ⟨m', hm, w7⟩ := hN σ7 H7 n7
      refine ⟨m', hm, i + 1, σ7, H7, I7.unpinned, T.keep _ _ _ st5 fun b hb o e => (I7.pin (b, o) (List.mem_append_right _ (List.mem_append_right _ (mem_pinsAt hb e)))).1, fun b hb => ?_, w7⟩
      obtain ⟨o, e, d⟩ := T.obj _ _ st5 b hb
      exact (I7.pin (b, o) (List.mem_append_right _ (List.mem_append_right _ (mem_pinsAt hb e)))).2.1
    cases f with
    | next => obtain ⟨σ7, H7, I7, n7⟩ := q7; exact again I7 n7
    | cont => obtain ⟨σ7, H7, I7, n7⟩ := q7; exact again I7 n7
    | brk => obtain ⟨σ7, H7, I7, q7⟩ := q7; exact ⟨σ7, H7, I7.unpinned, q7⟩
    | ret v => obtain ⟨x7, σ7, H7, I7, r7, q7⟩ := q7; exact ⟨x7, σ7, H7, I7.unpinned, r7, q7⟩
end

/-! ### the forms one uses -/
/-- over a list that the body leaves as it is -/
theorem for_list {K : PySem.W.Frag} {a : Addr} {xs : List V} {g : TG} {tb : TS} {D : Ends} {σ : St} {H : Hp} (Pv : Nat → St → Hp → Prop) (h0 : Pv 0 σ H) (hl : ∀ i σ H, i ≤ xs.length → Pv i σ H → SqL K H a xs)
    (hs : ∀ i x σ H, xs[i]? = some x → Pv i σ H → g x σ H fun σ2 H2 => tb { D with nx := Pv (i + 1), ct := Pv (i + 1), bk := D.nx } σ2 H2) (hd : ∀ σ H, Pv xs.length σ H → D.nx σ H) :
    ∃ W : Nat → Nat → St → Hp → Prop, (∃ m, W 0 m σ H) ∧ ∀ i m σ H, W i m σ H →
      ((Itl K a).stop i H ∧ D.nx σ H) ∨ ((Itl K a).go i H ∧ ∃ N : St → Hp → Prop, (∀ σ' H', N σ' H' → ∃ m', m' < m ∧ W (i + 1) m' σ' H') ∧ ∀ x H', (Itl K a).yld i H x H' → g x σ H' fun σ2 H2 => tb { D with nx := N, ct := N, bk := D.nx } σ2 H2) := by
  refine ⟨fun i m σ H => m = xs.length - i ∧ i ≤ xs.length ∧ Pv i σ H, ⟨xs.length, by simp, Nat.zero_le _, h0⟩, ?_⟩
  rintro i m σ H ⟨rfl, hi, p⟩
  have q := hl i σ H hi p
  by_cases hlt : i < xs.length
  · refine .inr ⟨⟨xs, xs[i], q, by simp [hlt]⟩, Pv (i + 1), fun σ' H' p' => ⟨xs.length - (i + 1), by omega, rfl, hlt, p'⟩, fun x H' y => ?_⟩
    obtain ⟨e, y⟩ := y
    subst e
    exact hs i x σ _ (y xs q) p
  · have e : i = xs.length := by omega
    subst e
    exact .inl ⟨⟨xs, q, Nat.le_refl _⟩, hd σ H p⟩
theorem for_range {lo : Int} {n : Nat} {g : TG} {tb : TS} {D : Ends} {σ : St} {H : Hp} (Pv : Nat → St → Hp → Prop) (h0 : Pv 0 σ H)
    (hs : ∀ i σ H, i < n → Pv i σ H → g (.int (lo + i)) σ H fun σ2 H2 => tb { D with nx := Pv (i + 1), ct := Pv (i + 1), bk := D.nx } σ2 H2) (hd : ∀ σ H, Pv n σ H → D.nx σ H) :
    ∃ W : Nat → Nat → St → Hp → Prop, (∃ m, W 0 m σ H) ∧ ∀ i m σ H, W i m σ H →
      ((Itr lo n).stop i H ∧ D.nx σ H) ∨ ((Itr lo n).go i H ∧ ∃ N : St → Hp → Prop, (∀ σ' H', N σ' H' → ∃ m', m' < m ∧ W (i + 1) m' σ' H') ∧ ∀ x H', (Itr lo n).yld i H x H' → g x σ H' fun σ2 H2 => tb { D with nx := N, ct := N, bk := D.nx } σ2 H2) := by
  refine ⟨fun i m σ H => m = n - i ∧ i ≤ n ∧ Pv i σ H, ⟨n, by simp, Nat.zero_le _, h0⟩, ?_⟩
  rintro i m σ H ⟨rfl, hi, p⟩
  by_cases hlt : i < n
  · refine .inr ⟨hlt, Pv (i + 1), fun σ' H' p' => ⟨n - (i + 1), by omega, rfl, hlt, p'⟩, fun x H' y => ?_⟩
    obtain ⟨e, y⟩ := y
    subst e y
    exact hs i σ _ hlt p
  · have e : i = n := by omega
    subst e
    exact .inl ⟨Nat.le_refl _, hd σ H p⟩
end L2

namespace L2
open PySem PySem.Spec PyProof.Rows

abbrev R2 := V → V → Hp → VK → Prop
/-- a two-place operation on values: f is binaryOp op, inplaceOp op or compareOp op -/
def OpR (X : Cx) (f : Value → Value → Sem Value) (r : R2) : Prop :=
  ∀ (pins : List (Addr × Obj)) (s : Shared) (σ : St) (H : Hp) (x y : V) (v u : Value) (Q : VK), Inv X pins σ H s → RelV x v → RelV y u → r x y H Q →
    wpAny (model X.prog X.w) X.A (f v u) (EP X pins σ Q) X.xe s
/-- a one-place operation -/
def UnR (X : Cx) (f : Value → Sem Value) (r : V → Hp → VK → Prop) : Prop :=
  ∀ (pins : List (Addr × Obj)) (s : Shared) (σ : St) (H : Hp) (x : V) (v : Value) (Q : VK), Inv X pins σ H s → RelV x v → r x H Q →
    wpAny (model X.prog X.w) X.A (f v) (EP X pins σ Q) X.xe s
/-- a call of a value that is known (a builtin, a type) with values -/
def CallR (X : Cx) (f : Value) (r : List V → Hp → VK → Prop) : Prop :=
  ∀ (pins : List (Addr × Obj)) (s : Shared) (σ : St) (H : Hp) (xs : List V) (us : List Value) (Q : VK), Inv X pins σ H s → Vals xs us → r xs H Q →
    wpAny (model X.prog X.w) X.A (call f us) (EP X pins σ Q) X.xe s
/-- a value's truth -/
def TruR (X : Cx) (r : V → Hp → (Bool → Hp → Prop) → Prop) : Prop :=
  ∀ (pins : List (Addr × Obj)) (s : Shared) (σ : St) (H : Hp) (x : V) (v : Value) (Q : Bool → Hp → Prop), Inv X pins σ H s → RelV x v → r x H Q →
    wpAny (model X.prog X.w) X.A (truthy v) (TP X pins σ Q) X.xe s

def tOp (r : R2) (ta tb : TE) : TE := fun σ H Q => ta σ H fun x H1 => tb σ H1 fun y H2 => r x y H2 Q
def tUn (r : V → Hp → VK → Prop) (ta : TE) : TE := fun σ H Q => ta σ H fun x H1 => r x H1 Q
/-- ints in, under C, and a value out -/
def rI (C : Int → Int → Prop) (g : Int → Int → V) : R2 := fun x y H Q => ∃ i j, x = .int i ∧ y = .int j ∧ C i j ∧ Q (g i j) H
def rI0 (g : Int → Int → V) : R2 := fun x y H Q => ∃ i j, x = .int i ∧ y = .int j ∧ Q (g i j) H
def rU (g : Int → V) : V → Hp → VK → Prop := fun x H Q => ∃ i, x = .int i ∧ Q (g i) H

section
variable {X : Cx} {a b c : Expr} {ta tb tc : TE} {pos : Pos}

theorem binT (ha : PE X a ta) (hb : PE X b tb) {pins : List (Addr × Obj)} {s : Shared} {σ : St} {H : Hp} {R : V → V → Hp → Prop} (I : Inv X pins σ H s)
    (h : ta σ H fun x H1 => tb σ H1 fun y H2 => R x y H2) {Q : Value → Shared → Prop} {f : Value → Value → Sem Value}
    (hf : ∀ v u s2 x y H2, Inv X pins σ H2 s2 → RelV x v → RelV y u → R x y H2 → wpAny (model X.prog X.w) X.A (f v u) Q X.xe s2) :
    wpAny (model X.prog X.w) X.A (eval a X.env) (fun v s₁ => wpAny (model X.prog X.w) X.A (eval b X.env) (fun u s₂ => wpAny (model X.prog X.w) X.A (f v u) Q X.xe s₂) X.xe s₁) X.xe s := by
  refine thn (ha pins s σ H _ I h) fun v s1 ⟨x, H1, I1, r1, q1⟩ => ?_
  refine thn (hb pins s1 σ H1 _ I1 q1) fun u s2 ⟨y, H2, I2, r2, q2⟩ => ?_
  exact hf v u s2 x y H2 I2 r1 r2 q2

theorem pe_op {op : Operator} {r : R2} (ho : OpR X (binaryOp op) r) (ha : PE X a ta) (hb : PE X b tb) : PE X (.BinOp a op b pos) (tOp r ta tb) := by
  intro pins s σ H Q I h
  exact wpAny_BinOp (binT ha hb I h fun v u s2 x y H2 I2 rx ry q => ho pins s2 σ H2 x y v u Q I2 rx ry q)
theorem pe_un {op : UnaryOp} {r : V → Hp → VK → Prop} (ho : UnR X (unaryOp op) r) (ha : PE X a ta) : PE X (.UnaryOp op a pos) (tUn r ta) := by
  intro pins s σ H Q I h
  exact UnaryOp_ (thn (ha pins s σ H _ I h) fun v s1 ⟨x, H1, I1, r1, q1⟩ => ho pins s1 σ H1 x v Q I1 r1 q1)

/-! ### ints -/
theorem opI {f : Value → Value → Sem Value} {C : Int → Int → Prop} {g : Int → Int → Int}
    (rule : ∀ (i j : Int) (t u : Tok) (s : Shared) (Q : Value → Shared → Prop) (E : Value → Shared → Prop), C i j → Q (.int (g i j) s.toks) { s with toks := s.toks + 1 } → wpAny (model X.prog X.w) X.A (f (.int i t) (.int j u)) Q E s) :
    OpR X f (rI C fun i j => .int (g i j)) := by
  intro pins s σ H x y v u Q I rx ry h
  obtain ⟨i, j, rfl, rfl, hc, q⟩ := h
  obtain ⟨t, rfl⟩ := rx
  obtain ⟨t', rfl⟩ := ry
  exact rule i j t t' s _ _ hc ⟨.int (g i j), H, I.tok _, ⟨_, rfl⟩, q⟩
theorem opI0 {f : Value → Value → Sem Value} {g : Int → Int → Int}
    (rule : ∀ (i j : Int) (t u : Tok) (s : Shared) (Q : Value → Shared → Prop) (E : Value → Shared → Prop), Q (.int (g i j) s.toks) { s with toks := s.toks + 1 } → wpAny (model X.prog X.w) X.A (f (.int i t) (.int j u)) Q E s) :
    OpR X f (rI0 fun i j => .int (g i j)) := by
  intro pins s σ H x y v u Q I rx ry h
  obtain ⟨i, j, rfl, rfl, q⟩ := h
  obtain ⟨t, rfl⟩ := rx
  obtain ⟨t', rfl⟩ := ry
  exact rule i j t t' s _ _ ⟨.int (g i j), H, I.tok _, ⟨_, rfl⟩, q⟩
theorem opB0 {f : Value → Value → Sem Value} {g : Int → Int → Bool}
    (rule : ∀ (i j : Int) (t u : Tok) (s : Shared) (Q : Value → Shared → Prop) (E : Value → Shared → Prop), Q (.bool (g i j)) s → wpAny (model X.prog X.w) X.A (f (.int i t) (.int j u)) Q E s) :
    OpR X f (rI0 fun i j => .bl (g i j)) := by
  intro pins s σ H x y v u Q I rx ry h
  obtain ⟨i, j, rfl, rfl, q⟩ := h
  obtain ⟨t, rfl⟩ := rx
  obtain ⟨t', rfl⟩ := ry
  exact rule i j t t' s _ _ ⟨.bl (g i j), H, I, rfl, q⟩

def CDiv (i j : Int) : Prop := 0 < j ∧ j < 1073741824
def CDivN (i j : Int) : Prop := j ≠ 0 ∧ j.natAbs < 1073741824
def CPow (i j : Int) : Prop := 0 ≤ j ∧ j ≤ 1000000 ∧ i.natAbs < 2 ^ 64
def CMul (i j : Int) : Prop := (-(2 ^ 64) < i ∧ i < 2 ^ 64) ∨ (-(2 ^ 64) < j ∧ j < 2 ^ 64)
theorem CMul.ok {i j : Int} (h : CMul i j) : IntMulOk i j := by
  rcases h with ⟨h1, h2⟩ | ⟨h1, h2⟩
  · exact .of_left (intBits_le_64 h1 h2)
  · exact .of_right (intBits_le_64 h1 h2)

theorem op_add : OpR X (binaryOp .Add) (rI0 fun i j => .int (i + j)) := opI0 fun _ _ _ _ _ _ _ q => add_int q
theorem op_sub : OpR X (binaryOp .Sub) (rI0 fun i j => .int (i - j)) := opI0 fun _ _ _ _ _ _ _ q => sub_int q
theorem op_mul : OpR X (binaryOp .Mult) (rI CMul fun i j => .int (i * j)) := opI fun _ _ _ _ _ _ _ hc q => mul_int q hc.ok
/-- // by a positive divisor -/
theorem op_fdiv : OpR X (binaryOp .FloorDiv) (rI CDiv fun i j => .int (i / j)) := opI fun i j _ _ _ _ _ hc q => by
  have h1 : (0 : Int) < j := hc.1
  have h2 : j < 1073741824 := hc.2
  exact floordiv_int (by omega) (by rw [Int.fdiv_eq_ediv_of_nonneg i (by omega)]; exact q) (.inl (PyProof.noPylong_small (by omega)))
/-- % by a positive divisor of any size -/
theorem op_mod : OpR X (binaryOp .Mod) (rI (fun _ j => 0 < j) fun i j => .int (i % j)) := opI fun i j _ _ _ _ _ hc q => by
  have h1 : (0 : Int) < j := hc
  exact mod_int' (by omega) (by rw [Int.fmod_eq_emod_of_nonneg i (by omega)]; exact q)
theorem op_pow : OpR X (binaryOp .Pow) (rI CPow fun i j => .int (i ^ j.toNat)) := opI fun _ _ _ _ _ _ _ hc q => pow_int_small hc.1 hc.2.1 hc.2.2 q


theorem unI {f : Value → Sem Value} {g : Int → Int}
    (rule : ∀ (i : Int) (t : Tok) (s : Shared) (Q : Value → Shared → Prop) (E : Value → Shared → Prop), Q (.int (g i) s.toks) { s with toks := s.toks + 1 } → wpAny (model X.prog X.w) X.A (f (.int i t)) Q E s) :
    UnR X f (rU fun i => .int (g i)) := by
  intro pins s σ H x v Q I rx h
  obtain ⟨i, rfl, q⟩ := h
  obtain ⟨t, rfl⟩ := rx
  exact rule i t s _ _ ⟨.int (g i), H, I.tok _, ⟨_, rfl⟩, q⟩
theorem un_neg : UnR X (unaryOp .USub) (rU fun i => .int (-i)) := unI fun _ _ _ _ _ q => neg_int q

/-! ### bools among ints: n += (a < b) -/
end

/-! ### comparisons -/
/-- the scalars that == tells apart as data does -/
def scal : V → V → Bool
  | .non, .non => true | .non, .int _ => true | .int _, .non => true | .non, .bl _ => true | .bl _, .non => true | .non, .str _ => true | .str _, .non => true
  | .int _, .int _ => true | .bl _, .bl _ => true | .str _, .str _ => true | .byt _, .byt _ => true
  | .int _, .str _ => true | .str _, .int _ => true | .bl _, .str _ => true | .str _, .bl _ => true
  | _, _ => false
def rEq : R2 := fun x y H Q => scal x y = true ∧ Q (.bl (decide (x = y))) H
def rNe : R2 := fun x y H Q => scal x y = true ∧ Q (.bl (!decide (x = y))) H

theorem dec_int {i j : Int} : decide (V.int i = V.int j) = (i == j) := by
  rw [Bool.eq_iff_iff]
  simp
theorem dec_bl {i j : Bool} : decide (V.bl i = V.bl j) = (i == j) := by
  rw [Bool.eq_iff_iff]
  simp
theorem dec_str {i j : Str} : decide (V.str i = V.str j) = (i == j) := by
  rw [Bool.eq_iff_iff]
  simp
theorem dec_byt {i j : Array UInt8} : decide (V.byt i = V.byt j) = (i.toList == j.toList) := by
  rw [Bool.eq_iff_iff]
  cases i
  cases j
  simp

section
variable {X : Cx} {a b c : Expr} {ta tb tc : TE} {pos : Pos}
theorem fin_bl {pins : List (Addr × Obj)} {σ : St} {H : Hp} {s : Shared} {Q : VK} {k k' : Bool} (I : Inv X pins σ H s) (q : Q (.bl k) H) (e : k = k') : EP X pins σ Q (.bool k') s := by
  subst e
  exact ⟨.bl k, H, I, rfl, q⟩
theorem op_eq : OpR X (compareOp .Eq) rEq := by
  intro pins s σ H x y v u Q I rx ry h
  obtain ⟨hs, q⟩ := h
  cases x with
  | non =>
    cases rx
    cases y with
    | non => cases ry; exact PySem.EqNone.eq_none_none (fin_bl I q (by simp))
    | bl j => cases ry; exact PySem.EqNone.eq_none_bool (fin_bl I q (by simp))
    | int j => obtain ⟨t', rfl⟩ := ry; exact PySem.EqNone.eq_none_int (fin_bl I q (by simp))
    | str j => obtain ⟨t', rfl⟩ := ry; exact PySem.EqNone.eq_none_str (fin_bl I q (by simp))
    | _ => exact absurd (show false = true from hs) Bool.false_ne_true
  | bl i =>
    cases rx
    cases y with
    | non => cases ry; exact PySem.EqNone.eq_bool_none (fin_bl I q (by simp))
    | bl j => cases ry; exact eq_bool (fin_bl I q dec_bl)
    | str j => obtain ⟨t', rfl⟩ := ry; exact PySem.EqMixed.eq_bool_str (fin_bl I q (by simp))
    | _ => exact absurd (show false = true from hs) Bool.false_ne_true
  | int i =>
    obtain ⟨t, rfl⟩ := rx
    cases y with
    | non => cases ry; exact PySem.EqNone.eq_int_none (fin_bl I q (by simp))
    | int j => obtain ⟨t', rfl⟩ := ry; exact eq_int (fin_bl I q dec_int)
    | str j => obtain ⟨t', rfl⟩ := ry; exact PySem.EqMixed.eq_int_str (fin_bl I q (by simp))
    | _ => exact absurd (show false = true from hs) Bool.false_ne_true
  | str i =>
    obtain ⟨t, rfl⟩ := rx
    cases y with
    | non => cases ry; exact PySem.EqNone.eq_str_none (fin_bl I q (by simp))
    | bl j => cases ry; exact PySem.EqMixed.eq_str_bool (fin_bl I q (by simp))
    | int j => obtain ⟨t', rfl⟩ := ry; exact PySem.EqMixed.eq_str_int (fin_bl I q (by simp))
    | str j => obtain ⟨t', rfl⟩ := ry; exact eq_str (fin_bl I q dec_str)
    | _ => exact absurd (show false = true from hs) Bool.false_ne_true
  | byt i =>
    obtain ⟨t, rfl⟩ := rx
    cases y with
    | byt j => obtain ⟨t', rfl⟩ := ry; exact PySem.W.eq_bytes (fin_bl I q dec_byt)
    | _ => exact absurd (show false = true from hs) Bool.false_ne_true
  | _ => cases y <;> exact absurd (show false = true from hs) Bool.false_ne_true
theorem op_ne : OpR X (compareOp .NotEq) rNe := by
  intro pins s σ H x y v u Q I rx ry h
  obtain ⟨hs, q⟩ := h
  cases x with
  | non =>
    cases rx
    cases y with
    | non => cases ry; exact PySem.EqNone.ne_none_none (fin_bl I q (by simp))
    | bl j => cases ry; exact PySem.EqNone.ne_none_bool (fin_bl I q (by simp))
    | int j => obtain ⟨t', rfl⟩ := ry; exact PySem.EqNone.ne_none_int (fin_bl I q (by simp))
    | str j => obtain ⟨t', rfl⟩ := ry; exact PySem.EqNone.ne_none_str (fin_bl I q (by simp))
    | _ => exact absurd (show false = true from hs) Bool.false_ne_true
  | bl i =>
    cases rx
    cases y with
    | non => cases ry; exact PySem.EqNone.ne_bool_none (fin_bl I q (by simp))
    | bl j => cases ry; exact ne_bool (fin_bl I q (congrArg not dec_bl))
    | str j => obtain ⟨t', rfl⟩ := ry; exact PySem.EqMixed.ne_bool_str (fin_bl I q (by simp))
    | _ => exact absurd (show false = true from hs) Bool.false_ne_true
  | int i =>
    obtain ⟨t, rfl⟩ := rx
    cases y with
    | non => cases ry; exact PySem.EqNone.ne_int_none (fin_bl I q (by simp))
    | int j => obtain ⟨t', rfl⟩ := ry; exact ne_int (fin_bl I q (congrArg not dec_int))
    | str j => obtain ⟨t', rfl⟩ := ry; exact PySem.EqMixed.ne_int_str (fin_bl I q (by simp))
    | _ => exact absurd (show false = true from hs) Bool.false_ne_true
  | str i =>
    obtain ⟨t, rfl⟩ := rx
    cases y with
    | non => cases ry; exact PySem.EqNone.ne_str_none (fin_bl I q (by simp))
    | bl j => cases ry; exact PySem.EqMixed.ne_str_bool (fin_bl I q (by simp))
    | int j => obtain ⟨t', rfl⟩ := ry; exact PySem.EqMixed.ne_str_int (fin_bl I q (by simp))
    | str j => obtain ⟨t', rfl⟩ := ry; exact ne_str (fin_bl I q (congrArg not dec_str))
    | _ => exact absurd (show false = true from hs) Bool.false_ne_true
  | byt i =>
    obtain ⟨t, rfl⟩ := rx
    cases y with
    | byt j => obtain ⟨t', rfl⟩ := ry; exact PySem.W.ne_bytes (fin_bl I q (congrArg not dec_byt))
    | _ => exact absurd (show false = true from hs) Bool.false_ne_true
  | _ => cases y <;> exact absurd (show false = true from hs) Bool.false_ne_true

theorem op_lt : OpR X (compareOp .Lt) (rI0 fun i j => .bl (decide (i < j))) := opB0 fun _ _ _ _ _ _ _ q => lt_int q
theorem op_le : OpR X (compareOp .LtE) (rI0 fun i j => .bl (decide (i ≤ j))) := opB0 fun _ _ _ _ _ _ _ q => le_int q
theorem op_gt : OpR X (compareOp .Gt) (rI0 fun i j => .bl (decide (j < i))) := opB0 fun _ _ _ _ _ _ _ q => gt_int q
theorem op_ge : OpR X (compareOp .GtE) (rI0 fun i j => .bl (decide (j ≤ i))) := opB0 fun _ _ _ _ _ _ _ q => ge_int q
/-- the one string within the other -/
theorem op_in_str : OpR X (compareOp .In) (fun x y H Q => ∃ i j, x = .str i ∧ y = .str j ∧ Q (.bl (!(Builtin.Str.occurrences j i 0 j.length 1).isEmpty)) H) := by
  intro pins s σ H x y v u Q I rx ry h
  obtain ⟨i, j, rfl, rfl, q⟩ := h
  obtain ⟨t, rfl⟩ := rx
  obtain ⟨t', rfl⟩ := ry
  exact in_str (fin_bl I q rfl)


theorem op_notin_str : OpR X (compareOp .NotIn) (fun x y H Q => ∃ i j, x = .str i ∧ y = .str j ∧ Q (.bl (!(!(Builtin.Str.occurrences j i 0 j.length 1).isEmpty))) H) := by
  intro pins s σ H x y v u Q I rx ry h
  obtain ⟨i, j, rfl, rfl, q⟩ := h
  obtain ⟨t, rfl⟩ := rx
  obtain ⟨t', rfl⟩ := ry
  exact notIn_str (fin_bl I q rfl)
/-- is, is not of two objects that are tracked lists or instances -/
def isObj : HO → Bool
  | .lst _ => true
  | .ins _ _ _ => true
  | _ => false

/-- two rules for one operation: by cases -/
theorem OpR.or {f : Value → Value → Sem Value} {r r' : R2} (h : OpR X f r) (h' : OpR X f r') : OpR X f (fun x y H Q => r x y H Q ∨ r' x y H Q) := by
  intro pins s σ H x y v u Q I rx ry q
  rcases q with q | q
  · exact h pins s σ H x y v u Q I rx ry q
  · exact h' pins s σ H x y v u Q I rx ry q

theorem nomark (b : Expr) {op : CmpOp} (h : op ≠ .In := by decide) (h2 : op ≠ .NotIn := by decide) : behindInMarks op b = false := by
  have e1 : (op == CmpOp.In) = false := by cases op <;> first | rfl | exact absurd rfl h
  have e2 : (op == CmpOp.NotIn) = false := by cases op <;> first | rfl | exact absurd rfl h2
  cases b <;> simp [behindInMarks, e1, e2]
/-- a comparison as a value; hm: nomark b, or (for in, not in) by with_unfolding_all rfl -/
theorem pe_cmpR {op : CmpOp} {r : R2} (ho : OpR X (compareOp op) r) (ha : PE X a ta) (hb : PE X b tb) (hm : behindInMarks op b = false) : PE X (.Compare a [op] [b] pos) (tOp r ta tb) := by
  intro pins s σ H Q I h
  exact wpAny_Compare1 (binT ha hb I h fun v u s2 x y H2 I2 rx ry q => ho pins s2 σ H2 x y v u Q I2 rx ry q) hm
/-- a reading of a value as a test -/
def tTest (t : TE) : TT := fun σ H Q => t σ H fun x H' => ∃ k, x = .bl k ∧ Q k H'
theorem pt_cmpR {op : CmpOp} {r : R2} (ho : OpR X (compareOp op) r) (ha : PE X a ta) (hb : PE X b tb) (hm : behindInMarks op b = false) : PT X (.Compare a [op] [b] pos) (tTest (tOp r ta tb)) := by
  intro pins s σ H Q I h
  refine wpAny_isTrue_Compare1 (thn (ha pins s σ H _ I h) fun v s1 ⟨x, H1, I1, r1, q1⟩ => thn (hb pins s1 σ H1 _ I1 q1) fun u s2 ⟨y, H2, I2, r2, q2⟩ =>
    thn (ho pins s2 σ H2 x y v u _ I2 r1 r2 q2) fun c s3 ⟨z, H3, I3, r3, k, e, q3⟩ => ?_) hm
  subst e
  cases r3
  exact wpAny_truthy_bool ⟨H3, I3, q3⟩
/-- a op1 b op2 c -/
def tChain (r r' : R2) (ta tb tc : TE) : TE := fun σ H Q => ta σ H fun x H1 => tb σ H1 fun y H2 => r x y H2 fun z H3 => ∃ k, z = .bl k ∧
  (if k = true then tc σ H3 fun w' H4 => r' y w' H4 Q else Q (.bl false) H3)
theorem pe_chain {op op' : CmpOp} {r r' : R2} (ho : OpR X (compareOp op) r) (ho' : OpR X (compareOp op') r') (ha : PE X a ta) (hb : PE X b tb) (hc : PE X c tc)
    (hm : lastMarks [op, op'] [b, c] = false := by with_unfolding_all rfl) : PE X (.Compare a [op, op'] [b, c] pos) (tChain r r' ta tb tc) := by
  intro pins s σ H Q I h
  refine Compare_chain (thn (ha pins s σ H _ I h) fun v s1 ⟨x, H1, I1, r1, q1⟩ => chain_link (thn (hb pins s1 σ H1 _ I1 q1) fun u s2 ⟨y, H2, I2, r2, q2⟩ =>
    thn (ho pins s2 σ H2 x y v u _ I2 r1 r2 q2) fun d s3 ⟨z, H3, I3, r3, k, e, q3⟩ => ?_)) hm
  subst e
  cases r3
  refine wpAny_truthy_bool ?_
  cases k with
  | false => exact ite_ff ⟨.bl false, H3, I3, rfl, q3⟩
  | true => exact ite_tt (chain_last (thn (hc pins s3 σ H3 _ I3 q3) fun w' s4 ⟨z', H4, I4, r4, q4⟩ => ho' pins s4 σ H4 y z' u w' Q I4 r2 r4 q4))
theorem pt_chain {op op' : CmpOp} {r r' : R2} (ho : OpR X (compareOp op) r) (ho' : OpR X (compareOp op') r') (ha : PE X a ta) (hb : PE X b tb) (hc : PE X c tc)
    (hm : lastMarks [op, op'] [b, c] = false := by with_unfolding_all rfl) : PT X (.Compare a [op, op'] [b, c] pos) (tTest (tChain r r' ta tb tc)) := by
  intro pins s σ H Q I h
  refine isTrue_chain (thn (ha pins s σ H _ I h) fun v s1 ⟨x, H1, I1, r1, q1⟩ => test_link (thn (hb pins s1 σ H1 _ I1 q1) fun u s2 ⟨y, H2, I2, r2, q2⟩ =>
    thn (ho pins s2 σ H2 x y v u _ I2 r1 r2 q2) fun d s3 ⟨z, H3, I3, r3, k, e, q3⟩ => ?_)) hm
  subst e
  cases r3
  refine wpAny_truthy_bool ?_
  cases k with
  | false =>
    obtain ⟨k', e', q'⟩ := q3
    cases e'
    exact ite_ff ⟨H3, I3, q'⟩
  | true =>
    refine ite_tt (test_last (thn (hc pins s3 σ H3 _ I3 q3) fun w' s4 ⟨z', H4, I4, r4, q4⟩ => thn (ho' pins s4 σ H4 y z' u w' _ I4 r2 r4 q4) fun d' s5 ⟨z2, H5, I5, r5, k2, e2, q5⟩ => ?_))
    subst e2
    cases r5
    exact wpAny_truthy_bool ⟨H5, I5, q5⟩

/-! ### truth -/
/-- a value's truth by the abstract heap -/
def TruV (K : PySem.W.Frag) (x : V) (H : Hp) (k : Bool) : Prop :=
  match x with
  | .non => k = false
  | .bl b => k = b
  | .int i => k = (i != 0)
  | .str y => y.length ≤ sizeLine ∧ k = ((y.length : Int) != 0)
  | .byt y => y.size ≤ sizeLine ∧ k = ((y.size : Int) != 0)
  | .ref p => (∃ xs, SqL K H p xs ∧ k = !xs.isEmpty) ∨ (∃ xs, SqT K H p xs ∧ k = !xs.isEmpty) ∨ ∃ kvs, H p = some (.dK kvs) ∧ k = !kvs.isEmpty
  | _ => False
theorem line63 : (sizeLine : Nat) < 2 ^ 63 := by rw [sizeLine_eq]; decide

/-! ### strs and bytes -/

def PlainIxT (b : Expr) : Prop := ∀ o i, subscripted b false o i = operate [o, i] (getItem o i)

/-! ### scalar builtins, by CallR -/
theorem vals1 {x : V} {us : List Value} (r : Vals [x] us) : ∃ u, us = [u] ∧ RelV x u := by
  cases r with
  | cons r1 r2 => cases r2; exact ⟨_, rfl, r1⟩
theorem vals2 {x y : V} {us : List Value} (r : Vals [x, y] us) : ∃ u w', us = [u, w'] ∧ RelV x u ∧ RelV y w' := by
  cases r with
  | cons r1 r2 =>
    cases r2 with
    | cons r3 r4 => cases r4; exact ⟨_, _, rfl, r1, r3⟩
theorem call_min2 (hc : X.calm = true) : CallR X (.builtin "min") (fun xs H Q => ∃ i j, xs = [.int i, .int j] ∧ Q (.int (if j < i then j else i)) H) := by
  intro pins s σ H xs us Q I r h
  obtain ⟨i, j, rfl, q⟩ := h
  obtain ⟨u, w', rfl, ⟨t, rfl⟩, ⟨t', rfl⟩⟩ := vals2 r
  refine min_two_ints (I.ok.hd hc) fun h' tk k => ⟨_, H, I.kept k, ?_, q⟩
  by_cases hj : j < i
  · rw [if_pos hj, if_pos hj]; exact ⟨_, rfl⟩
  · rw [if_neg hj, if_neg hj]; exact ⟨_, rfl⟩
theorem call_int1 : CallR X (.type "int") (fun xs H Q => (∃ i, xs = [.int i] ∧ Q (.int i) H) ∨ ∃ k, xs = [.bl k] ∧ Q (.int (if k then 1 else 0)) H) := by
  intro pins s σ H xs us Q I r h
  rcases h with ⟨i, rfl, q⟩ | ⟨k, rfl, q⟩
  · obtain ⟨u, rfl, t, rfl⟩ := vals1 r
    exact call_int_int ⟨.int i, H, I, ⟨_, rfl⟩, q⟩
  · obtain ⟨u, rfl, r1⟩ := vals1 r
    cases r1
    exact call_int_bool ⟨.int (if k then 1 else 0), H, I.tok _, ⟨_, rfl⟩, q⟩
/-- len of a str, a bytes, a list, a tuple -/
def LenV (K : PySem.W.Frag) (x : V) (H : Hp) (n : Nat) : Prop :=
  match x with
  | .str y => y.length ≤ sizeLine ∧ n = y.length
  | .byt y => y.size ≤ sizeLine ∧ n = y.size
  | .ref p => (∃ xs, SqL K H p xs ∧ n = xs.length) ∨ ∃ xs, SqT K H p xs ∧ n = xs.length
  | _ => False
end
end L2

namespace L2
open PySem PySem.Spec PyProof.Rows

/-! ### an instance, its attributes a map -/
structure ObjM (h : Heap) (x dx C : Addr) (mA : Str → Option Value) : Prop where
  obj : h.get? x = some (PySem.W.instObj C dx)
  ns : h.Ns1 dx mA
  ne : dx ≠ x

theorem lookIn_ns {h : Heap} {dx : Addr} {mA : Str → Option Value} (n : h.Ns1 dx mA) : ∃ od, h.get? dx = some od ∧ ∀ name, PySem.W.lookIn name od = some (mA name) := by
  obtain ⟨o, es, ep, ho, hd, hk, _, hm⟩ := n
  refine ⟨o, ho, fun name => ?_⟩
  have e := hm name
  unfold nsFind findBy at e
  rw [← Array.find?_toList] at e
  unfold PySem.W.lookIn
  rw [hd]
  dsimp only
  split
  · rename_i y q
    rw [q] at e
    exact congrArg some e
  · rename_i q
    rw [q] at e
    have a : es.toList.any (·.refKey) = false := by
      rw [List.any_eq_false]
      intro y hy
      obtain ⟨z, t, hkey⟩ := hk y (Array.mem_toList_iff.mp hy)
      simp [DictEntry.refKey, hkey]
    have a' : ¬ es.toList.any (·.refKey) = true := by rw [a]; exact Bool.false_ne_true
    rw [if_neg a']
    exact congrArg some e

theorem ObjM.look {h : Heap} {x dx C : Addr} {mA : Str → Option Value} (I : ObjM h x dx C mA) : ∃ od, PySem.W.InstAt h x (PySem.W.instObj C dx) C (some od) ∧ ∀ name, PySem.W.lookIn name od = some (mA name) :=
  let ⟨od, ho, hl⟩ := lookIn_ns I.ns
  ⟨od, ⟨I.obj, rfl, rfl, ho⟩, hl⟩

section
variable {prog : Program} {w : World} {A : Around} {E : Value → Shared → Prop} {s : Shared} {K : PySem.W.Frag} {x dx C f : Addr} {mA : Str → Option Value} {name : Str} {v : Value}





end

/-! ### the attributes as a list of pairs -/
def putF (f : Str) (v : V) : List (Str × V) → List (Str × V)
  | [] => [(f, v)]
  | (g, x) :: r => if g = f then (g, v) :: r else (g, x) :: putF f v r


section
variable {P : Program} {w : World} {H H' : Hp} {h h' : Heap} {a C dx : Addr} {fs fs' : List (Str × V)}
theorem ins_get (hok : HOk P w H h) (e : H a = some (.ins C dx fs)) : ∃ mA, ObjM h a dx C mA ∧ (∀ f, RelO (fs.lookup f) (mA f)) ∧ PySem.Within mA (fs.map (·.1)) ∧ fs.length ≤ 1000 ∧ H dx = some (.own a) := by
  obtain ⟨d, z, ne, ob, mA, n, r, q⟩ := (show ObjOk P w H h a (.ins C dx fs) from hok a _ e)
  exact ⟨mA, ⟨ob, n, ne⟩, r, q, z, d⟩
end

/-! ### what of the text a class must have -/
structure Cls (K : PySem.W.Frag) (C : Addr) : Prop where
  pg : PySem.W.plainGet K C Str.empty = true
  hd : PySem.W.hasDictIn K C = true
  po : PySem.W.plainOver K C = true
  sa : PySem.W.findIn K (.ref C) "__setattr__" = some (some (.builtin "object.__setattr__"))
theorem Cls.get {K : PySem.W.Frag} {C : Addr} (c : Cls K C) (f : Str) : PySem.W.plainGet K C f = true := c.pg
/-- no class of it has the name -/
def NoAttr (K : PySem.W.Frag) (C : Addr) (f : Str) : Prop := PySem.W.findIn K (.ref C) f = some none
/-- a constant of the class -/
structure Con (K : PySem.W.Frag) (C : Addr) (f : Str) (v : V) (u : Value) : Prop where
  at_ : PySem.W.findIn K (.ref C) f = some (some u)
  rel : RelV v u
  get : PySem.W.specialIn K u "__get__" = some none
  cp : PySem.W.copiedNames.contains f = false
/-- a method: a plain def of the class or of one above it -/
structure Meth (K : PySem.W.Frag) (C : Addr) (m : Str) (f : Addr) : Prop where
  at_ : PySem.W.findIn K (.ref C) m = some (some (.ref f))
  fn : PySem.W.isFn K (.ref f) = true
  kp : PySem.W.keepIn K (.ref f) = true

section
variable {X : Cx} {pins : List (Addr × Obj)} {σ : St} {H : Hp} {s : Shared} {a C dx : Addr} {fs : List (Str × V)} {f : Str} {v : V} {A : Around} {E : Value → Shared → Prop}





/-- a new instance, tracked, without attributes -/
theorem Inv.made (I : Inv X pins σ H s) : Inv X pins σ (upd (upd H s.heap.objs.size (.own (s.heap.objs.size + 1))) (s.heap.objs.size + 1) (.ins C s.heap.objs.size []))
    { s with heap := (s.heap.push PySem.W.emptyDict).push (PySem.W.instObj C s.heap.objs.size) } := by
  have e1 : (s.heap.push PySem.W.emptyDict).get? s.heap.objs.size = some PySem.W.emptyDict := Heap.get?_push_size s.heap rfl
  have e2 : ((s.heap.push PySem.W.emptyDict).push (PySem.W.instObj C s.heap.objs.size)).get? (s.heap.objs.size + 1) = some (PySem.W.instObj C s.heap.objs.size) := by
    have := Heap.get?_push_size (s.heap.push PySem.W.emptyDict) (o := PySem.W.instObj C s.heap.objs.size) rfl
    rwa [Heap.size_push] at this
  have e3 : (s.heap.push PySem.W.emptyDict).Ns s.heap.objs.size (fun _ => none) := ⟨PySem.W.emptyDict, #[], _, e1, rfl, (fun e he => absurd he (by simp)), fun _ => rfl⟩
  have I1 := I.laid (a := s.heap.objs.size) (o := .own (s.heap.objs.size + 1)) (h' := s.heap.push PySem.W.emptyDict) (t' := s.toks) (fun b u q => Heap.get?_push_of_some _ q) (Nat.le_refl _) ⟨_, e1⟩
  refine I1.laid (a := s.heap.objs.size + 1) (o := .ins C s.heap.objs.size []) (t' := s.toks) (fun b u q => Heap.get?_push_of_some _ q) (Nat.le_of_eq (Heap.size_push _ _)) ?_
  have ne : s.heap.objs.size ≠ s.heap.objs.size + 1 := Nat.ne_of_lt (Nat.lt_succ_self _)
  refine ⟨by rw [upd_ne ne, upd_same], Nat.zero_le _, ne, e2, fun _ => none, (Heap.Ns1.of_empty e3).at fun o q => Heap.get?_push_of_some _ q, fun _ => True.intro, fun y hy => absurd rfl hy⟩

end

/-! ### readings and rules -/
/-- e.f, an attribute of the instance -/
def tFld (K : PySem.W.Frag) (ta : TE) (f : Str) : TE := fun σ H Q => ta σ H fun x H1 => ∃ a C dx fs v, x = .ref a ∧ H1 a = some (.ins C dx fs) ∧ Cls K C ∧ NoAttr K C f ∧ fs.lookup f = some v ∧ Q v H1
/-- e.f, a constant of the class -/
def tCon (K : PySem.W.Frag) (ta : TE) (f : Str) : TE := fun σ H Q => ta σ H fun x H1 => ∃ a C dx fs v u, x = .ref a ∧ H1 a = some (.ins C dx fs) ∧ Cls K C ∧ Con K C f v u ∧ fs.lookup f = none ∧ Q v H1
/-- e.f = value -/
def sFld (K : PySem.W.Frag) (ta tv : TE) (f : Str) : TS := fun D σ H => tv σ H fun y H1 => ta σ H1 fun x H2 => ∃ a C dx fs, x = .ref a ∧ H2 a = some (.ins C dx fs) ∧ Cls K C ∧ NoAttr K C f ∧ fs.length < 1000 ∧
  D.nx σ (upd H2 a (.ins C dx (putF f y fs)))
/-- an augmented operator on two values -/
def InOp (X : Cx) (op : Operator) (rd : V → V → Hp → VK → Prop) : Prop :=
  ∀ (pins : List (Addr × Obj)) (s : Shared) (σ : St) (H : Hp) (x y : V) (u v : Value) (Q : VK), Inv X pins σ H s → RelV x u → RelV y v → rd x y H Q → wpAny (model X.prog X.w) X.A (inplaceOp op u v) (EP X pins σ Q) X.xe s
/-- e.f op= value -/
def sFldAug (K : PySem.W.Frag) (ta tv : TE) (rd : V → V → Hp → VK → Prop) (f : Str) : TS := fun D σ H => ta σ H fun x H1 => ∃ a C dx fs v, x = .ref a ∧ H1 a = some (.ins C dx fs) ∧ Cls K C ∧ NoAttr K C f ∧ fs.lookup f = some v ∧
  tv σ H1 fun y H2 => rd v y H2 fun z H3 => ∃ dx' fs', H3 a = some (.ins C dx' fs') ∧ fs'.length < 1000 ∧ D.nx σ (upd H3 a (.ins C dx' (putF f z fs')))

section
variable {X : Cx} {o e value : Expr} {f : Str} {pos pos' tpos : Pos} {ta tv : TE}
def rAdd : V → V → Hp → VK → Prop := fun x y H Q => ∃ i j, x = .int i ∧ y = .int j ∧ Q (.int (i + j)) H
def rSub : V → V → Hp → VK → Prop := fun x y H Q => ∃ i j, x = .int i ∧ y = .int j ∧ Q (.int (i - j)) H

end

/-! ### isinstance -/
section
variable {X : Cx} {pins : List (Addr × Obj)} {σ : St} {H : Hp} {s : Shared} {A : Around} {E : Value → Shared → Prop} {Q : Value → Shared → Prop} {c : Value} {b : Bool}
/-- the type of a value, as the fragment's deciders take it; for an instance its class -/
inductive TyOf (K : PySem.W.Frag) (H : Hp) : V → Value → Prop where
  | non : TyOf K H .non (.type "NoneType")
  | bl (x : Bool) : TyOf K H (.bl x) (.type "bool")
  | int (i : Int) : TyOf K H (.int i) (.type "int")
  | str (x : Str) : TyOf K H (.str x) (.type "str")
  | flt (x : UInt64) : TyOf K H (.flt x) (.type "float")
  | lst {a : Addr} {xs : List V} (e : H a = some (.lst xs)) : TyOf K H (.ref a) (.type "list")
  | frz {a : Addr} {o : Obj} {xs : List V} (e : H a = some (.frz o (.lst xs))) : TyOf K H (.ref a) (.type "list")
  | tup {a : Addr} {xs : List V} (e : H a = some (.tup xs)) : TyOf K H (.ref a) (.type "tuple")
  | dK {a : Addr} {kvs : List (Key × V)} (e : H a = some (.dK kvs)) : TyOf K H (.ref a) (.type "dict")
  | dT {a : Addr} {kvs : List (List Key × V)} (e : H a = some (.dT kvs)) : TyOf K H (.ref a) (.type "dict")
  | ins {a C dx : Addr} {fs : List (Str × V)} (e : H a = some (.ins C dx fs)) (cl : Cls K C) (ha : PySem.W.findIn K (.ref C) "__class__" = some (some (.builtin "object.__class__")))
      (hn : PySem.W.specialIn K (.builtin "object.__class__") "__get__" = some (some (.builtin "getset_descriptor.__get__"))) (htk : PySem.W.takesIn K (.builtin "object.__class__") = some true)
      (hm : PySem.W.mroIn K C (.type "object") = some true) : TyOf K H (.ref a) (.ref C)
/-- isinstance(x, c) for one class c, a built-in or an own one: kitOne's answer -/
theorem isinst_ok {x : V} {u t : Value} (I : Inv X pins σ H s) (rx : RelV x u) (ty : TyOf X.K H x t) (e : PySem.W.kitOne X.K t c = some b) (h : ∀ tk, Q (.bool b) { s with toks := tk }) :
    wpAny (model X.prog X.w) A (call (.builtin "isinstance") [u, c]) Q E s := by
  cases ty with
  | non => cases (show u = Value.none from rx); exact PySem.W.kia_one PySem.W.kitx_none I.kIn True.intro e (fun z => nomatch z) h
  | bl y => cases (show u = Value.bool y from rx); exact PySem.W.kia_one PySem.W.kitx_bool I.kIn True.intro e (fun z => nomatch z) h
  | int i => obtain ⟨t, q⟩ := (show ∃ t, u = Value.int i t from rx); cases q; exact PySem.W.kia_one PySem.W.kitx_int I.kIn True.intro e (fun z => nomatch z) h
  | str y => obtain ⟨t, q⟩ := (show ∃ t, u = Value.str y t from rx); cases q; exact PySem.W.kia_one PySem.W.kitx_str I.kIn True.intro e (fun z => nomatch z) h
  | flt y => obtain ⟨t, q⟩ := (show ∃ t, u = Value.float y t from rx); cases q; exact PySem.W.kia_one PySem.W.kitx_float I.kIn True.intro e (fun z => nomatch z) h
  | @lst a xs ea =>
    cases (show u = Value.ref a from rx)
    obtain ⟨_, _, n, _, h1⟩ := (show ObjOk X.prog X.w H s.heap a (.lst xs) from I.hok a _ ea)
    exact PySem.W.kia_one PySem.W.kitx_list I.kIn ⟨_, h1, rfl⟩ e (fun z => nomatch z) h
  | @frz a ob xs ea =>
    cases (show u = Value.ref a from rx)
    obtain ⟨_, _, _, n, _, h1⟩ := (show ObjOk X.prog X.w H s.heap a (.frz ob (.lst xs)) from I.hok a _ ea)
    exact PySem.W.kia_one PySem.W.kitx_list I.kIn ⟨_, h1, rfl⟩ e (fun z => nomatch z) h
  | @tup a xs ea =>
    cases (show u = Value.ref a from rx)
    obtain ⟨_, _, _, p⟩ := (show ObjOk X.prog X.w H s.heap a (.tup xs) from I.hok a _ ea)
    obtain ⟨o, h1, h2, _⟩ := p
    exact PySem.W.kia_one PySem.W.kitx_tuple I.kIn ⟨o, h1, h2⟩ e (fun z => nomatch z) h
  | @dK a kvs ea =>
    cases (show u = Value.ref a from rx)
    obtain ⟨_, _, vs, _, p⟩ := (show ObjOk X.prog X.w H s.heap a (.dK kvs) from I.hok a _ ea)
    obtain ⟨o, es, ep, h1, h2, _⟩ := p
    exact PySem.W.kia_one PySem.W.kitx_dict I.kIn ⟨o, h1, h2.1⟩ e (fun z => nomatch z) h
  | @dT a kvs ea =>
    cases (show u = Value.ref a from rx)
    obtain ⟨_, _, xs, _, o, es, ep, h1, h2, _⟩ := (show ObjOk X.prog X.w H s.heap a (.dT kvs) from I.hok a _ ea)
    exact PySem.W.kia_one PySem.W.kitx_dict I.kIn ⟨o, h1, h2.1⟩ e (fun z => nomatch z) h
  | @ins a C dx fs ea cl ha hn htk hm =>
    cases (show u = Value.ref a from rx)
    obtain ⟨mA, O, _⟩ := ins_get I.hok ea
    obtain ⟨od, J, _⟩ := O.look
    exact PySem.W.kia_one (PySem.W.kitx_own (cl.get _) cl.hd ha hn htk hm) I.kIn J e (fun z => nomatch z) h
end
end L2

namespace L2
open PySem PySem.Spec PyProof.Rows

/-! ### room -/
structure Room (k : Nat) (A : Around) : Prop where
  hd : A.handled = none
  dp : A.depth + 3 * k + 5 < recursionLimit
  un : A.units + 16 * k + 200 < cLine
  gd : A.guards = some []
theorem Room.mono {j k : Nat} {A : Around} (r : Room k A) (h : j ≤ k) : Room j A := ⟨r.hd, by have := r.dp; omega, by have := r.un; omega, r.gd⟩
theorem Room.deeper {k : Nat} {A : Around} (r : Room (k + 1) A) (env : Env) : Room k (A.deeper env) :=
  ⟨r.hd, by have := r.dp; show A.depth + 1 + 3 * k + 5 < _; omega, by have := r.un; show A.units + 3 + 16 * k + 200 < _; omega, r.gd⟩
theorem Room.in1 {k : Nat} {A : Around} (r : Room (k + 1) A) : Room k A.in1 :=
  ⟨r.hd, by have := r.dp; show A.depth + 3 * k + 5 < _; omega, by have := r.un; show A.units + 1 + 16 * k + 200 < _; omega, r.gd⟩
theorem Room.depth {k : Nat} {A : Around} (r : Room k A) : A.depth < recursionLimit := by have := r.dp; omega
theorem Room.units {k : Nat} {A : Around} (r : Room k A) : A.units + 64 < cLine := by have := r.un; omega

/-! ### argument lists and displays -/
def tNil : TA := fun _ H Q => Q [] H
def tCons (ta : TE) (tr : TA) : TA := fun σ H Q => ta σ H fun x H1 => tr σ H1 fun xs H2 => Q (x :: xs) H2
section
variable {X : Cx} {e : Expr} {es : List Expr} {te : TE} {t : TA} {pos : Pos}
theorem pa_nil : PA X [] tNil := fun _ _ _ _ H Q I h => Calls.spliced_nil ⟨[], H, I, .nil, h⟩
theorem pa_cons (ha : PE X e te) (hr : PA X es t) (hs : starEach (e :: es) X.env = (false, eval e X.env) :: starEach es X.env := by rfl) : PA X (e :: es) (tCons te t) := by
  intro pos pins s σ H Q I h
  rw [hs]
  show wpAny _ _ (spliced ((false, eval e X.env) :: backTo pos (starEach es X.env))) _ _ s
  refine Calls.spliced_cons (thn (ha pins s σ H _ I h) fun u s1 ⟨x, H1, I1, r1, q1⟩ => ?_)
  exact thn (hr pos pins s1 σ H1 _ I1 q1) fun us s2 ⟨xs, H2, I2, r2, q2⟩ => ⟨x :: xs, H2, I2, .cons r1 r2, q2⟩

/-- a tuple, a list of written items -/
def tTup (t : TA) : TE := fun σ H Q => t σ H fun xs H1 => xs.length ≤ sizeLine ∧ ∀ p, H1 p = none → Q (.ref p) (upd H1 p (.tup xs))
def tLst (t : TA) : TE := fun σ H Q => t σ H fun xs H1 => xs.length ≤ sizeLine ∧ ∀ p, H1 p = none → Q (.ref p) (upd H1 p (.lst xs))
theorem pe_tup {x1} (h : PA X es t) : PE X (.Tuple es x1 pos) (tTup t) := by
  intro pins s σ H Q I hq
  refine wpAny_Tuple_spliced (thn (h pos pins s σ H _ I hq) fun us s1 ⟨xs, H1, I1, r, z, q⟩ => ⟨by rw [← r.length]; exact z, ?_⟩)
  have hf : H1 s1.heap.objs.size = none := I1.hok.fresh (Nat.le_refl _)
  refine ⟨.ref s1.heap.objs.size, upd H1 s1.heap.objs.size (.tup xs), I1.laid (t' := s1.toks) (fun b u e => Heap.get?_push_of_some _ e) (Nat.le_refl _) ?_, rfl, q _ hf⟩
  exact ⟨z, us, r, ⟨_, Heap.get?_push_size _ rfl, rfl, _, rfl⟩⟩
theorem pe_lst (h : PA X es t) : PE X (.List es pos) (tLst t) := by
  intro pins s σ H Q I hq
  refine wpAny_List_spliced (thn (h pos pins s σ H _ I hq) fun us s1 ⟨xs, H1, I1, r, z, q⟩ => ⟨by rw [← r.length]; exact z, ?_⟩)
  have hf : H1 s1.heap.objs.size = none := I1.hok.fresh (Nat.le_refl _)
  refine ⟨.ref s1.heap.objs.size, upd H1 s1.heap.objs.size (.lst xs), I1.laid (t' := s1.toks) (fun b u e => Heap.get?_push_of_some _ e) (Nat.le_refl _) ?_, rfl, q _ hf⟩
  exact ⟨z, us, 0, r, Heap.get?_push_size _ rfl⟩
end

/-! ### what a def promises -/
/-- a def's promise: the bound arguments in the parameters' order, the heap, the wanted end, the wanted exception -/
abbrev Sp := List V → Hp → VK → XK → Prop
/-- how an exception lies behind a call (file 08 gives it): the callers' frames, abstract heap and state ahead of the call, the wish, the exception, the state -/
abbrev CXT := List Env → Hp → Shared → XK → Value → Shared → Prop

/-- the state at a call -/
structure Env0 (P : Program) (w : World) (K : PySem.W.Frag) (mg : Str → Option Value) (base : Heap) (A : Around) (outer : List Env) (s : Shared) (H : Hp) : Prop where
  frames : A.frames = some outer
  mod : Mod K mg base
  bs : ∀ b o, base.get? b = some o → s.heap.get? b = some o ∧ H b = none
  bsz : base.objs.size ≤ s.heap.objs.size
  funs : s.heap.FunFrames base outer
  frf : ∀ b ∈ frs outer, H b = none
  hok : HOk P w H s.heap
  bare : AllBare s.gens
/-- a call's end -/
def CE (outer : List Env) (P : Program) (w : World) (H : Hp) (s : Shared) (Q : VK) (u : Value) (s' : Shared) : Prop :=
  ∃ v H', s'.os = s.os ∧ AllBare s'.gens ∧ Un (frs outer) [] H H' s.heap s'.heap ∧ HOk P w H' s'.heap ∧ RelV v u ∧ Q v H'
def CR (CX : CXT) (outer : List Env) (P : Program) (w : World) (H : Hp) (s : Shared) (Q : VK) (E : XK) (r : Result) (s' : Shared) : Prop :=
  match r with
  | .ok (.ret u) => CE outer P w H s Q u s'
  | .ok _ => False
  | .error e => CX outer H s E e s'
structure FnOk (P : Program) (w : World) (K : PySem.W.Frag) (mg : Str → Option Value) (base : Heap) (CX : CXT) (k : Nat) (f : Addr) (fd : FuncData) (ps : List Str) (sp : Sp) : Prop where
  len : ∀ vs H Q E, sp vs H Q E → vs.length = ps.length
  run : ∀ (A : Around) (outer : List Env) (s : Shared) (H : Hp) (args : Args) (us : List Value) (vs : List V) (Q : VK) (E : XK), Room k A → Env0 P w K mg base A outer s H → BindsTo s fd args (ps.zip us) → Vals vs us → sp vs H Q E →
    codeAny (model P w) A (.call (.ref f) args) (CR CX outer P w H s Q E) s
theorem FnOk.mono {P : Program} {w : World} {K : PySem.W.Frag} {mg : Str → Option Value} {base : Heap} {CX : CXT} {j k : Nat} {f : Addr} {fd : FuncData} {ps : List Str} {sp : Sp} (F : FnOk P w K mg base CX j f fd ps sp) (h : j ≤ k) :
    FnOk P w K mg base CX k f fd ps sp := ⟨F.len, fun A outer s H args us vs Q E hr => F.run A outer s H args us vs Q E (hr.mono h)⟩

theorem Env0.in1 {P : Program} {w : World} {K : PySem.W.Frag} {mg : Str → Option Value} {base : Heap} {A : Around} {outer : List Env} {s : Shared} {H : Hp} (e : Env0 P w K mg base A outer s H) :
    Env0 P w K mg base A.in1 outer s H := ⟨e.frames, e.mod, e.bs, e.bsz, e.funs, e.frf, e.hok, e.bare⟩

section
variable {X : Cx} {pins : List (Addr × Obj)} {σ : St} {H : Hp} {s s' : Shared}
/-- from a body: what a callee wants -/
theorem Inv.env0 (I : Inv X pins σ H s) : Env0 X.prog X.w X.K X.mg X.base X.A X.stack s H :=
  ⟨I.ok.frames, I.ok.mod, I.bs, Nat.le_trans I.ok.bsz I.sz, I.stack, I.stkFree, I.hok, I.bare⟩
/-- behind a call -/
theorem Inv.after {Q : VK} {u : Value} (I : Inv X pins σ H s) (h : CE X.stack X.prog X.w H s Q u s') : EP X pins σ Q u s' := by
  obtain ⟨v, H', os, bare, un, hok, r, q⟩ := h
  obtain ⟨hh, g, d, t, os'⟩ := s'
  obtain rfl : os' = s.os := os
  exact ⟨v, H', I.call (h' := hh) (g' := g) (d' := d) (t' := t) (ch := []) un hok bare (fun b z => absurd z (by simp)), r, q⟩
end

/-! ### calls -/
/-- f(..): the written arguments, then the defaults dvs; E: what is wanted of an exception -/
def tCall (sp : Sp) (dvs : List V) (E : XK) (t : TA) : TE := fun σ H Q => t σ H fun vs H1 => sp (vs ++ dvs) H1 Q E
/-- o.m(..) of an instance of the class at C -/
def tMeth (C : Addr) (m : Str) (sp : Sp) (dvs : List V) (E : XK) (ta : TE) (t : TA) : TE := fun σ H Q => ta σ H fun x H1 => ∃ a dx fs, x = .ref a ∧ H1 a = some (.ins C dx fs) ∧ fs.lookup m = none ∧
  t σ H1 fun vs H2 => sp (x :: (vs ++ dvs)) H2 Q E
/-- C(..): a new instance and its dict, then __init__ -/
def tMake (C : Addr) (sp : Sp) (dvs : List V) (E : XK) (t : TA) : TE := fun σ H Q => t σ H fun vs H1 => ∀ x dx, H1 x = none → H1 dx = none → dx ≠ x →
  sp (.ref x :: (vs ++ dvs)) (upd (upd H1 dx (.own x)) x (.ins C dx [])) (fun v H2 => v = .non ∧ Q (.ref x) H2) E

/-- how the parameters are bound: us the positional arguments, kw the keywords' values by name, ds the defaults that fill up -/
def Binds (K : PySem.W.Frag) (fd : FuncData) (ps : List Str) (ds : List Value) : Prop :=
  ∀ (s : Shared) (us : List Value), K.In s.heap → (us ++ ds).length = ps.length → BindsTo s fd ⟨us, []⟩ (ps.zip (us ++ ds))
/-- every parameter is given -/
theorem Binds.all {K : PySem.W.Frag} {fd : FuncData} {ps : List Str} (h : ∀ us : List Value, us.length = ps.length → bindArgs fd ⟨us, []⟩ = pure (ps.zip us)) : Binds K fd ps [] := fun s us _ hl => by
  rw [List.append_nil] at hl ⊢
  exact .of_eq (h us hl)

/-- an exception of a callee reaches what this body wants of exceptions -/
def Passes (CX : CXT) (X : Cx) (E : XK) : Prop := ∀ (pins : List (Addr × Obj)) (σ : St) (H : Hp) (s : Shared) (e : Value) (s' : Shared), Inv X pins σ H s → CX X.stack H s E e s' → X.xe e s'

section
variable {X : Cx} {CX : CXT} {k : Nat} {f C : Addr} {fd : FuncData} {ps : List Str} {sp : Sp} {dvs : List V} {ds : List Value} {E : XK} {x m : Str} {p pos apos : Pos} {e o : Expr} {es : List Expr} {ta : TE} {t : TA}

/-- the callee runs -/
theorem run_fn {pins : List (Addr × Obj)} {σ : St} {H : Hp} {s : Shared} {Q : VK} {us : List Value} {vs : List V} (F : FnOk X.prog X.w X.K X.mg X.base CX k f fd ps sp) (hr : Room k X.A) (hb : Binds X.K fd ps ds) (hd : Vals dvs ds) (hx : Passes CX X E)
    (I : Inv X pins σ H s) (r : Vals vs us) (h : sp (vs ++ dvs) H Q E) : wpAny (model X.prog X.w) X.A (call (.ref f) us) (EP X pins σ Q) X.xe s := by
  have r2 : Vals (vs ++ dvs) (us ++ ds) := r.append hd
  have hl : (us ++ ds).length = ps.length := by rw [← r2.length]; exact F.len _ _ _ _ h
  refine wpAny_call (codeAny_mono (F.run X.A X.stack s H ⟨us, []⟩ (us ++ ds) (vs ++ dvs) Q E hr I.env0 (hb s us I.kIn hl) r2 h) fun r s' hq => ?_)
  cases r with
  | error e => exact hx pins σ H s e s' I hq
  | ok fl =>
    cases fl with
    | ret u => exact I.after hq
    | next => exact False.elim hq
    | brk => exact False.elim hq
    | cont => exact False.elim hq

theorem pe_call (F : FnOk X.prog X.w X.K X.mg X.base CX k f fd ps sp) (hr : Room k X.A) (hg : Gl X x) (hm : X.mg x = some (.ref f)) (hk : PySem.W.keepIn X.K (.ref f) = true) (hb : Binds X.K fd ps ds) (hd : Vals dvs ds) (hx : Passes CX X E)
    (ha : PA X (e :: es) t) (hdb : (x == ("__debug__" : Str)) = false := by decide) (he : starEach (e :: es) X.env = (false, eval e X.env) :: starEach es X.env := by rfl) (hpl : (backTo pos (starEach es X.env)).any (·.1) = false := by rfl) :
    PE X (.Call (.Name x p) (e :: es) [] pos) (tCall sp dvs E t) := by
  intro pins s σ H Q I h
  refine wpAny_Call_Name_kw (ld_glob I hg hm ?_ hdb)
  refine PySem.W.callWith_K (h₀ := X.base) I.ok.mod.kin hk (thn (ha pos pins s σ H _ I h) fun us s1 ⟨vs, H1, I1, r, q⟩ => ⟨I1.kIn, ?_⟩) he hpl
  exact run_fn F hr hb hd hx I1 r q


/-- what a class must have to be made -/
structure Mk (K : PySem.W.Frag) (C f : Addr) : Prop where
  makes : PySem.W.makesIn K C = true
  init : PySem.W.findIn K (.ref C) "__init__" = some (some (.ref f))
  fn : PySem.W.isFn K (.ref f) = true
  kp : PySem.W.keepIn K (.ref C) = true

end

/-! ### keywords -/
/-- the values of the keywords, from the left -/
def PK (X : Cx) (kws : List Keyword) (t : TA) : Prop :=
  ∀ (pos : Pos) (pins : List (Addr × Obj)) (s : Shared) (σ : St) (H : Hp) (Q : List V → Hp → Prop), Inv X pins σ H s → t σ H Q → wpAny (model X.prog X.w) X.A (evalAll ((backToKw pos (keywordEach kws X.env)).map (·.2))) (AP X pins σ Q) X.xe s
section
variable {X : Cx} {CX : CXT} {k : Nat} {f C : Addr} {fd : FuncData} {ps ks : List Str} {sp : Sp} {E : XK} {x m : Str} {p pos apos kpos : Pos} {e o : Expr} {es : List Expr} {kws : List Keyword} {te ta : TE} {t tk : TA} {nm : Option Str}

/-- how a call with keywords binds: g puts the positional values us and the keywords' values ws (names ks) in the parameters' order, defaults among them -/
structure KBinds (K : PySem.W.Frag) (fd : FuncData) (ps ks : List Str) (g : List Value → List Value → List Value) (gV : List V → List V → List V) : Prop where
  to : ∀ (s : Shared) (us ws : List Value), K.In s.heap → (g us ws).length = ps.length → BindsTo s fd ⟨us, ks.zip ws⟩ (ps.zip (g us ws))
  rel : ∀ {vs : List V} {us : List Value} {zs : List V} {ws : List Value}, Vals vs us → Vals zs ws → Vals (gV vs zs) (g us ws)
def tCallK (sp : Sp) (gV : List V → List V → List V) (E : XK) (t tk : TA) : TE := fun σ H Q => t σ H fun vs H1 => tk σ H1 fun zs H2 => sp (gV vs zs) H2 Q E
variable {g : List Value → List Value → List Value} {gV : List V → List V → List V}
end

/-! ### a def's body keeps its promise -/
/-- names: the parameters first -/
structure FnScope (N P : List Str) (sc : Scope) : Prop where
  kind : sc.kind = .function
  co : sc.isCoroutine = false
  gen : sc.isGenerator = false
  nd : N.Nodup
  pre : N.take P.length = P
  par : ∀ x ∈ P, sc.names.lookup x = some .local ∨ sc.names.lookup x = some .cell
  nofree : ∀ y ∈ sc.names, y.2 ≠ .free

theorem bindL_out {kindOf : Str → Option NameKind} {x : Str} : ∀ {binds : List (Str × Value)} {m : Str → Option Value}, (∀ v, (x, v) ∉ binds) → bindL kindOf binds m x = m x
  | [], _, _ => rfl
  | (n, v) :: r, m, h => by
    unfold bindL
    rw [bindL_out fun w hw => h w (List.mem_cons_of_mem _ hw)]
    split
    · have : x ≠ n := by rintro rfl; exact h v List.mem_cons_self
      simp [this]
    · rfl
theorem bindC_out {kindOf : Str → Option NameKind} {x : Str} : ∀ {binds : List (Str × Value)} {m : Str → Option Value}, (∀ v, (x, v) ∉ binds) → bindC kindOf binds m x = m x
  | [], _, _ => rfl
  | (n, v) :: r, m, h => by
    unfold bindC
    rw [bindC_out fun w hw => h w (List.mem_cons_of_mem _ hw)]
    split
    · rfl
    · have : x ≠ n := by rintro rfl; exact h v List.mem_cons_self
      simp [this]
theorem bindL_get {kindOf : Str → Option NameKind} {x : Str} {v : Value} : ∀ {P : List Str} {vs : List Value} {i : Nat} {m : Str → Option Value}, P.Nodup → P[i]? = some x → vs[i]? = some v → kindOf x = some .local →
    bindL kindOf (P.zip vs) m x = some v
  | [], _, _, _, _, h, _, _ => by simp at h
  | _ :: _, [], _, _, _, _, h, _ => by simp at h
  | p :: P, w :: vs, 0, m, nd, h1, h2, hk => by
    simp at h1 h2; subst h1; subst h2
    show bindL kindOf ((p, w) :: P.zip vs) m p = _
    unfold bindL
    rw [bindL_out fun v hv => (List.nodup_cons.mp nd).1 (List.of_mem_zip hv).1, if_pos hk]
    simp
  | p :: P, w :: vs, i + 1, m, nd, h1, h2, hk => by
    show bindL kindOf ((p, w) :: P.zip vs) m x = _
    unfold bindL
    exact bindL_get (i := i) (List.nodup_cons.mp nd).2 (by simpa using h1) (by simpa using h2) hk
theorem bindC_get {kindOf : Str → Option NameKind} {x : Str} {v : Value} : ∀ {P : List Str} {vs : List Value} {i : Nat} {m : Str → Option Value}, P.Nodup → P[i]? = some x → vs[i]? = some v → kindOf x ≠ some .local →
    bindC kindOf (P.zip vs) m x = some v
  | [], _, _, _, _, h, _, _ => by simp at h
  | _ :: _, [], _, _, _, _, h, _ => by simp at h
  | p :: P, w :: vs, 0, m, nd, h1, h2, hk => by
    simp at h1 h2; subst h1; subst h2
    show bindC kindOf ((p, w) :: P.zip vs) m p = _
    unfold bindC
    rw [bindC_out fun v hv => (List.nodup_cons.mp nd).1 (List.of_mem_zip hv).1, if_neg hk]
    simp
  | p :: P, w :: vs, i + 1, m, nd, h1, h2, hk => by
    show bindC kindOf ((p, w) :: P.zip vs) m x = _
    unfold bindC
    exact bindC_get (i := i) (List.nodup_cons.mp nd).2 (by simpa using h1) (by simpa using h2) hk

/-- the names' values at the entry -/
def start (N : List Str) (vs : List V) : St := vs.map some ++ List.replicate (N.length - vs.length) none

/-- the context of a def's body, at its entry; an exception leaves the frame, then lies as CX says -/
def cxOf (CX : CXT) (P : Program) (w : World) (K : PySem.W.Frag) (mg : Str → Option Value) (base : Heap) (N : List Str) (qual : Str) (scope : Scope) (f : Addr) (cd : Value) (A : Around) (outer : List Env) (s : Shared) (H : Hp) (E : XK) : Cx where
  prog := P
  w := w
  K := K
  mg := mg
  base := base
  A := A.deeper (envOfC qual scope s.heap.objs.size f cd)
  N := N
  s₀ := s
  H₀ := H
  env := envOfC qual scope s.heap.objs.size f cd
  outer := outer
  stack := envOfC qual scope s.heap.objs.size f cd :: outer
  ex := []
  calm := true
  fn := fun _ => true
  pn := []
  xe := fun e s' => wpAny (model P w) (A.deeper (envOfC qual scope s.heap.objs.size f cd)) (leaving (envOfC qual scope s.heap.objs.size f cd) e) (fun _ s'' => CX outer H s E e s'') (fun e' s'' => CX outer H s E e' s'') s'

theorem cell_has {sc : Scope} {n : Nat} {x : Str} (h : sc.names.lookup x = some .cell) : ∃ c, (cellsFrom n sc.names []).lookup x = some c := by
  have q := PySem.W.cellsFrom_some sc.names n [] (.inl h)
  exact Option.isSome_iff_exists.mp q

theorem inv_start {CX : CXT} {P : Program} {w : World} {K : PySem.W.Frag} {mg : Str → Option Value} {base : Heap} {N ps : List Str} {qual : Str} {scope : Scope} {f : Addr} {cd : Value} {A : Around} {outer : List Env} {s s1 : Shared} {H : Hp} {E : XK} {us : List Value} {vs : List V}
    (S : FnScope N ps scope) (hd : A.handled = none) (e0 : Env0 P w K mg base A outer s H) (hl : vs.length = ps.length) (r : Vals vs us)
    (x : InCallC s s.heap.objs.size (bindL (envOfC qual scope s.heap.objs.size f cd).kindOf (ps.zip us) fun _ => none) (cellsFrom (s.heap.objs.size + 1) scope.names []) (bindC (envOfC qual scope s.heap.objs.size f cd).kindOf (ps.zip us) fun _ => none) s1) :
    Inv (cxOf CX P w K mg base N qual scope f cd A outer s H E) [] (start N vs) H s1 := by
  have hpl : ps.length ≤ N.length := by have := congrArg List.length S.pre; rw [List.length_take] at this; omega
  obtain ⟨h1, tk, rfl, hk⟩ := x.done
  have noA : ∀ b : Addr, b ∉ (cxOf CX P w K mg base N qual scope f cd A outer s H E).ex := fun b z => absurd (show b ∈ ([] : List Addr) from z) (by simp)
  refine ⟨⟨e0.mod, S.kind, rfl, rfl, Nat.le_refl _, fun y z c h1 h2 => ?_, fun y hy => ?_, fun y c _ h => ?_, fun _ => hd, Around.frames_deeper e0.frames, .inr ⟨rfl, rfl⟩, fun b z => absurd z (noA b), e0.bs, e0.bsz, fun b _ _ => noA b, fun b z => absurd z (noA b), e0.funs, e0.frf⟩,
    rfl, e0.bare, Un.kept hk, ⟨_, x.toInCall.ns, fun i y v h1 h2 h3 => ?_⟩, fun y c h => ⟨_, x.cell y c h⟩, e0.hok.fresh (Nat.le_refl _), fun y c h => ?_, fun p hp => absurd (show p ∈ ([] : List (Addr × Obj)) from hp) (by simp), e0.hok.kept hk, ?_⟩
  · exact name_of_addr x.apart (PySem.mem_of_lookup h1) (PySem.mem_of_lookup h2)
  · have hy : scope.names.lookup y = some .cell ∨ scope.names.lookup y = some .free := hy
    rcases hy with hy | hy
    · exact cell_has hy
    · exact absurd rfl (S.nofree _ (PySem.mem_of_lookup hy))
  · exact Nat.le_of_lt (x.above y c (PySem.mem_of_lookup h))
  · have hi : i < vs.length := by
      unfold start at h2
      by_cases hi : i < vs.length
      · exact hi
      · rw [List.getElem?_append_right (by simpa using hi)] at h2
        rw [List.getElem?_replicate] at h2
        split at h2 <;> cases h2
    have ha : vs[i]? = some v := by
      unfold start at h2
      rw [List.getElem?_append_left (by simpa using hi), List.getElem?_map] at h2
      cases e : vs[i]? with
      | none => rw [e] at h2; cases h2
      | some a => rw [e] at h2; cases h2; rfl
    obtain ⟨u, hu, rv⟩ := r.get ha
    have hp : ps[i]? = some y := by
      rw [← S.pre, List.getElem?_take_of_lt (by omega)]; exact h1
    have ndP : ps.Nodup := by rw [← S.pre]; exact S.nd.sublist (List.take_sublist _ _)
    refine ⟨u, rv, ?_⟩
    rcases S.par y (List.mem_of_getElem? hp) with k | k
    · exact .inl ⟨k, bindL_get ndP hp hu k⟩
    · obtain ⟨c, e⟩ := cell_has (n := s.heap.objs.size + 1) k
      refine .inr ⟨.inl k, c, e, ?_⟩
      have q := x.cell y c e
      rw [bindC_get ndP hp hu (by show scope.names.lookup y ≠ _; rw [k]; decide)] at q
      exact q
  · exact e0.hok.fresh (Nat.le_of_lt (x.above y c (PySem.mem_of_lookup h)))
  · unfold start
    show _ = N.length
    rw [List.length_append, List.length_map, List.length_replicate]
    omega

/-- THE RULE: a def (or a method) of the text, by its body. The body's reading t is chosen for each entry; it is run at the parameters' values -/
theorem fn_of {CX : CXT} {P : Program} {w : World} {K : PySem.W.Frag} {mg : Str → Option Value} {base : Heap} {k : Nat} {f : Addr} {name qual : Str} {params : Arguments} {body : List Stmt} {scope : Scope} {dV kV doc pm cdv ct oc : Value} {an od : Option Addr}
    {osl : Array (Option Value)} {N ps : List Str} {sp : Sp} (lk : K.lookup f = some ⟨oc, od, .func (PySem.W.fnOf name qual params body scope dV kV doc pm an cdv ct), osl⟩) (hcd : PySem.W.codeIn K cdv qual = true) (S : FnScope N ps scope)
    (len : ∀ vs H Q E, sp vs H Q E → vs.length = ps.length)
    (hbody : ∀ (A : Around) (outer : List Env) (s : Shared) (H : Hp) (vs : List V) (Q : VK) (E : XK), Room k (A.deeper (envOfC qual scope s.heap.objs.size f cdv)) → sp vs H Q E →
      ∃ t, PSs (cxOf CX P w K mg base N qual scope f cdv A outer s H E) body t ∧ t { nx := fun _ H' => Q .non H', rt := Q } (start N vs) H) :
    FnOk P w K mg base CX (k + 1) f (PySem.W.fnOf name qual params body scope dV kV doc pm an cdv ct) ps sp := by
  refine ⟨len, fun A outer s H args us vs Q E hr e0 hb r hsp => ?_⟩
  have hl := len _ _ _ _ hsp
  have KX : K.In s.heap := e0.mod.kin.keeps fun b o e => (e0.bs b o e).1
  have lim : s.heap.NoLimit := e0.mod.nolimit.keeps fun b o e => (e0.bs b o e).1
  have hkind : ∀ y ∈ ps.zip us, scope.names.lookup y.1 = some .local ∨ (scope.names.lookup y.1 = some .cell ∧ ((cellsFrom (s.heap.objs.size + 1) scope.names []).lookup y.1).isSome = true) := fun ⟨n, v⟩ hy => by
    rcases S.par n (List.of_mem_zip hy).1 with q | q
    · exact .inl q
    · exact .inr ⟨q, PySem.W.cellsFrom_some _ _ _ (.inl q)⟩
  refine codeAny_call_function hr.depth (KX _ _ lk) rfl S.co S.gen rfl (PySem.W.codeRec_of KX hcd) (hb _ _ _ _ ?_)
  refine wpAny_newFunctionEnv_cells S.kind hkind fun env he s1 x => ?_
  subst he
  refine ⟨lim.keeps x.toInCall.keep, codeAny_func ?_⟩
  obtain ⟨t, ht, hq⟩ := hbody A outer s H vs Q E (hr.deeper _) hsp
  have I : Inv (cxOf CX P w K mg base N qual scope f cdv A outer s H E) [] (start N vs) H s1 := inv_start S hr.hd e0 hl r x
  refine wpAny_mono (ht [] s1 (start N vs) H _ I hq) (fun fl s' hs => ?_) fun e s' hs => hs
  have fin : ∀ {σ' : St} {H' : Hp} {v : V} {u : Value}, Inv (cxOf CX P w K mg base N qual scope f cdv A outer s H E) [] σ' H' s' → RelV v u → Q v H' → CE outer P w H s Q u s' :=
    fun {σ' H' v u} J rv q => ⟨v, H', J.os, J.bare, J.base, J.hok, rv, q⟩
  cases fl with
  | ret u =>
    obtain ⟨v, σ', H', J, rv, q⟩ := hs
    exact fin J rv q
  | next =>
    obtain ⟨σ', H', J, q⟩ := hs
    exact fin (v := V.non) (u := Value.none) J rfl q
  | brk =>
    obtain ⟨_, _, _, q⟩ := hs
    exact False.elim q
  | cont =>
    obtain ⟨_, _, _, q⟩ := hs
    exact False.elim q
end L2

namespace L2
open PySem PySem.Spec PyProof.Rows
section
variable {X : Cx} {x : Str} {p pos : Pos} {e : Expr} {es : List Expr} {t : TA} {id T : String} {r : List V → Hp → VK → Prop}

def tCB (r : List V → Hp → VK → Prop) (t : TA) : TE := fun σ H Q => t σ H fun vs H1 => r vs H1 Q
/-- f(e, ..), f a built-in function -/
theorem pe_callB (hc : CallR X (.builtin id) r) (hg : Gl X x) (hm : X.mg x = none) (hv : bootBuiltins x = some (.builtin id)) (ha : PA X (e :: es) t) (hn : x ≠ "__name__" := by decide) (hdb : (x == ("__debug__" : Str)) = false := by decide)
    (he : starEach (e :: es) X.env = (false, eval e X.env) :: starEach es X.env := by rfl) (hpl : (backTo pos (starEach es X.env)).any (·.1) = false := by rfl) : PE X (.Call (.Name x p) (e :: es) [] pos) (tCB r t) := by
  intro pins s σ H Q I h
  refine wpAny_Call_Name_kw (ld_blt I hg hm hv ?_ hn hdb)
  exact PyProof.Rows.callWith_builtin1 (thn (ha pos pins s σ H _ I h) fun us s1 ⟨vs, H1, I1, r1, q1⟩ => hc pins s1 σ H1 vs us Q I1 r1 q1) he hpl
/-- T(e, ..), T a built-in type -/
theorem pe_callTy (hc : CallR X (.type T) r) (hg : Gl X x) (hm : X.mg x = none) (hv : bootBuiltins x = some (.type T)) (ha : PA X (e :: es) t) (hn : x ≠ "__name__" := by decide) (hdb : (x == ("__debug__" : Str)) = false := by decide)
    (he : starEach (e :: es) X.env = (false, eval e X.env) :: starEach es X.env := by rfl) (hpl : (backTo pos (starEach es X.env)).any (·.1) = false := by rfl) : PE X (.Call (.Name x p) (e :: es) [] pos) (tCB r t) := by
  intro pins s σ H Q I h
  refine wpAny_Call_Name_kw (ld_blt I hg hm hv ?_ hn hdb)
  exact PyProof.Rows.callWith_type1 (thn (ha pos pins s σ H _ I h) fun us s1 ⟨vs, H1, I1, r1, q1⟩ => hc pins s1 σ H1 vs us Q I1 r1 q1) he hpl
end
end L2

namespace HT
open PySem PyProof.Rows

/-- t < u of tuples of ints -/
def lexLt : List Int → List Int → Bool
  | [], [] => false
  | [], _ :: _ => true
  | _ :: _, [] => false
  | x :: xs, y :: ys => if x = y then lexLt xs ys else decide (x < y)


section
open PySem.SeqAt
open PySem.AutoSeq1 (wpAny_loadPart')
open PySem.MeetsSeq PySem.MeetsSeq2 PySem.MeetsSeq3

end

section
variable {prog : Program} {w : World} {A : Around} {E : Value → Shared → Prop} {s : Shared}


/-- t + u, t not empty -/
theorem cat_tup {t b : Addr} {vs ws : List Value} {Q : Value → Shared → Prop} (ht : IsTup s.heap t vs.toArray) (hb : IsTup s.heap b ws.toArray) (hv : vs ≠ [])
    (h1 : ws = [] → Q (.ref t) s) (h2 : ws ≠ [] → Q (.ref s.heap.objs.size) { s with heap := s.heap.push { cls := .type "tuple", data := .seq (vs ++ ws).toArray } })
    (hsz : vs.length + ws.length ≤ sizeLine) : wpAny (model prog w) A (binaryOp .Add (.ref t) (.ref b)) Q E s := by
  obtain ⟨⟨cls, dd, data, sl⟩, ho, hc, n, hd⟩ := id ht
  obtain ⟨⟨cls2, dd2, data2, sl2⟩, ho2, hc2, n2, hd2⟩ := id hb
  simp only at hc hd hc2 hd2
  subst hc hd hc2 hd2
  have e : vs.toArray ++ ws.toArray = (vs ++ ws).toArray := by simp
  by_cases hw : ws = []
  · exact concat_meets ⟨_, ho, rfl⟩ ⟨_, ho2, rfl⟩ noFill_tuple_add seq_tuple_add PySem.F.slot_tuple_add PySem.F.entry_tuple_add (PySem.F.args_tuple_add_2 _ _)
      (tuple_addW1 t b vs.toArray ws.toArray n n2 dd dd2 sl sl2 (by simpa using hv) (by simp [hw])) ⟨ho, ho2, h1 hw⟩
  · refine concat_meets ⟨_, ho, rfl⟩ ⟨_, ho2, rfl⟩ noFill_tuple_add seq_tuple_add PySem.F.slot_tuple_add PySem.F.entry_tuple_add (PySem.F.args_tuple_add_2 _ _)
      (tuple_addW2 t b vs.toArray ws.toArray n n2 dd dd2 sl sl2 (by simpa using hv) (by simpa using hw) (by rw [List.size_toArray, List.size_toArray]; exact hsz)) ⟨ho, ho2, ?_⟩
    rw [e]
    exact h2 hw

/-! ### t[a:b], not the whole -/
/-- a slice's bound as a place among n (d where it is left out) -/
def sIx (n d : Nat) : Option Int → Nat
  | none => d
  | some v => if v < 0 then (v + (n : Int)).toNat else min v.toNat n
theorem sIx_le (n d : Nat) (hd : d ≤ n) (o : Option Int) : sIx n d o ≤ n := by
  cases o with
  | none => exact hd
  | some v =>
    show (if v < 0 then (v + (n : Int)).toNat else min v.toNat n) ≤ n
    by_cases hv : v < 0
    · rw [if_pos hv]; omega
    · rw [if_neg hv]; exact Nat.min_le_right _ _
theorem clip_eq (v : Int) (n d : Nat) : (if v < 0 then max (v + (n : Int)) 0 else min v (n : Int)) = ((sIx n d (some v) : Nat) : Int) := by
  show (if v < 0 then max (v + (n : Int)) 0 else min v (n : Int)) = (((if v < 0 then (v + (n : Int)).toNat else min v.toNat n) : Nat) : Int)
  by_cases hv : v < 0
  · simp only [if_pos hv]; omega
  · simp only [if_neg hv]; omega
theorem adjust_gen (lo hi : Option Int) (n : Nat) : Builtin.Slice.sliceAdjust lo hi 1 (n : Int) = (((sIx n 0 lo : Nat) : Int), ((sIx n n hi : Nat) : Int)) := by
  have h1 : ¬ ((1 : Int) < 0) := by omega
  unfold Builtin.Slice.sliceAdjust
  simp only [h1, if_false]
  refine Prod.ext ?_ ?_
  · cases lo with
    | none => rfl
    | some v => exact clip_eq v n 0
  · cases hi with
    | none => rfl
    | some v => exact clip_eq v n n
theorem places_gen (i j : Nat) : Builtin.Slice.slicePlaces (i : Int) (j : Int) 1 = j - i := by
  unfold Builtin.Slice.slicePlaces
  have h1 : (1 : Int) > 0 := by omega
  simp only [h1, if_true, Int.ediv_one]
  split <;> omega
theorem slicePart_ {v : Value} {o : Option Int} {Q : Option Int → Shared → Prop} (p : IsPart v o) (h : Q o s) : wpAny (model prog w) A (Builtin.Slice.slicePartIndex v) Q E s := by
  cases p with
  | none => exact slicePart_none h
  | int i t => exact slicePart_int h
theorem sliceApplied_gen {sl : Addr} {vl vu : Value} {lo hi : Option Int} {n : Nat} {Q : Int × Int × Nat → Shared → Prop} (hs : s.heap.IsSliceOf sl vl vu .none) (pl : IsPart vl lo) (pu : IsPart vu hi)
    (h : Q (((sIx n 0 lo : Nat) : Int), 1, sIx n n hi - sIx n 0 lo) s) : wpAny (model prog w) A (Builtin.Slice.sliceApplied (.ref sl) (pure (n : Int))) Q E s := by
  obtain ⟨os, hos, hcs, hds⟩ := id hs
  unfold Builtin.Slice.sliceApplied Builtin.Slice.sliceFields
  refine wpAny_bind (wpAny_bind (wpAny_field hos hds (x := vl) rfl (wpAny_bind (wpAny_field hos hds (x := vu) rfl (wpAny_bind (wpAny_field hos hds (x := .none) rfl (wpAny_pure ?_)))))))
  refine wpAny_bind (slicePart_none ?_)
  show wpAny _ _ (if ((1 : Int) == 0) = true then _ else _) _ _ s
  rw [if_neg (by decide)]
  refine wpAny_bind (slicePart_ pl (wpAny_bind (slicePart_ pu (wpAny_bind (wpAny_pure ?_)))))
  show wpAny _ _ (match Builtin.Slice.sliceAdjust lo hi 1 (n : Int) with | (lo, hi) => pure (lo, (1 : Int), Builtin.Slice.slicePlaces lo hi 1)) _ _ s
  rw [adjust_gen lo hi n]
  show wpAny _ _ (pure (((sIx n 0 lo : Nat) : Int), (1 : Int), Builtin.Slice.slicePlaces ((sIx n 0 lo : Nat) : Int) ((sIx n n hi : Nat) : Int) 1)) _ _ s
  rw [places_gen]
  exact wpAny_pure h
theorem pick_gen (xs : Array Value) (i k : Nat) : ((List.range k).filterMap fun (m : Nat) => xs[((i : Int) + (m : Int) * 1).toNat]?).toArray = ((xs.toList.drop i).take k).toArray := by
  have e : (fun (m : Nat) => xs[((i : Int) + (m : Int) * 1).toNat]?) = fun m => xs[i + m]? := by
    funext m
    have : ((i : Int) + (m : Int) * 1).toNat = i + m := by omega
    rw [this]
  rw [e]
  have := pick_run xs i k
  rw [List.filterMap_map] at this
  have e2 : ((fun x => xs[x]?) ∘ fun x => i + x) = fun m => xs[i + m]? := rfl
  rw [e2] at this
  rw [this]

theorem getItem_tuple_cut {t sl : Addr} {items : Array Value} {vl vu : Value} {lo hi : Option Int} {Q : Value → Shared → Prop} (ht : IsTup s.heap t items) (hs : s.heap.IsSliceOf sl vl vu .none) (pl : IsPart vl lo) (pu : IsPart vu hi)
    (hw : ¬ (sIx items.size 0 lo = 0 ∧ sIx items.size items.size hi = items.size))
    (h : Q (.ref s.heap.objs.size) { s with heap := s.heap.push { cls := .type "tuple", data := .seq ((items.toList.drop (sIx items.size 0 lo)).take (sIx items.size items.size hi - sIx items.size 0 lo)).toArray } })
    (hsz : items.size ≤ sizeLine) : wpAny (model prog w) A (getItem (.ref t) (.ref sl)) Q E s := by
  have htake : sizeOk (.seq ((items.toList.drop (sIx items.size 0 lo)).take (sIx items.size items.size hi - sIx items.size 0 lo)).toArray) := by
    show ((items.toList.drop (sIx items.size 0 lo)).take (sIx items.size items.size hi - sIx items.size 0 lo)).toArray.size ≤ sizeLine
    rw [List.size_toArray, List.length_take, List.length_drop, Array.length_toList]
    omega
  have hj : sIx items.size items.size hi ≤ items.size := sIx_le _ _ (Nat.le_refl _) hi
  obtain ⟨os, hos, hcs, hds⟩ := id hs
  have hTs : s.TypeIs (.ref sl) "slice" := ⟨os, hos, hcs⟩
  unfold getItem
  try with_reducible refine wpAny_holding ?_
  first | refine wpAny_bind (wpAny_pure ?_) | skip
  refine wpAny_bind (wpAny_sequenceKey ht.typeIs (by decide) ?_)
  refine wpAny_bind (wpAny_callSpecial?_slot (name := Str.ofString "__getitem__") ht.typeIs PyProof.Rows.slot_tuple_getitem
    (wpAny_call_entry PyProof.Rows.slot_tuple_getitem ht.typeIs entry_tuple_getitem ?_ (args_tuple_getitem _ _)))
  show wpAny _ _ (Builtin.Tuple.tupleItemsOf (.ref t) >>= _) _ _ s
  refine wpAny_bind (tupleItemsOf_ ht ?_)
  refine wpAny_bind (wpAny_typeOf hTs ?_)
  rw [if_pos (by decide)]
  refine wpAny_bind (sliceApplied_gen hs pl pu ?_)
  have hno : ¬ ((((sIx items.size 0 lo : Nat) : Int) == 0 && (1 : Int) == 1 && (sIx items.size items.size hi - sIx items.size 0 lo) == items.size) = true) := by
    intro q
    rw [Bool.and_eq_true, Bool.and_eq_true] at q
    have q1 : ((sIx items.size 0 lo : Nat) : Int) = 0 := eq_of_beq q.1.1
    have q2 : sIx items.size items.size hi - sIx items.size 0 lo = items.size := eq_of_beq q.2
    exact hw ⟨by omega, by omega⟩
  show wpAny _ _ (if (((sIx items.size 0 lo : Nat) : Int) == 0 && (1 : Int) == 1 && (sIx items.size items.size hi - sIx items.size 0 lo) == items.size) = true then _ else _) _ _ s
  rw [if_neg hno, pick_gen]
  first
    | exact wpAny_bind (m := Builtin.Tuple.tupleExact _) (wpAny_newObj_type (wpAny_pure ⟨_, rfl, wpAny_pure h⟩) htake)
    | exact wpAny_bind (m := Builtin.Tuple.tupleExact _) (wpAny_newObj_type (wpAny_bind (wpAny_pure (wpAny_pure ⟨_, rfl, wpAny_pure h⟩))) htake)
    | exact wpAny_bind (wpAny_bind (m := Builtin.Tuple.tupleExact _) (wpAny_newObj_type (wpAny_pure (wpAny_pure ⟨_, rfl, wpAny_pure h⟩)) htake))
    | exact wpAny_bind (wpAny_bind (m := Builtin.Tuple.tupleExact _) (wpAny_newObj_type (wpAny_pure ⟨_, rfl, wpAny_pure h⟩) htake))
end
end HT

namespace L2
open PySem PySem.Spec PyProof.Rows

/-! ### the parts of a slice -/
abbrev TO := St → Hp → (Option Int → Hp → Prop) → Prop
/-- a slice's part (left out, or an int) -/
def PO (X : Cx) (e : Option Expr) (t : TO) : Prop :=
  ∀ (pins : List (Addr × Obj)) (s : Shared) (σ : St) (H : Hp) (Q : Option Int → Hp → Prop), Inv X pins σ H s → t σ H Q →
    wpAny (model X.prog X.w) X.A (evalPart e X.env) (fun u s' => ∃ o H', Inv X pins σ H' s' ∧ IsPart u o ∧ Q o H') X.xe s
def tNoPart : TO := fun _ H Q => Q none H
def tPart (t : TE) : TO := fun σ H Q => t σ H fun x H1 => ∃ i, x = .int i ∧ Q (some i) H1


section
variable {X : Cx} {e : Expr} {te : TE} {lo hi : Option Expr} {tl th : TO} {pos p2 : Pos}

theorem po_none : PO X none tNoPart := by
  intro pins s σ H Q I h
  rw [evalPart_none]
  exact wpAny_pure ⟨none, H, I, .none, h⟩
theorem po_some (h : PE X e te) : PO X (some e) (tPart te) := by
  intro pins s σ H Q I hw
  rw [evalPart_some]
  refine thn (h pins s σ H _ I hw) fun u s1 ⟨x, H1, I1, r1, q1⟩ => ?_
  obtain ⟨i, rfl, q⟩ := q1
  obtain ⟨t, rfl⟩ := r1
  exact ⟨some i, H1, I1, .int i t, q⟩

/-- what a slice of a value is, by values: the slice object stands at sl -/
def SlR (X : Cx) (r : V → Option Int → Option Int → Hp → VK → Prop) : Prop :=
  ∀ (pins : List (Addr × Obj)) (s : Shared) (σ : St) (H : Hp) (x : V) (v vl vu : Value) (lo hi : Option Int) (sl : Addr) (Q : VK), Inv X pins σ H s → RelV x v → s.heap.IsSliceOf sl vl vu .none → IsPart vl lo → IsPart vu hi → r x lo hi H Q →
    ∃ T id, typeLookup (.type T) "__getitem__" = pure (some (.builtin id)) ∧ s.TypeIs v T ∧ wpAny (model X.prog X.w) X.A (getItem v (.ref sl)) (EP X pins σ Q) X.xe s
theorem SlR.or {r r' : V → Option Int → Option Int → Hp → VK → Prop} (h : SlR X r) (h' : SlR X r') : SlR X (fun x lo hi H Q => r x lo hi H Q ∨ r' x lo hi H Q) := by
  intro pins s σ H x v vl vu lo hi sl Q I rx hs pl pu q
  rcases q with q | q
  · exact h pins s σ H x v vl vu lo hi sl Q I rx hs pl pu q
  · exact h' pins s σ H x v vl vu lo hi sl Q I rx hs pl pu q
def tSl (r : V → Option Int → Option Int → Hp → VK → Prop) (te : TE) (tl th : TO) : TE := fun σ H Q => te σ H fun x H1 => tl σ H1 fun l H2 => th σ H2 fun u H3 => r x l u H3 Q
/-- a[lo:hi], any a -/
theorem pe_slice {r : V → Option Int → Option Int → Hp → VK → Prop} (hr : SlR X r) (he : PE X e te) (hl : PO X lo tl) (hu : PO X hi th) : PE X (.Subscript e (.Slice lo hi none p2) pos) (tSl r te tl th) := by
  intro pins s σ H Q I h
  refine Subscript_ (thn (he pins s σ H _ I h) fun v s1 ⟨x, H1, I1, r1, q1⟩ => ?_)
  refine wpAny_Slice (thn (hl pins s1 σ H1 _ I1 q1) fun vl s2 ⟨l, H2, I2, pl, q2⟩ => thn (hu pins s2 σ H2 _ I2 q2) fun vu s3 ⟨u, H3, I3, pu, q3⟩ => ?_)
  rw [evalPart_none]
  refine wpAny_pure ?_
  have I4 : Inv X pins σ H3 { s3 with heap := s3.heap.push { cls := .type "slice", data := .fields #[vl, vu, .none] } } := I3.kept (t' := s3.toks) fun b ob q => Heap.get?_push_of_some _ q
  obtain ⟨T, id, hT, ht, hg⟩ := hr pins { s3 with heap := s3.heap.push { cls := .type "slice", data := .fields #[vl, vu, .none] } } σ H3 x v vl vu l u s3.heap.objs.size Q I4 r1 (Heap.IsSliceOf.new ..) pl pu q3
  show wpAny (model X.prog X.w) X.A (subscriptTail e (.Slice lo hi none p2) v (.ref s3.heap.objs.size)) (EP X pins σ Q) X.xe { s3 with heap := s3.heap.push { cls := .type "slice", data := .fields #[vl, vu, .none] } }
  exact tail_any (ops := [.ref s3.heap.objs.size, v]) ht hT hg (by with_unfolding_all rfl)

/-- the items of xs[lo:hi] -/
def cutV (xs : List V) (lo hi : Option Int) : List V := (xs.drop (HT.sIx xs.length 0 lo)).take (HT.sIx xs.length xs.length hi - HT.sIx xs.length 0 lo)
theorem cutV_length (xs : List V) (lo hi : Option Int) : (cutV xs lo hi).length ≤ xs.length := by
  unfold cutV
  rw [List.length_take, List.length_drop]
  omega
/-- t[lo:hi], not the whole of it (the whole would be t itself) -/
def rSlT (K : PySem.W.Frag) : V → Option Int → Option Int → Hp → VK → Prop := fun x lo hi H Q => ∃ a xs, x = .ref a ∧ SqT K H a xs ∧
  ¬ (HT.sIx xs.length 0 lo = 0 ∧ HT.sIx xs.length xs.length hi = xs.length) ∧ ∀ p, H p = none → Q (.ref p) (upd H p (.tup (cutV xs lo hi)))
theorem sl_tup : SlR X (rSlT X.K) := by
  intro pins s σ H x v vl vu lo hi sl Q I rx hs pl pu h
  obtain ⟨a, xs, rfl, hx, hw, q⟩ := h
  cases rx
  obtain ⟨its, r, ht, hz⟩ := I.tuple hx
  have hlen : its.toArray.size = xs.length := by rw [List.size_toArray]; exact r.length.symm
  refine ⟨"tuple", _, PyProof.Rows.slot_tuple_getitem.lookup, ht.typeIs, ?_⟩
  refine HT.getItem_tuple_cut ht hs pl pu (by rw [hlen]; exact hw) ?_ (by rw [hlen]; exact hz)
  rw [hlen]
  refine ⟨.ref s.heap.objs.size, _, I.laid (t' := s.toks) (o := .tup (cutV xs lo hi)) (fun b ob q => Heap.get?_push_of_some _ q) (Nat.le_refl _) ?_, rfl, q _ (I.hok.fresh (Nat.le_refl _))⟩
  exact ⟨Nat.le_trans (cutV_length xs lo hi) hz, _, (r.drop (HT.sIx xs.length 0 lo)).take (HT.sIx xs.length xs.length hi - HT.sIx xs.length 0 lo), IsTup.new _ _⟩

/-! ### t < u, t + u -/
def rLtT (K : PySem.W.Frag) : R2 := fun x y H Q => ∃ a b ns ms, x = .ref a ∧ y = .ref b ∧ SqT K H a (ns.map V.int) ∧ SqT K H b (ms.map V.int) ∧ Q (.bl (HT.lexLt ns ms)) H
/-- t + u, t not empty: u empty gives t itself -/
def rCatT (K : PySem.W.Frag) : R2 := fun x y H Q => ∃ a b xs ys, x = .ref a ∧ y = .ref b ∧ SqT K H a xs ∧ SqT K H b ys ∧ xs ≠ [] ∧ xs.length + ys.length ≤ sizeLine ∧
  (ys = [] → Q (.ref a) H) ∧ (ys ≠ [] → ∀ p, H p = none → Q (.ref p) (upd H p (.tup (xs ++ ys))))
theorem Vals.nil_iff {xs : List V} {us : List Value} (r : Vals xs us) : us = [] ↔ xs = [] := by
  cases r with
  | nil => simp
  | cons _ _ => simp
theorem op_catT : OpR X (binaryOp .Add) (rCatT X.K) := by
  intro pins s σ H x y v u Q I rx ry h
  obtain ⟨a, b, xs, ys, rfl, rfl, ha, hb, hx, hz, q1, q2⟩ := h
  cases rx
  cases ry
  obtain ⟨its, r1, p1, _⟩ := I.tuple ha
  obtain ⟨its2, r2, p2, _⟩ := I.tuple hb
  refine HT.cat_tup p1 p2 (fun z => hx (r1.nil_iff.mp z)) (fun z => ⟨.ref a, H, I, rfl, q1 (r2.nil_iff.mp z)⟩) (fun z => ?_) (by rw [← r1.length, ← r2.length]; exact hz)
  refine ⟨.ref s.heap.objs.size, _, I.laid (t' := s.toks) (o := .tup (xs ++ ys)) (fun b ob q => Heap.get?_push_of_some _ q) (Nat.le_refl _) ?_, rfl, q2 (fun w => z (r2.nil_iff.mpr w)) _ (I.hok.fresh (Nat.le_refl _))⟩
  exact ⟨by rw [List.length_append]; exact hz, _, r1.append r2, IsTup.new _ _⟩
end
end L2

namespace L2
open PySem PySem.Spec PyProof.Rows

/-! ### places -/
/-- the place that an index of any sign means -/
def ixN (n : Nat) (i : Int) : Option Nat := if 0 ≤ i then (if i < n then some i.toNat else none) else if -(n : Int) ≤ i then some (i + n).toNat else none
def atI {α : Type} (xs : List α) (i : Int) : Option α := (ixN xs.length i).bind fun j => xs[j]?
theorem ixN_seq {n : Nat} {i : Int} {j : Nat} (h : ixN n i = some j) : seqIndex? i n = some j ∧ j < n ∧ -(n : Int) ≤ i ∧ i < n := by
  unfold ixN at h
  by_cases h0 : 0 ≤ i
  · rw [if_pos h0] at h
    by_cases h1 : i < n
    · rw [if_pos h1] at h
      have e : i.toNat = j := Option.some.inj h
      exact ⟨by rw [seqIndex_of h0 h1, e], by omega, by omega, h1⟩
    · rw [if_neg h1] at h; cases h
  · rw [if_neg h0] at h
    by_cases h1 : -(n : Int) ≤ i
    · rw [if_pos h1] at h
      have e : (i + n).toNat = j := Option.some.inj h
      exact ⟨by rw [seqIndex_neg (by omega) h1, e], by omega, h1, by omega⟩
    · rw [if_neg h1] at h; cases h
theorem atI_get {α : Type} {xs : List α} {i : Int} {v : α} (h : atI xs i = some v) : ∃ j, seqIndex? i xs.length = some j ∧ xs[j]? = some v ∧ j < xs.length ∧ -(xs.length : Int) ≤ i ∧ i < xs.length := by
  unfold atI at h
  cases e : ixN xs.length i with
  | none => rw [e] at h; cases h
  | some j =>
    rw [e] at h
    obtain ⟨h1, h2, h3, h4⟩ := ixN_seq e
    exact ⟨j, h1, h, h2, h3, h4⟩
theorem atI_nat {α : Type} {xs : List α} {j : Nat} {v : α} (h : xs[j]? = some v) : atI xs (j : Int) = some v := by
  have hj : j < xs.length := (List.getElem?_eq_some_iff.mp h).1
  have e : ixN xs.length (j : Int) = some j := by
    unfold ixN
    rw [if_pos (by omega), if_pos (by omega)]; simp
  unfold atI; rw [e]; exact h

/-! ### what may be subscripted -/
/-- what stands as an index of a plain subscript -/
def PlainIx (b : Expr) : Prop := ∀ o i, subscripted b false o i = operate [o, i] (getItem o i)
/-- a subscript by values -/
def IxR (X : Cx) (r : R2) : Prop :=
  ∀ (value slice : Expr) (pins : List (Addr × Obj)) (s : Shared) (σ : St) (H : Hp) (x y : V) (v u : Value) (Q : VK), Inv X pins σ H s → RelV x v → RelV y u → r x y H Q →
    subscripted slice false v u = operate [v, u] (getItem v u) → wpAny (model X.prog X.w) X.A (subscriptTail value slice v u) (EP X pins σ Q) X.xe s
/-- a call of a builtin's method by values: the receiver, the arguments -/
def MtR (X : Cx) (id : String) (r : V → List V → Hp → VK → Prop) : Prop :=
  ∀ (pins : List (Addr × Obj)) (s : Shared) (σ : St) (H : Hp) (x : V) (xs : List V) (v : Value) (us : List Value) (Q : VK), Inv X pins σ H s → RelV x v → Vals xs us → r x xs H Q →
    wpAny (model X.prog X.w) X.A (call (.builtin id) (v :: us)) (EP X pins σ Q) X.xe s
section
variable {X : Cx} {a b : Expr} {ta tb : TE} {pos : Pos}
theorem IxR.or {r r' : R2} (h : IxR X r) (h' : IxR X r') : IxR X (fun x y H Q => r x y H Q ∨ r' x y H Q) := by
  intro value slice pins s σ H x y v u Q I rx ry q hs
  rcases q with q | q
  · exact h value slice pins s σ H x y v u Q I rx ry q hs
  · exact h' value slice pins s σ H x y v u Q I rx ry q hs
theorem MtR.or {id : String} {r r' : V → List V → Hp → VK → Prop} (h : MtR X id r) (h' : MtR X id r') : MtR X id (fun x xs H Q => r x xs H Q ∨ r' x xs H Q) := by
  intro pins s σ H x xs v us Q I rx rs q
  rcases q with q | q
  · exact h pins s σ H x xs v us Q I rx rs q
  · exact h' pins s σ H x xs v us Q I rx rs q
/-- a[b] -/
theorem pe_ix {r : R2} (hr : IxR X r) (ha : PE X a ta) (hb : PE X b tb) (hs : PlainIx b) : PE X (.Subscript a b pos) (tOp r ta tb) := by
  intro pins s σ H Q I h
  exact Subscript_ (binT ha hb I h fun v u s2 x y H2 I2 rx ry q => hr a b pins s2 σ H2 x y v u Q I2 rx ry q (hs _ _))

def rIxL (K : PySem.W.Frag) : R2 := fun x y H Q => ∃ p xs i v, x = .ref p ∧ y = .int i ∧ SqL K H p xs ∧ atI xs i = some v ∧ Q v H
def rIxT (K : PySem.W.Frag) : R2 := fun x y H Q => ∃ p xs i v, x = .ref p ∧ y = .int i ∧ SqT K H p xs ∧ atI xs i = some v ∧ Q v H
def rIxS : R2 := fun x y H Q => ∃ z i c, x = .str z ∧ y = .int i ∧ z.length ≤ sizeLine ∧ atI z.cps.toList i = some c ∧ Q (.str ⟨#[c]⟩) H
theorem ix_list : IxR X (rIxL X.K) := by
  intro value slice pins s σ H x y v u Q I rx ry h hs
  obtain ⟨p, xs, i, z, rfl, rfl, hq, he, q⟩ := h
  cases rx
  obtain ⟨t, rfl⟩ := ry
  obtain ⟨its, r, pl, hz⟩ := I.list hq
  obtain ⟨j, h1, h2, h3, h4, h5⟩ := atI_get he
  obtain ⟨w, ew, rw'⟩ := r.get h2
  have hl := r.length
  have hn := line63
  have fin : EP X pins σ Q w s := ⟨z, H, I, rw', q⟩
  by_cases h0 : 0 ≤ i
  · have hj : i.toNat = j := by
      rw [seqIndex_of h0 h5] at h1
      exact Option.some.inj h1
    exact item_listR pl.isList h0 (by omega) (by rw [hj]; simpa using ew) fin hs
  · have hj : (i + (its.toArray.size : Int)).toNat = j := by
      rw [seqIndex_neg (by omega) h4] at h1
      rw [List.size_toArray, ← hl]
      exact Option.some.inj h1
    exact subscriptTail_builtinR (x := w) pl.isList.typeIs slot_list_getitem.lookup
      (wpAny_getItem_list_neg (Q := fun r s' => r = w ∧ EP X pins σ Q r s') pl.isList (by omega) (by rw [List.size_toArray] <;> omega) (by omega) (by rw [hj]; simpa using ew) ⟨rfl, fin⟩) hs
theorem ix_tup : IxR X (rIxT X.K) := by
  intro value slice pins s σ H x y v u Q I rx ry h hs
  obtain ⟨p, xs, i, z, rfl, rfl, hq, he, q⟩ := h
  cases rx
  obtain ⟨t, rfl⟩ := ry
  obtain ⟨its, r, pl, hz⟩ := I.tuple hq
  obtain ⟨j, h1, h2, h3, h4, h5⟩ := atI_get he
  obtain ⟨w, ew, rw'⟩ := r.get h2
  have hl := r.length
  have hn := line63
  have fin : EP X pins σ Q w s := ⟨z, H, I, rw', q⟩
  exact subscriptTail_builtinR (x := w) pl.typeIs slot_tuple_getitem.lookup
    (getItem_tuple (j := j) (Q := fun r s' => r = w ∧ EP X pins σ Q r s') pl (by omega) (by omega) (by rw [List.size_toArray, ← hl]; exact h1) (by simpa using ew) ⟨rfl, fin⟩) hs
theorem ix_str : IxR X rIxS := by
  intro value slice pins s σ H x y v u Q I rx ry h hs
  obtain ⟨z, i, c, rfl, rfl, hz, he, q⟩ := h
  obtain ⟨t, rfl⟩ := rx
  obtain ⟨t', rfl⟩ := ry
  obtain ⟨j, h1, h2, h3, h4, h5⟩ := atI_get he
  have hl : z.cps.toList.length = z.length := by simp [Str.length]
  rw [hl] at h1 h4 h5
  have hn := line63
  exact tail_any (typeIs_str s z t) slot_str_getitem.lookup (getItem_str (c := c) (by
    have e1 : decide (i < -(2 ^ 63 : Int)) = false := decide_eq_false (by omega)
    have e2 : decide (i ≥ 2 ^ 63) = false := decide_eq_false (by omega)
    rw [e1, e2, Bool.or_false]) (by rw [h1]; simpa using h2) ⟨.str ⟨#[c]⟩, H, I.tok _, ⟨_, rfl⟩, q⟩) hs
/-- list, tuple or str -/
def rIx (K : PySem.W.Frag) : R2 := fun x y H Q => rIxL K x y H Q ∨ rIxT K x y H Q ∨ rIxS x y H Q
theorem ix_seq : IxR X (rIx X.K) := ix_list.or (ix_tup.or ix_str)

/-! ### xs[i] = v, any sign -/
/-- the list's object behind a store -/
theorem mapSeq_set (its : List Value) (n j : Nat) (u : Value) : Obj.mapSeq (·.setIfInBounds j u) { cls := .type "list", data := .seq its.toArray n } = { cls := .type "list", data := .seq (its.set j u).toArray n } := by
  simp [Obj.mapSeq]
theorem Inv.lst {pins : List (Addr × Obj)} {σ : St} {H : Hp} {s : Shared} {p : Addr} {xs : List V} (I : Inv X pins σ H s) (h : H p = some (.lst xs)) :
    ∃ (its : List Value) (n : Nat), Vals xs its ∧ s.heap.get? p = some { cls := .type "list", data := .seq its.toArray n } ∧ xs.length ≤ sizeLine := by
  obtain ⟨z, its, n, r, e⟩ := I.hok p _ h
  exact ⟨its, n, r, e, z⟩
/-- the list at p is written by an update of its object -/
theorem Inv.lstUpd {pins : List (Addr × Obj)} {σ : St} {H : Hp} {s : Shared} {p : Addr} {xs ys : List V} {its its' : List Value} {n n' : Nat} {f : Obj → Obj} (I : Inv X pins σ H s) (h : H p = some (.lst xs))
    (ho : s.heap.get? p = some { cls := .type "list", data := .seq its.toArray n }) (hf : f { cls := .type "list", data := .seq its.toArray n } = { cls := .type "list", data := .seq its'.toArray n' }) (r : Vals ys its') (hz : ys.length ≤ sizeLine) (t : Nat) :
    Inv X pins σ (upd H p (.lst ys)) { s with heap := s.heap.update p f, toks := t } := by
  have e : (s.heap.update p f).get? p = some { cls := .type "list", data := .seq its'.toArray n' } := by
    rw [Heap.get?_update_self f ho (by rw [hf] <;> rfl), hf]
  refine I.write (x := p) (e := p) (by rw [h]; trivial) (.inl rfl) (fun b u hb q => (Heap.get?_update_other _ _ (Ne.symm hb)).trans q) ⟨_, e⟩ ?_
  exact ⟨hz, its', n', r, e⟩
def rSetL : V → V → V → Hp → (Hp → Prop) → Prop := fun o i v H Q => ∃ p xs k j, o = .ref p ∧ i = .int k ∧ H p = some (.lst xs) ∧ ixN xs.length k = some j ∧ Q (upd H p (.lst (xs.set j v)))
theorem set_list : PSet X rSetL := by
  intro pins s σ H o i v ov iv u Q I ro ri rv h
  obtain ⟨p, xs, k, j, rfl, rfl, hp, hj, q⟩ := h
  cases ro
  obtain ⟨t, rfl⟩ := ri
  obtain ⟨its, n, r, ho, hz⟩ := I.lst hp
  obtain ⟨h1, h2, h3, h4⟩ := ixN_seq hj
  have hl := r.length
  have hn := line63
  have I' : Inv X pins σ (upd H p (.lst (xs.set j v))) { s with heap := s.heap.update p (Obj.mapSeq (·.setIfInBounds j u)) } :=
    I.lstUpd hp ho (mapSeq_set its n j u) (r.set rv j) (by rw [List.length_set]; exact hz) s.toks
  by_cases h0 : 0 ≤ k
  · have hk : k.toNat = j := by
      rw [seqIndex_of h0 h4] at h1
      exact Option.some.inj h1
    exact PySem.W.ki_setAt ho h0 (by omega) (by rw [List.size_toArray, ← hl]; exact h4) (by rw [hk]; exact ⟨_, I', q⟩)
  · have hk : (k + (its.toArray.size : Int)).toNat = j := by
      rw [seqIndex_neg (by omega) h3] at h1
      rw [List.size_toArray, ← hl]
      exact Option.some.inj h1
    exact PySem.W.ki_setBack ho (by omega) (by rw [List.size_toArray, ← hl]; exact h3) (by omega) (by rw [hk]; exact ⟨_, I', q⟩)

/-! ### slices -/
/-- xs[lo:hi] of a list: a new list -/
def rSlL (K : PySem.W.Frag) : V → Option Int → Option Int → Hp → VK → Prop := fun x lo hi H Q => ∃ a xs, x = .ref a ∧ SqL K H a xs ∧ ∀ p, H p = none → Q (.ref p) (upd H p (.lst (cutV xs lo hi)))

/-! ### in, not in: flat items -/
def flatV : V → Bool
  | .non => true
  | .bl _ => true
  | .int _ => true
  | .str _ => true
  | _ => false
/-- == of flat values -/
def eqV : V → V → Bool
  | .non, .non => true
  | .bl a, .bl b => a == b
  | .bl a, .int b => (if a then 1 else 0) == b
  | .int a, .bl b => a == (if b then 1 else 0)
  | .int a, .int b => a == b
  | .str a, .str b => a == b
  | _, _ => false
theorem eqAt_V {A : Around} {s : Shared} {y x : V} {u v : Value} (ry : RelV y u) (rx : RelV x v) (fy : flatV y = true) (fx : flatV x = true) : SeqAt.EqAt A s u v (eqV y x) := by
  cases y with
  | non =>
    cases ry
    cases x with
    | non => cases rx; exact SeqAt.EqAt.same _
    | bl b => cases rx; exact SeqAt.EqAt.none_bool b
    | int b => obtain ⟨t, rfl⟩ := rx; exact SeqAt.EqAt.none_int b t
    | str b => obtain ⟨t, rfl⟩ := rx; exact SeqAt.EqAt.none_str b t
    | _ => exact absurd (show false = true from fx) Bool.false_ne_true
  | bl a =>
    cases ry
    cases x with
    | non => cases rx; exact SeqAt.EqAt.bool_none a
    | bl b => cases rx; exact SeqAt.EqAt.bool_bool a b
    | int b => obtain ⟨t, rfl⟩ := rx; exact SeqAt.EqAt.bool_int a b t
    | str b => obtain ⟨t, rfl⟩ := rx; exact SeqAt.EqAt.bool_str a b t
    | _ => exact absurd (show false = true from fx) Bool.false_ne_true
  | int a =>
    obtain ⟨t', rfl⟩ := ry
    cases x with
    | non => cases rx; exact SeqAt.EqAt.int_none a t'
    | bl b => cases rx; exact SeqAt.EqAt.int_bool a t' b
    | int b => obtain ⟨t, rfl⟩ := rx; exact SeqAt.EqAt.int_int a t' b t
    | str b => obtain ⟨t, rfl⟩ := rx; exact SeqAt.EqAt.int_str a t' b t
    | _ => exact absurd (show false = true from fx) Bool.false_ne_true
  | str a =>
    obtain ⟨t', rfl⟩ := ry
    cases x with
    | non => cases rx; exact SeqAt.EqAt.str_none a t'
    | bl b => cases rx; exact SeqAt.EqAt.str_bool a t' b
    | int b => obtain ⟨t, rfl⟩ := rx; exact SeqAt.EqAt.str_int a t' b t
    | str b => obtain ⟨t, rfl⟩ := rx; exact SeqAt.EqAt.str_str a t' b t
    | _ => exact absurd (show false = true from fx) Bool.false_ne_true
  | _ => exact absurd (show false = true from fy) Bool.false_ne_true
/-- the items' answers, read off the values (a value's own answer does not lean on its token) -/
def eqU (x : V) (u : Value) : Bool := match u with
  | .none => eqV .non x
  | .bool b => eqV (.bl b) x
  | .int i _ => eqV (.int i) x
  | .str z _ => eqV (.str z) x
  | _ => false
theorem eqU_of {x y : V} {u : Value} (r : RelV y u) (f : flatV y = true) : eqU x u = eqV y x := by
  cases y with
  | non => cases r; rfl
  | bl b => cases r; rfl
  | int i => obtain ⟨t, rfl⟩ := r; rfl
  | str z => obtain ⟨t, rfl⟩ := r; rfl
  | _ => exact absurd (show false = true from f) Bool.false_ne_true
theorem any_eqU {x : V} : ∀ {xs : List V} {us : List Value}, Vals xs us → xs.all flatV = true → us.any (eqU x) = xs.any fun y => eqV y x
  | _, _, .nil, _ => rfl
  | y :: xs, u :: us, .cons r t, f => by
    rw [List.all_cons, Bool.and_eq_true] at f
    rw [List.any_cons, List.any_cons, eqU_of r f.1, any_eqU t f.2]
theorem mem_eqAt {A : Around} {s : Shared} {x : V} {v : Value} (rx : RelV x v) (fx : flatV x = true) : ∀ {xs : List V} {us : List Value}, Vals xs us → xs.all flatV = true → ∀ u ∈ us, SeqAt.EqAt A s u v (eqU x u)
  | _, _, .nil, _ => fun u hu => by cases hu
  | y :: xs, u :: us, .cons r t, f => fun u' hu => by
    rw [List.all_cons, Bool.and_eq_true] at f
    rcases List.mem_cons.mp hu with rfl | hu
    · rw [eqU_of r f.1]; exact eqAt_V r rx f.1 fx
    · exact mem_eqAt rx fx t f.2 u' hu
def inV (x : V) (xs : List V) : Bool := xs.any fun y => eqV y x
/-- x in a list or tuple of flat items -/
def rIn (K : PySem.W.Frag) (neg : Bool) : R2 := fun x y H Q => ∃ p xs, y = .ref p ∧ (SqL K H p xs ∨ SqT K H p xs) ∧ flatV x = true ∧ xs.all flatV = true ∧ Q (.bl (if neg then !inV x xs else inV x xs)) H
theorem op_in_seq : OpR X (compareOp .In) (rIn X.K false) := by
  intro pins s σ H x y v u Q I rx ry h
  obtain ⟨p, xs, rfl, hq, fx, fs, q⟩ := h
  cases ry
  rcases hq with hq | hq
  · obtain ⟨its, r, pl, hz⟩ := I.list hq
    refine SeqAt.in_listAt (eqU x) pl.isList (fun w hw => mem_eqAt rx fx r fs w (by simpa using hw)) ⟨.bl _, H, I, rfl, ?_⟩
    rw [show its.toArray.any (eqU x) = its.any (eqU x) by simp, any_eqU r fs]
    exact q
  · obtain ⟨its, r, pl, hz⟩ := I.tuple hq
    refine SeqAt.in_tupleAt (eqU x) pl (fun w hw => mem_eqAt rx fx r fs w (by simpa using hw)) ⟨.bl _, H, I, rfl, ?_⟩
    rw [show its.toArray.any (eqU x) = its.any (eqU x) by simp, any_eqU r fs]
    exact q

/-! ### len, list(x), tuple(x) of any list or tuple that is read -/
theorem call_len_seq : CallR X (.builtin "len") (fun xs H Q => ∃ p ys, xs = [.ref p] ∧ (SqL X.K H p ys ∨ SqT X.K H p ys) ∧ Q (.int ys.length) H) := by
  intro pins s σ H xs us Q I r h
  obtain ⟨p, ys, rfl, hq, q⟩ := h
  obtain ⟨u, rfl, rx⟩ := vals1 r
  cases rx
  have hn := line63
  rcases hq with hq | hq
  · obtain ⟨its, r', pl, hz⟩ := I.list hq
    have hlen := r'.length
    exact Calls.call_len_list pl.isList (by simp only [List.size_toArray] <;> omega) ⟨.int ys.length, H, I.tok _, ⟨s.toks + 1, by rw [List.size_toArray, hlen]⟩, q⟩
  · obtain ⟨its, r', pl, hz⟩ := I.tuple hq
    have hlen := r'.length
    exact len_tuple pl (by simp only [List.size_toArray] <;> omega) ⟨.int ys.length, H, I.tok _, ⟨s.toks + 1, by rw [List.size_toArray, hlen]⟩, q⟩
theorem call_len_str : CallR X (.builtin "len") (fun xs H Q => ∃ z, xs = [.str z] ∧ z.length ≤ sizeLine ∧ Q (.int z.length) H) := by
  intro pins s σ H xs us Q I r h
  obtain ⟨z, rfl, hz, q⟩ := h
  obtain ⟨u, rfl, t, rfl⟩ := vals1 r
  have hn := line63
  exact len_str (by omega) ⟨.int z.length, H, I.tok _, ⟨_, rfl⟩, q⟩
theorem CallR.or {f : Value} {r r' : List V → Hp → VK → Prop} (h : CallR X f r) (h' : CallR X f r') : CallR X f (fun xs H Q => r xs H Q ∨ r' xs H Q) := by
  intro pins s σ H xs us Q I rs q
  rcases q with q | q
  · exact h pins s σ H xs us Q I rs q
  · exact h' pins s σ H xs us Q I rs q
theorem call_list_of : CallR X (.type "list") (fun xs H Q => ∃ p ys, xs = [.ref p] ∧ (SqL X.K H p ys ∨ SqT X.K H p ys) ∧ ∀ l, H l = none → Q (.ref l) (upd H l (.lst ys))) := by
  intro pins s σ H xs us Q I r h
  obtain ⟨p, ys, rfl, hq, q⟩ := h
  obtain ⟨u, rfl, rx⟩ := vals1 r
  cases rx
  have fin : ∀ (its : List Value), Vals ys its → ys.length ≤ sizeLine → ∀ (h' : Heap) (c' : Nat), (∀ b o', s.heap.get? b = some o' → h'.get? b = some o') →
      h'.get? s.heap.objs.size = some { cls := .type "list", dict := none, data := .seq its.toArray c', slots := #[] } → EP X pins σ Q (.ref s.heap.objs.size) { s with heap := h' } := fun its r' hz h' c' kp e =>
    ⟨.ref s.heap.objs.size, _, I.laid (t' := s.toks) kp (Nat.le_refl _) (show ObjOk X.prog X.w _ h' _ (.lst ys) from ⟨hz, its, c', r', e⟩), rfl, q _ (I.hok.fresh (Nat.le_refl _))⟩
  rcases hq with hq | hq
  · obtain ⟨its, r', pl, hz⟩ := I.list hq
    have hlen := r'.length
    obtain ⟨o, ho, hc, n, hd⟩ := pl.isList
    exact call_list_seq p (.inl rfl) ho hc hd (fun h' c' kp e => fin its r' hz h' c' kp e) (by simp only [List.size_toArray] <;> omega)
  · obtain ⟨its, r', pl, hz⟩ := I.tuple hq
    have hlen := r'.length
    obtain ⟨o, ho, hc, n, hd⟩ := pl
    exact call_list_seq p (.inr rfl) ho hc hd (fun h' c' kp e => fin its r' hz h' c' kp e) (by simp only [List.size_toArray] <;> omega)
theorem call_tuple_of : CallR X (.type "tuple") (fun xs H Q => ∃ p ys, xs = [.ref p] ∧ ((SqL X.K H p ys ∧ ∀ l, H l = none → Q (.ref l) (upd H l (.tup ys))) ∨ (SqT X.K H p ys ∧ Q (.ref p) H))) := by
  intro pins s σ H xs us Q I r h
  obtain ⟨p, ys, rfl, h⟩ := h
  obtain ⟨u, rfl, rx⟩ := vals1 r
  cases rx
  rcases h with ⟨hq, q⟩ | ⟨hq, q⟩
  · obtain ⟨its, r', pl, hz⟩ := I.list hq
    have hlen := r'.length
    refine call_tuple_list pl.isList (fun h' kp => ?_) (by simp only [List.size_toArray] <;> omega)
    have I1 : Inv X pins σ H { s with heap := h' } := I.kept (t' := s.toks) kp
    have I2 : Inv X pins σ (upd H h'.objs.size (.tup ys)) { s with heap := h'.push { cls := .type "tuple", data := .seq its.toArray } } :=
      I1.laid (t' := s.toks) (fun b o e => Heap.get?_push_of_some _ e) (Nat.le_refl _) (show ObjOk X.prog X.w _ _ _ (.tup ys) from ⟨hz, its, r', IsTup.new _ _⟩)
    exact ⟨.ref h'.objs.size, _, I2, rfl, q _ (I1.hok.fresh (Nat.le_refl _))⟩
  · obtain ⟨its, r', pl, hz⟩ := I.tuple hq
    exact call_tuple_same pl ⟨.ref p, H, I, rfl, q⟩

/-! ### the call of a builtin's method: o.m(..) -/
/-- the value is of that builtin type -/
def tyV (K : PySem.W.Frag) (T : String) (x : V) (H : Hp) : Prop := match x with
  | .str _ => T = "str"
  | .int _ => T = "int"
  | .ref p => (T = "list" ∧ ∃ xs, SqL K H p xs) ∨ (T = "tuple" ∧ ∃ o, K.lookup p = some o ∧ o.cls = .type "tuple" ∧ o.dict = none) ∨
      (T = "dict" ∧ ((∃ kvs, H p = some (.dK kvs)) ∨ ∃ kvs, H p = some (.dT kvs))) ∨ (T = "set" ∧ ∃ S n, H p = some (.set S n))
  | _ => False
theorem tyV_is {pins : List (Addr × Obj)} {σ : St} {H : Hp} {s : Shared} {T : String} {x : V} {v : Value} (I : Inv X pins σ H s) (r : RelV x v) (ty : tyV X.K T x H) :
    s.TypeIs v T ∧ ∀ a, v = .ref a → ∃ ob, s.heap.get? a = some ob ∧ ob.dict = none := by
  cases x with
  | str z =>
    obtain ⟨t, rfl⟩ := r
    cases (show T = "str" from ty)
    exact ⟨typeIs_str s z t, fun _ e => nomatch e⟩
  | int i =>
    obtain ⟨t, rfl⟩ := r
    cases (show T = "int" from ty)
    exact ⟨typeIs_int s i t, fun _ e => nomatch e⟩
  | ref p =>
    cases r
    rcases ty with ⟨rfl, xs, hq⟩ | ⟨rfl, o, hk, hc, hd⟩ | ⟨rfl, hk⟩ | ⟨rfl, S, n, hk⟩
    · obtain ⟨its, _, pl, _⟩ := I.list hq
      refine ⟨pl.isList.typeIs, fun a e => ?_⟩
      cases e
      obtain ⟨o, n, e, c, hd, _⟩ := pl
      exact ⟨o, e, hd⟩
    · refine ⟨⟨o, I.kIn p o hk, hc⟩, fun a e => ?_⟩
      cases e
      exact ⟨o, I.kIn _ o hk, hd⟩
    · have z : ∃ o, s.heap.get? p = some o ∧ o.ExactDict := by
        rcases hk with ⟨kvs, hk⟩ | ⟨kvs, hk⟩
        · obtain ⟨_, _, _, _, o, _, _, e, ex, _⟩ := I.hok p _ hk
          exact ⟨o, e, ex⟩
        · obtain ⟨_, _, _, _, o, _, _, e, ex, _⟩ := I.hok p _ hk
          exact ⟨o, e, ex⟩
      obtain ⟨o, e, ex⟩ := z
      refine ⟨⟨o, e, ex.1⟩, fun a e2 => ?_⟩
      cases e2
      exact ⟨o, e, ex.2.1⟩
    · obtain ⟨o, _, _, _, e, ex, _⟩ := I.hok p _ hk
      refine ⟨⟨o, e, ex.1⟩, fun a e2 => ?_⟩
      cases e2
      exact ⟨o, e, ex.2.1⟩
  | _ => exact False.elim ty
def tBM0 (K : PySem.W.Frag) (T : String) (r : V → List V → Hp → VK → Prop) (to : TE) : TE := fun σ H Q => to σ H fun x H1 => tyV K T x H1 ∧ r x [] H1 Q
def tBM (K : PySem.W.Frag) (T : String) (r : V → List V → Hp → VK → Prop) (to : TE) (t : TA) : TE := fun σ H Q => to σ H fun x H1 => tyV K T x H1 ∧ t σ H1 fun xs H2 => r x xs H2 Q
variable {o e : Expr} {es : List Expr} {to : TE} {t : TA} {name : Str} {apos cpos : Pos} {T id : String} {r : V → List V → Hp → VK → Prop}
theorem pe_bm (pa : PlainAttrs T) (slot : Slot T name id) (hty : typeOf (.builtin id) = pure (.type "method_descriptor")) (hm : MtR X id r) (ho : PE X o to) (ha : PA X (e :: es) t)
    (hbase : attributeBase o name X.env (eval o X.env) = eval o X.env := by rfl)
    (hfew : ((backTo cpos (starEach (e :: es) X.env)).all (fun x => !x.1) && (backToKw cpos (keywordEach [] X.env)).all (fun x => x.1.isSome)
      && decide ((e :: es).length + ([] : List Keyword).length + (if ([] : List Keyword).isEmpty then 0 else 1) < 30)) = true := by rfl)
    (hline : (apos.endLine == cpos.line) = true := by rfl) (hs : starEach (e :: es) X.env = (false, eval e X.env) :: starEach es X.env := by rfl) (hplain : (backTo cpos (starEach es X.env)).any (·.1) = false := by rfl) :
    PE X (.Call (.Attribute o name apos) (e :: es) [] cpos) (tBM X.K T r to t) := by
  intro pins s σ H Q I h
  refine wpAny_Call_method_late hbase hfew hline rfl (thn (ho pins s σ H _ I h) fun v s1 ⟨x, H1, I1, r1, ty, q1⟩ => ?_)
  obtain ⟨h1, h2⟩ := tyV_is I1 r1 ty
  refine ⟨T, id, pa, slot, hty, h1, h2, ?_⟩
  have hA := ha cpos pins s1 σ H1 _ I1 q1
  rw [hs] at hA ⊢
  refine Calls.callWith_builtin (by show (false || (backTo cpos (starEach es X.env)).any (·.1)) = false; rw [hplain] <;> rfl) (Calls.evalArgs_plain ?_)
  exact thn hA fun us s2 ⟨vs, H2, I2, r2, q2⟩ => hm pins s2 σ H2 x vs v us Q I2 r1 r2 q2
/- xs.append(e), list.index on a module's tuple .. are MtR facts of 06m -/
end
end L2

namespace L2
open PySem PySem.Spec PyProof.Rows

def MtM (X : Cx) (id : String) (r : V → List V → Hp → VK → Prop) : Prop :=
  ∀ (pins : List (Addr × Obj)) (s : Shared) (σ : St) (H : Hp) (x : V) (xs : List V) (v : Value) (us : List Value) (Q : VK), Inv X pins σ H s → RelV x v → Vals xs us → r x xs H Q →
    wpAny (model X.prog X.w) X.A (call (.builtin id) (v :: us)) (EP X pins σ Q) X.xe s

/-! ### lists of values -/
theorem Vals.one : ∀ {x : V} {us : List Value}, Vals [x] us → ∃ u, us = [u] ∧ RelV x u
  | _, _, .cons r .nil => ⟨_, rfl, r⟩
theorem Vals.two : ∀ {x y : V} {us : List Value}, Vals [x, y] us → ∃ u v, us = [u, v] ∧ RelV x u ∧ RelV y v
  | _, _, _, .cons r (.cons q .nil) => ⟨_, _, rfl, r, q⟩
theorem Vals.zero : ∀ {us : List Value}, Vals [] us → us = []
  | _, .nil => rfl
theorem Vals.dropLast {xs : List V} {us : List Value} (h : Vals xs us) : Vals xs.dropLast us.dropLast := by
  induction h with
  | nil => exact .nil
  | cons r t ih =>
    cases t with
    | nil => exact .nil
    | cons q t' => exact .cons r ih
theorem Vals.eraseIdx : ∀ {xs : List V} {us : List Value} (i : Nat), Vals xs us → Vals (xs.eraseIdx i) (us.eraseIdx i)
  | _, _, _, .nil => .nil
  | _, _, 0, .cons _ t => t
  | _, _, i + 1, .cons r t => .cons r (Vals.eraseIdx i t)
theorem Vals.reverse {xs : List V} {us : List Value} (h : Vals xs us) : Vals xs.reverse us.reverse := by
  induction h with
  | nil => exact .nil
  | cons r t ih => rw [List.reverse_cons, List.reverse_cons]; exact Vals.append ih (.cons r .nil)
theorem Vals.rep {xs : List V} {us : List Value} (h : Vals xs us) : ∀ k : Nat, Vals (List.replicate k xs).flatten (List.replicate k us).flatten
  | 0 => .nil
  | k + 1 => by
    rw [List.replicate_succ, List.replicate_succ, List.flatten_cons, List.flatten_cons]
    exact Vals.append h (Vals.rep h k)
theorem len_erase {α : Type} : ∀ (l : List α) (i : Nat), (l.eraseIdx i).length ≤ l.length
  | [], _ => Nat.le_refl _
  | _ :: _, 0 => Nat.le_succ _
  | _ :: r, i + 1 => Nat.succ_le_succ (len_erase r i)
theorem foldl_rep (its : List Value) : ∀ (k : Nat) (acc : List Value),
    List.foldl (fun x1 x2 => x1 ++ x2) acc.toArray (List.replicate k its.toArray) = (acc ++ (List.replicate k its).flatten).toArray
  | 0, acc => by simp
  | k + 1, acc => by
    have e : acc.toArray ++ its.toArray = (acc ++ its).toArray := by simp
    have e2 : (acc ++ its) ++ (List.replicate k its).flatten = acc ++ (List.replicate (k + 1) its).flatten := by
      rw [List.replicate_succ, List.flatten_cons, List.append_assoc]
    rw [← e2, ← foldl_rep its k (acc ++ its), ← e, List.replicate_succ, List.foldl_cons]

section
variable {X : Cx} {pins : List (Addr × Obj)} {σ : St} {H : Hp} {s : Shared} {l b : Addr} {xs ys zs : List V}

/-! ### the two steps: a tracked list is rewritten, a new list is laid -/
theorem Inv.lset {its its' : List Value} {n : Nat} {f : Array Value → Array Value} {t' : Nat} (I : Inv X pins σ H s) (hH : H l = some (.lst xs))
    (e : s.heap.get? l = some { cls := .type "list", data := .seq its.toArray n }) (hf : f its.toArray = its'.toArray) (hv : Vals ys its') (hz : ys.length ≤ sizeLine) :
    Inv X pins σ (upd H l (.lst ys)) { s with heap := s.heap.update l (Obj.mapSeq f), toks := t' } := by
  have q := PySem.IsL.update e f
  rw [hf] at q
  refine I.write (x := l) (e := l) (by rw [hH]; exact trivial) (.inl rfl) (fun b' u hb hu => (Heap.get?_update_other s.heap (Obj.mapSeq f) (Ne.symm hb)).trans hu) ⟨_, q⟩ ?_
  exact ⟨hz, its', _, hv, q⟩
theorem Inv.lnew {its : List Value} {t' : Nat} (I : Inv X pins σ H s) (hv : Vals ys its) (hz : ys.length ≤ sizeLine) :
    Inv X pins σ (upd H s.heap.objs.size (.lst ys)) { s with heap := s.heap.push { cls := .type "list", data := .seq its.toArray }, toks := t' } :=
  I.laid (fun _ _ q => Heap.get?_push_of_some _ q) (Nat.le_refl _) ⟨hz, its, 0, hv, Heap.get?_push_size _ rfl⟩
theorem Inv.fresh (I : Inv X pins σ H s) : H s.heap.objs.size = none := I.hok.fresh (Nat.le_refl _)
theorem Inv.lstM (I : Inv X pins σ H s) (hH : H l = some (.lst xs)) : xs.length ≤ sizeLine ∧ ∃ (its : List Value) (n : Nat), Vals xs its ∧ xs.length = its.length ∧ s.heap.get? l = some { cls := .type "list", data := .seq its.toArray n } := by
  obtain ⟨z, its, n, r, e⟩ := I.hok l _ hH
  exact ⟨z, its, n, r, r.length, e⟩

end

section
variable {X : Cx}

/-! ### methods -/
def rAppend : V → List V → Hp → VK → Prop := fun x vs H Q => ∃ l xs y, x = .ref l ∧ vs = [y] ∧ H l = some (.lst xs) ∧ xs.length < sizeLine ∧ Q .non (upd H l (.lst (xs ++ [y])))
theorem mt_append : MtM X "list.append" rAppend := by
  intro pins s σ H x vs v us Q I rx rv h
  obtain ⟨l, xs, y, rfl, rfl, hH, hz, q⟩ := h
  cases rx
  obtain ⟨u, rfl, ru⟩ := rv.one
  obtain ⟨z, its, n, r, hl, e⟩ := I.lstM hH
  refine call_meets F.slot_list_append ⟨_, e, rfl⟩ F.entry_list_append (F.args_list_append_2 _ _) (PySem.list_append l its.toArray n u (by rw [List.size_toArray]; omega)) ⟨e, ?_⟩
  refine ⟨.non, _, I.lset (its' := its ++ [u]) hH e (by simp) (r.append (.cons ru .nil)) ?_, rfl, q⟩
  rw [List.length_append, List.length_singleton]
  omega

def rExtend : V → List V → Hp → VK → Prop := fun x vs H Q => ∃ l b xs zs, x = .ref l ∧ vs = [.ref b] ∧ H l = some (.lst xs) ∧ H b = some (.lst zs) ∧ xs.length + zs.length ≤ sizeLine ∧ Q .non (upd H l (.lst (xs ++ zs)))

def rPop : V → List V → Hp → VK → Prop := fun x vs H Q => ∃ l xs y, x = .ref l ∧ vs = [] ∧ H l = some (.lst xs) ∧ xs[xs.length - 1]? = some y ∧ Q y (upd H l (.lst xs.dropLast))

def rPopAt : V → List V → Hp → VK → Prop := fun x vs H Q => ∃ l xs i k y, x = .ref l ∧ vs = [.int i] ∧ H l = some (.lst xs) ∧ -(2 ^ 63) ≤ i ∧ i < 2 ^ 63 ∧ seqIndex? i xs.length = some k ∧ xs[k]? = some y ∧ Q y (upd H l (.lst (xs.eraseIdx k)))
theorem mt_popAt : MtM X "list.pop" rPopAt := by
  intro pins s σ H x vs v us Q I rx rv h
  obtain ⟨l, xs, i, k, y, rfl, rfl, hH, h1, h2, hk, hy, q⟩ := h
  cases rx
  obtain ⟨u, rfl, ru⟩ := rv.one
  obtain ⟨t, rfl⟩ := ru
  obtain ⟨z, its, n, r, hl, e⟩ := I.lstM hH
  obtain ⟨w, hw, rw'⟩ := r.get hy
  refine call_meets F.slot_list_pop ⟨_, e, rfl⟩ F.entry_list_pop (F.args_list_pop_2 _ _)
    (MeetsSeq.list_pop_at l its.toArray n i t k w (fitsIndex_both h1 h2) (by rw [List.size_toArray, ← hl]; exact hk) (by rw [← Array.getElem?_toList]; exact hw) (by rw [List.size_toArray]; omega)) ⟨e, ?_⟩
  refine ⟨y, _, I.lset (its' := its.eraseIdx k) hH e ?_ (r.eraseIdx k) ?_, rw', q⟩
  · show its.toArray.eraseIdxIfInBounds k = (its.eraseIdx k).toArray
    rw [List.eraseIdxIfInBounds_toArray]
  · have := len_erase xs k
    omega

def rReverse : V → List V → Hp → VK → Prop := fun x vs H Q => ∃ l xs, x = .ref l ∧ vs = [] ∧ H l = some (.lst xs) ∧ Q .non (upd H l (.lst xs.reverse))

def rClear : V → List V → Hp → VK → Prop := fun x vs H Q => ∃ l xs, x = .ref l ∧ vs = [] ∧ H l = some (.lst xs) ∧ Q .non (upd H l (.lst []))

/-! ### list + list, list += list, list * int -/
def rCat : R2 := fun x y H Q => ∃ l b xs zs, x = .ref l ∧ y = .ref b ∧ H l = some (.lst xs) ∧ H b = some (.lst zs) ∧ xs.length + zs.length ≤ sizeLine ∧ ∀ p, H p = none → Q (.ref p) (upd H p (.lst (xs ++ zs)))
theorem op_cat : OpR X (binaryOp .Add) rCat := by
  intro pins s σ H x y v u Q I rx ry h
  obtain ⟨l, b, xs, zs, rfl, rfl, hH, hB, hz, q⟩ := h
  cases rx
  cases ry
  obtain ⟨z, its, n, r, hl, e⟩ := I.lstM hH
  obtain ⟨z2, its2, n2, r2, hl2, e2⟩ := I.lstM hB
  refine PySem.P.add_list e e2 ?_ (by rw [List.size_toArray, List.size_toArray]; omega)
  have ea : its.toArray ++ its2.toArray = (its ++ its2).toArray := by simp
  rw [ea]
  exact ⟨.ref _, _, I.lnew (t' := s.toks) (r.append r2) (by rw [List.length_append]; omega), rfl, q _ I.fresh⟩
/-- a list times an int (a negative one is nothing) -/
def rRep : R2 := fun x y H Q => ∃ l k xs, x = .ref l ∧ y = .int k ∧ H l = some (.lst xs) ∧ -(2 ^ 63) ≤ k ∧ k < 2 ^ 63 ∧ xs.length * k.toNat ≤ sizeLine ∧
  ∀ p, H p = none → Q (.ref p) (upd H p (.lst (List.replicate k.toNat xs).flatten))
theorem len_rep {α : Type} (xs : List α) (k : Nat) : (List.replicate k xs).flatten.length = k * xs.length := by
  induction k with
  | zero => simp
  | succ k ih => rw [List.replicate_succ, List.flatten_cons, List.length_append, ih, Nat.succ_mul, Nat.add_comm]

/-! ### del xs[i] -/
end

/-! ### xs[a:b] = ys -/
section
variable {prog : Program} {w : World} {A : Around} {E : Value → Shared → Prop} {s : Shared}
end

section
variable {X : Cx}
end
end L2

namespace Att
open PySem PySem.W PySem.Calls PyProof.Rows

/-! ### the script -/
theorem ints_of_wellAll {P : Params} {h : Heap} : ∀ (ns : List Int) (vs : List Value), WellAll P h vs (ns.map WData.int) → IntsAre vs ns := by
  intro ns
  induction ns with
  | nil =>
    intro vs w
    rw [List.map_nil] at w
    cases w
    exact .nil
  | cons n ns ih =>
    intro vs w
    rw [List.map_cons] at w
    cases w with
    | cons a b =>
      cases a
      exact .cons _ _ (ih _ b)

theorem script_of {l : OpenLaw} {n : Nat} (hn : l.most = some n) {P : Params} {h : Heap} {args : List WData} {vals : List Value}
    (hpre : l.row.toRowW.claim.pre args = true) (hwl : WellAll P h vals args) :
    ∃ a vs ns, vals = [Value.ref a] ∧ args = [WData.list (ns.map WData.int)] ∧ h.get? a = some { cls := .type "list", data := .seq vs.toArray } ∧ IntsAre vs ns ∧ ns.length ≤ n := by
  have hsh : WShape.hasAll [] args [.list .int] = true := (pre_splitW hpre).1
  have hc : l.pre.holds [] { args := args } = true := (pre_splitW hpre).2
  obtain ⟨d, r, rfl, h1, h2⟩ := hasAllW_cons hsh
  obtain rfl := hasAllW_nil h2
  obtain ⟨xs, rfl, h3⟩ := hasW_list h1
  obtain ⟨ns, rfl⟩ := items_int h3
  have hlen : ns.length ≤ n := by
    unfold OpenLaw.pre at hc
    have h4 : (WTm.not (.lt (.lit (.int (n : Int))) (.len (.arg 0)))).holds [] { args := [.list (ns.map .int)] } = true := by
      have h4 := (holds_andW hc).1
      rw [hn] at h4
      exact h4
    have h5 := condW_of h4 (w_not (w_lt w_lit (w_len_list (w_arg rfl))))
    rw [List.length_map] at h5
    refine Nat.le_of_not_lt fun q => ?_
    have q' : (n : Int) < ((ns.length : Nat) : Int) := by omega
    first
      | (rw [decide_eq_true q'] at h5; exact absurd h5 (by decide))
      | (simp at h5; omega)
  cases hwl with
  | cons w1 w2 =>
    cases w2
    cases w1 with
    | list ho hall => exact ⟨_, _, ns, rfl, rfl, ho, ints_of_wellAll ns _ hall, hlen⟩

theorem post_true (l : OpenLaw) (args : List WData) : l.row.toRowW.claim.post args (.bool true) args = true :=
  postW_of (r := l.row.toRowW) (X := (true == true))
    (show WShape.has [] (.bool true) .bool = true by first | rfl | decide | simp [WShape.has, WShape.arms, WShape.armsAll])
    (show (WTm.eq .res (.lit (.bool true))).value [] { args := args, res := some (.bool true), after := args } = some (.bool (true == true)) from w_eq_bool (w_res rfl) w_lit) rfl

/-! ### the attachment: holds_open's last premise (the goal 'hc' behind k_head) from a wpAny of the law's body -/

/-- the same from a codeAny of the CALL (for a layer whose function contracts speak of calls) -/
theorem attach_call {l : OpenLaw} {n : Nat} {q : Program} {loose : List Str} {XP : (Str → Option Value) → Heap → Prop} {YP : World → Heap → Prop} {d : DefRec}
    (hn : l.most = some n) (hdf : d.params.defaults = [])
    (call : ∀ (w : World) (s₀ s₁ : Shared) (mg mb : Str → Option Value) (fa : Addr) (o : Obj) (pm cd doc : Value) (a : Addr) (vs : List Value) (ns : List Int),
      Ground q loose [] XP w s₀ mg mb s₁.heap → YP w s₁.heap →
      s₁.heap.get? fa = some o → o.data = .func (docDef d.name d.params d.body d.scope pm cd doc) → s₁.heap.CodeRec cd d.name → mg d.name = some (.ref fa) →
      s₁.heap.get? a = some { cls := .type "list", data := .seq vs.toArray } → IntsAre vs ns → ns.length ≤ n → s₁.gens = #[] →
      codeAny (model l.prog w) callerA (.call (.ref fa) ⟨[.ref a], []⟩) (fun r s' => r = .ok (.ret (.bool true)) ∧ OldK s₁.heap s'.heap ∧ s'.os = s₁.os ∧ AllBare s'.gens) s₁) :
    WalkO q loose XP YP l.row.toRowW d [] (fun f vs => PySem.call f vs) := by
  intro w s₀ s₁ mg mb G Y fa o pm cd doc dV kV ho hd hcd hD hmg hg args vals as hpre hlay hrd hwl hlo
  obtain rfl : dV = .none := Dflts.none hD hdf
  obtain rfl : kV = .none := Dflts.noKw hD
  obtain ⟨a, vs, ns, rfl, rfl, hobj, hints, hlen⟩ := script_of hn hpre hwl
  refine enter_call (codeAny_mono (call w s₀ s₁ mg mb fa o pm cd doc a vs ns G Y ho (fd_plain hd) hcd hmg hobj hints hlen hg) fun r s' hq => ?_)
  obtain ⟨rfl, h2, h3, h4⟩ := hq
  exact ⟨.inl ⟨.bool true, .bool true, [], rfl, fun _ => rfl, .bool true, post_true l _, fun _ => ⟨List.Pairwise.nil, fun _ hm => (nomatch hm)⟩⟩, h2, h3, h4⟩


/-! ### rules over ANY heap (no ledger) from facts about the written part K: the library's own take a ledger (News) for what they write -/
section
variable {prog : Program} {w : World} {A : Around} {E : Value → Shared → Prop} {s : Shared} {K : Frag}





/-! the whole heap as the ledger: makes every rule that writes through a ledger a rule over any heap -/
def noObjs (h : Heap) : Heap := { h with objs := #[] }
def ledger (h : Heap) (L d : Addr) : List (Addr × Obj) := (List.range h.objs.size).filterMap fun a => if a = L ∨ a = d then none else (h.get? a).map fun o => (a, o)

end
end Att

namespace L2
open PySem PySem.Spec PyProof.Rows

theorem vals_ints : ∀ {vs : List Value} {ns : List Int}, IntsAre vs ns → Vals (ns.map V.int) vs
  | _, _, .nil => .nil
  | _, _, .cons n t h => .cons ⟨t, rfl⟩ (vals_ints h)

/-- nothing is tracked but the script, known to the object (or it is an object of the module) -/
def Only (H : Hp) : Prop := ∀ b, H b = none ∨ ∃ o xs, H b = some (.frz o (.lst xs))

/-- THE HEAD: the law's promise, at the heap behind the top. F, the promise of the law's def, may use that base is part of the heap (so K.In base, base.Ns mainGlobals mg stand in Mod) -/
theorem law_call {P : Program} {w : World} {K : PySem.W.Frag} {mg mb : Str → Option Value} {CX : CXT} {k : Nat} {fa a : Addr} {fd : FuncData} {x : Str} {sp : Sp} {s₁ : Shared} {vs : List Value} {ns : List Int}
    (KX : K.In s₁.heap) (hns : s₁.heap.Ns mainGlobals mg) (hb : s₁.heap.Ns builtinsNs mb) (hbb : ∀ x : Str, x ≠ "__name__" → mb x = bootBuiltins x) (hlim : s₁.heap.NoLimit) (hg : s₁.gens = #[])
    (ha : s₁.heap.get? a = some { cls := .type "list", data := .seq vs.toArray }) (hi : IntsAre vs ns) (hl : ns.length ≤ sizeLine) (hr : Room k callerA)
    (F : ∀ base : Heap, K.In base → base.Ns mainGlobals mg → FnOk P w K mg base CX k fa fd [x] sp) (hbind : ∀ (s : Shared) (u : Value), BindsTo s fd ⟨[u], []⟩ [(x, u)])
    (hsp : ∀ H : Hp, Only H → SqL K H a (ns.map V.int) → sp [.ref a] H (fun v _ => v = .bl true) fun _ _ _ => False)
    (hCX : ∀ H e s', CX [] H s₁ (fun _ _ _ => False) e s' → False) :
    codeAny (model P w) callerA (.call (.ref fa) ⟨[.ref a], []⟩) (fun r s' => r = .ok (.ret (.bool true)) ∧ OldK s₁.heap s'.heap ∧ s'.os = s₁.os ∧ AllBare s'.gens) s₁ := by
  have rv := vals_ints hi
  have lenV := hi.length
  -- from an abstract heap in which nothing but the script may be tracked
  have core : ∀ H : Hp, Only H → SqL K H a (ns.map V.int) → HOk P w H s₁.heap → (∀ b, H b ≠ none → b = a) → (H a ≠ none → K.lookup a = none) →
      codeAny (model P w) callerA (.call (.ref fa) ⟨[.ref a], []⟩) (fun r s' => r = .ok (.ret (.bool true)) ∧ OldK s₁.heap s'.heap ∧ s'.os = s₁.os ∧ AllBare s'.gens) s₁ := by
    intro H hO hS hok hA hK
    have base_of : ∀ {b : Addr} {o : Obj}, s₁.heap.get? b = some o → H b = none → (hidT s₁.heap H).get? b = some o := fun e n => hidT_get e n
    have noA : ∀ {b : Addr} {o : Obj} {es : Array DictEntry} {ep : Nat}, s₁.heap.get? b = some o → o.data = .dict es ep → H b = none := fun {b o es ep} e d => by
      cases q : H b with
      | none => rfl
      | some u =>
        have e' : b = a := hA b (by rw [q]; simp)
        subst e'
        rw [ha] at e; cases e
        have d' : Data.seq vs.toArray _ = Data.dict es ep := d
        cases d'
    have nsK : ∀ {b : Addr} {m : Str → Option Value}, s₁.heap.Ns b m → (hidT s₁.heap H).Ns b m := fun {b m} ⟨o, es, ep, e, d, r⟩ => ⟨o, es, ep, base_of e (noA e d), d, r⟩
    have hKb : K.In (hidT s₁.heap H) := fun b o e => base_of (KX b o e) (by
      cases q : H b with
      | none => rfl
      | some u =>
        have e' : b = a := hA b (by rw [q]; simp)
        subst e'
        rw [hK (by rw [q]; simp)] at e; cases e)
    have hM : Mod K mg (hidT s₁.heap H) := ⟨hKb, nsK hns, ⟨mb, nsK hb, hbb⟩, let ⟨mc, h1, h2⟩ := hlim; ⟨mc, nsK h1, h2⟩⟩
    have e0 : Env0 P w K mg (hidT s₁.heap H) callerA [] s₁ H := ⟨rfl, hM, fun b o e => of_hidT e, Nat.le_of_eq (hidT_size _ _), trivial, fun b hb => absurd (show b ∈ ([] : List Addr) from hb) (by simp), hok, .of_eq hg⟩
    refine codeAny_mono ((F _ hKb (nsK hns)).run callerA [] s₁ H ⟨[.ref a], []⟩ [.ref a] [.ref a] _ _ hr e0 (hbind s₁ (.ref a)) (.cons rfl .nil) (hsp H hO hS)) fun r s' h => ?_
    cases r with
    | error e => exact (hCX H e s' h).elim
    | ok fl =>
      cases fl with
      | next => exact False.elim h
      | brk => exact False.elim h
      | cont => exact False.elim h
      | ret u =>
        obtain ⟨v, H', os, bare, un, hok', r', q⟩ := h
        have q' : v = .bl true := q
        subst q'
        obtain rfl : u = Value.bool true := r'
        refine ⟨rfl, OldK.of_keep fun b o e => ?_, os, bare⟩
        cases q : H b with
        | none => exact un.keep b o e q (by intro z; exact absurd (show b ∈ ([] : List Addr) from z) (by simp)) (by simp)
        | some u =>
          rcases hO b with z | ⟨ob, xs, z⟩
          · rw [q] at z; cases z
          · have z2 := un.frzs b ob _ z
            obtain ⟨e1, _⟩ := hok b _ z
            obtain ⟨e2, _⟩ := hok' b _ z2
            rw [e] at e1; cases e1
            exact e2
  cases hk : K.lookup a with
  | some o =>
    -- the script is one of the module's own objects
    have e := KX a o hk
    rw [ha] at e
    cases e
    refine core (fun _ => none) (fun _ => .inl rfl) (.inr ⟨_, vs.toArray, _, hk, rfl, rfl, rfl, by rw [List.size_toArray, lenV]; exact hl, by simpa using rv⟩) (fun b u z => by have z' : (none : Option HO) = some u := z; cases z') (fun b z => absurd rfl z) fun z => absurd rfl z
  | none =>
    refine core (fun b => if b = a then some (.frz { cls := .type "list", data := .seq vs.toArray } (.lst (ns.map V.int))) else none) (fun b => ?_) (.inl (.inr ⟨{ cls := .type "list", data := .seq vs.toArray }, if_pos rfl⟩)) (fun b u z => ?_) (fun b z => ?_) fun _ => hk
    · by_cases hb : b = a
      · exact .inr ⟨_, _, if_pos hb⟩
      · exact .inl (if_neg hb)
    · by_cases hb : b = a
      · have z' := (if_pos hb).symm.trans z
        cases z'
        subst hb
        exact ⟨ha, by rw [List.length_map]; exact hl, vs, _, rv, ha⟩
      · have z' := (if_neg hb).symm.trans z
        cases z'
    · by_cases hb : b = a
      · exact hb
      · exact absurd (if_neg hb) z
end L2

namespace L2
open PySem PySem.Spec PyProof.Rows

abbrev KOf {K : PySem.W.Frag} {h : Heap} (_ : K.In h) : PySem.W.Frag := K

/-- the goal that k_head leaves (case hc), from the law's promise. F gives the function object fd (K's own) once, then the promise over every base -/
theorem walk_of {l : PySem.W.OpenLaw} {n k : Nat} {q : Program} {loose : List Str} {XP : (Str → Option Value) → Heap → Prop} {YP : World → Heap → Prop} {d : DefRec} {K : Params → PySem.W.Frag} {CX : World → CXT} {sp : World → Sp} {x : Str}
    (hn : l.most = some n) (hn2 : n ≤ sizeLine) (hdf : d.params.defaults = []) (hr : Room k callerA)
    (hY : ∀ (w : World) (h : Heap), YP w h → (K w.params).In h)
    (F : ∀ (w : World) (mg : Str → Option Value) (fa : Addr) (h : Heap), (K w.params).In h → h.Ns mainGlobals mg → mg d.name = some (.ref fa) →
      ∃ fd : FuncData, (∀ (s : Shared) (u : Value), BindsTo s fd ⟨[u], []⟩ [(x, u)]) ∧
        ∀ base : Heap, (K w.params).In base → base.Ns mainGlobals mg → FnOk l.prog w (K w.params) mg base (CX w) k fa fd [x] (sp w))
    (hsp : ∀ (w : World) (H : Hp) (a : Addr) (ns : List Int), ns.length ≤ n → Only H → SqL (K w.params) H a (ns.map V.int) → sp w [.ref a] H (fun v _ => v = .bl true) fun _ _ _ => False)
    (hCX : ∀ (w : World) (H : Hp) (s : Shared) (e : Value) (s' : Shared), CX w [] H s (fun _ _ _ => False) e s' → False) :
    PySem.W.WalkO q loose XP YP l.row.toRowW d [] (fun f vs => PySem.call f vs) := by
  refine Att.attach_call hn hdf fun w s₀ s₁ mg mb fa o pm cd doc a vs ns G Y ho hd hcd hmg hobj hints hlen hg => ?_
  have KX := hY w _ Y
  obtain ⟨fd, hb, hF⟩ := F w mg fa _ KX G.T.g hmg
  exact law_call KX G.T.g G.T.b G.T.builtins G.T.nolimit hg hobj hints (Nat.le_trans hlen hn2) hr hF hb (fun H hO hS => hsp w H a ns hlen hO hS) fun H e s' => hCX w H s₁ e s'
end L2

/- THE LAST THEOREM (shape; LID, My.* are yours):
   My.Adr: a structure of the addresses that your layer names (classes, functions); My.Txt K t: a structure (Prop) of the equations over K;
   My.txt_mk : {K} {implicit addresses ..} (e1 : nsIn K mainGlobals "law" = some (some (.ref f))) (e2 : K.lookup f = some ⟨oc, od, .func (fnOf "law" "law" params body scope dV kV doc pm an cdv ct), sl⟩) (e3 : codeIn K cdv "law" = true) .. : ∃ t, My.Txt K t

set_option maxRecDepth 100000 in
set_option maxHeartbeats 0 in
theorem PySem.Challenge.cw_LID_holds : PySem.Challenge.rw_LID.Holds := by
  w_on; o_law; k_head; (case hw => w_witness2)
  k_fill
  refine L2.walk_of (l := PySem.Challenge.rw_LID) (n := 63) (k := 40) (x := "script") (CX := fun w => ..) (sp := fun _ => My.sp_law) rfl (by decide) rfl ⟨rfl, by decide, by decide⟩ (fun w h Y => PySem.W.kIn_of Y) ?F ?S ?C
  case F =>
    intro w mg fa h KX G hmg
    have T : ∃ t, My.Txt (L2.KOf KX) t := by
      dsimp only [L2.KOf]                          -- K must stand as «<heap const> w.params» for k_is
      refine' My.txt_mk ?e1 ?e2 ?e3 ..
      (case e1 => PySem.W.k_is)                    -- in the order: a name -> its address -> its object -> its parts
      (case e2 => PySem.W.k_is)
      ..
    obtain ⟨t, T⟩ := T
    have e0 := hmg.symm.trans (PySem.W.mg_of KX G T.law)
    cases e0                                       -- fa is the law's own address
    exact ⟨_, fun s u => .of_eq rfl, fun base kb nb => My.law_fn T kb nb⟩     -- if «.of_eq rfl» comes too early: refine' ⟨_, ?b, fun base kb nb => My.law_fn T kb nb⟩; exact fun s u => .of_eq rfl
  case S => exact fun w H a ns hl hO hS => ..
  case C => exact ..
(the tactic k_is has no namespace: write k_is) -/

/-! SHORT WORDS over the layer: a def of the text, its body, what a loop and a test want. -/
namespace L2
open PySem PySem.Spec PyProof.Rows

/-! ### the text by places -/
/-- the j-th statement of a class's body -/
def inClass (s : Stmt) (j : Nat) : Stmt := match s with
  | .ClassDef _ _ _ body _ _ _ _ _ _ _ => body.getD j (.Pass ⟨0, 0, 0, 0⟩)
  | _ => .Pass ⟨0, 0, 0, 0⟩
def defArgs (s : Stmt) : Arguments := match s with
  | .FunctionDef _ a _ _ _ _ _ _ _ _ => a
  | _ => { posonlyargs := [], args := [], vararg := none, kwonlyargs := [], kw_defaults := [], kwarg := none, defaults := [] }
def defBody (s : Stmt) : List Stmt := match s with
  | .FunctionDef _ _ b _ _ _ _ _ _ _ => b
  | _ => []
def defScope (s : Stmt) : Scope := match s with
  | .FunctionDef _ _ _ _ _ _ sc _ _ _ => sc
  | _ => { kind := .function, names := [], isGenerator := false, isCoroutine := false }

/-! ### no exception leaves a def -/
abbrev CX0 : CXT := fun _ _ _ _ _ _ => False
abbrev E0 : XK := fun _ _ _ => False
theorem pass0 {X : Cx} : Passes CX0 X E0 := fun _ _ _ _ _ _ _ h => h.elim

/-! ### a def (or method) of the text as it stands behind the top -/
structure Fun (K : PySem.W.Frag) (x qual : Str) (st : Stmt) (f : Addr) (fd : FuncData) : Prop where
  ex : ∃ (oc : Value) (od : Option Addr) (kV doc pm : Value) (an : Option Addr) (cdv ct : Value) (osl : Array (Option Value)),
    fd = PySem.W.fnOf x qual (defArgs st) (defBody st) (defScope st) .none kV doc pm an cdv ct ∧ K.lookup f = some ⟨oc, od, .func fd, osl⟩ ∧ PySem.W.codeIn K cdv qual = true
  kp : PySem.W.keepIn K (.ref f) = true
section
variable {P : Program} {w : World} {K : PySem.W.Frag} {mg : Str → Option Value} {base : Heap}
/-- THE RULE for a def: its body as a term of rules, and the reading of that term -/
theorem Fun.ok {x qual : Str} {st : Stmt} {f : Addr} {fd : FuncData} {N ps : List Str} {k : Nat} {sp : Sp} (F : Fun K x qual st f fd) (S : FnScope N ps (defScope st)) (len : ∀ vs H Q E, sp vs H Q E → vs.length = ps.length)
    (hbody : ∀ (cdv : Value) (A : Around) (outer : List Env) (s : Shared) (H : Hp) (vs : List V) (Q : VK) (E : XK), Room k (A.deeper (envOfC qual (defScope st) s.heap.objs.size f cdv)) → sp vs H Q E →
      ∃ t, PSs (cxOf CX0 P w K mg base N qual (defScope st) f cdv A outer s H E).nox (defBody st) t ∧ t { nx := fun _ H' => Q .non H', rt := Q } (start N vs) H) : FnOk P w K mg base CX0 (k + 1) f fd ps sp := by
  obtain ⟨oc, od, kV, doc, pm, an, cdv, ct, osl, rfl, lk, hcd⟩ := F.ex
  refine fn_of lk hcd S len fun A outer s H vs Q E hr hsp => ?_
  obtain ⟨t, h, q⟩ := hbody cdv A outer s H vs Q E hr hsp
  exact ⟨t, h.nox, q⟩
/-- how its arguments bind (no defaults): h is «fun _ _ _ _ _ _ us hl => match us, hl with | [_, _], _ => rfl», one _ a parameter -/
theorem Fun.binds {x qual : Str} {st : Stmt} {f : Addr} {fd : FuncData} {ps : List Str} (F : Fun K x qual st f fd)
    (h : ∀ (kV doc pm : Value) (an : Option Addr) (cdv ct : Value) (us : List Value), us.length = ps.length → bindArgs (PySem.W.fnOf x qual (defArgs st) (defBody st) (defScope st) .none kV doc pm an cdv ct) ⟨us, []⟩ = pure (ps.zip us)) : Binds K fd ps [] := by
  obtain ⟨oc, od, kV, doc, pm, an, cdv, ct, osl, rfl, lk, hcd⟩ := F.ex
  exact .all (h kV doc pm an cdv ct)
theorem fun_mk {x qual : Str} {st : Stmt} {f : Addr} {oc : Value} {od an : Option Addr} {osl : Array (Option Value)} {kV doc pm cdv ct : Value} (l : K.lookup f = some ⟨oc, od, .func (PySem.W.fnOf x qual (defArgs st) (defBody st) (defScope st) .none kV doc pm an cdv ct), osl⟩)
    (c : PySem.W.codeIn K cdv qual = true) (k : PySem.W.keepIn K (.ref f) = true) : Fun K x qual st f (PySem.W.fnOf x qual (defArgs st) (defBody st) (defScope st) .none kV doc pm an cdv ct) := ⟨⟨oc, od, kV, doc, pm, an, cdv, ct, osl, rfl, l, c⟩, k⟩
end
theorem small1000 {n : Nat} (h : n ≤ 1000) : n < sizeLine := Nat.lt_of_le_of_lt h (by decide)

/-! ### expressions in short: the name that stands in the i-th slot -/
section
variable {X : Cx}
theorem pv (i : Nat) {x : Str} {pos : Pos} (hN : X.N[i]? = some x := by rfl) (hv : Vis X.env.scope x := by first | exact Or.inl rfl | exact Or.inr (Or.inl rfl) | exact Or.inr (Or.inr rfl)) (hd : (x == ("__debug__" : Str)) = false := by decide)
    (hcd : (x == ("__classdict__" : Str)) = false := by decide) : PE X (.Name x pos) (tVar i) := pe_var hN hv hd hcd
end

/-! ### tests -/
theorem iteF {A B : Prop} (h : B) : if false = true then A else B := by
  rw [if_neg Bool.false_ne_true]
  exact h
theorem iteT {A B : Prop} (h : A) : if true = true then A else B := by
  rw [if_pos rfl]
  exact h
theorem iteNS {c A B : Prop} [Decidable c] (hc : c) (h : B) : if (!decide c) = true then A else B := by
  rw [decide_eq_true hc]
  exact iteF h

/-! ### heaps -/
/-- all that was tracked is as it was -/
def Same (H H' : Hp) : Prop := ∀ b o, H b = some o → H' b = some o
theorem Same.refl (H : Hp) : Same H H := fun _ _ h => h
theorem Same.trans {H H1 H2 : Hp} (a : Same H H1) (b : Same H1 H2) : Same H H2 := fun c o h => b c o (a c o h)
theorem Same.free {H H' : Hp} (e : Same H H') {l : Addr} (h : H' l = Option.none) : H l = Option.none := by
  cases q : H l with
  | none => rfl
  | some o =>
    rw [e l o q] at h
    cases h
theorem Same.seq {K : PySem.W.Frag} {H H' : Hp} {a : Addr} {xs : List V} (e : Same H H') (h : SqL K H a xs) : SqL K H' a xs := by
  rcases h with (h | ⟨o, h⟩) | h
  · exact .inl (.inl (e _ _ h))
  · exact .inl (.inr ⟨o, e _ _ h⟩)
  · exact .inr h

end L2

set_option Elab.async false
set_option linter.all false
set_option maxRecDepth 100000
namespace L2
open PySem PySem.Spec PyProof.Rows

/-! ### comprehensions -/
section
variable {P : Program} {w : World} {A : Around} {R : Result → Shared → Prop} {s : Shared}
/-- the loop of a comprehension, the step ahead of the store with it -/
theorem comp_loop {elt tgt iter : Expr} {ifs : List Expr} {scope : Scope} {pos : Pos} {it acc : Value} {env : Env} (J : Nat → Shared → Prop)
    (turn : ∀ n s, J n s → wpAny (model P w) A (pyNext it) (fun r c₁ => match r with
      | none => R (.ok .next) c₁
      | some v => wpAny (model P w) A (letOwnedTupleGo tgt it v) (fun _ d₁ => wpAny (model P w) A (assign tgt env v) (fun _ c₂ =>
          wpAny (model P w) A (forIn ifs true fun c r => if r = true then do let ok ← isTrue c env (eval c env); pure (ForInStep.yield ok) else pure (ForInStep.yield r)) (fun ok c₃ =>
            if ok = true then wpAny (model P w) A (eval elt env) (fun x c₄ =>
              wpAny (model P w) A (call (.builtin "list.append") [acc, x]) (fun _ c₅ => ∃ m, m < n ∧ J m c₅) (notedBy (model P w) A env fun e s' => R (.error e) s') c₄) (notedBy (model P w) A env fun e s' => R (.error e) s') c₃
            else ∃ m, m < n ∧ J m c₃) (notedBy (model P w) A env fun e s' => R (.error e) s') c₂) (notedBy (model P w) A env fun e s' => R (.error e) s') d₁) (notedBy (model P w) A env fun e s' => R (.error e) s') c₁) (notedBy (model P w) A env fun e s' => R (.error e) s') s)
    (n : Nat) (hn : J n s) :
    codeAny (model P w) A (.compLoop (.ListComp elt [⟨tgt, iter, ifs, 0⟩] scope pos) 0 it acc env) R s := by
  refine codeAny_loop rfl J (fun n s hJ => ?_) n hn
  show wpAny _ A ((compTurn (.ListComp elt [⟨tgt, iter, ifs, 0⟩] scope pos) 0 it acc env).onRaise (fun x => do noteFrame x env; theTreesLotGoes x)) _ _ s
  refine wpAny_noted ?_
  rw [compTurn_list]
  refine wpAny_bind (wpAny_standAt (wpAny_bind (wpAny_mono (turn n s hJ) (fun r c₁ e₁ => ?_) fun _ _ z => z)))
  cases r with
  | none => exact wpAny_pure e₁
  | some v =>
    refine wpAny_bind (wpAny_mono e₁ (fun _ d₁ f₁ => ?_) fun _ _ z => z)
    refine wpAny_bind (wpAny_mono f₁ (fun _ c₂ e₂ => wpAny_bind (wpAny_mono e₂ (fun ok c₃ e₃ => ?_) fun _ _ z => z)) fun _ _ z => z)
    cases ok with
    | false => exact wpAny_pure ⟨rfl, e₃⟩
    | true =>
      exact wpAny_bind (wpAny_bind (wpAny_mono e₃ (fun x c₄ e₄ => wpAny_bind (wpAny_mono e₄ (fun _ c₅ e₅ => wpAny_pure (wpAny_pure ⟨rfl, e₅⟩)) fun _ _ z => z)) fun _ _ z => z))
end

/-- the cells that a block is given -/
def cloF (env : Env) : List (Str × NameKind) → List (Str × Addr) → List (Str × Addr)
  | [], acc => acc
  | (n, k) :: r, acc => if k = .free then cloF env r ((n, (env.cells.lookup n).getD 0) :: acc) else cloF env r acc
theorem closure_go {env : Env} : ∀ (names : List (Str × NameKind)) (acc : List (Str × Addr)), (∀ x ∈ names, x.2 = .free → ∃ c, env.cells.lookup x.1 = some c) →
    (forIn names acc (fun (x : Str × NameKind) (cs : List (Str × Addr)) => (if (x.2 == NameKind.free) = true then do let a ← cellOf env x.1; pure (ForInStep.yield ((x.1, a) :: cs)) else pure (ForInStep.yield cs) : Sem (ForInStep (List (Str × Addr))))) : Sem (List (Str × Addr))) = pure (cloF env names acc)
  | [], acc, _ => by simp [cloF]
  | (n, k) :: r, acc, h => by
    have ih := fun acc => closure_go (env := env) r acc fun x hx => h x (List.mem_cons_of_mem _ hx)
    rw [List.forIn_cons]
    by_cases hk : k = .free
    · subst hk
      obtain ⟨c, hc⟩ := h (n, .free) List.mem_cons_self rfl
      have hc' : env.cells.lookup n = some c := hc
      have e : cellOf env n = pure c := by unfold cellOf; rw [hc']
      simp only [cloF, if_true, hc', Option.getD_some, beq_self_eq_true, e, pure_bind]
      exact ih _
    · have hb : (k == NameKind.free) = false := by simpa using hk
      simp only [cloF, hk, if_false, hb, Bool.false_eq_true, pure_bind]
      exact ih _
theorem closure_eq {env : Env} {scope : Scope} (h : ∀ x ∈ scope.names, x.2 = .free → ∃ c, env.cells.lookup x.1 = some c) : closureFor scope env = pure (cloF env scope.names []) := by
  rw [← closure_go scope.names [] h]
  unfold closureFor
  simp only [bind_pure]
theorem cloF_lookup {env : Env} {y : Str} : ∀ (names : List (Str × NameKind)) (acc : List (Str × Addr)), (cloF env names acc).lookup y = if (y, NameKind.free) ∈ names then some ((env.cells.lookup y).getD 0) else acc.lookup y
  | [], acc => by simp [cloF]
  | (n, k) :: r, acc => by
    unfold cloF
    by_cases hk : k = .free
    · subst hk
      rw [if_pos rfl, cloF_lookup r]
      by_cases hy : y = n
      · subst hy
        simp [List.lookup_cons]
      · have hb : (y == n) = false := by simpa using hy
        simp [List.lookup_cons, hb, hy]
    · rw [if_neg hk, cloF_lookup r]
      have : ¬ ((y, NameKind.free) = (n, k)) := by
        intro e
        exact hk (Prod.mk.inj e).2.symm
      simp [this]

/-- what a block's scope is like: o the def's own scope, TN the targets' names, F the def's names that the block reads -/
structure CScope (o sc : Scope) (TN F : List Str) : Prop where
  okind : o.kind = .function
  kind : sc.kind = .function
  nocell : ∀ y ∈ sc.names, y.2 ≠ .cell
  names : ∀ y ∈ sc.names, y.2 = .local → sc.names.lookup y.1 = some .local
  fr : ∀ y ∈ sc.names, y.2 = .free → o.names.lookup y.1 = some .cell ∧ sc.names.lookup y.1 = some .free
  ff : ∀ y ∈ F, (y, NameKind.free) ∈ sc.names

theorem relabel_free {env : Env} {y : Str} (hk : env.scope.kind = .function) (hc : env.kindOf y = some .cell) : ∀ {names : List (Str × NameKind)}, names.lookup y = some .free →
    (names.map fun (n, k) => if (k == NameKind.free && env.scope.kind == .function && env.kindOf n == some .cell) then (n, NameKind.cell) else (n, k)).lookup y = some .cell
  | [], h => by simp at h
  | (n, k) :: r, h => by
    have ih := @relabel_free env y hk hc r
    show List.lookup y ((if (k == NameKind.free && env.scope.kind == .function && env.kindOf n == some .cell) = true then (n, NameKind.cell) else (n, k)) :: _) = _
    cases hx : y == n with
    | true =>
      rw [List.lookup_cons, hx] at h
      cases h
      have e : y = n := by simpa using hx
      subst e
      rw [if_pos (by simp [hk, hc])]
      simp [List.lookup_cons]
    | false =>
      rw [List.lookup_cons, hx] at h
      by_cases hc' : (k == NameKind.free && env.scope.kind == .function && env.kindOf n == some .cell) = true
      · rw [if_pos hc']; simp only [List.lookup_cons, hx]; exact ih h
      · rw [if_neg hc']; simp only [List.lookup_cons, hx]; exact ih h
theorem relabel_from {env : Env} {y : Str} : ∀ {names : List (Str × NameKind)}, (∀ z ∈ names, z.2 ≠ .cell) →
    ((names.map fun (n, k) => if (k == NameKind.free && env.scope.kind == .function && env.kindOf n == some .cell) then (n, NameKind.cell) else (n, k)).lookup y = some .cell ∨
     (names.map fun (n, k) => if (k == NameKind.free && env.scope.kind == .function && env.kindOf n == some .cell) then (n, NameKind.cell) else (n, k)).lookup y = some .free) → (y, NameKind.free) ∈ names
  | [], _, h => by simp at h
  | (n, k) :: r, hn, h => by
    have ih := @relabel_from env y r fun z hz => hn z (List.mem_cons_of_mem _ hz)
    have h' : List.lookup y ((if (k == NameKind.free && env.scope.kind == .function && env.kindOf n == some .cell) = true then (n, NameKind.cell) else (n, k)) :: (r.map fun (n, k) => if (k == NameKind.free && env.scope.kind == .function && env.kindOf n == some .cell) then (n, NameKind.cell) else (n, k))) = some .cell ∨
      List.lookup y ((if (k == NameKind.free && env.scope.kind == .function && env.kindOf n == some .cell) = true then (n, NameKind.cell) else (n, k)) :: (r.map fun (n, k) => if (k == NameKind.free && env.scope.kind == .function && env.kindOf n == some .cell) then (n, NameKind.cell) else (n, k))) = some .free := h
    clear h
    cases hx : y == n with
    | true =>
      have e : y = n := by simpa using hx
      subst e
      by_cases hc' : (k == NameKind.free && env.scope.kind == .function && env.kindOf y == some .cell) = true
      · have hk : k = .free := by
          have := (Bool.and_eq_true _ _ ▸ (Bool.and_eq_true _ _ ▸ hc').1).1
          simpa using this
        subst hk
        exact List.mem_cons_self
      · rw [if_neg hc'] at h'
        simp only [List.lookup_cons, beq_self_eq_true] at h'
        rcases h' with h' | h'
        · cases h'
          exact absurd rfl (hn _ List.mem_cons_self)
        · cases h'
          exact List.mem_cons_self
    | false =>
      by_cases hc' : (k == NameKind.free && env.scope.kind == .function && env.kindOf n == some .cell) = true
      · rw [if_pos hc'] at h'; simp only [List.lookup_cons, hx] at h'; exact List.mem_cons_of_mem _ (ih h')
      · rw [if_neg hc'] at h'; simp only [List.lookup_cons, hx] at h'; exact List.mem_cons_of_mem _ (ih h')

/-- the context of a comprehension's block -/
def cxC (X : Cx) (N : List Str) (sc : Scope) (cl : List (Str × Addr)) (C : Addr) (fp : List Addr) (s₃ : Shared) (H₃ : Hp) (xe : Value → Shared → Prop) : Cx :=
  { X with N := N, s₀ := s₃, H₀ := H₃, env := compEnvC sc cl C X.env, outer := X.stack, ex := fp, fn := fun _ => false, pn := [], xe := xe }
/-- the def's names that a block reads -/
def sub (ix : List Nat) (σ : St) : St := ix.map fun i => (σ[i]?).join

theorem inv_comp {X : Cx} {pins : List (Addr × Obj)} {σ : St} {H : Hp} {s : Shared} {sc : Scope} {TN F : List Str} {ix : List Nat} {fp : List Addr} {h4 : Heap} {tk : Nat} {m : Str → Option Value} {xe : Value → Shared → Prop}
    (S : CScope X.env.scope sc TN F) (hix : ix.map (fun i => X.N[i]?) = F.map some) (I : Inv X pins σ H s) (hf : ∀ b ∈ fp, FpOk X pins H b) (ho : ∀ b ∈ fp, ∃ o, s.heap.get? b = some o)
    (hk : ∀ b o, s.heap.get? b = some o → h4.get? b = some o) (hn : h4.Ns s.heap.objs.size m) :
    Inv (cxC X (TN ++ F) sc (cloF X.env sc.names []) s.heap.objs.size fp s H xe) [] (List.replicate TN.length none ++ sub ix σ) H { s with heap := h4, toks := tk } := by
  have cl : ∀ x c, (cloF X.env sc.names []).lookup x = some c → X.env.cells.lookup x = some c := fun x c e => by
    rw [cloF_lookup] at e
    by_cases hx : (x, NameKind.free) ∈ sc.names
    · rw [if_pos hx] at e
      obtain ⟨c', hc'⟩ := I.ok.has x (.inl (S.fr _ hx rfl).1)
      rw [hc'] at e ⊢
      exact e
    · rw [if_neg hx] at e
      cases e
  have cl' : ∀ x, (x, NameKind.free) ∈ sc.names → (cloF X.env sc.names []).lookup x = X.env.cells.lookup x := fun x hx => by
    rw [cloF_lookup, if_pos hx]
    obtain ⟨c', hc'⟩ := I.ok.has x (.inl (S.fr _ hx rfl).1)
    rw [hc']
    rfl
  have hlen : ix.length = F.length := by
    have := congrArg List.length hix
    simpa using this
  refine ⟨⟨I.ok.mod, S.kind, I.ok.glob, I.ok.blt, Nat.le_refl _, fun x y c h1 h2 => I.ok.inj x y c (cl x c h1) (cl y c h2), fun x hx => ?_, fun x c z => (nomatch z), I.ok.hd, I.ok.frames, .inl rfl, fun b hb => ⟨?_, fun x c e => (hf b hb).2.2.2.2.1 x c (cl x c e)⟩,
    I.bs, Nat.le_trans I.ok.bsz I.sz, fun b o e hb => ?_, fun b hb hfs => ?_, I.stack, I.stkFree⟩, rfl, I.bare, Un.kept hk, ⟨m, hn, fun i x v h1 h2 h3 => ?_⟩, fun x c e => ?_, I.hok.fresh (Nat.le_refl _), fun x c e => I.freeC x c (cl x c e), fun p hp => absurd (show p ∈ ([] : List (Addr × Obj)) from hp) (by simp), I.hok.kept hk, ?_⟩
  · have hx' : (x, NameKind.free) ∈ sc.names := relabel_from (env := X.env) S.nocell hx
    obtain ⟨c, hc⟩ := I.ok.has x (.inl (S.fr _ hx' rfl).1)
    exact ⟨c, (cl' x hx').trans hc⟩
  · obtain ⟨o, e⟩ := ho b hb
    exact Nat.ne_of_lt (Heap.lt_size e)
  · rcases (hf b hb).2.2.2.1 with z | z
    · exact I.ok.noex b o e z
    · exact absurd (Nat.lt_of_lt_of_le (Heap.lt_size e) (Nat.le_trans I.ok.bsz z)) (Nat.lt_irrefl _)
  · rcases List.mem_cons.mp (I.stkSub b hfs) with z | z
    · exact (hf b hb).2.1 z
    · exact (hf b hb).2.2.1 z
  · have hi : TN.length ≤ i := by
      apply Nat.le_of_not_lt
      intro hlt
      rw [List.getElem?_append_left (by simpa using hlt), List.getElem?_replicate] at h2
      split at h2 <;> cases h2
    rw [List.getElem?_append_right (by simpa using hi), List.length_replicate] at h2
    have h1' : F[i - TN.length]? = some x := by
      have : (TN ++ F)[i]? = some x := h1
      rw [List.getElem?_append_right hi] at this
      exact this
    have e3 := congrArg (fun l => l[i - TN.length]?) hix
    simp only [List.getElem?_map, h1', Option.map_some] at e3
    unfold sub at h2
    rw [List.getElem?_map] at h2
    cases ej : ix[i - TN.length]? with
    | none => rw [ej] at h2; cases h2
    | some k =>
      rw [ej] at h2 e3
      have h2' : (σ[k]?).join = some v := Option.some.inj h2
      have e3' : X.N[k]? = some x := Option.some.inj e3
      have hσ : σ[k]? = some (some v) := by
        cases e : σ[k]? with
        | none => rw [e] at h2'; cases h2'
        | some q =>
          rw [e] at h2'
          have : q = some v := h2'
          rw [this]
      have hfr := S.ff x (List.mem_of_getElem? h1')
      have hcell := (S.fr _ hfr rfl).1
      obtain ⟨m0, hn0, hl0⟩ := I.loc
      obtain ⟨u, r, l⟩ := hl0 k x v e3' hσ (.inr (.inl hcell))
      refine ⟨u, r, ?_⟩
      rcases l with ⟨l1, _⟩ | ⟨_, c, hc, o, ho', hd⟩
      · have l1' : X.env.scope.names.lookup x = some .local := l1
        rw [hcell] at l1'
        cases l1'
      · exact .inr ⟨.inl (relabel_free (env := X.env) S.okind hcell (S.fr _ hfr rfl).2), c, (cl' x hfr).trans hc, o, hk c o ho', hd⟩
  · obtain ⟨v, o, ho', hd⟩ := I.cell x c (cl x c e)
    exact ⟨v, o, hk c o ho', hd⟩
  · show _ = (TN ++ F).length
    rw [List.length_append, List.length_append, List.length_replicate]
    unfold sub
    rw [List.length_map, hlen]

/-- the tests of a comprehension -/
def PTs (X : Cx) (ifs : List Expr) (tc : TT) : Prop :=
  ∀ (pins : List (Addr × Obj)) (s : Shared) (σ : St) (H : Hp) (Q : Bool → Hp → Prop), Inv X pins σ H s → tc σ H Q →
    wpAny (model X.prog X.w) X.A (forIn ifs true fun c r => if r = true then do let ok ← isTrue c X.env (eval c X.env); pure (ForInStep.yield ok) else pure (ForInStep.yield r)) (TP X pins σ Q) X.xe s
def tAll : TT := fun _ H Q => Q true H
theorem pts_nil {X : Cx} : PTs X [] tAll := fun _ _ _ H _ I h => wpAny_tests_nil ⟨H, I, h⟩
theorem pts_one {X : Cx} {c : Expr} {tc : TT} (hc : PT X c tc) : PTs X [c] tc := fun pins s σ H Q I h => wpAny_tests_one (hc pins s σ H Q I h)

/-- how a block goes: W by the turn, a measure, the block's names, the items so far, the heap -/
def CGo (J : It) (D : Addr) (g : TG) (tc : TT) (te : TE) (Q : VK) (σ : St) (H : Hp) : Prop :=
  ∃ W : Nat → Nat → St → List V → Hp → Prop, (∃ m, W 0 m σ [] (upd H D (.lst []))) ∧ ∀ i m τ ys H, W i m τ ys H → H D = some (.lst ys) ∧
    ((J.stop i H ∧ Q (.ref D) H) ∨ (J.go i H ∧ ∀ v H', J.yld i H v H' → g v τ H' fun τ2 H2 => tc τ2 H2 fun b H3 =>
      if b = true then te τ2 H3 fun y H4 => H4 D = some (.lst ys) ∧ ys.length < sizeLine ∧ ∃ m', m' < m ∧ W (i + 1) m' τ2 (ys ++ [y]) (upd H4 D (.lst (ys ++ [y])))
      else ∃ m', m' < m ∧ W (i + 1) m' τ2 ys H3))
def tComp (wi : TI) (n : Nat) (ix : List Nat) (g : TG) (tc : TT) (te : TE) : TE := fun σ H Q => wi σ H fun J H1 => ∀ D, H1 D = none → CGo J D g tc te Q (List.replicate n none ++ sub ix σ) H1

theorem append_ok {X : Cx} {pins : List (Addr × Obj)} {σ : St} {H : Hp} {s : Shared} {D : Addr} {ys : List V} {y : V} {u : Value} {Q : Value → Shared → Prop} {E : Value → Shared → Prop} (I : Inv X pins σ H s) (hD : H D = some (.lst ys)) (hz : ys.length < sizeLine) (r : RelV y u)
    (h : ∀ s', Inv X pins σ (upd H D (.lst (ys ++ [y]))) s' → Q .none s') : wpAny (model X.prog X.w) X.A (call (.builtin "list.append") [.ref D, u]) Q E s := by
  obtain ⟨z, its, n, rr, hl, e⟩ := I.lstM hD
  refine call_meets F.slot_list_append ⟨_, e, rfl⟩ F.entry_list_append (F.args_list_append_2 _ _) (PySem.list_append D its.toArray n u (by rw [List.size_toArray]; omega)) ⟨e, ?_⟩
  refine h _ (I.lset (its' := its ++ [u]) hD e (by simp) (rr.append (.cons r .nil)) ?_)
  rw [List.length_append, List.length_singleton]
  omega

theorem comp_block {X : Cx} {pins : List (Addr × Obj)} {σ : St} {H : Hp} {s : Shared} {sc : Scope} {TN F : List Str} {ix : List Nat} {elt tg iter : Expr} {ifs : List Expr} {pos : Pos} {g : TG} {tc : TT} {te : TE} {J : It} {fp : List Addr} {it : Addr} {tn : Nat → Heap → Prop} {Q : VK}
    {RR : Value → Addr → Result → Shared → Prop} {E : Value → Shared → Prop}
    (S : CScope X.env.scope sc TN F) (hix : ix.map (fun i => X.N[i]?) = F.map some) (hc : X.calm = true) (I : Inv X pins σ H s) (T : Turn X.prog X.w X.K tg J fp it tn) (st : tn 0 s.heap) (hf : ∀ b ∈ fp, FpOk X pins H b)
    (hg : ∀ cl C fp s3 H3 xe, PG (cxC X (TN ++ F) sc cl C fp s3 H3 xe) tg g) (ht : ∀ cl C fp s3 H3 xe, PTs (cxC X (TN ++ F) sc cl C fp s3 H3 xe) ifs tc) (he : ∀ cl C fp s3 H3 xe, PE (cxC X (TN ++ F) sc cl C fp s3 H3 xe) elt te)
    (hW : ∀ D, H D = none → CGo J D g tc te Q (List.replicate TN.length none ++ sub ix σ) H)
    (fin : ∀ D C H' s', Inv X pins σ H' s' → (∃ m, s'.heap.Ns C m) → H' C = none → C ≠ X.env.locals → X.s₀.heap.objs.size ≤ C → (∀ x c, X.env.cells.lookup x = some c → c ≠ C) → (∀ p ∈ X.pn ++ pins, p.1 ≠ C) → Q (.ref D) H' → RR (.ref D) C (.ok .next) s') :
    wpAny (model X.prog X.w) X.A (newList []) (fun acc s₃ => wpAny (model X.prog X.w) X.A (newFunctionEnv sc X.env.globals (cloF X.env sc.names []) [] X.env.qual none .none (some X.env)) (fun cenv s₄ =>
      codeAny (model X.prog X.w) X.A (.compStart (.ListComp elt [⟨tg, iter, ifs, 0⟩] sc pos) 0 (.ref it) acc { cenv with scope := relabel sc X.env }) (RR acc cenv.locals) s₄) E s₃) E s := by
  have hfo : ∀ b ∈ fp, ∃ o, s.heap.get? b = some o := fun b hb => let ⟨o, e, _⟩ := T.obj 0 _ st b hb; ⟨o, e⟩
  refine wpAny_newObj_type ?_
  obtain ⟨W, ⟨m0, w0⟩, go⟩ := hW s.heap.objs.size I.fresh
  have I3 : Inv X pins σ (upd H s.heap.objs.size (.lst [])) { s with heap := s.heap.push { cls := .type "list", data := .seq ([] : List Value).toArray } } := I.lnew (its := []) (ys := []) (t' := s.toks) .nil (Nat.zero_le _)
  generalize hs3 : ({ s with heap := s.heap.push { cls := .type "list", data := .seq ([] : List Value).toArray } } : Shared) = s3 at I3
  have hk3 : ∀ b o, s.heap.get? b = some o → s3.heap.get? b = some o := fun b o e => by
    rw [← hs3]
    exact Heap.get?_push_of_some _ e
  have hf3 : ∀ b ∈ fp, FpOk X pins (upd H s.heap.objs.size (.lst [])) b := fun b hb => by
    obtain ⟨o, e⟩ := hfo b hb
    exact ⟨by rw [upd_ne (Nat.ne_of_lt (Heap.lt_size e))]; exact (hf b hb).1, (hf b hb).2⟩
  have st3 : tn 0 s3.heap := T.keep 0 _ _ st fun b hb o e => hk3 b o e
  show wpAny _ _ _ _ _ s3
  refine wpAny_newFunctionEnv S.nocell (by intro y hy; simp at hy) (fun h4 hn4 hsb => ?_) S.kind
  have hk4 : ∀ b o, s3.heap.get? b = some o → h4.get? b = some o := fun b o e => (hsb.2 b (Nat.ne_of_lt (Heap.lt_size e))).trans (Heap.get?_push_of_some _ e)
  generalize hR : RR (.ref s.heap.objs.size) s3.heap.objs.size = R
  have loop : ∀ s4 : Shared, s4 = { s3 with heap := h4, toks := s3.toks + ([] : List (Str × Value)).length } →
      codeAny (model X.prog X.w) X.A (.compLoop (.ListComp elt [⟨tg, iter, ifs, 0⟩] sc pos) 0 (.ref it) (.ref s.heap.objs.size) (compEnvC sc (cloF X.env sc.names []) s3.heap.objs.size X.env)) R s4 := by
    rintro s4 rfl
    let X' : Cx := cxC X (TN ++ F) sc (cloF X.env sc.names []) s3.heap.objs.size fp s3 (upd H s.heap.objs.size (.lst [])) (notedBy (model X.prog X.w) X.A (compEnvC sc (cloF X.env sc.names []) s3.heap.objs.size X.env) fun e s' => R (.error e) s')
    have I4 : Inv X' [] (List.replicate TN.length none ++ sub ix σ) (upd H s.heap.objs.size (.lst [])) { s3 with heap := h4, toks := s3.toks + ([] : List (Str × Value)).length } :=
      inv_comp S hix I3 hf3 (fun b hb => let ⟨o, e⟩ := hfo b hb; ⟨o, hk3 b o e⟩) hk4 hn4
    have fpx : ∀ {H' : Hp}, (∀ b ∈ fp, H' b = none) → ∀ b ∈ fp, FpOk X' [] H' b := fun {H'} hn b hb => by
      refine ⟨hn b hb, (I4.ok.exf b hb).1, fun z => I4.ok.exfs b hb z, .inl hb, fun x c e => (I4.ok.exf b hb).2 x c e, fun p hp => absurd (show p ∈ ([] : List (Addr × Obj)) from hp) (by simp)⟩
    refine comp_loop (fun n s' => ∃ i τ ys H', Inv X' [] τ H' s' ∧ tn i s'.heap ∧ (∀ b ∈ fp, H' b = none) ∧ W i n τ ys H') ?_ m0 ⟨0, _, [], _, I4, T.keep 0 _ _ st3 fun b hb o e => hk4 b o e, fun b hb => (hf3 b hb).1, w0⟩
    rintro n s5 ⟨i, τ, ys, H5, I5, st5, fr5, w5⟩
    obtain ⟨hD, hgo⟩ := go i n τ ys H5 w5
    rcases hgo with ⟨stop, q⟩ | ⟨hgo, step⟩
    · refine thn (T.done X' rfl rfl rfl hc i [] s5 τ H5 X'.xe I5 (fpx fr5) st5 stop) fun r s6 ⟨hr, I6⟩ => ?_
      subst hr
      show R (.ok .next) s6
      rw [← hR]
      have J6 : Inv X pins σ H5 s6 := I3.call' (ch := fp) I6.os I6.base I6.hok I6.bare fun b hb => ⟨(hf3 b hb).2.2.2.1, (hf3 b hb).2.1, (hf3 b hb).2.2.2.2.1, (hf3 b hb).2.2.2.2.2⟩
      refine fin s.heap.objs.size s3.heap.objs.size H5 s6 J6 (let ⟨m, hn, _⟩ := I6.loc; ⟨m, hn⟩) I6.free (Nat.ne_of_gt I3.lt) I3.sz (fun x c e z => ?_) (fun p hp z => ?_) q
      · obtain ⟨v, o, ho, _⟩ := I3.cell x c e
        exact absurd (Heap.lt_size ho) (by rw [z]; exact Nat.lt_irrefl _)
      · exact absurd (Heap.lt_size (I3.pin p hp).1) (by rw [z]; exact Nat.lt_irrefl _)
    · refine thn (T.item X' rfl rfl rfl hc i [] s5 τ H5 X'.xe I5 (fpx fr5) st5 hgo) fun r s6 ⟨u, hr, h6⟩ => ?_
      subst hr
      refine thn h6 fun _ s7 ⟨v, H7, I7, r7, y7, st7, fr7⟩ => ?_
      have I7' := I7.pinned (fpx fr7) (T.obj _ _ st7)
      refine thn (hg _ _ _ _ _ _ _ s7 τ H7 v u _ I7' r7 (step v H7 y7)) fun _ s8 ⟨τ8, H8, I8, q8⟩ => ?_
      refine thn (ht _ _ _ _ _ _ _ s8 τ8 H8 _ I8 q8) fun ok s9 ⟨H9, I9, q9⟩ => ?_
      have again : ∀ {ys' : List V} {H' : Hp} {s' : Shared}, Inv X' ([] ++ pinsAt fp s7.heap) τ8 H' s' → (∃ m', m' < n ∧ W (i + 1) m' τ8 ys' H') → ∃ m, m < n ∧ ∃ i τ ys H'', Inv X' [] τ H'' s' ∧ tn i s'.heap ∧ (∀ b ∈ fp, H'' b = none) ∧ W i m τ ys H'' := fun {ys' H' s'} I' ⟨m', hm, w'⟩ => by
        refine ⟨m', hm, i + 1, τ8, ys', H', I'.unpinned, T.keep _ _ _ st7 fun b hb o e => (I'.pin (b, o) (List.mem_append_right _ (List.mem_append_right _ (mem_pinsAt hb e)))).1, fun b hb => ?_, w'⟩
        obtain ⟨o, e, d⟩ := T.obj _ _ st7 b hb
        exact (I'.pin (b, o) (List.mem_append_right _ (List.mem_append_right _ (mem_pinsAt hb e)))).2.1
      cases ok with
      | false =>
        exact again I9 q9
      | true =>
        refine thn (he _ _ _ _ _ _ _ s9 τ8 H9 _ I9 q9) fun x s10 ⟨y, H10, I10, r10, hD10, hz10, q10⟩ => ?_
        exact append_ok (X := X') I10 hD10 hz10 r10 fun s11 I11 => again I11 q10
  subst hR
  exact codeAny_compStart_list (loop _ rfl) (T.self X.A 0 _ _ _ (T.keep 0 _ _ st3 fun b hb o e => hk4 b o e) (loop _ rfl))

section
variable {X : Cx} {sc : Scope} {TN F : List Str} {ix : List Nat} {elt tg iter : Expr} {ifs : List Expr} {pos : Pos} {g : TG} {tc : TT} {te : TE} {wi : TI}
theorem closure_of (S : CScope X.env.scope sc TN F) {pins : List (Addr × Obj)} {σ : St} {H : Hp} {s : Shared} (I : Inv X pins σ H s) : closureFor sc X.env = pure (cloF X.env sc.names []) :=
  closure_eq fun x hx hk => I.ok.has x.1 (.inl (S.fr x hx hk).1)
/-- [elt for tg in iter ..] -/
theorem pe_comp (S : CScope X.env.scope sc TN F) (hix : ix.map (fun i => X.N[i]?) = F.map some) (hc : X.calm = true) (hi : PI X tg iter wi)
    (hg : ∀ cl C fp s3 H3 xe, PG (cxC X (TN ++ F) sc cl C fp s3 H3 xe) tg g) (ht : ∀ cl C fp s3 H3 xe, PTs (cxC X (TN ++ F) sc cl C fp s3 H3 xe) ifs tc) (he : ∀ cl C fp s3 H3 xe, PE (cxC X (TN ++ F) sc cl C fp s3 H3 xe) elt te)
    (hs : ∀ x, foldedSetIterable iter X.env x = pure x := by intro _; rfl) : PE X (.ListComp elt [⟨tg, iter, ifs, 0⟩] sc pos) (tComp wi TN.length ix g tc te) := by
  intro pins s σ H Q I h
  rw [eval_ListComp]
  refine wpAny_comprehension_free (use := none) rfl hs (closure_of S I) S.kind S.names (thn (hi pins s σ H _ I h) fun v s1 h1 => thn h1 fun itv s2 h2 => ?_)
  obtain ⟨it, fp, tn, J, H2, e, I2, T, st2, f2, q2⟩ := h2
  subst e
  refine comp_block (RR := fun acc C => compPost (model X.prog X.w) X.A X.xe none (EP X pins σ Q) acc C) S hix hc I2 T st2 f2 hg ht he q2 fun D C H' s' I' hn hC1 hC2 hC3 hC4 hC5 q => ?_
  obtain ⟨m, hn⟩ := hn
  exact ⟨m, hn, fun h' hs' => ⟨.ref D, H', I'.turned (t' := s'.toks) (fun b o hb e => (hs'.2 b hb).trans e) hC1 hC2 (.inr hC3) hC4 hC5, rfl, q⟩⟩
/-- y = [elt for tg in iter ..], y a plain name of the def on the comprehension's own line -/
theorem ps_setC {i : Nat} {y : Str} {py spos : Pos} (hN : X.N.Nodup) (hiy : X.N[i]? = some y) (hy : X.env.scope.names.lookup y = some .local) (S : CScope X.env.scope sc TN F) (hix : ix.map (fun i => X.N[i]?) = F.map some) (hc : X.calm = true) (hi : PI X tg iter wi)
    (hg : ∀ cl C fp s3 H3 xe, PG (cxC X (TN ++ F) sc cl C fp s3 H3 xe) tg g) (ht : ∀ cl C fp s3 H3 xe, PTs (cxC X (TN ++ F) sc cl C fp s3 H3 xe) ifs tc) (he : ∀ cl C fp s3 H3 xe, PE (cxC X (TN ++ F) sc cl C fp s3 H3 xe) elt te)
    (hsw : swapsWith (.ListComp elt [⟨tg, iter, ifs, 0⟩] sc pos) (some (.Name y py)) spos.line X.env = pure true := by rfl)
    (hs : ∀ x, foldedSetIterable iter X.env x = pure x := by intro _; rfl) : PS X (.Assign [.Name y py] (.ListComp elt [⟨tg, iter, ifs, 0⟩] sc pos) spos) (tAsg (tComp wi TN.length ix g tc te) (gName i)) := by
  intro pins s σ H D I h
  rw [exec_Assign_Name_used _ _ _ _ hsw]; refine wpAny_bind (wpAny_standAt (wpAny_bind ?_))
  show wpAny _ X.A (do let _ ← comprehension (.ListComp elt [⟨tg, iter, ifs, 0⟩] sc pos) sc X.env _ (newList []) false (eval iter X.env) (some (assign (.Name y py) X.env))) _ _ s
  refine wpAny_bind (wpAny_mono (wpAny_comprehension_free (use := some (assign (.Name y py) X.env)) (Q := fun _ s' => SP X pins D .next s') rfl hs (closure_of S I) S.kind S.names
    (thn (hi pins s σ H _ I h) fun v s1 h1 => thn h1 fun itv s2 h2 => ?_)) (fun _ s' hq => wpAny_pure (wpAny_pure hq)) fun _ _ e => e)
  obtain ⟨it, fp, tn, J, H2, e, I2, T, st2, f2, q2⟩ := h2
  subst e
  refine comp_block (RR := fun acc C => compPost (model X.prog X.w) X.A X.xe (some (assign (.Name y py) X.env)) (fun _ s' => SP X pins D .next s') acc C) S hix hc I2 T st2 f2 hg ht he q2 fun Dl C H' s' I' hn hC1 hC2 hC3 hC4 hC5 q => ?_
  obtain ⟨m, hn⟩ := hn
  show wpAny _ X.A (assign (.Name y py) X.env (.ref Dl)) _ _ _
  refine wpAny_assign_Name (store_ok2 I' hN hiy (.inl hy) (show RelV (.ref Dl) (.ref Dl) from rfl) (fun s'' I'' ⟨a, hsb, ha⟩ => ?_) (.inr hy))
  have haC : C ≠ a := by
    rcases ha with z | z
    · rw [z]; exact hC2
    · exact fun z' => hC4 y a z z'.symm
  refine ⟨m, hn.sameBut hsb haC, fun h' hs' => ?_⟩
  exact ⟨_, H', I''.turned (t' := s''.toks) (fun b o hb e => (hs'.2 b hb).trans e) hC1 hC2 (.inr hC3) hC4 hC5, q⟩
end
end L2

set_option Elab.async false
set_option linter.all false
set_option maxRecDepth 100000
namespace L2
open PySem PySem.Spec PyProof.Rows
/-! ### readings that reckon -/
def seqAt (H : Hp) (p : Addr) : Option (List V) := match H p with
  | some (.lst xs) => some xs
  | some (.tup xs) => some xs
  | _ => none
def dAt (H : Hp) (x y : V) : Option V := match x, y with
  | .ref p, .int i => (seqAt H p).bind fun xs => atI xs i
  | _, _ => none
def rIxd : R2 := fun x y H Q => ∃ v, dAt H x y = some v ∧ Q v H
section
variable {X : Cx}
theorem ix_d : IxR X rIxd := by
  intro value slice pins s σ H x y v u Q I rx ry h hs
  refine ix_seq value slice pins s σ H x y v u Q I rx ry ?_ hs
  obtain ⟨z, e, q⟩ := h
  unfold dAt at e
  split at e
  case h_2 => cases e
  case h_1 p i =>
    unfold seqAt at e
    split at e
    case h_1 xs hp => exact .inl ⟨_, xs, _, z, rfl, rfl, SqL.of hp, e, q⟩
    case h_2 xs hp => exact .inr (.inl ⟨_, xs, _, z, rfl, rfl, SqT.of hp, e, q⟩)
    case h_3 => cases e
def dSet (H : Hp) (o i v : V) : Option Hp := match o, i with
  | .ref p, .int k => match H p with
    | some (.lst xs) => (ixN xs.length k).map fun j => upd H p (.lst (xs.set j v))
    | _ => none
  | _, _ => none
def rSetd : V → V → V → Hp → (Hp → Prop) → Prop := fun o i v H Q => ∃ H', dSet H o i v = some H' ∧ Q H'
theorem set_d : PSet X rSetd := by
  intro pins s σ H o i v ov iv u Q I ro ri rv h
  refine set_list pins s σ H o i v ov iv u Q I ro ri rv ?_
  obtain ⟨H', e, q⟩ := h
  unfold dSet at e
  split at e
  case h_2 => cases e
  case h_1 p k =>
    split at e
    case h_2 => cases e
    case h_1 xs hp =>
      cases ej : ixN xs.length k with
      | none => rw [ej] at e; cases e
      | some j =>
        rw [ej] at e
        cases e
        exact ⟨p, xs, k, j, rfl, rfl, hp, ej, q⟩
end
end L2
namespace L2
open PySem PySem.Spec PyProof.Rows
/-! ### steps of a reading -/
section
variable {σ : St} {H : Hp} {Q : VK} {D : Ends} {t u : TS} {te ta tb : TE} {tr : TA} {g : TG} {r : R2} {x y v : V} {c : TT} {QB : Bool → Hp → Prop} {QL : List V → Hp → Prop} {QG : St → Hp → Prop} {n : Nat}
theorem w_seq (h : t { D with nx := u D } σ H) : tSeq t u D σ H := h
theorem w_next (h : D.nx σ H) : tNext D σ H := h
theorem w_asg (h : te σ H fun x H1 => g x σ H1 D.nx) : tAsg te g D σ H := h
theorem w_gname {i : Nat} (h : QG (σ.set i (some v)) H) : gName i v σ H QG := h
theorem w_op (h : ta σ H fun x H1 => tb σ H1 fun y H2 => r x y H2 Q) : tOp r ta tb σ H Q := h
theorem w_var {i : Nat} (e : σ[i]? = some (some v)) (h : Q v H) : tVar i σ H Q := ⟨v, e, h⟩
theorem w_c (h : Q v H) : tC v σ H Q := h
theorem w_rI0 {k : Int → Int → V} {i j : Int} (h : Q (k i j) H) : rI0 k (.int i) (.int j) H Q := ⟨i, j, rfl, rfl, h⟩
theorem w_rI {C : Int → Int → Prop} {k : Int → Int → V} {i j : Int} (hc : C i j) (h : Q (k i j) H) : rI C k (.int i) (.int j) H Q := ⟨i, j, rfl, rfl, hc, h⟩
theorem w_ifs {b : TS} (h : c σ H fun b' H1 => if b' = true then t D σ H1 else b D σ H1) : tIfS c t b D σ H := h
theorem w_ife (h : c σ H fun b' H1 => if b' = true then ta σ H1 Q else tb σ H1 Q) : tIf c ta tb σ H Q := h
theorem w_test (h : te σ H fun x H' => ∃ k, x = .bl k ∧ QB k H') : tTest te σ H QB := h
theorem w_tb (h : te σ H fun x H' => ∃ k, x = .bl k ∧ QB k H') : tB te σ H QB := h
theorem w_bl {b : Bool} {P : Bool → Prop} (h : P b) : ∃ k, V.bl b = .bl k ∧ P k := ⟨b, rfl, h⟩
theorem w_not (h : c σ H fun b H1 => QB (!b) H1) : tNot c σ H QB := h
theorem w_ret (h : te σ H D.rt) : tRet te D σ H := h
theorem w_nil (h : QL [] H) : tNil σ H QL := h
theorem w_cons (h : te σ H fun x H1 => tr σ H1 fun xs H2 => QL (x :: xs) H2) : tCons te tr σ H QL := h
theorem w_lst (h : tr σ H fun xs H1 => xs.length ≤ sizeLine ∧ ∀ p, H1 p = none → Q (.ref p) (upd H1 p (.lst xs))) : tLst tr σ H Q := h
theorem w_tup (h : tr σ H fun xs H1 => xs.length ≤ sizeLine ∧ ∀ p, H1 p = none → Q (.ref p) (upd H1 p (.tup xs))) : tTup tr σ H Q := h
theorem w_cb {r : List V → Hp → VK → Prop} (h : tr σ H fun vs H1 => r vs H1 Q) : tCB r tr σ H Q := h
theorem w_call {sp : Sp} {dvs : List V} {E : XK} (h : tr σ H fun vs H1 => sp (vs ++ dvs) H1 Q E) : tCall sp dvs E tr σ H Q := h
theorem w_gsub {to ti : TE} {ts : TSet} (h : to σ H fun o H1 => ti σ H1 fun i H2 => ts o i v H2 fun H3 => QG σ H3) : gSub to ti ts v σ H QG := h
theorem w_ixL {p : Addr} {xs : List V} {i : Int} (hp : H p = some (.lst xs)) (e : atI xs i = some v) (h : Q v H) : rIxd (.ref p) (.int i) H Q := ⟨v, by simp only [dAt, seqAt, hp, Option.bind_some, e], h⟩
theorem w_ixT {p : Addr} {xs : List V} {i : Int} (hp : H p = some (.tup xs)) (e : atI xs i = some v) (h : Q v H) : rIxd (.ref p) (.int i) H Q := ⟨v, by simp only [dAt, seqAt, hp, Option.bind_some, e], h⟩
theorem w_set {p : Addr} {xs : List V} {i : Int} {j : Nat} {QH : Hp → Prop} (hp : H p = some (.lst xs)) (e : ixN xs.length i = some j) (h : QH (upd H p (.lst (xs.set j v)))) : rSetd (.ref p) (.int i) v H QH :=
  ⟨_, by simp only [dSet, hp, e, Option.map_some], h⟩
theorem w_and {c d : TT} (h : c σ H fun b H1 => if b = true then d σ H1 QB else QB false H1) : tAnd c d σ H QB := h
theorem w_or {c d : TT} (h : c σ H fun b H1 => if b = true then QB true H1 else d σ H1 QB) : tOr c d σ H QB := h
theorem iteD {p A B : Prop} [Decidable p] (h1 : p → A) (h2 : ¬ p → B) : if decide p = true then A else B := by
  by_cases h : p
  · rw [decide_eq_true h, if_pos rfl]
    exact h1 h
  · rw [decide_eq_false h, if_neg Bool.false_ne_true]
    exact h2 h
end
end L2
namespace L2
open PySem PySem.Spec PyProof.Rows
/-- a def of the text that is there and keeps its promise -/
def Has (P : Program) (w : World) (K : PySem.W.Frag) (mg : Str → Option Value) (base : Heap) (k : Nat) (x : Str) (ps : List Str) (sp : Sp) : Prop :=
  ∃ f fd, FnOk P w K mg base CX0 k f fd ps sp ∧ mg x = some (.ref f) ∧ PySem.W.keepIn K (.ref f) = true ∧ Binds K fd ps []
theorem pe_fn {X : Cx} {k j : Nat} {x : Str} {ps : List Str} {sp : Sp} {e : Expr} {es : List Expr} {t : TA} {p pos : Pos} (h : Has X.prog X.w X.K X.mg X.base k x ps sp) (hr : Room j X.A) (hkj : k ≤ j) (ha : PA X (e :: es) t) (hg : Gl X x := by rfl)
    (hdb : (x == ("__debug__" : Str)) = false := by decide) (he : starEach (e :: es) X.env = (false, eval e X.env) :: starEach es X.env := by rfl) (hpl : (backTo pos (starEach es X.env)).any (·.1) = false := by rfl) :
    PE X (.Call (.Name x p) (e :: es) [] pos) (tCall sp [] E0 t) := by
  obtain ⟨f, fd, F, hm, hk, hb⟩ := h
  exact pe_call F (hr.mono hkj) hg hm hk hb .nil pass0 ha hdb he hpl
section
variable {lo : Int} {n : Nat} {D : Addr} {te : TE} {tc : TT} {Q : VK} {ρ : St} {H : Hp}
/-- a block over a range, one name -/
theorem cgo_range (Pv : Nat → List V → Hp → Prop) (h0 : Pv 0 [] (upd H D (.lst [])))
    (hs : ∀ i ys H', i < n → Pv i ys H' → H' D = some (.lst ys) → ∀ (R : V → Hp → Prop) (S : Hp → Prop), (∀ y H4, H4 D = some (.lst ys) → ys.length < sizeLine → Pv (i + 1) (ys ++ [y]) (upd H4 D (.lst (ys ++ [y]))) → R y H4) → (∀ H3, H3 D = some (.lst ys) → Pv (i + 1) ys H3 → S H3) →
      tc (some (.int (lo + i)) :: ρ) H' fun b H3 => if b = true then te (some (.int (lo + i)) :: ρ) H3 R else S H3)
    (hd : ∀ ys H', Pv n ys H' → H' D = some (.lst ys) → Q (.ref D) H') : CGo (Itr lo n) D (gName 0) tc te Q (none :: ρ) H := by
  refine ⟨fun i m τ ys H' => m = n - i ∧ i ≤ n ∧ (∃ tv, τ = tv :: ρ) ∧ Pv i ys H' ∧ H' D = some (.lst ys), ⟨n, by omega, Nat.zero_le _, ⟨_, rfl⟩, h0, upd_same⟩, ?_⟩
  rintro i m τ ys H' ⟨rfl, hi, ⟨tv, rfl⟩, hp, hD⟩
  refine ⟨hD, ?_⟩
  by_cases hlt : i < n
  · refine .inr ⟨hlt, ?_⟩
    rintro v H'' ⟨rfl, rfl⟩
    show tc (some (.int (lo + i)) :: ρ) _ _
    exact hs i ys _ hlt hp hD _ _ (fun y H4 a b c => ⟨a, b, n - (i + 1), by omega, rfl, hlt, ⟨_, rfl⟩, c, upd_same⟩) fun H3 a c => ⟨n - (i + 1), by omega, rfl, hlt, ⟨_, rfl⟩, c, a⟩
  · have e : i = n := by omega
    subst e
    exact .inl ⟨Nat.le_refl _, hd ys _ hp hD⟩
/-- a block over a tuple, one name -/
theorem cgo_tup {K : PySem.W.Frag} {a : Addr} {xs : List V} (Pv : Nat → List V → Hp → Prop) (h0 : Pv 0 [] (upd H D (.lst []))) (hl : ∀ i ys H', i ≤ xs.length → Pv i ys H' → SqT K H' a xs)
    (hs : ∀ i x ys H', xs[i]? = some x → Pv i ys H' → H' D = some (.lst ys) → ∀ (R : V → Hp → Prop) (S : Hp → Prop), (∀ y H4, H4 D = some (.lst ys) → ys.length < sizeLine → Pv (i + 1) (ys ++ [y]) (upd H4 D (.lst (ys ++ [y]))) → R y H4) → (∀ H3, H3 D = some (.lst ys) → Pv (i + 1) ys H3 → S H3) →
      tc (some x :: ρ) H' fun b H3 => if b = true then te (some x :: ρ) H3 R else S H3)
    (hd : ∀ ys H', Pv xs.length ys H' → H' D = some (.lst ys) → Q (.ref D) H') : CGo (Itt K a) D (gName 0) tc te Q (none :: ρ) H := by
  refine ⟨fun i m τ ys H' => m = xs.length - i ∧ i ≤ xs.length ∧ (∃ tv, τ = tv :: ρ) ∧ Pv i ys H' ∧ H' D = some (.lst ys), ⟨xs.length, by omega, Nat.zero_le _, ⟨_, rfl⟩, h0, upd_same⟩, ?_⟩
  rintro i m τ ys H' ⟨rfl, hi, ⟨tv, rfl⟩, hp, hD⟩
  refine ⟨hD, ?_⟩
  have sq := hl i ys H' hi hp
  by_cases hlt : i < xs.length
  · refine .inr ⟨⟨xs, xs[i], sq, by simp [hlt]⟩, ?_⟩
    rintro v H'' ⟨rfl, hv⟩
    have hv' := hv xs sq
    show tc (some v :: ρ) _ _
    exact hs i v ys _ hv' hp hD _ _ (fun y H4 a b c => ⟨a, b, xs.length - (i + 1), by omega, rfl, hlt, ⟨_, rfl⟩, c, upd_same⟩) fun H3 a c => ⟨xs.length - (i + 1), by omega, rfl, hlt, ⟨_, rfl⟩, c, a⟩
  · have e : i = xs.length := by omega
    subst e
    exact .inl ⟨⟨xs, sq, Nat.le_refl _⟩, hd ys _ hp hD⟩
end
theorem w_all {σ : St} {H : Hp} {Q : Bool → Hp → Prop} (h : Q true H) : tAll σ H Q := h
end L2
namespace L2
open PySem PySem.Spec PyProof.Rows
def relabelS (sc o : Scope) : Scope :=
  { sc with names := sc.names.map fun (n, k) => if (k == .free && o.kind == .function && o.names.lookup n == some .cell) then (n, .cell) else (n, k) }
instance {sc : Scope} {x : Str} : Decidable (Vis sc x) := by unfold Vis; infer_instance
/-- a block's scope, with all that its names want; G: the module's names that it reads -/
structure BScope (o sc : Scope) (TN F G : List Str) : Prop extends CScope o sc TN F where
  nd : (TN ++ F).Nodup
  vis : ∀ x ∈ TN ++ F, Vis (relabelS sc o) x
  loc : ∀ x ∈ TN, (relabelS sc o).names.lookup x = some .local
  gl : ∀ x ∈ G, (relabelS sc o).names.lookup x = some .globalImplicit
section
variable {X : Cx} {sc : Scope} {TN F G : List Str} {cl : List (Str × Addr)} {C : Addr} {fp : List Addr} {s3 : Shared} {H3 : Hp} {xe : Value → Shared → Prop} {x : Str} {pos : Pos}
theorem pvb (S : BScope X.env.scope sc TN F G) (i : Nat) (hN : (TN ++ F)[i]? = some x := by rfl) (hd : (x == ("__debug__" : Str)) = false := by decide) (hcd : (x == ("__classdict__" : Str)) = false := by decide) : PE (cxC X (TN ++ F) sc cl C fp s3 H3 xe) (.Name x pos) (tVar i) :=
  pe_var hN (S.vis x (List.mem_of_getElem? hN)) hd hcd
theorem pgb (S : BScope X.env.scope sc TN F G) (i : Nat) (hN : (TN ++ F)[i]? = some x := by rfl) (hT : TN[i]? = some x := by rfl) : PG (cxC X (TN ++ F) sc cl C fp s3 H3 xe) (.Name x pos) (gName i) :=
  pg_name S.nd hN (.inl (S.loc x (List.mem_of_getElem? hT))) (.inr (S.loc x (List.mem_of_getElem? hT)))
theorem BScope.g (S : BScope X.env.scope sc TN F G) (i : Nat) (hG : G[i]? = some x := by rfl) : Gl (cxC X (TN ++ F) sc cl C fp s3 H3 xe) x := S.gl x (List.mem_of_getElem? hG)
end
end L2
namespace L2
open PySem PySem.Spec PyProof.Rows
/-! ### rows of written constants -/
def constV : Expr → Option V
  | .Constant (.int n) _ _ => some (.int n)
  | .Constant (.str y) _ _ => some (.str y)
  | .Constant (.bool b) _ _ => some (.bl b)
  | .Constant .none _ _ => some .non
  | _ => none
def constsOf : List Expr → Option (List V)
  | [] => some []
  | e :: r => match constV e, constsOf r with
    | some v, some vs => some (v :: vs)
    | _, _ => none
def tVals (vs : List V) : TA := fun _ H Q => Q vs H
theorem pa_consts {X : Cx} : ∀ {es : List Expr} {vs : List V}, constsOf es = some vs → PA X es (tVals vs)
  | [], vs, h => by
    cases h
    exact pa_nil
  | e :: r, vs, h => by
    unfold constsOf at h
    split at h
    case h_2 => cases h
    case h_1 v vs' h1 h2 =>
      cases h
      have ih := pa_consts (X := X) h2
      have go : ∀ {te : TE}, PE X e te → (starEach (e :: r) X.env = (false, eval e X.env) :: starEach r X.env) → (∀ σ H Q, Q v H → te σ H Q) → PA X (e :: r) (tVals (v :: vs')) := fun {te} he hs hq => by
        have q := pa_cons he ih hs
        intro pos pins s σ H Q I hh
        exact q pos pins s σ H Q I (hq σ H _ hh)
      unfold constV at h1
      split at h1
      case h_1 => cases h1; exact go pe_int rfl fun _ _ _ h => h
      case h_2 => cases h1; exact go pe_str rfl fun _ _ _ h => h
      case h_3 => cases h1; exact go pe_bl rfl fun _ _ _ h => h
      case h_4 => cases h1; exact go pe_non rfl fun _ _ _ h => h
      case h_5 => cases h1
theorem pe_lstC {X : Cx} {es : List Expr} {pos : Pos} {vs : List V} (h : constsOf es = some vs) : PE X (.List es pos) (tLst (tVals vs)) := pe_lst (pa_consts h)
theorem w_vals {vs : List V} {σ : St} {H : Hp} {Q : List V → Hp → Prop} (h : Q vs H) : tVals vs σ H Q := h
end L2
namespace L2
open PySem PySem.Spec PyProof.Rows
instance {sc : Scope} {x : Str} : Decidable (Loc sc x) := by unfold Loc; infer_instance
/-- a def's names -/
structure Nm (N : List Str) (sc : Scope) : Prop where
  nd : N.Nodup
  loc : ∀ x ∈ N, Loc sc x
section
variable {X : Cx} {x : Str} {pos : Pos}
theorem Loc.vis {sc : Scope} (h : Loc sc x) : Vis sc x := h.elim .inl fun z => .inr (.inl z)
theorem pvd (M : Nm X.N X.env.scope) (i : Nat) (hN : X.N[i]? = some x := by rfl) (hd : (x == ("__debug__" : Str)) = false := by decide) (hcd : (x == ("__classdict__" : Str)) = false := by decide) : PE X (.Name x pos) (tVar i) :=
  pe_var hN (M.loc x (List.mem_of_getElem? hN)).vis hd hcd
theorem ps_setD {e : Expr} {te : TE} {pos' : Pos} (M : Nm X.N X.env.scope) (i : Nat) (he : PE X e te) (hi : X.N[i]? = some x := by rfl) (hs : swapsWith e (some (.Name x pos')) pos.line X.env = pure false := by rfl) (hf : X.fn x = true := by rfl) :
    PS X (.Assign [.Name x pos'] e pos) (tAsg te (gName i)) := ps_set M.nd hi (M.loc x (List.mem_of_getElem? hi)) he hs (.inl hf)
theorem pgd (M : Nm X.N X.env.scope) (i : Nat) (hi : X.N[i]? = some x := by rfl) (hf : X.fn x = true := by rfl) : PG X (.Name x pos) (gName i) := pg_name M.nd hi (M.loc x (List.mem_of_getElem? hi)) (.inl hf)
end
end L2
namespace L2
open PySem PySem.Spec PyProof.Rows
section
variable {X : Cx} {l rest : List Stmt} {st : Stmt} {t u : TS} {e e' : Expr} {te : TE}
end
end L2
namespace L2
open PySem PySem.Spec PyProof.Rows
section
variable {ta : TA} {tl : TE} {n : Nat} {ix : List Nat} {g : TG} {tc : TT} {te : TE} {σ : St} {H : Hp} {Q : VK}
theorem w_compR (h : ta σ H fun vs H1 => ∃ j : Int, vs = [.int j] ∧ -(2 ^ 62) ≤ j ∧ j < 2 ^ 62 ∧ ∀ D, H1 D = none → CGo (Itr 0 j.toNat) D g tc te Q (List.replicate n none ++ sub ix σ) H1) : tComp (iRng1 ta) n ix g tc te σ H Q := h
theorem w_compT {K : PySem.W.Frag} (h : tl σ H fun x H1 => ∃ a, x = .ref a ∧ (∃ xs, SqT K H1 a xs) ∧ ∀ D, H1 D = none → CGo (Itt K a) D g tc te Q (List.replicate n none ++ sub ix σ) H1) : tComp (iTup K tl) n ix g tc te σ H Q := h
end
end L2
namespace L2
open PySem PySem.Spec PyProof.Rows
/-- a loop's reading, the iterator J at hand -/
def ForJ (J : It) (g : TG) (tb : TS) (D : Ends) (σ : St) (H1 : Hp) : Prop := ∃ W : Nat → Nat → St → Hp → Prop, (∃ m, W 0 m σ H1) ∧ ∀ i m σ H, W i m σ H →
  (J.stop i H ∧ D.nx σ H) ∨ (J.go i H ∧ ∃ N : St → Hp → Prop, (∀ σ' H', N σ' H' → ∃ m', m' < m ∧ W (i + 1) m' σ' H') ∧ ∀ x H', J.yld i H x H' → g x σ H' fun σ2 H2 => tb { D with nx := N, ct := N, bk := D.nx } σ2 H2)
theorem w_forR {ta : TA} {g : TG} {tb : TS} {D : Ends} {σ : St} {H : Hp} (h : ta σ H fun vs H1 => ∃ j : Int, vs = [.int j] ∧ -(2 ^ 62) ≤ j ∧ j < 2 ^ 62 ∧ ForJ (Itr 0 j.toNat) g tb D σ H1) : tFor (iRng1 ta) g tb D σ H := h
theorem w_forL {K : PySem.W.Frag} {tl : TE} {g : TG} {tb : TS} {D : Ends} {σ : St} {H : Hp} (h : tl σ H fun x H1 => ∃ a, x = .ref a ∧ (∃ xs, SqL K H1 a xs) ∧ ForJ (Itl K a) g tb D σ H1) : tFor (iList K tl) g tb D σ H := h
end L2
namespace L2
open PySem PySem.Spec PyProof.Rows
/-! ### arguments, without running them -/
def isStar : Expr → Bool
  | .Starred .. => true
  | _ => false
theorem star1 {e : Expr} {es : List Expr} {env : Env} (h : isStar e = false) : starEach (e :: es) env = (false, eval e env) :: starEach es env := by
  cases e <;> first | rfl | cases h
theorem star_any {env : Env} {pos : Pos} : ∀ {es : List Expr}, es.all (fun e => !isStar e) = true → (backTo pos (starEach es env)).any (·.1) = false
  | [], _ => rfl
  | e :: es, h => by
    rw [List.all_cons, Bool.and_eq_true] at h; rw [star1 (by simpa using h.1)]
    cases es with
    | nil => rfl
    | cons a r =>
      have ih := star_any (env := env) (pos := pos) (es := a :: r) h.2
      rw [star1 (by simpa using (by simpa using h.2 : isStar a = false ∧ _).1)] at ih ⊢
      exact ih
end L2
namespace L2
open PySem PySem.Spec PyProof.Rows
section
variable {X : Cx} {e a : Expr} {es : List Expr} {te : TE} {t ta : TA} {x : Str} {p pos : Pos} {tg : Expr} {id T : String} {r : List V → Hp → VK → Prop}
theorem pa_c (ha : PE X e te) (hr : PA X es t) (h : isStar e = false := by rfl) : PA X (e :: es) (tCons te t) := pa_cons ha hr (star1 h)
theorem pi_r1 (hm : X.mg "range" = none) (ha : PA X [a] ta) (hg : Gl X "range" := by rfl) (h : isStar a = false := by rfl) : PI X tg (.Call (.Name "range" p) [a] [] pos) (iRng1 ta) := pi_range1 hg hm ha (star1 h)
theorem pe_cB (hc : CallR X (.builtin id) r) (hm : X.mg x = none) (hv : bootBuiltins x = some (.builtin id)) (ha : PA X (e :: es) t) (hg : Gl X x := by rfl) (h : isStar e = false := by rfl) (h2 : es.all (fun e => !isStar e) = true := by rfl) (hn : x ≠ "__name__" := by decide) (hdb : (x == ("__debug__" : Str)) = false := by decide) :
    PE X (.Call (.Name x p) (e :: es) [] pos) (tCB r t) := pe_callB hc hg hm hv ha hn hdb (star1 h) (star_any h2)
theorem pe_cT (hc : CallR X (.type T) r) (hm : X.mg x = none) (hv : bootBuiltins x = some (.type T)) (ha : PA X (e :: es) t) (hg : Gl X x := by rfl) (h : isStar e = false := by rfl) (h2 : es.all (fun e => !isStar e) = true := by rfl) (hn : x ≠ "__name__" := by decide) (hdb : (x == ("__debug__" : Str)) = false := by decide) :
    PE X (.Call (.Name x p) (e :: es) [] pos) (tCB r t) := pe_callTy hc hg hm hv ha hn hdb (star1 h) (star_any h2)
theorem pe_f {k j : Nat} {ps : List Str} {sp : Sp} (h : Has X.prog X.w X.K X.mg X.base k x ps sp) (hr : Room j X.A) (hkj : k ≤ j) (ha : PA X (e :: es) t) (hg : Gl X x := by rfl) (h1 : isStar e = false := by rfl) (h2 : es.all (fun e => !isStar e) = true := by rfl)
    (hdb : (x == ("__debug__" : Str)) = false := by decide) : PE X (.Call (.Name x p) (e :: es) [] pos) (tCall sp [] E0 t) := pe_fn h hr hkj ha hg hdb (star1 h1) (star_any h2)
end
end L2
namespace L2
theorem pa_1 {X : Cx} {e : PySem.Expr} {te : TE} (ha : PE X e te) (h : isStar e = false := by rfl) : PA X [e] (tCons te tNil) := pa_c ha pa_nil h
theorem pa_2 {X : Cx} {e e' : PySem.Expr} {te te' : TE} (ha : PE X e te) (hb : PE X e' te') (h : isStar e = false := by rfl) (h' : isStar e' = false := by rfl) : PA X [e, e'] (tCons te (tCons te' tNil)) := pa_c ha (pa_1 hb h') h
end L2
namespace L2
open PySem PySem.Spec PyProof.Rows
theorem w_drop {te : TE} {D : Ends} {σ : St} {H : Hp} (h : te σ H fun _ H1 => D.nx σ H1) : tDrop te D σ H := h
theorem w_bm {K : PySem.W.Frag} {T : String} {r : V → List V → Hp → VK → Prop} {to : TE} {t : TA} {σ : St} {H : Hp} {Q : VK} (h : to σ H fun x H1 => tyV K T x H1 ∧ t σ H1 fun xs H2 => r x xs H2 Q) : tBM K T r to t σ H Q := h
end L2

set_option Elab.async false
set_option linter.all false
set_option maxRecDepth 100000
namespace L2
open PySem PySem.Spec PyProof.Rows
/-! ### data: what a value reads as -/
mutual
inductive RdV (H : Hp) : V → PyData → Prop
  | non : RdV H .non .none
  | bl (b : Bool) : RdV H (.bl b) (.bool b)
  | int (i : Int) : RdV H (.int i) (.int i)
  | str (x : Str) : RdV H (.str x) (.str x)
  | lst {p : Addr} {xs : List V} {ds : List PyData} : H p = some (.lst xs) → RdVs H xs ds → RdV H (.ref p) (.list ds)
  | tup {p : Addr} {xs : List V} {ds : List PyData} : H p = some (.tup xs) → RdVs H xs ds → RdV H (.ref p) (.tuple ds)
inductive RdVs (H : Hp) : List V → List PyData → Prop
  | nil : RdVs H [] []
  | cons {v : V} {d : PyData} {vs : List V} {ds : List PyData} : RdV H v d → RdVs H vs ds → RdVs H (v :: vs) (d :: ds)
end
section
variable {X : Cx} {pins : List (Addr × Obj)} {σ : St} {H : Hp} {s : Shared}
mutual
theorem RdV.reads (I : Inv X pins σ H s) {v : V} {d : PyData} : RdV H v d → ∀ {u : Value}, RelV v u → ∃ as, Reads s.heap u d as
  | .non, u, r => by
    cases r
    exact ⟨[], .none⟩
  | .bl b, u, r => by
    cases r
    exact ⟨[], .bool b⟩
  | .int i, u, r => by
    obtain ⟨t, rfl⟩ := r
    exact ⟨[], .int i t⟩
  | .str x, u, r => by
    obtain ⟨t, rfl⟩ := r
    exact ⟨[], .str x t⟩
  | .lst (p := p) hp h, u, r => by
    cases r
    obtain ⟨its, n, rv, e, z⟩ := I.lst hp
    obtain ⟨as, q⟩ := RdVs.reads I h rv
    exact ⟨p :: as, .list e rfl rfl (by simpa using q)⟩
  | .tup (p := p) hp h, u, r => by
    cases r
    obtain ⟨z, its, rv, o, e, c, n, d⟩ := I.hok p _ hp
    obtain ⟨as, q⟩ := RdVs.reads I h rv
    exact ⟨as, .tuple e c d (by simpa using q)⟩
theorem RdVs.reads (I : Inv X pins σ H s) {vs : List V} {ds : List PyData} : RdVs H vs ds → ∀ {us : List Value}, Vals vs us → ∃ as, ReadsAll s.heap us ds as
  | .nil, us, r => by
    cases r
    exact ⟨[], .nil⟩
  | .cons h hs, us, r => by
    cases r with
    | cons r1 r2 =>
      obtain ⟨as, q⟩ := RdV.reads I h r1
      obtain ⟨bs, q2⟩ := RdVs.reads I hs r2
      exact ⟨as ++ bs, .cons q q2⟩
end
end
theorem rdInts {H : Hp} : ∀ (ns : List Int), RdVs H (ns.map V.int) (ns.map PyData.int)
  | [] => .nil
  | n :: ns => .cons (.int n) (rdInts ns)
end L2
namespace L2
open PySem PySem.Spec PyProof.Rows
section
variable {X : Cx} {k : Nat}
def rEqD : R2 := fun x y H Q => ∃ dx dy, RdV H x dx ∧ RdV H y dy ∧ dx.canLay0 = true ∧ dy.canLay0 = true ∧ dx.depth ≤ 60 ∧ Q (.bl (PyData.eqv dx dy)) H
theorem op_eqD (hr : Room k X.A) : OpR X (compareOp .Eq) rEqD := by
  intro pins s σ H x y v u Q I rx ry h
  obtain ⟨dx, dy, hx, hy, cx, cy, hd, q⟩ := h
  obtain ⟨as, ra⟩ := hx.reads I rx
  obtain ⟨bs, rb⟩ := hy.reads I ry
  have := hr.units
  exact SeqAt.compareEq_reads ra rb cx cy (by omega) ⟨.bl _, H, I, rfl, q⟩
def rRepr : List V → Hp → VK → Prop := fun xs H Q => ∃ v d, xs = [v] ∧ RdV H v d ∧ d.showable = true ∧ d.hasDict = false ∧ d.depth ≤ 50 ∧ d.shown.length ≤ sizeLine ∧ Q (.str d.shown) H
theorem call_repr (hr : Room k X.A) : CallR X (.builtin "repr") rRepr := by
  intro pins s σ H xs us Q I r h
  obtain ⟨v, d, rfl, hv, h1, h2, h3, h4, q⟩ := h
  obtain ⟨u, rfl, ru⟩ := r.one
  have hu := hr.units
  cases hv with
  | non =>
    cases ru
    exact PySem.P.repr_of_none ⟨.str _, H, I.tok _, ⟨_, rfl⟩, q⟩
  | bl b =>
    cases ru
    exact PySem.P.repr_of_bool ⟨.str _, H, I.tok _, ⟨_, rfl⟩, q⟩
  | int i =>
    obtain ⟨t, rfl⟩ := ru
    exact PySem.P.repr_of_int (by simpa [PyData.showable] using h1) ⟨.str _, H, I.tok _, ⟨_, rfl⟩, q⟩
  | str x =>
    obtain ⟨t, rfl⟩ := ru
    exact PySem.P.repr_of_str ⟨.str _, H, I.tok _, ⟨_, rfl⟩, q⟩ h4
  | lst hp hs =>
    obtain ⟨as, ra⟩ := RdV.reads I (.lst hp hs) ru
    cases ru
    exact repr_of_reads' ra h1 (fun z => by rw [h2] at z; cases z) hr.gd (by omega) (fun _ _ e => e) (fun h' u tk hk => ⟨.str _, H, I.kept hk, ⟨_, rfl⟩, q⟩) h4
  | tup hp hs =>
    obtain ⟨as, ra⟩ := RdV.reads I (.tup hp hs) ru
    cases ru
    exact repr_of_reads' ra h1 (fun z => by rw [h2] at z; cases z) hr.gd (by omega) (fun _ _ e => e) (fun h' u tk hk => ⟨.str _, H, I.kept hk, ⟨_, rfl⟩, q⟩) h4
end
end L2
namespace L2
open PySem PySem.Spec PyProof.Rows
theorem eqv_ints : ∀ (ns ms : List Int), PyData.eqvAll (ns.map PyData.int) (ms.map PyData.int) = decide (ns = ms)
  | [], [] => by simp only [List.map_nil, PyData.eqvAll, decide_true]
  | [], m :: ms => by simp [PyData.eqvAll]
  | n :: ns, [] => by simp [PyData.eqvAll]
  | n :: ns, m :: ms => by
    simp only [List.map_cons, PyData.eqvAll, PyData.eqv, eqv_ints ns ms]
    by_cases h : n = m
    · subst h; simp
    · simp [h]
theorem lay_ints : ∀ (ns : List Int), PyData.canLayAll0 (ns.map PyData.int) = true
  | [] => rfl
  | n :: ns => by simp [PyData.canLayAll0, PyData.canLay0, lay_ints ns]
theorem depth_ints : ∀ (ns : List Int), PyData.depthAll (ns.map PyData.int) = 0
  | [] => rfl
  | n :: ns => by simp [PyData.depthAll, PyData.depth, depth_ints ns]
/-- two lists of ints -/
theorem w_eqL {H : Hp} {Q : VK} {p q : Addr} {ns ms : List Int} (hp : H p = some (.lst (ns.map V.int))) (hq : H q = some (.lst (ms.map V.int))) (h : Q (.bl (decide (ns = ms))) H) : rEqD (.ref p) (.ref q) H Q := by
  refine ⟨_, _, .lst hp (rdInts ns), .lst hq (rdInts ms), lay_ints ns, lay_ints ms, ?_, ?_⟩
  · show PyData.depthAll _ + 1 ≤ 60
    rw [depth_ints]
    decide
  · show Q (.bl (PyData.eqvAll _ _)) H
    rw [eqv_ints]
    exact h
end L2
namespace L2
open PySem PySem.Spec PyProof.Rows
section
variable {X : Cx}
theorem vals_of : ∀ {xs : List V} {us : List Value}, xs.length = us.length → (∀ (j : Nat) (x : V) (u : Value), xs[j]? = some x → us[j]? = some u → RelV x u) → Vals xs us
  | [], [], _, _ => .nil
  | [], v :: vs, h, _ => absurd h (by simp)
  | v :: vs, [], h, _ => absurd h (by simp)
  | x :: xs, u :: us, h, k => .cons (k 0 x u rfl rfl) (vals_of (by simpa using h) fun j y v e1 e2 => k (j + 1) y v (by simpa using e1) (by simpa using e2))
/-- range(n), as a thing of its own -/
def rRange : List V → Hp → VK → Prop := fun xs H Q => ∃ j : Int, xs = [.int j] ∧ ∀ r, H r = none → Q (.ref r) (upd H r (.rng 0 j))
theorem call_rangeV : CallR X (.type "range") rRange := by
  intro pins s σ H xs us Q I r h
  obtain ⟨j, rfl, q⟩ := h
  obtain ⟨u, rfl, ru⟩ := r.one
  obtain ⟨t, rfl⟩ := ru
  refine call_range_1 ⟨.ref _, _, I.laid (fun b o e => Heap.get?_push_of_some _ e) (Nat.le_refl _) ?_, rfl, q _ I.fresh⟩
  exact ⟨_, _, _, Heap.get?_push_size _ rfl⟩
def rListR : List V → Hp → VK → Prop := fun xs H Q => ∃ (p : Addr) (n : Nat), xs = [.ref p] ∧ H p = some (.rng 0 (n : Int)) ∧ n ≤ 1000 ∧ ∀ l, H l = none → Q (.ref l) (upd H l (.lst ((List.range n).map fun (i : Nat) => V.int (i : Int))))
theorem call_listRng (hc : X.calm = true) : CallR X (.type "list") rListR := by
  intro pins s σ H xs us Q I r h
  obtain ⟨p, n, rfl, hp, hn, q⟩ := h
  obtain ⟨u, rfl, ru⟩ := r.one
  cases ru
  obtain ⟨t, u, v, e⟩ := I.hok p _ hp
  refine call_list_range (n := n) (I.ok.hd hc) e (small_one (by omega) (by omega) (by omega) (by omega)) (by rw [rangeSize_one]; split <;> omega) (by omega) fun h' tk acc' c' hk hS hacc => ?_
  refine ⟨.ref _, _, I.laid (t' := tk) hk (Nat.le_refl _) ?_, rfl, q _ I.fresh⟩
  obtain ⟨hsz, hit⟩ := hacc
  refine ⟨by rw [List.length_map, List.length_range]; exact Nat.le_of_lt (small1000 hn), acc'.toList, c', vals_of (by simp [hsz]) fun j x u ex eu => ?_, hS⟩
  have hj : j < n := by
    have := (List.getElem?_eq_some_iff.mp ex).1
    simpa using this
  rw [List.getElem?_map, List.getElem?_range hj] at ex
  have ex' : V.int (j : Int) = x := Option.some.inj ex
  subst ex'
  obtain ⟨t, ht⟩ := hit j u (by simpa using eu)
  exact ⟨t, by rw [ht]; congr 1; omega⟩
end
end L2

set_option Elab.async false
set_option linter.all false
set_option maxRecDepth 100000
namespace L2
open PySem PySem.Spec PyProof.Rows
section
variable {X : Cx}
def rSum : List V → Hp → VK → Prop := fun xs H Q => ∃ (p : Addr) (ns : List Int), xs = [.ref p] ∧ H p = some (.lst (ns.map V.int)) ∧ Q (.int ns.sum) H
end
end L2

set_option Elab.async false
set_option linter.all false
set_option maxRecDepth 100000
namespace L2
open PySem PySem.Spec PyProof.Rows
section
variable {prog : Program} {w : World} {A : Around} {E : Value → Shared → Prop} {s : Shared}
end
end L2

set_option Elab.async false
set_option linter.all false
set_option maxRecDepth 100000
namespace L2
open PySem PySem.Spec PyProof.Rows
abbrev enuH (h : Heap) (t : Addr) : Heap := h.push { cls := .type "tuple_iterator", data := .fields #[.ref t, .int 0 0] }
abbrev enuH2 (h : Heap) (t : Addr) : Heap := (enuH h t).push { cls := .type "enumerate", data := .fields #[.none, .bool false, .ref h.objs.size, rawInt 0, .none, .none] }
section
variable {prog : Program} {w : World} {A : Around} {E : Value → Shared → Prop} {s : Shared}
end
end L2
namespace L2
open PySem PySem.Spec PyProof.Rows
section
variable {X : Cx} {pins : List (Addr × Obj)} {σ : St} {H : Hp} {s : Shared}
end
/-- enumerate over the tuple at a -/
def Ite (K : PySem.W.Frag) (a : Addr) : It :=
  ⟨fun i H => ∃ xs x, SqT K H a xs ∧ xs[i]? = some x, fun i H v H' => ∃ p x, v = .ref p ∧ H p = none ∧ H' = upd H p (.tup [.int (i : Int), x]) ∧ ∀ xs, SqT K H a xs → xs[i]? = some x, fun i H => ∃ xs, SqT K H a xs ∧ xs.length = i⟩

section
variable {X : Cx} {es : List Expr} {kt : Nat} {pt : Pos}
def iEnu (K : PySem.W.Frag) (ta : TA) : TI := fun σ H R => ta σ H fun vs H1 => ∃ a, vs = [.ref a] ∧ (∃ xs, SqT K H1 a xs) ∧ R (Ite K a) H1
end
end L2

set_option Elab.async false
set_option linter.all false
set_option maxRecDepth 100000
namespace L2
open PySem PySem.Spec PyProof.Rows
section
variable {prog : Program} {w : World} {A : Around} {E : Value → Shared → Prop} {s : Shared}
end
end L2
namespace L2
open PySem PySem.Spec PyProof.Rows
abbrev zpH1 (h : Heap) (a : Addr) : Heap := h.push { cls := .type "tuple_iterator", data := .fields #[.ref a, .int 0 0] }
abbrev zpH2 (h : Heap) (a b : Addr) : Heap := (zpH1 h a).push { cls := .type "tuple_iterator", data := .fields #[.ref b, .int 0 0] }
abbrev zpH3 (h : Heap) (a b : Addr) : Heap := (zpH2 h a b).push { cls := .type "tuple", data := .seq #[.ref h.objs.size, .ref (zpH1 h a).objs.size] }
abbrev zpH4 (h : Heap) (a b : Addr) : Heap := (zpH3 h a b).push { cls := .type "tuple", data := .seq #[.none, .none] }
abbrev zpH5 (h : Heap) (a b : Addr) : Heap := (zpH4 h a b).push { cls := .type "zip", data := .fields #[.none, .bool false, .bool false, .ref (zpH2 h a b).objs.size, .ref (zpH3 h a b).objs.size] }
section
variable {prog : Program} {w : World} {A : Around} {E : Value → Shared → Prop} {s : Shared}
end
end L2

set_option Elab.async false
set_option linter.all false
set_option maxRecDepth 100000
namespace L2
open PySem PySem.Spec PyProof.Rows
/-- zip over the tuples at a and b -/
def Itz (K : PySem.W.Frag) (a b : Addr) : It :=
  ⟨fun i H => ∃ xs ys x y, SqT K H a xs ∧ SqT K H b ys ∧ xs[i]? = some x ∧ ys[i]? = some y, fun i H v H' => ∃ p x y, v = .ref p ∧ H p = none ∧ H' = upd H p (.tup [x, y]) ∧ (∀ xs, SqT K H a xs → xs[i]? = some x) ∧ ∀ ys, SqT K H b ys → ys[i]? = some y,
    fun i H => ∃ xs ys, SqT K H a xs ∧ SqT K H b ys ∧ (xs.length ≤ i ∨ ys.length ≤ i)⟩
section
variable {X : Cx} {es : List Expr} {kt : Nat} {pt : Pos}
def iZp (K : PySem.W.Frag) (ta : TA) : TI := fun σ H R => ta σ H fun vs H1 => ∃ a b, vs = [.ref a, .ref b] ∧ (∃ xs, SqT K H1 a xs) ∧ (∃ ys, SqT K H1 b ys) ∧ R (Itz K a b) H1
end
end L2

set_option Elab.async false
set_option linter.all false
set_option maxRecDepth 100000
namespace L2
open PySem PySem.Spec PyProof.Rows
/-! ### zip of three tuples -/
def IsTri (h : Heap) (T : Addr) (a b c : Value) : Prop := h.get? T = some { cls := .type "tuple", data := .seq #[a, b, c] }
structure Apart3 (z TI TO i1 i2 i3 l1 l2 l3 : Addr) : Prop where
  nz : TI ≠ z ∧ TO ≠ z ∧ i1 ≠ z ∧ i2 ≠ z ∧ i3 ≠ z
  nI : TI ≠ TO ∧ TI ≠ i1 ∧ TI ≠ i2 ∧ TI ≠ i3
  nO : TO ≠ i1 ∧ TO ≠ i2 ∧ TO ≠ i3
  ni : i1 ≠ i2 ∧ i1 ≠ i3 ∧ i2 ≠ i3
  l1 : l1 ≠ z ∧ l1 ≠ TO ∧ l1 ≠ i1 ∧ l1 ≠ i2 ∧ l1 ≠ i3
  l2 : l2 ≠ z ∧ l2 ≠ TO ∧ l2 ≠ i1 ∧ l2 ≠ i2 ∧ l2 ≠ i3
  l3 : l3 ≠ z ∧ l3 ≠ TO ∧ l3 ≠ i1 ∧ l3 ≠ i2 ∧ l3 ≠ i3
section
variable {prog : Program} {w : World} {A : Around} {E : Value → Shared → Prop} {s : Shared}
end
abbrev ztH1 (h : Heap) (a : Addr) : Heap := h.push { cls := .type "tuple_iterator", data := .fields #[.ref a, .int 0 0] }
abbrev ztH2 (h : Heap) (a b : Addr) : Heap := (ztH1 h a).push { cls := .type "tuple_iterator", data := .fields #[.ref b, .int 0 0] }
abbrev ztH3 (h : Heap) (a b c : Addr) : Heap := (ztH2 h a b).push { cls := .type "tuple_iterator", data := .fields #[.ref c, .int 0 0] }
abbrev ztH4 (h : Heap) (a b c : Addr) : Heap := (ztH3 h a b c).push { cls := .type "tuple", data := .seq #[.ref h.objs.size, .ref (ztH1 h a).objs.size, .ref (ztH2 h a b).objs.size] }
abbrev ztH5 (h : Heap) (a b c : Addr) : Heap := (ztH4 h a b c).push { cls := .type "tuple", data := .seq #[.none, .none, .none] }
abbrev ztH6 (h : Heap) (a b c : Addr) : Heap := (ztH5 h a b c).push { cls := .type "zip", data := .fields #[.none, .bool false, .bool false, .ref (ztH3 h a b c).objs.size, .ref (ztH4 h a b c).objs.size] }
end L2

set_option Elab.async false
set_option linter.all false
set_option maxRecDepth 100000
namespace L2
open PySem PySem.Spec PyProof.Rows
section
variable {D : Addr} {te : TE} {tc : TT} {Q : VK} {ρ : St} {H : Hp}
end
section
variable {ta : TA} {tl : TE} {n : Nat} {ix : List Nat} {g : TG} {tc : TT} {te : TE} {σ : St} {H : Hp} {Q : VK}
end
section
variable {X : Cx}
/-- isinstance(x, T), T a type of the language -/
def rIsI (K : PySem.W.Frag) : List V → Hp → VK → Prop := fun xs H Q => ∃ v n t b, xs = [v, .ty n] ∧ TyOf K H v t ∧ PySem.W.kitOne K t (.type n) = some b ∧ Q (.bl b) H
theorem call_isI : CallR X (.builtin "isinstance") (rIsI X.K) := by
  intro pins s σ H xs us Q I r h
  obtain ⟨v, n, t, b, rfl, ty, e, q⟩ := h
  cases r with
  | cons r1 r2 =>
    obtain ⟨u, rfl, ru⟩ := Vals.one r2
    cases ru
    exact isinst_ok I r1 ty e fun tk => ⟨.bl b, H, I.kept (t' := tk) fun _ _ e => e, rfl, q⟩
end
section
variable {σ : St} {H : Hp} {Q : VK} {te ta tb tc : TE} {r r' : R2} {tl th : TO}
theorem w_chain (h : ta σ H fun x H1 => tb σ H1 fun y H2 => r x y H2 fun z H3 => ∃ k, z = .bl k ∧ (if k = true then tc σ H3 fun w' H4 => r' y w' H4 Q else Q (.bl false) H3)) : tChain r r' ta tb tc σ H Q := h
theorem w_sl {r : V → Option Int → Option Int → Hp → VK → Prop} (h : te σ H fun x H1 => tl σ H1 fun l H2 => th σ H2 fun u H3 => r x l u H3 Q) : tSl r te tl th σ H Q := h
theorem w_nopart {QO : Option Int → Hp → Prop} (h : QO none H) : tNoPart σ H QO := h
theorem w_part {QO : Option Int → Hp → Prop} (h : te σ H fun x H1 => ∃ i, x = .int i ∧ QO (some i) H1) : tPart te σ H QO := h
end
theorem seq_post {t u : TS} {D : Ends} {σ : St} {H : Hp} (Post : St → Hp → Prop) (h2 : ∀ σ' H', Post σ' H' → u D σ' H') (h1 : (∀ σ' H', Post σ' H' → u D σ' H') → t { D with nx := u D } σ H) : tSeq t u D σ H := h1 h2
end L2

set_option Elab.async false
set_option linter.all false
set_option maxRecDepth 100000
namespace L2
open PySem PySem.Spec PyProof.Rows
/-! ### displays of constants, numbers below nought too -/
def constW : Expr → Option V
  | .Constant (.int n) _ _ => some (.int n)
  | .Constant (.str y) _ _ => some (.str y)
  | .UnaryOp .USub (.Constant (.int n) _ _) _ => some (.int (-n))
  | _ => none
def constsW : List Expr → Option (List V)
  | [] => some []
  | e :: r => match constW e, constsW r with
    | some v, some vs => some (v :: vs)
    | _, _ => none
end L2
namespace G2
open PySem L2
theorem md {i j : Int} (h : 0 < j) : 0 ≤ i % j ∧ i % j < j := ⟨Int.emod_nonneg _ (Int.ne_of_gt h), Int.emod_lt_of_pos _ h⟩
theorem mulL {i j : Int} (h1 : -4000000000 < i) (h2 : i < 4000000000) : CMul i j := .inl ⟨by omega, by omega⟩
theorem ofI {r : Int} (h : 0 ≤ r) : ∃ n : Nat, r = (n : Int) := ⟨r.toNat, by omega⟩
/-- tuples stay, and what is known as an object -/
structure TK (H H' : Hp) : Prop where
  t : ∀ q xs, H q = some (.tup xs) → H' q = some (.tup xs)
  f : ∀ q o u, H q = some (.frz o u) → H' q = some (.frz o u)
section
variable {p l : Addr} {H H' H'' : Hp} {o : HO}
theorem TK.refl : TK H H := ⟨fun _ _ e => e, fun _ _ _ e => e⟩
theorem TK.trans (a : TK H H') (b : TK H' H'') : TK H H'' := ⟨fun q xs e => b.t q xs (a.t q xs e), fun q o u e => b.f q o u (a.f q o u e)⟩
theorem TK.new (h : H l = none) : TK H (upd H l o) := ⟨fun q xs e => by rw [upd_ne (ne_of_none e h)]; exact e, fun q ob u e => by rw [upd_ne (ne_of_none e h)]; exact e⟩
theorem TK.lst {ys : List V} (h : H l = some (.lst ys)) : TK H (upd H l o) := ⟨fun q xs e => by rw [upd_ne (ne_of e h (by intro z; cases z))]; exact e, fun q ob u e => by rw [upd_ne (ne_of e h (by intro z; cases z))]; exact e⟩
theorem TK.same (k : Same H H') : TK H H' := ⟨fun _ _ e => k _ _ e, fun _ _ _ e => k _ _ e⟩
end
theorem _root_.L2.Same.new {H H' : Hp} {l : Addr} {o : HO} (k : Same H H') (h : H' l = none) : Same H (upd H' l o) := fun b u e => by
  rw [upd_ne (ne_of_none (k b u e) h)]
  exact k b u e
theorem _root_.L2.Same.put {H H' : Hp} {l : Addr} {o : HO} (k : Same H H') (h : H l = none) : Same H (upd H' l o) := fun b u e => by
  rw [upd_ne (ne_of_none e h)]
  exact k b u e
/-- the script, known as an object -/
def SqF (K : PySem.W.Frag) (H : Hp) (a : Addr) (xs : List V) : Prop :=
  (∃ o, H a = some (.frz o (.lst xs))) ∨ ∃ (o : Obj) (its : Array Value) (n : Nat), K.lookup a = some o ∧ o.cls = .type "list" ∧ o.dict = none ∧ o.data = .seq its n ∧ its.size ≤ sizeLine ∧ Vals xs its.toList
theorem SqF.sq {K : PySem.W.Frag} {H : Hp} {a : Addr} {xs : List V} : SqF K H a xs → SqL K H a xs
  | .inl ⟨o, e⟩ => .inl (.inr ⟨o, e⟩)
  | .inr h => .inr h
theorem SqF.of {K : PySem.W.Frag} {H : Hp} {a : Addr} {xs : List V} (O : Only H) : SqL K H a xs → SqF K H a xs
  | .inl (.inl e) => by
    rcases O a with z | ⟨o, ys, z⟩
    · rw [e] at z; cases z
    · rw [e] at z; cases z
  | .inl (.inr h) => .inl h
  | .inr h => .inr h
theorem SqF.tk {K : PySem.W.Frag} {H H' : Hp} {a : Addr} {xs : List V} (k : TK H H') : SqF K H a xs → SqF K H' a xs
  | .inl ⟨o, e⟩ => .inl ⟨o, k.f _ _ _ e⟩
  | .inr h => .inr h
/-! ### a tape of draws -/
structure Tp (H : Hp) (p l : Addr) (ns : List Int) : Prop where
  ex : ∃ c e : Int, H p = some (.lst [.ref l, .int c, .int e])
  hl : H l = some (.lst (ns.map V.int))
  ne : p ≠ l
section
variable {p l a : Addr} {H H' : Hp} {o : HO} {ns : List Int}
theorem Tp.draw (t : Tp H p l ns) {c e : Int} : Tp (upd H p (.lst [.ref l, .int c, .int e])) p l ns := ⟨⟨c, e, upd_same⟩, by rw [upd_ne (Ne.symm t.ne)]; exact t.hl, t.ne⟩
theorem Tp.nl (t : Tp H p l ns) (h : H a = none) : l ≠ a := ne_of_none t.hl h
theorem Tp.new (t : Tp H p l ns) (h : H a = none) : Tp (upd H a o) p l ns := by
  obtain ⟨c, e, hp⟩ := t.ex
  exact ⟨⟨c, e, by rw [upd_ne (ne_of_none hp h)]; exact hp⟩, by rw [upd_ne (ne_of_none t.hl h)]; exact t.hl, t.ne⟩
theorem Tp.put (t : Tp H p l ns) (h1 : p ≠ a) (h2 : l ≠ a) : Tp (upd H a o) p l ns := by
  obtain ⟨c, e, hp⟩ := t.ex
  exact ⟨⟨c, e, by rw [upd_ne h1]; exact hp⟩, by rw [upd_ne h2]; exact t.hl, t.ne⟩
theorem Tp.same (t : Tp H p l ns) (k : Same H H') : Tp H' p l ns := by
  obtain ⟨c, e, hp⟩ := t.ex
  exact ⟨⟨c, e, k _ _ hp⟩, k _ _ t.hl, t.ne⟩
theorem Tp.tk (t : Tp H p l ns) : TK H (upd H p o) := let ⟨_, _, e⟩ := t.ex; TK.lst e
end
/-! ### texts -/
theorem log_small {n : Nat} (h : n < 1000000000000000) : n.log2 < 1920 := by
  by_cases h0 : n = 0
  · subst h0
    decide
  · exact (Nat.log2_lt h0).mpr (Nat.lt_of_lt_of_le h (by decide +kernel))
def Sm (i : Int) : Prop := -1000000000000000 < i ∧ i < 1000000000000000
theorem show_ints : ∀ (ns : List Int), (∀ n ∈ ns, Sm n) → PyData.showableAll (ns.map PyData.int) = true
  | [], _ => rfl
  | n :: ns, h => by
    obtain ⟨h0, h1⟩ := h n List.mem_cons_self
    have hs : n.natAbs.log2 < 1920 := log_small (by omega)
    simp only [List.map_cons, PyData.showableAll, PyData.showable, decide_eq_true hs, show_ints ns fun m hm => h m (List.mem_cons_of_mem _ hm), Bool.and_self]
theorem nodict_ints : ∀ (ns : List Int), PyData.hasDictAll (ns.map PyData.int) = false
  | [] => rfl
  | n :: ns => by simp only [List.map_cons, PyData.hasDictAll, PyData.hasDict, nodict_ints ns, Bool.or_self]
theorem len_int {n : Int} (h : Sm n) : (PyData.shown (.int n)).length ≤ 16 := by
  obtain ⟨h0, h1⟩ := h
  have := int_text_length_le10 (a := n) (k := 15) (by decide) (by omega)
  show (Str.ofString (toString n)).length ≤ 16
  rw [ofString_length]
  exact this
theorem len_ints : ∀ (ns : List Int), (∀ n ∈ ns, Sm n) → ((PyData.shownAll (ns.map PyData.int)).map (·.length)).sum ≤ 16 * ns.length ∧ (PyData.shownAll (ns.map PyData.int)).length = ns.length
  | [], _ => ⟨Nat.le_refl _, rfl⟩
  | n :: ns, h => by
    obtain ⟨i1, i2⟩ := len_ints ns fun m hm => h m (List.mem_cons_of_mem _ hm)
    have e := len_int (h n List.mem_cons_self)
    simp only [List.map_cons, PyData.shownAll, List.sum_cons, List.length_cons]
    exact ⟨by omega, by omega⟩
theorem len_tup (ds : List PyData) : (PyData.shown (.tuple ds)).length ≤ ((PyData.shownAll ds).map (·.length)).sum + 2 * (PyData.shownAll ds).length + 3 := tupleText_len_le _
/-- a thing that may be shown: at most n signs, at most h within one another -/
structure Shw (d : PyData) (n h : Nat) : Prop where
  s : d.showable = true
  nd : d.hasDict = false
  p : d.depth ≤ h
  l : d.shown.length ≤ n
theorem Shw.up {d : PyData} {n h m i : Nat} (x : Shw d n h) (h1 : n ≤ m) (h2 : h ≤ i) : Shw d m i := ⟨x.s, x.nd, Nat.le_trans x.p h2, Nat.le_trans x.l h1⟩
theorem Shw.int {i : Int} (h : Sm i) : Shw (.int i) 16 0 := ⟨by
  obtain ⟨h0, h1⟩ := h
  have hs : i.natAbs.log2 < 1920 := log_small (by omega)
  simp only [PyData.showable, decide_eq_true hs], rfl, Nat.zero_le _, len_int h⟩
theorem Shw.ints {ns : List Int} (h : ∀ n ∈ ns, Sm n) : Shw (.tuple (ns.map PyData.int)) (18 * ns.length + 3) 1 := ⟨by
    simp only [PyData.showable]
    exact show_ints ns h, by
    simp only [PyData.hasDict]
    exact nodict_ints ns, by
    show PyData.depthAll _ + 1 ≤ 1
    rw [depth_ints]
    decide, by
    have h1 := len_tup (ns.map PyData.int)
    obtain ⟨h2, h3⟩ := len_ints ns h
    omega⟩
theorem Shw.two {a b : PyData} {m n h : Nat} (ha : Shw a m h) (hb : Shw b n h) : Shw (.tuple [a, b]) (m + n + 7) (h + 1) := ⟨by
    simp only [PyData.showable, PyData.showableAll, ha.s, hb.s, Bool.and_self], by
    simp only [PyData.hasDict, PyData.hasDictAll, ha.nd, hb.nd, Bool.or_self], by
    show PyData.depthAll [a, b] + 1 ≤ h + 1
    have := ha.p
    have := hb.p
    simp only [PyData.depthAll]
    omega, by
    have h1 := len_tup [a, b]
    have := ha.l
    have := hb.l
    simp only [PyData.shownAll, List.map_cons, List.map_nil, List.sum_cons, List.sum_nil, List.length_cons, List.length_nil] at h1
    omega⟩
theorem Shw.three {a b c : PyData} {m n k h : Nat} (ha : Shw a m h) (hb : Shw b n h) (hc : Shw c k h) : Shw (.tuple [a, b, c]) (m + n + k + 9) (h + 1) := ⟨by
    simp only [PyData.showable, PyData.showableAll, ha.s, hb.s, hc.s, Bool.and_self], by
    simp only [PyData.hasDict, PyData.hasDictAll, ha.nd, hb.nd, hc.nd, Bool.or_self], by
    show PyData.depthAll [a, b, c] + 1 ≤ h + 1
    have := ha.p
    have := hb.p
    have := hc.p
    simp only [PyData.depthAll]
    omega, by
    have h1 := len_tup [a, b, c]
    have := ha.l
    have := hb.l
    have := hc.l
    simp only [PyData.shownAll, List.map_cons, List.map_nil, List.sum_cons, List.sum_nil, List.length_cons, List.length_nil] at h1
    omega⟩
theorem w_shw {H : Hp} {Q : VK} {v : V} {d : PyData} {n h : Nat} (r : RdV H v d) (x : Shw d n h) (hn : n ≤ 100000) (hh : h ≤ 50) (q : Q (.str d.shown) H) : rRepr [v] H Q :=
  ⟨v, d, rfl, r, x.s, x.nd, Nat.le_trans x.p hh, Nat.le_trans x.l (Nat.le_trans hn (by decide : 100000 ≤ sizeLine)), q⟩
/-- each of the ones times its other, added -/
def dot : List Int → List Int → Int
  | x :: xs, y :: ys => x * y + dot xs ys
  | _, _ => 0
/-- the two may be multiplied, item by item -/
def MulOk (xs ys : List Int) : Prop := ∀ (i : Nat) (x y : Int), xs[i]? = some x → ys[i]? = some y → CMul x y
end G2

set_option Elab.async false
set_option linter.all false
set_option maxRecDepth 100000
namespace L2
open PySem PySem.Spec PyProof.Rows
/-! ### products of great numbers -/
theorem w_gtup {K : PySem.W.Frag} {n : Nat} {t : TGs} {σ : St} {H : Hp} {Q : St → Hp → Prop} {a : Addr} {xs : List V} (h : H a = some (.tup xs)) (hn : xs.length = n) (q : t xs σ H Q) : gTup K n t (.ref a) σ H Q := ⟨a, xs, rfl, SqT.of h, hn, q⟩
end L2
namespace G2
open PySem L2
/-- at most ninety figures -/
def Bg (i : Int) : Prop := i.natAbs < 10 ^ 90
section
variable {D : Addr} {te : TE} {tc : TT} {Q : VK} {ρ : St} {H : Hp} {K : PySem.W.Frag} {a b : Addr}
end
/-! ### texts of great numbers -/
theorem Bg.log {i : Int} (h : Bg i) : i.natAbs.log2 < 1920 := by
  unfold Bg at h
  by_cases h0 : i.natAbs = 0
  · rw [h0]
    decide
  · exact (Nat.log2_lt h0).mpr (Nat.lt_of_lt_of_le h (by decide +kernel))
theorem Bg.len {n : Int} (h : Bg n) : (PyData.shown (.int n)).length ≤ 91 := by
  have := int_text_length_le10 (a := n) (k := 90) (by decide) h
  show (Str.ofString (toString n)).length ≤ 91
  rw [ofString_length]
  exact this
theorem Shw.big {i : Int} (h : Bg i) : Shw (.int i) 91 0 := ⟨by simp only [PyData.showable, decide_eq_true h.log], rfl, Nat.zero_le _, h.len⟩
/-! ### lists and tuples compared -/
section
variable {X : Cx} {k : Nat}
def rNeD : R2 := fun x y H Q => ∃ dx dy, RdV H x dx ∧ RdV H y dy ∧ dx.canLay0 = true ∧ dy.canLay0 = true ∧ dx.depth ≤ 60 ∧ Q (.bl (!PyData.eqv dx dy)) H
theorem op_neD (hr : Room k X.A) : OpR X (compareOp .NotEq) rNeD := by
  intro pins s σ H x y v u Q I rx ry h
  obtain ⟨dx, dy, hx, hy, cx, cy, hd, q⟩ := h
  obtain ⟨as, ra⟩ := hx.reads I rx
  obtain ⟨bs, rb⟩ := hy.reads I ry
  have := hr.units
  exact SeqAt.compareNe_reads ra rb cx cy (by omega) ⟨.bl _, H, I, rfl, q⟩
end
/-! ### forms -/
structure Fm where
  ins : List Int
  sts : List Int
  plus : Int
def FmAt (H : Hp) (q : Addr) (f : Fm) : Prop := ∃ a b, H q = some (.tup [.ref a, .ref b, .int f.plus]) ∧ H a = some (.tup (f.ins.map V.int)) ∧ H b = some (.tup (f.sts.map V.int))
theorem FmAt.same {H H' : Hp} {q : Addr} {f : Fm} (k : Same H H') : FmAt H q f → FmAt H' q f
  | ⟨a, b, h1, h2, h3⟩ => ⟨a, b, k _ _ h1, k _ _ h2, k _ _ h3⟩
theorem FmAt.tk {H H' : Hp} {q : Addr} {f : Fm} (k : TK H H') : FmAt H q f → FmAt H' q f
  | ⟨a, b, h1, h2, h3⟩ => ⟨a, b, k.t _ _ h1, k.t _ _ h2, k.t _ _ h3⟩
def addF (f g : Fm) : Fm := ⟨List.zipWith (fun x y => x + y) f.ins g.ins, List.zipWith (fun x y => x + y) f.sts g.sts, f.plus + g.plus⟩
def oftF (t : Int) (f : Fm) : Fm := ⟨f.ins.map fun x => t * x, f.sts.map fun x => t * x, t * f.plus⟩
def moreF (n : Int) (f : Fm) : Fm := ⟨f.ins, f.sts, f.plus + n⟩
def fmV (f : Fm) (am st : List Int) : Int := dot f.ins am + dot f.sts st + f.plus
/-- its kind, and a bound of its numbers -/
structure FmOk (n m : Nat) (B : Int) (f : Fm) : Prop where
  li : f.ins.length = n
  ls : f.sts.length = m
  bi : ∀ x ∈ f.ins, -B ≤ x ∧ x ≤ B
  bs : ∀ x ∈ f.sts, -B ≤ x ∧ x ≤ B
  bp : -B ≤ f.plus ∧ f.plus ≤ B
def fmD (f : Fm) : PyData := .tuple [.tuple (f.ins.map .int), .tuple (f.sts.map .int), .int f.plus]
theorem fm_rd {H : Hp} {q : Addr} {f : Fm} : FmAt H q f → RdV H (.ref q) (fmD f)
  | ⟨_, _, hq, ha, hb⟩ => .tup hq (.cons (.tup ha (rdInts _)) (.cons (.tup hb (rdInts _)) (.cons (.int _) .nil)))
theorem Bg.of {x B : Int} (hB : B < 10 ^ 90) (h : -B ≤ x ∧ x ≤ B) : Bg x := by
  unfold Bg
  omega
end G2

set_option Elab.async false
set_option linter.all false
set_option maxRecDepth 100000
namespace L2
open PySem PySem.Spec PyProof.Rows
section
variable {prog : Program} {w : World} {A : Around} {E : Value → Shared → Prop} {s : Shared}
end
/-- zip over the tuples at a, b and c, all as long -/
def It3 (K : PySem.W.Frag) (a b c : Addr) : It :=
  ⟨fun i H => ∃ xs ys zs x y z, SqT K H a xs ∧ SqT K H b ys ∧ SqT K H c zs ∧ xs[i]? = some x ∧ ys[i]? = some y ∧ zs[i]? = some z,
   fun i H v H' => ∃ p x y z, v = .ref p ∧ H p = none ∧ H' = upd H p (.tup [x, y, z]) ∧ (∀ xs, SqT K H a xs → xs[i]? = some x) ∧ (∀ ys, SqT K H b ys → ys[i]? = some y) ∧ ∀ zs, SqT K H c zs → zs[i]? = some z,
   fun i H => ∃ xs, SqT K H a xs ∧ xs.length ≤ i⟩
section
variable {X : Cx} {es : List Expr} {kt : Nat} {pt : Pos}
def iZt (K : PySem.W.Frag) (ta : TA) : TI := fun σ H R => ta σ H fun vs H1 => ∃ a b c, vs = [.ref a, .ref b, .ref c] ∧ (∃ xs, SqT K H1 a xs) ∧ (∃ ys, SqT K H1 b ys) ∧ (∃ zs, SqT K H1 c zs) ∧ R (It3 K a b c) H1
end
end L2

set_option Elab.async false
set_option linter.all false
set_option maxRecDepth 100000
namespace L2
open PySem PySem.Spec PyProof.Rows
section
variable {X : Cx}
theorem bools_of : ∀ {bs : List Bool} {us : List Value}, Vals (bs.map V.bl) us → us = bs.map Value.bool
  | [], us, r => by
    cases r
    rfl
  | b :: bs, us, r => by
    cases r with
    | cons r1 r2 =>
      cases r1
      rw [bools_of r2]
      rfl
def rAll : List V → Hp → VK → Prop := fun xs H Q => ∃ (p : Addr) (bs : List Bool), xs = [.ref p] ∧ H p = some (.lst (bs.map V.bl)) ∧ Q (.bl (bs.all id)) H
theorem all_range (bs : List Bool) : (List.range bs.length).all (fun i => bs.getD i false) = bs.all id := by
  rw [Bool.eq_iff_iff, List.all_eq_true, List.all_eq_true]
  constructor
  · intro h b hb
    obtain ⟨i, hi, rfl⟩ := List.getElem_of_mem hb
    have := h i (List.mem_range.mpr hi)
    simpa [List.getD_eq_getElem?_getD, hi] using this
  · intro h i hi
    have hi' := List.mem_range.mp hi
    have := h bs[i] (List.getElem_mem hi')
    simpa [List.getD_eq_getElem?_getD, hi'] using this
theorem call_all (hc : X.calm = true) : CallR X (.builtin "all") rAll := by
  intro pins s σ H xs us Q I r h
  obtain ⟨p, bs, rfl, hp, q⟩ := h
  obtain ⟨u, rfl, ru⟩ := r.one
  cases ru
  obtain ⟨its, n, rv, e, z⟩ := I.lst hp
  have hits := bools_of rv
  subst hits
  have hl : s.heap.IsList p (bs.map Value.bool).toArray := ⟨_, e, rfl, n, rfl⟩
  refine call_all_walk (wpAny_pyIter_list hl ?_)
  refine ⟨_, _, _, _, _, _, fun i => bs.getD i false, rfl, Walks.list (A := X.A.in1) (I.ok.hd hc) _ p (Nat.ne_of_lt (Heap.lt_size e)) (bs.map Value.bool).toArray, ⟨⟨_, Heap.get?_push_size _ rfl, rfl, rfl⟩, hl.push _⟩, ?_, fun h' tk hk => ?_⟩
  · intro i v s' Q' E' hv hQ'
    have hv' : (bs.map Value.bool)[i]? = some v := by simpa using hv
    rw [List.getElem?_map] at hv'
    cases eb : bs[i]? with
    | none => rw [eb] at hv'; cases hv'
    | some b =>
      rw [eb] at hv'
      cases hv'
      have : bs.getD i false = b := by rw [List.getD_eq_getElem?_getD, eb]; rfl
      refine wpAny_truthy_bool ?_
      dsimp only at hQ'
      rw [this] at hQ'
      exact hQ'
  · have e1 : (List.range (bs.map Value.bool).toArray.size).all (fun i => bs.getD i false) = bs.all id := by simpa using all_range bs
    rw [e1]
    exact ⟨.bl _, H, I.kept (t' := tk) (old_kept (l := p) hk), rfl, q⟩
def rMinL : List V → Hp → VK → Prop := fun xs H Q => ∃ (p : Addr) (ns : List Int), xs = [.ref p] ∧ H p = some (.lst (ns.map V.int)) ∧ 0 < ns.length ∧ ∀ M, M ∈ ns → (∀ a ∈ ns, M ≤ a) → Q (.int M) H
end
end L2

set_option Elab.async false
set_option linter.all false
set_option maxRecDepth 100000
namespace L2
open PySem PySem.Spec PyProof.Rows
/-- enumerate over the list at a -/
def Itel (K : PySem.W.Frag) (a : Addr) : It :=
  ⟨fun i H => ∃ xs x, SqL K H a xs ∧ xs[i]? = some x, fun i H v H' => ∃ p x, v = .ref p ∧ H p = none ∧ H' = upd H p (.tup [.int (i : Int), x]) ∧ ∀ xs, SqL K H a xs → xs[i]? = some x, fun i H => ∃ xs, SqL K H a xs ∧ xs.length = i⟩

section
variable {X : Cx} {es : List Expr} {kt : Nat} {pt : Pos}
def iEnl (K : PySem.W.Frag) (ta : TA) : TI := fun σ H R => ta σ H fun vs H1 => ∃ a, vs = [.ref a] ∧ (∃ xs, SqL K H1 a xs) ∧ R (Itel K a) H1
end
end L2

set_option Elab.async false
set_option linter.all false
set_option maxRecDepth 100000
namespace L2
open PySem PySem.Spec PyProof.Rows
def isI (i : Int) : Value → Bool
  | .int a _ => a == i
  | _ => false
theorem map_erase (k : Nat) (xs : List Int) : (xs.map V.int).eraseIdx k = (xs.eraseIdx k).map V.int := by
  induction xs generalizing k with
  | nil => rfl
  | cons x xs ih => cases k with
    | zero => rfl
    | succ k => simp [ih]
section
variable {X : Cx}
/-- xs.remove(i), xs a list of ints -/
def rRem : V → List V → Hp → VK → Prop := fun x vs H Q => ∃ (l : Addr) (xs : List Int) (i : Int), x = .ref l ∧ vs = [.int i] ∧ H l = some (.lst (xs.map V.int)) ∧ i ∈ xs ∧ Q .non (upd H l (.lst ((xs.erase i).map V.int)))

end
end L2

set_option Elab.async false
set_option linter.all false
set_option maxRecDepth 100000
namespace L2
open PySem PySem.Spec PyProof.Rows
section
variable {X : Cx}
def rAny : List V → Hp → VK → Prop := fun xs H Q => ∃ (p : Addr) (bs : List Bool), xs = [.ref p] ∧ H p = some (.lst (bs.map V.bl)) ∧ Q (.bl (bs.any id)) H
theorem any_range (bs : List Bool) : (List.range bs.length).any (fun i => bs.getD i false) = bs.any id := by
  rw [Bool.eq_iff_iff, List.any_eq_true, List.any_eq_true]
  constructor
  · rintro ⟨i, hi, h⟩
    have hi' := List.mem_range.mp hi
    refine ⟨bs[i], List.getElem_mem hi', ?_⟩
    simpa [List.getD_eq_getElem?_getD, hi'] using h
  · rintro ⟨b, hb, h⟩
    obtain ⟨i, hi, rfl⟩ := List.getElem_of_mem hb
    exact ⟨i, List.mem_range.mpr hi, by simpa [List.getD_eq_getElem?_getD, hi] using h⟩
theorem call_any (hc : X.calm = true) : CallR X (.builtin "any") rAny := by
  intro pins s σ H xs us Q I r h
  obtain ⟨p, bs, rfl, hp, q⟩ := h
  obtain ⟨u, rfl, ru⟩ := r.one
  cases ru
  obtain ⟨its, n, rv, e, z⟩ := I.lst hp
  have hits := bools_of rv
  subst hits
  have hl : s.heap.IsList p (bs.map Value.bool).toArray := ⟨_, e, rfl, n, rfl⟩
  refine call_any_walk (wpAny_pyIter_list hl ?_)
  refine ⟨_, _, _, _, _, _, fun i => bs.getD i false, rfl, Walks.list (A := X.A.in1) (I.ok.hd hc) _ p (Nat.ne_of_lt (Heap.lt_size e)) (bs.map Value.bool).toArray, ⟨⟨_, Heap.get?_push_size _ rfl, rfl, rfl⟩, hl.push _⟩, ?_, fun h' tk hk => ?_⟩
  · intro i v s' Q' E' hv hQ'
    have hv' : (bs.map Value.bool)[i]? = some v := by simpa using hv
    rw [List.getElem?_map] at hv'
    cases eb : bs[i]? with
    | none => rw [eb] at hv'; cases hv'
    | some b =>
      rw [eb] at hv'
      cases hv'
      have : bs.getD i false = b := by rw [List.getD_eq_getElem?_getD, eb]; rfl
      refine wpAny_truthy_bool ?_
      dsimp only at hQ'
      rw [this] at hQ'
      exact hQ'
  · have e1 : (List.range (bs.map Value.bool).toArray.size).any (fun i => bs.getD i false) = bs.any id := by simpa using any_range bs
    rw [e1]
    exact ⟨.bl _, H, I.kept (t' := tk) (old_kept (l := p) hk), rfl, q⟩
def rMaxL : List V → Hp → VK → Prop := fun xs H Q => ∃ (p : Addr) (ns : List Int), xs = [.ref p] ∧ H p = some (.lst (ns.map V.int)) ∧ 0 < ns.length ∧ ∀ M, M ∈ ns → (∀ a ∈ ns, a ≤ M) → Q (.int M) H

/-- xs.insert(i, y), i at 0 or above -/
def rIns : V → List V → Hp → VK → Prop := fun x vs H Q => ∃ (l : Addr) (xs : List V) (i : Int) (y : V), x = .ref l ∧ vs = [.int i, y] ∧ H l = some (.lst xs) ∧ 0 ≤ i ∧ i ≤ xs.length ∧ xs.length < sizeLine ∧ Q .non (upd H l (.lst (xs.take i.toNat ++ y :: xs.drop i.toNat)))
end
end L2

set_option Elab.async false
set_option linter.all false
set_option maxRecDepth 100000
namespace L2
open PySem PySem.Spec PyProof.Rows
/-- zip over the lists at a and b -/
def Itzl (K : PySem.W.Frag) (a b : Addr) : It :=
  ⟨fun i H => ∃ xs ys x y, SqL K H a xs ∧ SqL K H b ys ∧ xs[i]? = some x ∧ ys[i]? = some y, fun i H v H' => ∃ p x y, v = .ref p ∧ H p = none ∧ H' = upd H p (.tup [x, y]) ∧ (∀ xs, SqL K H a xs → xs[i]? = some x) ∧ ∀ ys, SqL K H b ys → ys[i]? = some y,
    fun i H => ∃ xs ys, SqL K H a xs ∧ SqL K H b ys ∧ (xs.length ≤ i ∨ ys.length ≤ i)⟩
section
variable {X : Cx} {es : List Expr} {kt : Nat} {pt : Pos}
def iZpl (K : PySem.W.Frag) (ta : TA) : TI := fun σ H R => ta σ H fun vs H1 => ∃ a b, vs = [.ref a, .ref b] ∧ (∃ xs, SqL K H1 a xs) ∧ (∃ ys, SqL K H1 b ys) ∧ R (Itzl K a b) H1
end
section
variable {D : Addr} {te : TE} {tc : TT} {Q : VK} {ρ : St} {H : Hp}
end
end L2

set_option Elab.async false
set_option linter.all false
set_option maxRecDepth 100000
namespace G2
open PySem L2
end G2

set_option Elab.async false
set_option linter.all false
set_option maxRecDepth 100000
namespace L2
open PySem PySem.Spec PyProof.Rows
/-! ### comprehensions whose own names are read by one within them -/
structure NScope (o sc : Scope) (TN F : List Str) : Prop where
  okind : o.kind = .function
  kind : sc.kind = .function
  names : ∀ y ∈ sc.names, y.2 = .local → sc.names.lookup y.1 = some .local
  clN : ∀ y ∈ sc.names, y.2 = .cell → sc.names.lookup y.1 = some .cell
  fr : ∀ y ∈ sc.names, y.2 = .free → o.names.lookup y.1 = some .cell ∧ sc.names.lookup y.1 = some .free
  ff : ∀ y ∈ F, (y, NameKind.free) ∈ sc.names
theorem cellsFrom_name : ∀ (names : List (Str × NameKind)) (n : Nat) (acc : List (Str × Addr)) (x : Str) (c : Addr), (x, c) ∈ cellsFrom n names acc → (x, NameKind.cell) ∈ names ∨ (x, c) ∈ acc
  | [], n, acc, x, c, h => .inr h
  | (y, k) :: r, n, acc, x, c, h => by
    unfold cellsFrom at h
    split at h
    · rename_i hk
      have hk' : k = .cell := by simpa using hk
      subst hk'
      rcases cellsFrom_name r (n + 1) ((y, n) :: acc) x c h with z | z
      · exact .inl (List.mem_cons_of_mem _ z)
      · rcases List.mem_cons.mp z with e | z
        · cases e
          exact .inl List.mem_cons_self
        · exact .inr z
    · rcases cellsFrom_name r n acc x c h with z | z
      · exact .inl (List.mem_cons_of_mem _ z)
      · exact .inr z
/-- the cells of a block: its own, then those that it is given -/
def ownC (n : Nat) (sc : Scope) : List (Str × Addr) := cellsFrom (n + 1) sc.names []
def allC (env : Env) (n : Nat) (sc : Scope) : List (Str × Addr) := ownC n sc ++ cloF env sc.names []
theorem NScope.own {o sc : Scope} {TN F : List Str} (S : NScope o sc TN F) {n : Nat} {x : Str} {c : Addr} (h : (ownC n sc).lookup x = some c) : sc.names.lookup x = some .cell := by
  rcases cellsFrom_name sc.names (n + 1) [] x c (PySem.mem_of_lookup h) with z | z
  · exact S.clN _ z rfl
  · cases z
/-- the context of such a block -/
def cxN (X : Cx) (N : List Str) (sc : Scope) (cl : List (Str × Addr)) (C : Addr) (fp : List Addr) (s₃ : Shared) (H₃ : Hp) (xe : Value → Shared → Prop) : Cx :=
  { X with N := N, s₀ := s₃, H₀ := H₃, env := compEnvC sc cl C X.env, outer := X.stack, ex := fp, fn := fun y => sc.names.lookup y == some .cell, pn := [], xe := xe }



section
variable {X : Cx} {sc : Scope} {TN F : List Str} {ix : List Nat} {elt tg iter : Expr} {ifs : List Expr} {pos : Pos} {g : TG} {tc : TT} {te : TE} {wi : TI}
end
/-- such a block's names -/
structure NBScope (o sc : Scope) (TN F G : List Str) : Prop extends NScope o sc TN F where
  nd : (TN ++ F).Nodup
  vis : ∀ x ∈ TN ++ F, Vis (relabelS sc o) x
  loc : ∀ x ∈ TN, (relabelS sc o).names.lookup x = some .local ∨ ((relabelS sc o).names.lookup x = some .cell ∧ sc.names.lookup x = some .cell)
  gl : ∀ x ∈ G, (relabelS sc o).names.lookup x = some .globalImplicit
section
variable {X : Cx} {sc : Scope} {TN F G : List Str} {cl : List (Str × Addr)} {C : Addr} {fp : List Addr} {s3 : Shared} {H3 : Hp} {xe : Value → Shared → Prop} {x : Str} {pos : Pos}
theorem NBScope.g (S : NBScope X.env.scope sc TN F G) (i : Nat) (hG : G[i]? = some x := by rfl) : Gl (cxN X (TN ++ F) sc cl C fp s3 H3 xe) x := S.gl x (List.mem_of_getElem? hG)
end
end L2

set_option Elab.async false
set_option linter.all false
set_option maxRecDepth 100000
namespace PySem
open Sem (wp)
open Builtin
open AutoSeq1 (wpAny_loadPart')
theorem noFill_tuple_mul : fillsNumberSlot (.type "tuple") "mul" = pure false :=
  fillsNumberSlot_seq (id := "tuple.__mul__") (r := some (.builtin "tuple.__rmul__")) F.slot_tuple_mul.lookup (by decide +kernel) F.slot_tuple_rmul.lookup (by decide +kernel)
theorem repeat_tuple : seqRepeat? (.type "tuple") = pure (some (.builtin "tuple.__mul__")) := by
  unfold seqRepeat?
  rw [seqSlot_of (T := "tuple") (name := "__mul__") (id := "tuple.__mul__") F.slot_tuple_mul.lookup (by decide +kernel), seqSlot_of (T := "tuple") (name := "__rmul__") (id := "tuple.__rmul__") F.slot_tuple_rmul.lookup (by decide +kernel)]
  rfl
theorem rmulW (a : Int) (t : Tok) (l : Addr) (items : Array Value) (n : Nat) (dd : Option Addr) (sl : Array (Option Value)) :
    Meets (Builtin.«int.__rmul__» ⟨[.int a t, .ref l], []⟩) (fun _ R s => s.heap.get? l = some { cls := .type "tuple", dict := dd, data := .seq items n, slots := sl } ∧ R (.ok (.ret Value.notImplemented)) s) :=
  .of_wp fun prog w A R s h => by obtain ⟨hp, g, d, tk, os⟩ := s; obtain ⟨hl, h⟩ := h; wp_walk; exact ⟨_, rfl, h⟩
theorem tuple_mulW1 (l : Addr) (items : Array Value) (n : Nat) (dd : Option Addr) (sl : Array (Option Value)) (u : Tok) :
    Meets (Builtin.«tuple.__mul__» ⟨[.ref l, .int 1 u], []⟩) (fun _ R s => s.heap.get? l = some { cls := .type "tuple", dict := dd, data := .seq items n, slots := sl } ∧ R (.ok (.ret (.ref l))) s) :=
  .of_wp fun prog w A R s h => by
    obtain ⟨hp, g, d, tk, os⟩ := s; obtain ⟨hl, h⟩ := h
    have f1 := AutoSeq1.idx_int
    wp_walk using wpAny_loadPart' hl
    exact ⟨_, rfl, h⟩
theorem tuple_mulW2 (l : Addr) (items : Array Value) (n : Nat) (dd : Option Addr) (sl : Array (Option Value)) (x : Int) (u : Tok) (c1 : (decide (x < -2 ^ 63) || decide (x ≥ 2 ^ 63)) = false) (c2 : (items.isEmpty || x == 1) = false) (c3 : (decide (x ≤ 0) || items.isEmpty) = false) (c4 : ¬ (items.size : Int) * x > (2 ^ 63 - 1) / 8) (c5 : Tuple.tupleTooMany ((items.size : Int) * x) = false) (hz : (List.foldl (fun x1 x2 => x1 ++ x2) #[] (List.replicate x.toNat items)).size ≤ sizeLine) :
    Meets (Builtin.«tuple.__mul__» ⟨[.ref l, .int x u], []⟩) (fun _ R s => s.heap.get? l = some { cls := .type "tuple", dict := dd, data := .seq items n, slots := sl } ∧ R (.ok (.ret (Value.ref s.heap.objs.size))) { s with heap := s.heap.push { cls := Value.type "tuple", data := Data.seq (List.foldl (fun x1 x2 => x1 ++ x2) #[] (List.replicate x.toNat items)) }, toks := s.toks }) :=
  .of_wp fun prog w A R s h => by
    obtain ⟨hp, g, d, tk, os⟩ := s; obtain ⟨hl, h⟩ := h
    have f1 := AutoSeq1.idx_int
    wp_walk using wpAny_loadPart' hl
    refine wpAny_ite_false (decide_eq_false (by rw [c1]; exact Bool.false_ne_true)) ?_
    wp_walk using wpAny_loadPart' hl
    refine wpAny_ite_false (decide_eq_false c4) ?_
    wp_walk using wpAny_loadPart' hl
    exact ⟨_, rfl, h⟩
end PySem
namespace L2
open PySem PySem.Spec PyProof.Rows
section
variable {X : Cx}
/-- a tuple times an int above 0; once: the tuple itself -/
def rRepT : R2 := fun x y H Q => ∃ a k xs, x = .ref a ∧ y = .int k ∧ H a = some (.tup xs) ∧ xs ≠ [] ∧ 0 < k ∧ k ≤ 1000 ∧ xs.length * k.toNat ≤ 1000 ∧ (k = 1 → Q (.ref a) H) ∧
  (k ≠ 1 → ∀ p, H p = none → Q (.ref p) (upd H p (.tup (List.replicate k.toNat xs).flatten)))
theorem op_repT : OpR X (binaryOp .Mult) rRepT := by
  intro pins s σ H x y v u Q I rx ry h
  obtain ⟨a, k, xs, rfl, rfl, hH, hne, h0, h1, hz, q1, q2⟩ := h
  cases rx
  obtain ⟨t, rfl⟩ := ry
  obtain ⟨z, its, rv, ⟨cls, dd, data, sl⟩, e, c, n, d⟩ := I.hok a _ hH
  simp only at c d
  subst c d
  have hl : xs.length = its.length := rv.length
  have hits : its ≠ [] := fun z => hne (rv.nil_iff.mp z)
  by_cases hk : k = 1
  · subst hk
    refine wpAny_binaryOp_repeat_ref (T := "tuple") (U := "int") (by decide) ⟨_, e, rfl⟩ (fun s' => typeIs_int s' 1 t) noFill_tuple_mul F.fills_int_mul F.slot_int_rmul repeat_tuple F.slot_int_index.lookup
      (call_meets F.slot_int_rmul (typeIs_int s 1 t) F.entry_int_rmul (F.args_int_rmul_2 _ _) (rmulW 1 t a its.toArray n dd sl)
        ⟨e, rfl, ⟨_, e, rfl⟩, call_meets F.slot_tuple_mul ⟨_, e, rfl⟩ F.entry_tuple_mul (F.args_tuple_mul_2 _ _) (tuple_mulW1 a its.toArray n dd sl t) ⟨e, ?_⟩⟩)
    exact ⟨.ref a, H, I, rfl, q1 rfl⟩
  · have hnew : List.foldl (fun x1 x2 => x1 ++ x2) #[] (List.replicate k.toNat its.toArray) = (List.replicate k.toNat its).flatten.toArray := by
      have := foldl_rep its k.toNat []
      rw [List.nil_append] at this
      exact this
    have hsz : its.length * k.toNat ≤ 1000 := by rw [← hl]; exact hz
    have h10 : (1000 : Nat) ≤ sizeLine := by decide
    have hmul : ((its.toArray.size : Nat) : Int) * k ≤ 1000 := by
      rw [List.size_toArray]
      have : ((its.length : Nat) : Int) * k = ((its.length * k.toNat : Nat) : Int) := by
        rw [Int.natCast_mul, Int.toNat_of_nonneg (by omega)]
      omega
    have hlen : (List.replicate k.toNat its).flatten.length ≤ sizeLine := by
      rw [len_rep, Nat.mul_comm]
      omega
    refine wpAny_binaryOp_repeat_ref (T := "tuple") (U := "int") (by decide) ⟨_, e, rfl⟩ (fun s' => typeIs_int s' k t) noFill_tuple_mul F.fills_int_mul F.slot_int_rmul repeat_tuple F.slot_int_index.lookup
      (call_meets F.slot_int_rmul (typeIs_int s k t) F.entry_int_rmul (F.args_int_rmul_2 _ _) (rmulW k t a its.toArray n dd sl)
        ⟨e, rfl, ⟨_, e, rfl⟩, call_meets F.slot_tuple_mul ⟨_, e, rfl⟩ F.entry_tuple_mul (F.args_tuple_mul_2 _ _) (tuple_mulW2 a its.toArray n dd sl k t ?_ ?_ ?_ ?_ ?_ ?_) ⟨e, ?_⟩⟩)
    · have a1 : ¬ k < -2 ^ 63 := by omega
      have a2 : ¬ k ≥ 2 ^ 63 := by omega
      rw [decide_eq_false a1, decide_eq_false a2]
      rfl
    · simp [hits, hk]
    · have a1 : ¬ k ≤ 0 := by omega
      simp [hits, a1]
    · omega
    · show decide (_ > (sizeLine : Int)) = false
      refine decide_eq_false ?_
      have : ((1000 : Nat) : Int) ≤ (sizeLine : Int) := Int.ofNat_le.mpr h10
      omega
    · rw [hnew, List.size_toArray]
      exact hlen
    · rw [hnew]
      refine ⟨.ref s.heap.objs.size, _, I.laid (t' := s.toks) (o := .tup (List.replicate k.toNat xs).flatten) (fun b ob q => Heap.get?_push_of_some _ q) (Nat.le_refl _) ?_, rfl, q2 hk _ (I.hok.fresh (Nat.le_refl _))⟩
      exact ⟨by rw [len_rep, hl, ← len_rep]; exact hlen, _, rv.rep k.toNat, IsTup.new _ _⟩
theorem iteNB {c A B : Prop} [Decidable c] (h1 : ¬ c → A) (h2 : c → B) : if (!decide c) = true then A else B := by
  by_cases hc : c
  · rw [decide_eq_true hc]
    exact h2 hc
  · rw [decide_eq_false hc]
    exact h1 hc
end
end L2

set_option Elab.async false
set_option linter.all false
set_option maxRecDepth 100000
namespace L2
open PySem PySem.Spec PyProof.Rows
section
variable {prog : Program} {w : World} {A : Around} {E : Value → Shared → Prop} {s : Shared}
end
end L2
namespace L2
open PySem PySem.Spec PyProof.Rows
abbrev zmH1 (h : Heap) (a : Addr) : Heap := h.push { cls := .type "tuple_iterator", data := .fields #[.ref a, .int 0 0] }
abbrev zmH2 (h : Heap) (a b : Addr) : Heap := (zmH1 h a).push { cls := .type "list_iterator", data := .fields #[.ref b, .int 0 0] }
abbrev zmH3 (h : Heap) (a b : Addr) : Heap := (zmH2 h a b).push { cls := .type "tuple", data := .seq #[.ref h.objs.size, .ref (zmH1 h a).objs.size] }
abbrev zmH4 (h : Heap) (a b : Addr) : Heap := (zmH3 h a b).push { cls := .type "tuple", data := .seq #[.none, .none] }
abbrev zmH5 (h : Heap) (a b : Addr) : Heap := (zmH4 h a b).push { cls := .type "zip", data := .fields #[.none, .bool false, .bool false, .ref (zmH2 h a b).objs.size, .ref (zmH3 h a b).objs.size] }
section
variable {prog : Program} {w : World} {A : Around} {E : Value → Shared → Prop} {s : Shared}
end
end L2
namespace L2
open PySem PySem.Spec PyProof.Rows
/-- zip over the tuples at a and b -/
def Itm (K : PySem.W.Frag) (a b : Addr) : It :=
  ⟨fun i H => ∃ xs ys x y, SqT K H a xs ∧ SqL K H b ys ∧ xs[i]? = some x ∧ ys[i]? = some y, fun i H v H' => ∃ p x y, v = .ref p ∧ H p = none ∧ H' = upd H p (.tup [x, y]) ∧ (∀ xs, SqT K H a xs → xs[i]? = some x) ∧ ∀ ys, SqL K H b ys → ys[i]? = some y,
    fun i H => ∃ xs ys, SqT K H a xs ∧ SqL K H b ys ∧ (xs.length ≤ i ∨ ys.length ≤ i)⟩
section
variable {X : Cx} {es : List Expr} {kt : Nat} {pt : Pos}
def iZm (K : PySem.W.Frag) (ta : TA) : TI := fun σ H R => ta σ H fun vs H1 => ∃ a b, vs = [.ref a, .ref b] ∧ (∃ xs, SqT K H1 a xs) ∧ (∃ ys, SqL K H1 b ys) ∧ R (Itm K a b) H1
end
section
variable {D : Addr} {te : TE} {tc : TT} {Q : VK} {ρ : St} {H : Hp}
end
end L2

set_option Elab.async false
set_option linter.all false
set_option maxRecDepth 100000
namespace HT
open PySem PyProof.Rows
section
variable {prog : Program} {w : World} {A : Around} {E : Value → Shared → Prop} {s : Shared}
/-- t[a:b], the whole: t itself -/
theorem getItem_tuple_all {t sl : Addr} {items : Array Value} {vl vu : Value} {lo hi : Option Int} {Q : Value → Shared → Prop} (ht : IsTup s.heap t items) (hs : s.heap.IsSliceOf sl vl vu .none) (pl : IsPart vl lo) (pu : IsPart vu hi)
    (hw : sIx items.size 0 lo = 0 ∧ sIx items.size items.size hi = items.size) (h : Q (.ref t) s) : wpAny (model prog w) A (getItem (.ref t) (.ref sl)) Q E s := by
  obtain ⟨os, hos, hcs, hds⟩ := id hs
  have hTs : s.TypeIs (.ref sl) "slice" := ⟨os, hos, hcs⟩
  unfold getItem
  try with_reducible refine wpAny_holding ?_
  first | refine wpAny_bind (wpAny_pure ?_) | skip
  refine wpAny_bind (wpAny_sequenceKey ht.typeIs (by decide) ?_)
  refine wpAny_bind (wpAny_callSpecial?_slot (name := Str.ofString "__getitem__") ht.typeIs PyProof.Rows.slot_tuple_getitem
    (wpAny_call_entry PyProof.Rows.slot_tuple_getitem ht.typeIs entry_tuple_getitem ?_ (args_tuple_getitem _ _)))
  show wpAny _ _ (Builtin.Tuple.tupleItemsOf (.ref t) >>= _) _ _ s
  refine wpAny_bind (tupleItemsOf_ ht ?_)
  refine wpAny_bind (wpAny_typeOf hTs ?_)
  rw [if_pos (by decide)]
  refine wpAny_bind (sliceApplied_gen hs pl pu ?_)
  have hyes : (((sIx items.size 0 lo : Nat) : Int) == 0 && (1 : Int) == 1 && (sIx items.size items.size hi - sIx items.size 0 lo) == items.size) = true := by
    rw [hw.1, hw.2]
    simp
  show wpAny _ _ (if (((sIx items.size 0 lo : Nat) : Int) == 0 && (1 : Int) == 1 && (sIx items.size items.size hi - sIx items.size 0 lo) == items.size) = true then _ else _) _ _ s
  rw [if_pos hyes]
  refine wpAny_bind (m := Builtin.Tuple.tupleIsExact _) ?_
  unfold Builtin.Tuple.tupleIsExact
  refine wpAny_bind (wpAny_typeOf ht.typeIs (wpAny_pure ?_))
  rw [if_pos (by decide)]
  refine wpAny_bind (wpAny_rule ?_)
  first
    | exact wpAny_pure ⟨_, rfl, wpAny_pure h⟩
    | exact wpAny_bind (wpAny_pure (wpAny_pure ⟨_, rfl, wpAny_pure h⟩))
    | exact wpAny_bind (wpAny_pure ⟨_, rfl, wpAny_pure h⟩)
end
end HT
namespace L2
open PySem PySem.Spec PyProof.Rows
section
variable {X : Cx}
/-- t[a:b], whatever it is -/
def rSlG : V → Option Int → Option Int → Hp → VK → Prop := fun x lo hi H Q => ∃ a xs, x = .ref a ∧ H a = some (.tup xs) ∧ ∀ q H', Same H H' → H' q = some (.tup (cutV xs lo hi)) → Q (.ref q) H'
theorem sl_tupG : SlR X rSlG := by
  intro pins s σ H x v vl vu lo hi sl Q I rx hs pl pu h
  obtain ⟨a, xs, rfl, hH, q⟩ := h
  by_cases hw : HT.sIx xs.length 0 lo = 0 ∧ HT.sIx xs.length xs.length hi = xs.length
  · cases rx
    obtain ⟨its, r, ht, hz⟩ := I.tuple (SqT.of hH)
    have hlen : its.toArray.size = xs.length := by rw [List.size_toArray]; exact r.length.symm
    refine ⟨"tuple", _, PyProof.Rows.slot_tuple_getitem.lookup, ht.typeIs, ?_⟩
    refine HT.getItem_tuple_all ht hs pl pu (by rw [hlen]; exact hw) ?_
    refine ⟨.ref a, H, I, rfl, q a H (Same.refl H) ?_⟩
    have e : cutV xs lo hi = xs := by
      unfold cutV
      rw [hw.1, hw.2, List.drop_zero, Nat.sub_zero, List.take_length]
    rw [e]
    exact hH
  · exact sl_tup pins s σ H _ v vl vu lo hi sl Q I rx hs pl pu ⟨a, xs, rfl, SqT.of hH, hw, fun p hp => q p _ (Same.new (Same.refl H) hp) upd_same⟩
/-- t + u, whatever they are -/
def rCatG : R2 := fun x y H Q => ∃ a b xs ys, x = .ref a ∧ y = .ref b ∧ H a = some (.tup xs) ∧ H b = some (.tup ys) ∧ xs.length + ys.length ≤ 1000 ∧ ∀ q H', Same H H' → H' q = some (.tup (xs ++ ys)) → Q (.ref q) H'
theorem op_catG : OpR X (binaryOp .Add) rCatG := by
  intro pins s σ H x y v u Q I rx ry h
  obtain ⟨a, b, xs, ys, rfl, rfl, ha, hb, hz, q⟩ := h
  have hz' : xs.length + ys.length ≤ sizeLine := Nat.le_trans hz (by decide)
  by_cases hx : xs = []
  · cases rx
    cases ry
    obtain ⟨its, r1, p1, _⟩ := I.tuple (SqT.of ha)
    obtain ⟨its2, r2, p2, _⟩ := I.tuple (SqT.of hb)
    obtain ⟨⟨cls, dd, data, sl⟩, ho, hc, n, hd⟩ := id p1
    obtain ⟨⟨cls2, dd2, data2, sl2⟩, ho2, hc2, n2, hd2⟩ := id p2
    simp only at hc hd hc2 hd2
    subst hc hd hc2 hd2
    have hv : its = [] := r1.nil_iff.mpr hx
    refine concat_meets ⟨_, ho, rfl⟩ ⟨_, ho2, rfl⟩ noFill_tuple_add seq_tuple_add PySem.F.slot_tuple_add PySem.F.entry_tuple_add (PySem.F.args_tuple_add_2 _ _)
      (tuple_addW0 a b its.toArray its2.toArray n n2 dd dd2 sl sl2 (by simp [hv])) ⟨ho, ho2, ?_⟩
    refine ⟨.ref b, H, I, rfl, q b H (Same.refl H) ?_⟩
    rw [hx, List.nil_append]
    exact hb
  · refine op_catT pins s σ H _ _ v u Q I rx ry ⟨a, b, xs, ys, rfl, rfl, SqT.of ha, SqT.of hb, hx, hz', fun e => ?_, fun _ p hp => q p _ (Same.new (Same.refl H) hp) upd_same⟩
    refine q a H (Same.refl H) ?_
    rw [e, List.append_nil]
    exact ha
end
end L2
namespace PySem
open Sem (wp)
open Builtin
open AutoSeq1 (wpAny_loadPart')
theorem tuple_mulW0 (l : Addr) (items : Array Value) (n : Nat) (dd : Option Addr) (sl : Array (Option Value)) (u : Tok) (c2 : (items.isEmpty || (0 : Int) == 1) = false) :
    Meets (Builtin.«tuple.__mul__» ⟨[.ref l, .int 0 u], []⟩) (fun _ R s => s.heap.get? l = some { cls := .type "tuple", dict := dd, data := .seq items n, slots := sl } ∧ R (.ok (.ret (Value.ref s.heap.objs.size))) { s with heap := s.heap.push { cls := Value.type "tuple", data := Data.seq #[] }, toks := s.toks }) :=
  .of_wp fun prog w A R s h => by
    obtain ⟨hp, g, d, tk, os⟩ := s; obtain ⟨hl, h⟩ := h
    have f1 := AutoSeq1.idx_int
    wp_walk using wpAny_loadPart' hl
    first
      | exact ⟨_, rfl, h⟩
      | (refine wpAny_ite_false (decide_eq_false (by rw [c2]; exact Bool.false_ne_true)) ?_
         wp_walk using wpAny_loadPart' hl
         exact ⟨_, rfl, h⟩)
end PySem
namespace L2
open PySem PySem.Spec PyProof.Rows
section
variable {X : Cx}
/-- (v,) times 0 or 1 -/
def rRepB : R2 := fun x y H Q => ∃ a k v, x = .ref a ∧ y = .int k ∧ H a = some (.tup [v]) ∧ (k = 0 ∨ k = 1) ∧ (k = 1 → Q (.ref a) H) ∧ (k = 0 → ∀ p, H p = none → Q (.ref p) (upd H p (.tup [])))
theorem op_repB : OpR X (binaryOp .Mult) rRepB := by
  intro pins s σ H x y v u Q I rx ry h
  obtain ⟨a, k, v0, rfl, rfl, hH, hk, q1, q0⟩ := h
  rcases hk with rfl | rfl
  · cases rx
    obtain ⟨t, rfl⟩ := ry
    obtain ⟨z, its, rv, ⟨cls, dd, data, sl⟩, e, c, n, d⟩ := I.hok a _ hH
    simp only at c d
    subst c d
    have hits : its ≠ [] := fun z => by have := rv.nil_iff.mp z; cases this
    refine wpAny_binaryOp_repeat_ref (T := "tuple") (U := "int") (by decide) ⟨_, e, rfl⟩ (fun s' => typeIs_int s' 0 t) noFill_tuple_mul F.fills_int_mul F.slot_int_rmul repeat_tuple F.slot_int_index.lookup
      (call_meets F.slot_int_rmul (typeIs_int s 0 t) F.entry_int_rmul (F.args_int_rmul_2 _ _) (rmulW 0 t a its.toArray n dd sl)
        ⟨e, rfl, ⟨_, e, rfl⟩, call_meets F.slot_tuple_mul ⟨_, e, rfl⟩ F.entry_tuple_mul (F.args_tuple_mul_2 _ _) (tuple_mulW0 a its.toArray n dd sl t (by simp [hits])) ⟨e, ?_⟩⟩)
    refine ⟨.ref s.heap.objs.size, _, I.laid (t' := s.toks) (o := .tup []) (fun b ob q => Heap.get?_push_of_some _ q) (Nat.le_refl _) ?_, rfl, q0 rfl _ (I.hok.fresh (Nat.le_refl _))⟩
    exact ⟨Nat.zero_le _, [], .nil, IsTup.new _ _⟩
  · exact op_repT pins s σ H _ _ v u Q I rx ry ⟨a, 1, [v0], rfl, rfl, hH, by simp, by decide, by decide, by simp, fun _ => q1 rfl, fun h => absurd rfl h⟩
end
end L2

set_option Elab.async false
set_option linter.all false
set_option maxRecDepth 100000
namespace L2
open PySem PySem.Spec PyProof.Rows
theorem Same.none {H H' : Hp} {a : Addr} (k : Same H H') (h : H' a = .none) : H a = .none := by
  cases e : H a with
  | none => rfl
  | some o => rw [k _ _ e] at h; cases h
section
variable {X : Cx}
/-- (v,) times n, n from 0 on -/
def rRepG : R2 := fun x y H Q => ∃ (a : Addr) (k : Nat) (v : V), x = .ref a ∧ y = .int (k : Int) ∧ H a = some (.tup [v]) ∧ k ≤ 1000 ∧ ∀ q H', Same H H' → H' q = some (.tup (List.replicate k v)) → Q (.ref q) H'
theorem flat_rep {α : Type} (k : Nat) (v : α) : (List.replicate k [v]).flatten = List.replicate k v := by
  induction k with
  | zero => rfl
  | succ k ih => rw [List.replicate_succ, List.flatten_cons, ih, List.replicate_succ]; rfl
theorem op_repG : OpR X (binaryOp .Mult) rRepG := by
  intro pins s σ H x y v u Q I rx ry h
  obtain ⟨a, k, v0, rfl, rfl, hH, hk, q⟩ := h
  by_cases h0 : k = 0
  · subst h0
    exact op_repB pins s σ H _ _ v u Q I rx ry ⟨a, _, v0, rfl, rfl, hH, .inl rfl, fun z => absurd z (by decide), fun _ p hp => q p _ (Same.new (Same.refl H) hp) upd_same⟩
  · refine op_repT pins s σ H _ _ v u Q I rx ry ⟨a, _, [v0], rfl, rfl, hH, by simp, by omega, by omega, by rw [Int.toNat_natCast]; simp; omega, fun h1 => ?_, fun _ p hp => ?_⟩
    · have : k = 1 := by omega
      subst this
      exact q a H (Same.refl H) hH
    · rw [Int.toNat_natCast, flat_rep]
      exact q p _ (Same.new (Same.refl H) hp) upd_same
/-- len of a tuple, in a block too -/
def rLnT : List V → Hp → VK → Prop := fun xs H Q => ∃ (p : Addr) (ys : List V), xs = [.ref p] ∧ H p = some (.tup ys) ∧ Q (.int ys.length) H
theorem call_lnT : CallR X (.builtin "len") rLnT := fun pins s σ H xs us Q I r h => call_len_seq pins s σ H xs us Q I r (let ⟨p, ys, e, hp, q⟩ := h; ⟨p, ys, e, .inr (SqT.of hp), q⟩)
def rLnL : List V → Hp → VK → Prop := fun xs H Q => ∃ (p : Addr) (ys : List V), xs = [.ref p] ∧ H p = some (.lst ys) ∧ Q (.int ys.length) H
theorem call_lnL : CallR X (.builtin "len") rLnL := fun pins s σ H xs us Q I r h => call_len_seq pins s σ H xs us Q I r (let ⟨p, ys, e, hp, q⟩ := h; ⟨p, ys, e, .inl (SqL.of hp), q⟩)
/-- tuple of a list, in a block too -/
def rTupL : List V → Hp → VK → Prop := fun xs H Q => ∃ (p : Addr) (ys : List V), xs = [.ref p] ∧ H p = some (.lst ys) ∧ ∀ q H', Same H H' → H' q = some (.tup ys) → Q (.ref q) H'
end
end L2
namespace G2
open PySem L2
/-! ### rows of forms -/
def Fms (H : Hp) : List Addr → List Fm → Prop
  | [], [] => True
  | q :: qs, f :: fs => FmAt H q f ∧ Fms H qs fs
  | _, _ => False
theorem Fms.tk {H H' : Hp} (k : TK H H') : ∀ {qs : List Addr} {fs : List Fm}, Fms H qs fs → Fms H' qs fs
  | [], [], _ => trivial
  | q :: qs, f :: fs, h => ⟨h.1.tk k, Fms.tk k h.2⟩
  | [], _ :: _, h => h.elim
  | _ :: _, [], h => h.elim
theorem Fms.len {H : Hp} : ∀ {qs : List Addr} {fs : List Fm}, Fms H qs fs → qs.length = fs.length
  | [], [], _ => rfl
  | q :: qs, f :: fs, h => by rw [List.length_cons, List.length_cons, Fms.len h.2]
  | [], _ :: _, h => h.elim
  | _ :: _, [], h => h.elim
theorem Fms.app {H : Hp} {ps : List Addr} {gs : List Fm} (h' : Fms H ps gs) : ∀ {qs : List Addr} {fs : List Fm}, Fms H qs fs → Fms H (qs ++ ps) (fs ++ gs)
  | [], [], _ => h'
  | q :: qs, f :: fs, h => ⟨h.1, Fms.app h' h.2⟩
  | [], _ :: _, h => h.elim
  | _ :: _, [], h => h.elim
theorem Fms.rd {H : Hp} : ∀ {qs : List Addr} {fs : List Fm}, Fms H qs fs → RdVs H (qs.map V.ref) (fs.map fmD)
  | [], [], _ => .nil
  | q :: qs, f :: fs, h => .cons (fm_rd h.1) (Fms.rd h.2)
  | [], _ :: _, h => h.elim
  | _ :: _, [], h => h.elim
theorem Fms.one {H : Hp} {q : Addr} {f : Fm} (h : FmAt H q f) : Fms H [q] [f] := ⟨h, trivial⟩
theorem Fms.two {H : Hp} {q r : Addr} {f g : Fm} (h : FmAt H q f) (h' : FmAt H r g) : Fms H [q, r] [f, g] := ⟨h, h', trivial⟩
/-! ### what may be shown -/
theorem all_shw {n h : Nat} : ∀ ds : List PyData, (∀ d ∈ ds, Shw d n h) → PyData.showableAll ds = true ∧ PyData.hasDictAll ds = false ∧ PyData.depthAll ds ≤ h ∧ ((PyData.shownAll ds).map (·.length)).sum ≤ n * ds.length ∧ (PyData.shownAll ds).length = ds.length
  | [], _ => ⟨rfl, rfl, Nat.zero_le _, Nat.zero_le _, rfl⟩
  | d :: ds, k => by
    obtain ⟨h1, h2, h3, h4, h5⟩ := all_shw ds fun x hx => k x (List.mem_cons_of_mem _ hx)
    have e := k d List.mem_cons_self
    have e3 := e.p
    have e4 := e.l
    refine ⟨?_, ?_, ?_, ?_, ?_⟩
    · simp only [PyData.showableAll, e.s, h1, Bool.and_self]
    · simp only [PyData.hasDictAll, e.nd, h2, Bool.or_self]
    · simp only [PyData.depthAll]
      omega
    · simp only [PyData.shownAll, List.map_cons, List.sum_cons, List.length_cons, Nat.mul_succ]
      omega
    · simp only [PyData.shownAll, List.length_cons, h5]
theorem Shw.tups {n h : Nat} {ds : List PyData} (k : ∀ d ∈ ds, Shw d n h) : Shw (.tuple ds) ((n + 2) * ds.length + 3) (h + 1) := by
  obtain ⟨h1, h2, h3, h4, h5⟩ := all_shw ds k
  refine ⟨by simp only [PyData.showable]; exact h1, by simp only [PyData.hasDict]; exact h2, ?_, ?_⟩
  · show PyData.depthAll _ + 1 ≤ h + 1
    omega
  · have := len_tup ds
    rw [Nat.add_mul]
    omega
/-- a value reads as one thing, as long as tuples stay; it may be shown -/
def Rs (H : Hp) (v : V) (n h : Nat) : Prop := ∃ d, (∀ H', TK H H' → RdV H' v d) ∧ Shw d n h
theorem Rs.up {H : Hp} {v : V} {n h m i : Nat} (r : Rs H v n h) (h1 : n ≤ m) (h2 : h ≤ i) : Rs H v m i := let ⟨d, a, b⟩ := r; ⟨d, a, b.up h1 h2⟩
theorem Rs.big {H : Hp} {i : Int} (h : Bg i) : Rs H (.int i) 91 0 := ⟨_, fun _ _ => .int i, Shw.big h⟩
theorem Rs.int {H : Hp} {i : Int} (h : Sm i) : Rs H (.int i) 16 0 := ⟨_, fun _ _ => .int i, Shw.int h⟩
theorem Rs.all {H : Hp} {n h : Nat} : ∀ {vs : List V}, (∀ v ∈ vs, Rs H v n h) → ∃ ds : List PyData, ds.length = vs.length ∧ (∀ H', TK H H' → RdVs H' vs ds) ∧ ∀ d ∈ ds, Shw d n h
  | [], _ => ⟨[], rfl, fun _ _ => .nil, fun d hd => by cases hd⟩
  | v :: vs, k => by
    obtain ⟨ds, h1, h2, h3⟩ := Rs.all fun x hx => k x (List.mem_cons_of_mem _ hx)
    obtain ⟨d, a, b⟩ := k v List.mem_cons_self
    refine ⟨d :: ds, by rw [List.length_cons, List.length_cons, h1], fun H' t => .cons (a H' t) (h2 H' t), fun x hx => ?_⟩
    rcases List.mem_cons.mp hx with rfl | hx
    · exact b
    · exact h3 x hx
theorem Rs.tup {H : Hp} {n h : Nat} {p : Addr} {vs : List V} (e : H p = some (.tup vs)) (k : ∀ v ∈ vs, Rs H v n h) : Rs H (.ref p) ((n + 2) * vs.length + 3) (h + 1) := by
  obtain ⟨ds, h1, h2, h3⟩ := Rs.all k
  refine ⟨.tuple ds, fun H' t => .tup (t.t _ _ e) (h2 H' t), ?_⟩
  rw [← h1]
  exact Shw.tups h3
theorem Rs.tk {H H' : Hp} {v : V} {n h : Nat} (t : TK H H') (r : Rs H v n h) : Rs H' v n h := let ⟨d, a, b⟩ := r; ⟨d, fun H2 t2 => a H2 (t.trans t2), b⟩
section
variable {D : Addr} {te : TE} {tc : TT} {Q : VK} {ρ : St} {H : Hp} {K : PySem.W.Frag} {a b : Addr}
end
end G2

set_option Elab.async false
set_option linter.all false
set_option maxRecDepth 100000
namespace L2
open PySem PySem.Spec PyProof.Rows

/-! ### lists of pairs as tables -/
section
variable {κ : Type} [DecidableEq κ]
def valV (kvs : List (κ × V)) (k : κ) : Option V := (kvs.find? fun kv => decide (kv.1 = k)).map (·.2)
/-- in its place, or at the end -/
def putK (kvs : List (κ × V)) (k : κ) (v : V) : List (κ × V) :=
  if (kvs.any fun kv => decide (kv.1 = k)) = true then kvs.map (fun kv => if kv.1 = k then (kv.1, v) else kv) else kvs ++ [(k, v)]
def dropK (kvs : List (κ × V)) (k : κ) : List (κ × V) := kvs.filter fun kv => decide (kv.1 ≠ k)

theorem valV_pos {p : κ × V} {r : List (κ × V)} {k : κ} (e : p.1 = k) : valV (p :: r) k = some p.2 := by simp [valV, List.find?_cons, e]
theorem valV_neg {p : κ × V} {r : List (κ × V)} {k : κ} (e : ¬ p.1 = k) : valV (p :: r) k = valV r k := by simp [valV, List.find?_cons, e]
theorem valV_any (k : κ) : ∀ kvs : List (κ × V), (kvs.any fun kv => decide (kv.1 = k)) = (valV kvs k).isSome
  | [] => rfl
  | p :: r => by
    rw [List.any_cons]
    by_cases e : p.1 = k
    · simp only [valV_pos e, decide_eq_true e, Bool.true_or, Option.isSome_some]
    · rw [valV_neg e, decide_eq_false e, Bool.false_or]; exact valV_any k r

theorem RelO.isSome_eq {o : Option V} {u : Option Value} (r : RelO o u) : o.isSome = u.isSome := by
  cases o with
  | none => cases u with
    | none => rfl
    | some _ => exact (show False from r).elim
  | some _ => cases u with
    | none => exact (show False from r).elim
    | some _ => rfl
theorem RelO.getD {o : Option V} {u : Option Value} {d : V} {d' : Value} (r : RelO o u) (rd : RelV d d') : RelV (o.getD d) (u.getD d') := by
  cases o with
  | none => cases u with
    | none => exact rd
    | some _ => exact (show False from r).elim
  | some _ => cases u with
    | none => exact (show False from r).elim
    | some _ => exact r

/-- raw tables of the same keys -/
theorem KV.val {kvs : List (κ × V)} {vs : List (κ × Value)} (r : KV kvs vs) (k : κ) : RelO (valV kvs k) (valueAt vs k) := by
  unfold KV at r
  induction r with
  | nil => exact True.intro
  | @cons p q ps qs h t ih =>
    obtain ⟨h1, h2⟩ := h
    by_cases e : p.1 = k
    · have e' : q.1 = k := h1.symm.trans e
      have b : valueAt (q :: qs) k = some q.2 := by simp [valueAt, List.find?_cons, e']
      rw [valV_pos e, b]; exact h2
    · have e' : ¬ q.1 = k := fun z => e (h1.trans z)
      have b : valueAt (q :: qs) k = valueAt qs k := by simp [valueAt, List.find?_cons, e']
      rw [valV_neg e, b]; exact ih
theorem KV.any {kvs : List (κ × V)} {vs : List (κ × Value)} (r : KV kvs vs) (k : κ) : (kvs.any fun kv => decide (kv.1 = k)) = vs.any fun kv => decide (kv.1 = k) := by
  unfold KV at r
  induction r with
  | nil => rfl
  | cons h t ih => rw [List.any_cons, List.any_cons, ih, h.1]
theorem KV.repl {kvs : List (κ × V)} {vs : List (κ × Value)} (r : KV kvs vs) (k : κ) {y : V} {u : Value} (ry : RelV y u) :
    KV (kvs.map fun kv => if kv.1 = k then (kv.1, y) else kv) (vs.map fun kv => if kv.1 = k then (kv.1, u) else kv) := by
  unfold KV at r ⊢
  induction r with
  | nil => exact .nil
  | @cons p q ps qs h t ih =>
    rw [List.map_cons, List.map_cons]
    refine .cons ?_ ih
    obtain ⟨h1, h2⟩ := h
    by_cases e : p.1 = k
    · rw [if_pos e, if_pos (h1.symm.trans e)]; exact ⟨h1, ry⟩
    · rw [if_neg e, if_neg (fun z => e (h1.trans z))]; exact ⟨h1, h2⟩
theorem KV.put {kvs : List (κ × V)} {vs : List (κ × Value)} (r : KV kvs vs) (k : κ) {y : V} {u : Value} (ry : RelV y u) : KV (putK kvs k y) (stored vs k u) := by
  unfold putK stored
  rw [r.any k]
  by_cases e : (vs.any fun kv => decide (kv.1 = k)) = true
  · rw [if_pos e, if_pos e]; exact r.repl k ry
  · rw [if_neg e, if_neg e]; exact Paired.snoc r ⟨rfl, ry⟩
theorem KV.drop {kvs : List (κ × V)} {vs : List (κ × Value)} (r : KV kvs vs) (k : κ) : KV (dropK kvs k) (without vs k) := by
  unfold KV at r ⊢
  unfold dropK without
  induction r with
  | nil => exact .nil
  | @cons p q ps qs h t ih =>
    obtain ⟨h1, h2⟩ := h
    rw [List.filter_cons, List.filter_cons]
    by_cases e : p.1 = k
    · have a : ¬ decide (p.1 ≠ k) = true := by simp [e]
      have b : ¬ decide (q.1 ≠ k) = true := by simp [h1.symm.trans e]
      rw [if_neg a, if_neg b]; exact ih
    · have e' : ¬ q.1 = k := fun z => e (h1.trans z)
      have a : decide (p.1 ≠ k) = true := by simp [e]
      have b : decide (q.1 ≠ k) = true := by simp [e']
      rw [if_pos a, if_pos b]; exact .cons ⟨h1, h2⟩ ih
theorem KV.keys {kvs : List (κ × V)} {vs : List (κ × Value)} (r : KV kvs vs) : kvs.map (·.1) = vs.map (·.1) := by
  unfold KV at r
  induction r with
  | nil => rfl
  | cons h t ih => rw [List.map_cons, List.map_cons, ih, h.1]
theorem KV.length {kvs : List (κ × V)} {vs : List (κ × Value)} (r : KV kvs vs) : kvs.length = vs.length := Paired.length r
end


/-! ### a tracked dict, its keys ints and texts or tuples of these -/

/-- raw entries of a dict with tuple keys -/
abbrev KT (H : Hp) : List (List Key × V) → List (List Key × Addr × Value) → Prop := Paired fun p q => p.1 = q.1 ∧ H q.2.1 = some (.tup (p.1.map kV)) ∧ RelV p.2 q.2.2
theorem KT.val {H : Hp} {kvs : List (List Key × V)} {xs : List (List Key × Addr × Value)} (r : KT H kvs xs) (k : List Key) : RelO (valV kvs k) ((atKey xs k).map (·.2)) := by
  induction r with
  | nil => exact True.intro
  | @cons p q ps qs h t ih =>
    obtain ⟨h1, _, h2⟩ := h
    by_cases e : p.1 = k
    · have e' : q.1 = k := h1.symm.trans e
      have b : atKey (q :: qs) k = some q.2 := by simp [atKey, List.find?_cons, e']
      rw [valV_pos e, b]; exact h2
    · have e' : ¬ q.1 = k := fun z => e (h1.trans z)
      have b : atKey (q :: qs) k = atKey qs k := by simp [atKey, List.find?_cons, e']
      rw [valV_neg e, b]; exact ih
theorem KT.repl {H : Hp} {kvs : List (List Key × V)} {xs : List (List Key × Addr × Value)} (r : KT H kvs xs) (k : List Key) {y : V} {u : Value} (ry : RelV y u) :
    KT H (kvs.map fun kv => if kv.1 = k then (kv.1, y) else kv) (xs.map (putAt k u)) := by
  induction r with
  | nil => exact .nil
  | @cons p q ps qs h t ih =>
    rw [List.map_cons, List.map_cons]
    refine .cons ?_ ih
    obtain ⟨h1, h2, h3⟩ := h
    unfold putAt
    by_cases e : p.1 = k
    · rw [if_pos e, if_pos (h1.symm.trans e)]; exact ⟨h1, h2, ry⟩
    · rw [if_neg e, if_neg (fun z => e (h1.trans z))]; exact ⟨h1, h2, h3⟩
theorem KT.put {H : Hp} {kvs : List (List Key × V)} {xs : List (List Key × Addr × Value)} (r : KT H kvs xs) (k : List Key) {b : Addr} {y : V} {u : Value} (hb : H b = some (.tup (k.map kV))) (ry : RelV y u) :
    KT H (putK kvs k y) (storedH xs k b u) := by
  have e : (kvs.any fun kv => decide (kv.1 = k)) = (atKey xs k).isSome := by
    rw [valV_any, (r.val k).isSome_eq, Option.isSome_map]
  unfold putK storedH
  rw [e]
  by_cases q : (atKey xs k).isSome = true
  · rw [if_pos q, if_pos q]; exact r.repl k ry
  · rw [if_neg q, if_neg q]; exact Paired.snoc r ⟨rfl, hb, ry⟩
theorem KT.keeps {H H' : Hp} {kvs : List (List Key × V)} {xs : List (List Key × Addr × Value)} (r : KT H kvs xs) (ht : ∀ b ys, H b = some (.tup ys) → H' b = some (.tup ys)) : KT H' kvs xs :=
  Paired.mapP r fun _ _ z => ⟨z.1, ht _ _ z.2.1, z.2.2⟩

section
variable {P : Program} {w : World} {H : Hp} {h : Heap} {a : Addr}
theorem rd_of {u : HO} (ok : HOk P w H h) (e : Rd H a u) : ObjOk P w H h a u := e.ok ok
theorem dk_rd {kvs : List (Key × V)} (ok : HOk P w H h) (e : Rd H a (.dK kvs)) : kvs.length ≤ sizeLine ∧ (a == sysModules) = false ∧ ∃ vs, KV kvs vs ∧ h.DictOf (mixKind P w) a vs :=
  show ObjOk P w H h a (.dK kvs) from rd_of ok e
theorem dk_of {kvs : List (Key × V)} (ok : HOk P w H h) (e : H a = some (.dK kvs)) : kvs.length ≤ sizeLine ∧ (a == sysModules) = false ∧ ∃ vs, KV kvs vs ∧ h.DictOf (mixKind P w) a vs := dk_rd ok (.inl e)
end

/-- what the dict at a holds at the key y -/
def DGet (H : Hp) (a : Addr) (y : V) (r : Option V) : Prop :=
  (∃ kvs k, Rd H a (.dK kvs) ∧ y = kV k ∧ r = valV kvs k) ∨ ∃ kvs k b, Rd H a (.dT kvs) ∧ y = .ref b ∧ H b = some (.tup (k.map kV)) ∧ r = valV kvs k
/-- the heap behind a[y] = v -/
def DPut (H : Hp) (a : Addr) (y v : V) (H' : Hp) : Prop :=
  (∃ kvs k, H a = some (.dK kvs) ∧ y = kV k ∧ kvs.length < sizeLine ∧ H' = upd H a (.dK (putK kvs k v))) ∨
  ∃ kvs k b, H a = some (.dT kvs) ∧ y = .ref b ∧ H b = some (.tup (k.map kV)) ∧ kvs.length < sizeLine ∧ H' = upd H a (.dT (putK kvs k v))
theorem DGet.k {H : Hp} {a : Addr} {kvs : List (Key × V)} {k : Key} (e : H a = some (.dK kvs)) : DGet H a (kV k) (valV kvs k) := .inl ⟨kvs, k, .inl e, rfl, rfl⟩
theorem DGet.t {H : Hp} {a b : Addr} {kvs : List (List Key × V)} {k : List Key} (e : H a = some (.dT kvs)) (eb : H b = some (.tup (k.map kV))) : DGet H a (.ref b) (valV kvs k) := .inr ⟨kvs, k, b, .inl e, rfl, eb, rfl⟩
theorem DPut.k {H : Hp} {a : Addr} {kvs : List (Key × V)} {k : Key} {v : V} (e : H a = some (.dK kvs)) (hl : kvs.length < sizeLine) : DPut H a (kV k) v (upd H a (.dK (putK kvs k v))) := .inl ⟨kvs, k, e, rfl, hl, rfl⟩
theorem DPut.t {H : Hp} {a b : Addr} {kvs : List (List Key × V)} {k : List Key} {v : V} (e : H a = some (.dT kvs)) (eb : H b = some (.tup (k.map kV))) (hl : kvs.length < sizeLine) :
    DPut H a (.ref b) v (upd H a (.dT (putK kvs k v))) := .inr ⟨kvs, k, b, e, rfl, eb, hl, rfl⟩


section
variable {X : Cx} {pins : List (Addr × Obj)} {σ : St} {H : Hp} {s : Shared} {a : Addr} {y v : V} {u r : Value} {o : Option V} {A : Around} {E : Value → Shared → Prop}

theorem Inv.big (I : Inv X pins σ H s) : sysModules < s.heap.objs.size := by
  have h : mainGlobals < s.heap.objs.size := (I.mod.glob.keeps I.bk).lt
  exact Nat.lt_trans (by decide) h

end

section
variable {X : Cx} {pins : List (Addr × Obj)} {σ : St} {H : Hp} {s : Shared} {a : Addr} {kvs : List (Key × V)} {k : Key} {u : Value} {A : Around} {E : Value → Shared → Prop}
end


/-! ### readings and rules -/
/-- the element of a subscription, not a slice -/
def NoSl (i : Expr) : Prop := ∀ ov iv, subscripted i false ov iv = operate [ov, iv] (getItem ov iv)


/-- d[y] -/
def tDGet (td ty : TE) : TE := fun σ H Q => td σ H fun x H1 => ty σ H1 fun y H2 => ∃ a v, x = .ref a ∧ DGet H2 a y (some v) ∧ Q v H2
/-- y in d, y not in d -/
def tDIn (ty td : TE) : TE := fun σ H Q => ty σ H fun y H1 => td σ H1 fun x H2 => ∃ a o, x = .ref a ∧ DGet H2 a y o ∧ Q (.bl o.isSome) H2
def tDNotIn (ty td : TE) : TE := fun σ H Q => ty σ H fun y H1 => td σ H1 fun x H2 => ∃ a o, x = .ref a ∧ DGet H2 a y o ∧ Q (.bl (!o.isSome)) H2
/-- d[y] = v -/
def sDPut (td ty tv : TE) : TS := fun D σ H => tv σ H fun v H1 => td σ H1 fun x H2 => ty σ H2 fun y H3 => ∃ a H4, x = .ref a ∧ DPut H3 a y v H4 ∧ D.nx σ H4
/-- d[y] op= v -/
def sDAug (td ty tv : TE) (rd : V → V → Hp → VK → Prop) : TS := fun D σ H => td σ H fun x H1 => ty σ H1 fun y H2 => ∃ a v, x = .ref a ∧ DGet H2 a y (some v) ∧
  tv σ H2 fun y2 H3 => rd v y2 H3 fun z H4 => ∃ H5, DPut H4 a y z H5 ∧ D.nx σ H5
/-- del d[y] -/
def sDDel (td ty : TE) : TS := fun D σ H => td σ H fun x H1 => ty σ H1 fun y H2 => ∃ a kvs k, x = .ref a ∧ H2 a = some (.dK kvs) ∧ y = kV k ∧ (valV kvs k).isSome = true ∧ D.nx σ (upd H2 a (.dK (dropK kvs k)))

section
variable {X : Cx} {o i e value : Expr} {pos pos' tpos : Pos} {td ty tv : TE}
end


/-! ### displays -/
theorem dk_empty {P : Program} {w : World} {H : Hp} (h : Heap) (hb : sysModules < h.objs.size) : ObjOk P w H (h.push { cls := .type "dict", data := .dict #[] }) h.objs.size (.dK []) :=
  ⟨Nat.zero_le _, beq_eq_false_iff_ne.mpr (Ne.symm (Nat.ne_of_lt hb)), [], .nil, Heap.DictOf.new h⟩
/-- {}, to be a dict of the kind that is wanted -/
def tDNewK : TE := fun _ H Q => ∀ p, H p = none → Q (.ref p) (upd H p (.dK []))
def tDNewT : TE := fun _ H Q => ∀ p, H p = none → Q (.ref p) (upd H p (.dT []))
section
variable {X : Cx} {pos : Pos}
theorem pe_dnewK : PE X (.Dict [] [] pos) tDNewK := fun pins s σ H Q I h =>
  wpAny_Dict_empty ⟨.ref s.heap.objs.size, _, I.laid (a := s.heap.objs.size) (o := .dK []) (t' := s.toks) (fun _ _ q => Heap.get?_push_of_some _ q) (Nat.le_refl _) (dk_empty s.heap I.big), rfl, h _ (I.hok.fresh (Nat.le_refl _))⟩
end

/-- the pairs of a display, from the left -/
def tPairs : List (TE × TE) → St → Hp → (List (V × V) → Hp → Prop) → Prop
  | [], _, H, Q => Q [] H
  | (tk, tv) :: r, σ, H, Q => tk σ H fun x H1 => tv σ H1 fun y H2 => tPairs r σ H2 fun ps H3 => Q ((x, y) :: ps) H3
abbrev VV : List (V × V) → List (Value × Value) → Prop := Paired fun p q => RelV p.1 q.1 ∧ RelV p.2 q.2
def PPs (X : Cx) (pos : Pos) (keys : List (Option Expr)) (values : List Expr) (trs : List (TE × TE)) : Prop :=
  ∀ (pins : List (Addr × Obj)) (s : Shared) (σ : St) (H : Hp) (Q : List (V × V) → Hp → Prop), Inv X pins σ H s → tPairs trs σ H Q →
    wpAny (model X.prog X.w) X.A (evalPairs (pairTrees keys values X.env pos)) (fun vs s' => ∃ ps H', Inv X pins σ H' s' ∧ VV ps vs ∧ Q ps H') X.xe s

def mergeK (kvs more : List (Key × V)) : List (Key × V) := more.foldl (fun acc kv => putK acc kv.1 kv.2) kvs
/-- {k: v, ..} with keys ints and texts; the new dict stands empty while the pairs are made -/
def tDisp (trs : List (TE × TE)) : TE := fun σ H Q => ∀ p, H p = none → tPairs trs σ (upd H p (.dK [])) fun ps H2 => H2 p = some (.dK []) ∧ ∃ kvs : List (Key × V), ps = kvs.map (fun kv => (kV kv.1, kv.2)) ∧ kvs.length ≤ 15 ∧ Q (.ref p) (upd H2 p (.dK (mergeK [] kvs)))


/-! ### methods -/
/-- a method call o.m(e) of a built-in, with one argument: what must be seen of the text -/
structure M1 (X : Cx) (o : Expr) (m : Str) (apos : Pos) (e : Expr) (cpos : Pos) : Prop where
  base : attributeBase o m X.env (eval o X.env) = eval o X.env
  few : ((backTo cpos (starEach [e] X.env)).all (fun x => !x.1) && (backToKw cpos (keywordEach [] X.env)).all (fun x => x.1.isSome)
    && decide (([e] : List Expr).length + ([] : List Keyword).length + (if ([] : List Keyword).isEmpty then 0 else 1) < 30)) = true
  line : (apos.endLine == cpos.line) = true
  trees : backTo cpos (starEach [e] X.env) = [(false, eval e X.env)]
structure M2 (X : Cx) (o : Expr) (m : Str) (apos : Pos) (e f : Expr) (cpos : Pos) : Prop where
  base : attributeBase o m X.env (eval o X.env) = eval o X.env
  few : ((backTo cpos (starEach [e, f] X.env)).all (fun x => !x.1) && (backToKw cpos (keywordEach [] X.env)).all (fun x => x.1.isSome)
    && decide (([e, f] : List Expr).length + ([] : List Keyword).length + (if ([] : List Keyword).isEmpty then 0 else 1) < 30)) = true
  line : (apos.endLine == cpos.line) = true
  trees : backTo cpos (starEach [e, f] X.env) = [(false, eval e X.env), (false, eval f X.env)]

/-- a is a dict, whatever its keys -/
def IsD (H : Hp) (a : Addr) : Prop := (∃ kvs, Rd H a (.dK kvs)) ∨ ∃ kvs, Rd H a (.dT kvs)

section
variable {X : Cx} {pins : List (Addr × Obj)} {σ : St} {H : Hp} {s : Shared} {a : Addr} {y d : V} {u r : Value} {o : Option V} {A : Around} {E : Value → Shared → Prop}
end

def tDGet1 (td ty : TE) : TE := fun σ H Q => td σ H fun x H1 => ∃ a, x = .ref a ∧ IsD H1 a ∧ ty σ H1 fun y H2 => ∃ o, DGet H2 a y o ∧ Q (o.getD .non) H2
def tDGet2 (td ty tx : TE) : TE := fun σ H Q => td σ H fun x H1 => ∃ a, x = .ref a ∧ IsD H1 a ∧ ty σ H1 fun y H2 => tx σ H2 fun z H3 => ∃ o, DGet H3 a y o ∧ Q (o.getD z) H3
/-- d.pop(k): there; d.pop(k, x): there or not -/
def tDPop1 (td ty : TE) : TE := fun σ H Q => td σ H fun x H1 => ∃ a, x = .ref a ∧ IsD H1 a ∧ ty σ H1 fun y H2 => ∃ kvs k v, H2 a = some (.dK kvs) ∧ y = kV k ∧ valV kvs k = some v ∧ Q v (upd H2 a (.dK (dropK kvs k)))
def tDPop2 (td ty tx : TE) : TE := fun σ H Q => td σ H fun x H1 => ∃ a, x = .ref a ∧ IsD H1 a ∧ ty σ H1 fun y H2 => tx σ H2 fun z H3 => ∃ kvs k, H3 a = some (.dK kvs) ∧ y = kV k ∧
  (∀ v, valV kvs k = some v → Q v (upd H3 a (.dK (dropK kvs k)))) ∧ (valV kvs k = none → Q z H3)
section
variable {X : Cx} {o e f : Expr} {apos cpos : Pos} {td ty tx : TE}
end

/-! ### dict(d): a copy -/
section
variable {X : Cx} {pins : List (Addr × Obj)} {σ : St} {H : Hp} {s : Shared} {a : Addr} {kvs : List (Key × V)} {A : Around} {E : Value → Shared → Prop}
end


section
variable {X : Cx} {pins : List (Addr × Obj)} {σ : St} {H : Hp} {s : Shared} {a : Addr} {y : V} {u : Value} {A : Around} {E : Value → Shared → Prop}
end
end L2

set_option Elab.async false
set_option linter.all false
set_option maxRecDepth 100000
namespace L2
open PySem PySem.Spec PyProof.Rows
section
variable {X : Cx} {pins : List (Addr × Obj)} {σ : St} {H : Hp} {s : Shared} {a o : Addr} {kvs more : List (Key × V)} {A : Around} {E : Value → Shared → Prop}
end
/-- d.update(e) -/
def tDUpd (td ty : TE) : TE := fun σ H Q => td σ H fun x H1 => ∃ a, x = .ref a ∧ IsD H1 a ∧ ty σ H1 fun y H2 => ∃ o kvs more, y = .ref o ∧ H2 a = some (.dK kvs) ∧ H2 o = some (.dK more) ∧ a ≠ o ∧ kvs.length + more.length ≤ 1000 ∧ Q .non (upd H2 a (.dK (mergeK kvs more)))
end L2

set_option Elab.async false
set_option linter.all false
set_option maxRecDepth 100000
namespace L2
open PySem PySem.Spec PyProof.Rows
section
variable {X : Cx} {k : Nat}
/-- xs == [], whatever stands in xs -/
def rEqE : R2 := fun x y H Q => ∃ (a z : Addr) (xs : List V), x = .ref a ∧ y = .ref z ∧ H a = some (.lst xs) ∧ H z = some (.lst []) ∧ Q (.bl xs.isEmpty) H
theorem op_eqE (hr : Room k X.A) : OpR X (compareOp .Eq) rEqE := by
  intro pins s σ H x y v u Q I rx ry h
  obtain ⟨a, z, xs, rfl, rfl, ha, hz, q⟩ := h
  cases rx
  cases ry
  have hu := hr.units
  obtain ⟨its, r, pl, _⟩ := I.list (SqL.of ha)
  obtain ⟨its2, r2, pl2, _⟩ := I.list (SqL.of hz)
  have e2 : its2 = [] := r2.nil_iff.mpr rfl
  subst e2
  cases xs with
  | nil =>
    have e1 : its = [] := r.nil_iff.mpr rfl
    subst e1
    have R := SeqAt.RcAt.lists (A := X.A) (e := fun _ => true) pl.isList pl2.isList rfl (by omega) (fun j h1 h2 => absurd h1 (by simp))
    exact R X.prog X.w X.xe _ ⟨.bl _, H, I, rfl, q⟩
  | cons y ys =>
    have hne : its ≠ [] := fun e => by have := r.nil_iff.mp e; cases this
    have R := SeqAt.RcAt.lists_lengths (A := X.A) pl.isList pl2.isList (by simp [hne]) (by omega)
    exact R X.prog X.w X.xe _ ⟨.bl _, H, I, rfl, q⟩
def rNeE : R2 := fun x y H Q => ∃ (a z : Addr) (xs : List V), x = .ref a ∧ y = .ref z ∧ H a = some (.lst xs) ∧ H z = some (.lst []) ∧ Q (.bl (!xs.isEmpty)) H
/-- dict(d) -/
def rDictC : List V → Hp → VK → Prop := fun xs H Q => ∃ (a : Addr) (kvs : List (Key × V)), xs = [.ref a] ∧ H a = some (.dK kvs) ∧ ∀ p, H p = none → Q (.ref p) (upd H p (.dK kvs))
end
end L2

set_option Elab.async false
set_option linter.all false
set_option maxRecDepth 100000
namespace PySem.SeqAt
open PySem.MeetsSeq PySem PySem.Spec
theorem dict_says_no (l : Addr) (es : Array DictEntry) (n : Nat) (dd : Option Addr) (sl : Array (Option Value)) (b : Str) (u : Tok) :
    Meets (Builtin.«dict.__eq__» ⟨[.ref l, .str b u], []⟩) (fun _ R s => s.heap.get? l = some { cls := .type "dict", dict := dd, data := .dict es n, slots := sl } ∧ R (.ok (.ret .notImplemented)) s) :=
  .of_wp fun prog w A R s h => by
    obtain ⟨hp, g, d, tk, os⟩ := s
    obtain ⟨hl, h⟩ := h
    have f1 : isSubtype (.type "str") (.type "dict") = pure false := by rw [isSubtype_type]; kernel_rfl
    have f2 : isSubtype (.type "dict") (.type "dict") = pure true := by rw [isSubtype_type]; kernel_rfl
    wp_walk using wpAny_loadPart' hl, wpAny_load hl
    exact ⟨_, rfl, h⟩
theorem text_says_no (b : Str) (u : Tok) (l : Addr) (es : Array DictEntry) (n : Nat) (dd : Option Addr) (sl : Array (Option Value)) :
    Meets (Builtin.«str.__eq__» ⟨[.str b u, .ref l], []⟩) (fun _ R s => s.heap.get? l = some { cls := .type "dict", dict := dd, data := .dict es n, slots := sl } ∧ R (.ok (.ret .notImplemented)) s) :=
  .of_wp fun prog w A R s h => by
    obtain ⟨hp, g, d, tk, os⟩ := s
    obtain ⟨hl, h⟩ := h
    wp_walk using wpAny_loadPart' hl, wpAny_load hl
    exact ⟨_, rfl, h⟩
section
variable {A : Around} {s : Shared}
theorem RcAt.text_dict {l : Addr} {o : Obj} {es : Array DictEntry} {n : Nat} (b : Str) (u : Tok) (ho : s.heap.get? l = some o) (hx : o.ExactDict) (hd : o.data = .dict es n) (hu : A.units < cLine) : RcAt A s (.str b u) (.ref l) false := fun prog w E Q h => by
  obtain ⟨cls, dd, data, sl⟩ := o
  have hc := hx.1
  simp only at hc hd
  subst hc hd
  exact rc_eq_decline_or (k := false) (typeIs_str s b u) ⟨_, ho, rfl⟩ (by decide) (by rw [isSubtype_type]; kernel_rfl) F.slot_str_eq F.slot_dict_eq_refl
    (fun _ hq => call_meets F.slot_str_eq (typeIs_str s b u) F.entry_str_eq (F.args_str_eq_2 _ _) (text_says_no b u l es n dd sl) ⟨ho, hq⟩)
    (fun _ hq => call_meets F.slot_dict_eq_refl ⟨_, ho, rfl⟩ F.entry_dict_eq (F.args_dict_eq_2 _ _) (dict_says_no l es n dd sl b u) ⟨ho, hq⟩)
    (fun _ hq => wpAny_of_eq (rfl : isSame (.str b u) (.ref l) = pure false) hq) (.inr hu) h
theorem EqAt.text_dict {l : Addr} {o : Obj} {es : Array DictEntry} {n : Nat} (b : Str) (u : Tok) (ho : s.heap.get? l = some o) (hx : o.ExactDict) (hd : o.data = .dict es n) (hu : A.units < cLine) : EqAt A s (.str b u) (.ref l) false := fun prog w E Q h => by
  unfold eqBool
  refine wpAny_holding ?_
  refine wpAny_ite_split (fun hab => absurd (eq_of_beq hab) nofun) (fun _ => ?_)
  exact wpAny_bind (RcAt.text_dict b u ho hx hd hu prog w E _ (wpAny_truthy_bool h))
end
end PySem.SeqAt
namespace HT
open PySem PySem.Spec PyProof.Rows
section
variable {prog : Program} {w : World} {A : Around} {E : Value → Shared → Prop} {s : Shared}
theorem adjust_rev (n : Nat) : Builtin.Slice.sliceAdjust none none (-1) (n : Int) = ((n : Int) - 1, -1) := by
  unfold Builtin.Slice.sliceAdjust
  simp
theorem places_rev (n : Nat) : Builtin.Slice.slicePlaces ((n : Int) - 1) (-1) (-1) = n := by
  unfold Builtin.Slice.slicePlaces
  have h1 : ¬ ((-1 : Int) > 0) := by omega
  simp only [h1, if_false]
  rcases Nat.eq_zero_or_pos n with h | h
  · subst h
    rfl
  · have e : -(-1 : Int) = 1 := rfl
    simp only [e, Int.ediv_one]
    split <;> omega
theorem pick_rev (xs : Array Value) : ((List.range xs.size).filterMap fun (m : Nat) => xs[((xs.size : Int) - 1 + (m : Int) * (-1)).toNat]?) = xs.toList.reverse := by
  have e := PySem.W.krv_pick xs
  unfold slicePick at e
  rw [PySem.W.krv_bounds] at e
  have e2 : ((sliceRange ((xs.size : Int) - 1) (-1) (-1)).filterMap (xs[·]?)) = xs.toList.reverse := by
    have := congrArg Array.toList e
    simpa using this
  rw [PySem.W.krv_sliceRange, List.filterMap_map] at e2
  rw [← e2]
  apply congrFun
  apply congrArg
  funext m
  show xs[((xs.size : Int) - 1 + (m : Int) * (-1)).toNat]? = xs[xs.size - 1 - m]?
  congr 1
  omega
theorem getItem_tuple_rev {t sl : Addr} {items : Array Value} {tk : Tok} {Q : Value → Shared → Prop} (ht : IsTup s.heap t items) (hs : s.heap.IsSliceOf sl .none .none (.int (-1) tk))
    (h : Q (.ref s.heap.objs.size) { s with heap := s.heap.push { cls := .type "tuple", data := .seq items.toList.reverse.toArray } }) (hsz : items.size ≤ sizeLine) : wpAny (model prog w) A (getItem (.ref t) (.ref sl)) Q E s := by
  have hz : sizeOk (.seq items.toList.reverse.toArray) := by
    show items.toList.reverse.toArray.size ≤ sizeLine
    simpa using hsz
  obtain ⟨os, hos, hcs, hds⟩ := id hs
  have hTs : s.TypeIs (.ref sl) "slice" := ⟨os, hos, hcs⟩
  unfold getItem
  try with_reducible refine wpAny_holding ?_
  first | refine wpAny_bind (wpAny_pure ?_) | skip
  refine wpAny_bind (wpAny_sequenceKey ht.typeIs (by decide) ?_)
  refine wpAny_bind (wpAny_callSpecial?_slot (name := Str.ofString "__getitem__") ht.typeIs PyProof.Rows.slot_tuple_getitem (wpAny_call_entry PyProof.Rows.slot_tuple_getitem ht.typeIs entry_tuple_getitem ?_ (args_tuple_getitem _ _)))
  show wpAny _ _ (Builtin.Tuple.tupleItemsOf (.ref t) >>= _) _ _ s
  refine wpAny_bind (tupleItemsOf_ ht (wpAny_bind (wpAny_typeOf hTs ?_)))
  rw [if_pos (by decide)]
  refine wpAny_bind ?_
  unfold Builtin.Slice.sliceApplied Builtin.Slice.sliceFields
  refine wpAny_bind (wpAny_bind (wpAny_field hos hds (x := .none) rfl (wpAny_bind (wpAny_field hos hds (x := .none) rfl (wpAny_bind (wpAny_field hos hds (x := .int (-1) tk) rfl (wpAny_pure ?_)))))))
  refine wpAny_bind (slicePart_int ?_)
  show wpAny _ _ (if ((-1 : Int) == 0) = true then _ else _) _ _ s
  rw [if_neg (by decide)]
  refine wpAny_bind (slicePart_none (wpAny_bind (slicePart_none (wpAny_bind (wpAny_pure ?_)))))
  show wpAny _ _ (match Builtin.Slice.sliceAdjust none none (-1) (items.size : Int) with | (lo, hi) => pure (lo, (-1 : Int), Builtin.Slice.slicePlaces lo hi (-1))) _ _ s
  rw [adjust_rev]
  show wpAny _ _ (pure ((items.size : Int) - 1, (-1 : Int), Builtin.Slice.slicePlaces ((items.size : Int) - 1) (-1) (-1))) _ _ s
  rw [places_rev]
  refine wpAny_pure ?_
  show wpAny _ _ (if (((items.size : Int) - 1) == 0 && (-1 : Int) == 1 && items.size == items.size) = true then _ else _) _ _ s
  rw [if_neg (by simp), pick_rev]
  first
    | exact wpAny_bind (m := Builtin.Tuple.tupleExact _) (wpAny_newObj_type (wpAny_pure ⟨_, rfl, wpAny_pure h⟩) hz)
    | exact wpAny_bind (m := Builtin.Tuple.tupleExact _) (wpAny_newObj_type (wpAny_bind (wpAny_pure (wpAny_pure ⟨_, rfl, wpAny_pure h⟩))) hz)
    | exact wpAny_bind (wpAny_bind (m := Builtin.Tuple.tupleExact _) (wpAny_newObj_type (wpAny_pure (wpAny_pure ⟨_, rfl, wpAny_pure h⟩)) hz))
    | exact wpAny_bind (wpAny_bind (m := Builtin.Tuple.tupleExact _) (wpAny_newObj_type (wpAny_pure ⟨_, rfl, wpAny_pure h⟩) hz))
end
end HT
namespace L2
open PySem PySem.Spec PyProof.Rows
/-- t[::-1] -/
def tRev (te : TE) : TE := fun σ H Q => te σ H fun x H1 => ∃ (a : Addr) (xs : List V), x = .ref a ∧ H1 a = some (.tup xs) ∧ ∀ q, H1 q = none → Q (.ref q) (upd H1 q (.tup xs.reverse))
theorem pe_rev {X : Cx} {e : Expr} {te : TE} {p1 p2 pos : Pos} {k : Expr} (he : PE X e te) (hk : PO X (some k) (tPart (tC (.int (-1))))) : PE X (.Subscript e (.Slice none none (some k) p2) pos) (tRev te) := by
  intro pins s σ H Q I h
  refine Subscript_ (thn (he pins s σ H _ I h) fun v s1 ⟨x, H1, I1, r1, a, xs, ex, ha, q1⟩ => ?_)
  refine wpAny_Slice ?_
  rw [evalPart_none]
  refine wpAny_pure (wpAny_pure ?_)
  refine thn (hk pins s1 σ H1 (fun o H' => o = some (-1) ∧ H' = H1) I1 ⟨_, rfl, rfl, rfl⟩) fun vk s2 ⟨o, H2, I2, pk, eo, eH⟩ => ?_
  subst ex eo eH
  obtain rfl : v = Value.ref a := r1
  obtain ⟨tk, rfl⟩ : ∃ tk, vk = .int (-1) tk := by
    cases pk
    exact ⟨_, rfl⟩
  have I3 : Inv X pins σ H2 { s2 with heap := s2.heap.push { cls := .type "slice", data := .fields #[.none, .none, .int (-1) tk] } } := I2.kept (t' := s2.toks) fun b ob q => Heap.get?_push_of_some _ q
  obtain ⟨its, r, ht, hz⟩ := I3.tuple (SqT.of ha)
  have hsz : its.toArray.size ≤ sizeLine := by rw [List.size_toArray, ← r.length]; exact hz
  show wpAny (model X.prog X.w) X.A (subscriptTail e (.Slice none none (some k) p2) (.ref a) (.ref s2.heap.objs.size)) (EP X pins σ Q) X.xe { s2 with heap := s2.heap.push { cls := .type "slice", data := .fields #[.none, .none, .int (-1) tk] } }
  refine tail_any ht.typeIs PyProof.Rows.slot_tuple_getitem.lookup ?_ (by with_unfolding_all rfl)
  refine HT.getItem_tuple_rev ht (Heap.IsSliceOf.new ..) ?_ hsz
  refine ⟨.ref _, _, I3.laid (t' := s2.toks) (fun b o e => Heap.get?_push_of_some _ e) (Nat.le_refl _) (show ObjOk X.prog X.w _ _ _ (.tup xs.reverse) from ⟨by rw [List.length_reverse]; exact hz, its.reverse, r.reverse, _, Heap.get?_push_size _ rfl, rfl, 0, by simp⟩), rfl, q1 _ (I3.hok.fresh (Nat.le_refl _))⟩
end L2

set_option Elab.async false
set_option linter.all false
set_option maxRecDepth 100000
namespace L2
open PySem PySem.Spec PyProof.Rows
/-! ### things of any kind -/
inductive Th where
  | non
  | bl (b : Bool)
  | int (i : Int)
  | str (s : Str)
  | tup (ts : List Th)
  | lst
  | dct
mutual
inductive ThAt (H : Hp) : V → Th → Prop
  | non : ThAt H .non .non
  | bl (b : Bool) : ThAt H (.bl b) (.bl b)
  | int (i : Int) : ThAt H (.int i) (.int i)
  | str (s : Str) : ThAt H (.str s) (.str s)
  | tup {p : Addr} {vs : List V} {ts : List Th} : H p = some (.tup vs) → ThsAt H vs ts → ThAt H (.ref p) (.tup ts)
  | lst {p : Addr} {vs : List V} : H p = some (.lst vs) → ThAt H (.ref p) .lst
  | dct {p : Addr} {kvs : List (Key × V)} : H p = some (.dK kvs) → ThAt H (.ref p) .dct
inductive ThsAt (H : Hp) : List V → List Th → Prop
  | nil : ThsAt H [] []
  | cons {v : V} {t : Th} {vs : List V} {ts : List Th} : ThAt H v t → ThsAt H vs ts → ThsAt H (v :: vs) (t :: ts)
end
/-- the kinds stay -/
structure KS (H H' : Hp) : Prop where
  t : ∀ q xs, H q = some (.tup xs) → H' q = some (.tup xs)
  l : ∀ q xs, H q = some (.lst xs) → ∃ ys, H' q = some (.lst ys)
  d : ∀ q xs, H q = some (.dK xs) → ∃ ys, H' q = some (.dK ys)
section
variable {H H' H'' : Hp} {a : Addr}
theorem KS.refl : KS H H := ⟨fun _ _ e => e, fun _ _ e => ⟨_, e⟩, fun _ _ e => ⟨_, e⟩⟩
theorem KS.same (k : Same H H') : KS H H' := ⟨fun _ _ e => k _ _ e, fun _ _ e => ⟨_, k _ _ e⟩, fun _ _ e => ⟨_, k _ _ e⟩⟩
theorem KS.trans (x : KS H H') (y : KS H' H'') : KS H H'' := ⟨fun q xs e => y.t _ _ (x.t _ _ e), fun q xs e => let ⟨ys, e'⟩ := x.l _ _ e; y.l _ _ e', fun q xs e => let ⟨ys, e'⟩ := x.d _ _ e; y.d _ _ e'⟩
theorem KS.new {o : HO} (h : H a = none) : KS H (upd H a o) := KS.same (Same.new (Same.refl H) h)
theorem KS.lst {xs ys : List V} (h : H a = some (.lst xs)) : KS H (upd H a (.lst ys)) :=
  ⟨fun q zs e => by rw [upd_ne (ne_of e h (by intro z; cases z))]; exact e, fun q zs e => by
    by_cases hq : q = a
    · subst hq
      exact ⟨_, upd_same⟩
    · exact ⟨_, by rw [upd_ne hq]; exact e⟩, fun q zs e => ⟨_, by rw [upd_ne (ne_of e h (by intro z; cases z))]; exact e⟩⟩
mutual
theorem ThAt.ks (k : KS H H') {v : V} {t : Th} : ThAt H v t → ThAt H' v t
  | .non => .non
  | .bl b => .bl b
  | .int i => .int i
  | .str s => .str s
  | .tup h hs => .tup (k.t _ _ h) (ThsAt.ks k hs)
  | .lst h => let ⟨_, h'⟩ := k.l _ _ h; .lst h'
  | .dct h => let ⟨_, h'⟩ := k.d _ _ h; .dct h'
theorem ThsAt.ks (k : KS H H') {vs : List V} {ts : List Th} : ThsAt H vs ts → ThsAt H' vs ts
  | .nil => .nil
  | .cons h hs => .cons (ThAt.ks k h) (ThsAt.ks k hs)
end
theorem ThsAt.len : ∀ {vs : List V} {ts : List Th}, ThsAt H vs ts → vs.length = ts.length
  | [], [], _ => rfl
  | v :: vs, t :: ts, .cons _ h => by rw [List.length_cons, List.length_cons, ThsAt.len h]
theorem ThsAt.at : ∀ {vs : List V} {ts : List Th}, ThsAt H vs ts → ∀ {i : Nat} {t : Th}, ts[i]? = some t → ∃ v, vs[i]? = some v ∧ ThAt H v t
  | v :: vs, t :: ts, .cons h hs, 0, u, e => ⟨v, rfl, by
    have : t = u := by simpa using e
    exact this ▸ h⟩
  | v :: vs, t :: ts, .cons h hs, i + 1, u, e => by
    obtain ⟨w, h1, h2⟩ := ThsAt.at hs (i := i) (t := u) (by simpa using e)
    exact ⟨w, by simpa using h1, h2⟩
  | [], [], .nil, i, u, e => by simp at e
theorem ThsAt.atV : ∀ {vs : List V} {ts : List Th}, ThsAt H vs ts → ∀ {i : Nat} {v : V}, vs[i]? = some v → ∃ t, ts[i]? = some t ∧ ThAt H v t
  | v :: vs, t :: ts, .cons h hs, 0, u, e => ⟨t, rfl, by
    have : v = u := by simpa using e
    exact this ▸ h⟩
  | v :: vs, t :: ts, .cons h hs, i + 1, u, e => by
    obtain ⟨w, h1, h2⟩ := ThsAt.atV hs (i := i) (v := u) (by simpa using e)
    exact ⟨w, by simpa using h1, h2⟩
  | [], [], .nil, i, u, e => by simp at e
theorem ThsAt.app : ∀ {vs ws : List V} {ts us : List Th}, ThsAt H vs ts → ThsAt H ws us → ThsAt H (vs ++ ws) (ts ++ us)
  | [], _, [], _, .nil, h => h
  | _ :: _, _, _ :: _, _, .cons a b, h => .cons a (ThsAt.app b h)
theorem ThsAt.take : ∀ (n : Nat) {vs : List V} {ts : List Th}, ThsAt H vs ts → ThsAt H (vs.take n) (ts.take n)
  | 0, _, _, _ => by simpa using ThsAt.nil
  | n + 1, [], [], .nil => .nil
  | n + 1, _ :: _, _ :: _, .cons a b => .cons a (ThsAt.take n b)
theorem ThsAt.drop : ∀ (n : Nat) {vs : List V} {ts : List Th}, ThsAt H vs ts → ThsAt H (vs.drop n) (ts.drop n)
  | 0, _, _, h => h
  | n + 1, [], [], .nil => .nil
  | n + 1, _ :: _, _ :: _, .cons a b => ThsAt.drop n b
theorem ThsAt.rev : ∀ {vs : List V} {ts : List Th}, ThsAt H vs ts → ThsAt H vs.reverse ts.reverse
  | [], [], .nil => .nil
  | v :: vs, t :: ts, .cons a b => by
    rw [List.reverse_cons, List.reverse_cons]
    exact ThsAt.app (ThsAt.rev b) (.cons a .nil)
end
def cutT (ts : List Th) (lo hi : Option Int) : List Th := (ts.drop (HT.sIx ts.length 0 lo)).take (HT.sIx ts.length ts.length hi - HT.sIx ts.length 0 lo)
theorem ThsAt.cut {H : Hp} {vs : List V} {ts : List Th} (h : ThsAt H vs ts) (lo hi : Option Int) : ThsAt H (cutV vs lo hi) (cutT ts lo hi) := by
  unfold cutV cutT
  rw [h.len]
  exact (h.drop _).take _
/-- the kinds -/
def Th.tn : Th → String
  | .non => "NoneType"
  | .bl _ => "bool"
  | .int _ => "int"
  | .str _ => "str"
  | .tup _ => "tuple"
  | .lst => "list"
  | .dct => "dict"
theorem ThAt.ty {K : PySem.W.Frag} {H : Hp} {v : V} {t : Th} (h : ThAt H v t) : TyOf K H v (.type t.tn) := by
  cases h with
  | non => exact .non
  | bl b => exact .bl b
  | int i => exact .int i
  | str s => exact .str s
  | tup h _ => exact .tup h
  | lst h => exact .lst h
  | dct h => exact .dK h
def Th.isI : Th → Bool
  | .bl _ => true
  | .int _ => true
  | _ => false
def Th.isB : Th → Bool
  | .bl _ => true
  | _ => false
def Th.isT : Th → Bool
  | .tup _ => true
  | _ => false
def Th.isS : Th → Bool
  | .str _ => true
  | _ => false
def Th.isL : Th → Bool
  | .lst => true
  | _ => false
def rIsTh (n : String) (f : Th → Bool) : List V → Hp → VK → Prop := fun xs H Q => ∃ v t, xs = [v, .ty n] ∧ ThAt H v t ∧ Q (.bl (f t)) H
section
variable {X : Cx} {k : Nat}
theorem is_th {n : String} {f : Th → Bool} (hk : ∀ t : Th, PySem.W.kitOne X.K (.type t.tn) (.type n) = some (f t)) : CallR X (.builtin "isinstance") (rIsTh n f) := fun pins s σ H xs us Q I r h => by
  obtain ⟨v, t, e, ht, q⟩ := h
  exact call_isI pins s σ H xs us Q I r ⟨v, n, _, f t, e, ht.ty, hk t, q⟩
theorem is_int : CallR X (.builtin "isinstance") (rIsTh "int" Th.isI) := is_th fun t => by cases t <;> rfl
theorem is_bool : CallR X (.builtin "isinstance") (rIsTh "bool" Th.isB) := is_th fun t => by cases t <;> rfl
theorem is_tup : CallR X (.builtin "isinstance") (rIsTh "tuple" Th.isT) := is_th fun t => by cases t <;> rfl
theorem is_str : CallR X (.builtin "isinstance") (rIsTh "str" Th.isS) := is_th fun t => by cases t <;> rfl
/-- x not in a tuple of words -/
def Th.inW (ws : List Str) : Th → Bool
  | .str s => ws.any fun a => a == s
  | _ => false
def eqT : Th → Value → Bool
  | .str s, .str a _ => a == s
  | _, _ => false
theorem any_words {t : Th} : ∀ {ws : List Str} {us : List Value}, Vals (ws.map V.str) us → us.any (eqT t) = t.inW ws
  | [], _, r => by
    rw [List.map_nil] at r
    cases r
    cases t <;> rfl
  | x :: ws, _, r => by
    rw [List.map_cons] at r
    cases r with
    | cons r1 r2 =>
      obtain ⟨tk, rfl⟩ := r1
      rw [List.any_cons, any_words r2]
      cases t <;> rfl
theorem word_eq {pins : List (Addr × Obj)} {σ : St} {H : Hp} {s : Shared} {A : Around} (hu : A.units < cLine) (I : Inv X pins σ H s) {v : V} {t : Th} {u : Value} (ht : ThAt H v t) (ru : RelV v u) {ws : List Str} : ∀ {us : List Value}, Vals (ws.map V.str) us → ∀ y ∈ us, SeqAt.EqAt A s y u (eqT t y) := by
  intro us r y hy
  obtain ⟨w, tk, rfl⟩ : ∃ w tk, y = .str w tk := by
    obtain ⟨i, hi, rfl⟩ := List.getElem_of_mem hy
    clear hy
    induction ws generalizing us i with
    | nil =>
      rw [List.map_nil] at r
      cases r
      simp at hi
    | cons x ws ih =>
      rw [List.map_cons] at r
      cases r with
      | cons r1 r2 =>
        cases i with
        | zero =>
          obtain ⟨tk, e⟩ := r1
          exact ⟨x, tk, by simpa using e⟩
        | succ i => exact ih r2 i (by simpa using hi)
  cases ht with
  | non => cases ru; exact SeqAt.EqAt.str_none w tk
  | bl b => cases ru; exact SeqAt.EqAt.str_bool w tk b
  | int i => obtain ⟨t', rfl⟩ := ru; exact SeqAt.EqAt.str_int w tk i t'
  | str s' => obtain ⟨t', rfl⟩ := ru; exact SeqAt.EqAt.str_str w tk s' t'
  | tup h _ =>
    cases ru
    obtain ⟨its, _, pl, _⟩ := I.tuple (SqT.of h)
    exact SeqAt.EqAt.str_tuple w tk pl hu
  | lst h =>
    cases ru
    obtain ⟨its, _, pl, _⟩ := I.list (SqL.of h)
    exact SeqAt.EqAt.str_list w tk pl.isList hu
  | dct h =>
    cases ru
    obtain ⟨_, _, vs, _, o, es, ep, ho, hx, hd, _⟩ := dk_of I.hok h
    exact SeqAt.EqAt.text_dict w tk ho hx hd hu
def rNotW (K : PySem.W.Frag) (ws : List Str) : R2 := fun x y H Q => ∃ a t, y = .ref a ∧ SqT K H a (ws.map V.str) ∧ ThAt H x t ∧ Q (.bl (!t.inW ws)) H
theorem op_notW {ws : List Str} (hr : Room k X.A) : OpR X (compareOp .NotIn) (rNotW X.K ws) := by
  intro pins s σ H x y v u Q I rx ry h
  obtain ⟨a, t, rfl, hq, ht, q⟩ := h
  cases ry
  have hu : X.A.in1.units < cLine := by have := hr.units; show X.A.units + 1 < cLine; omega
  obtain ⟨its, r, pl, hz⟩ := I.tuple hq
  refine SeqAt.notIn_tupleAt (eqT t) pl (fun w hw => word_eq hu I ht rx r w (by simpa using hw)) ⟨.bl _, H, I, rfl, ?_⟩
  rw [show its.toArray.any (eqT t) = its.any (eqT t) by simp, any_words r]
  exact q
end
/-- a tuple that a module holds -/
def GTup (K : PySem.W.Frag) (mg : Str → Option Value) (x : Str) (vs : List V) : Prop := ∃ (a : Addr) (o : Obj) (its : Array Value) (n : Nat), mg x = some (.ref a) ∧ K.lookup a = some o ∧ o.cls = .type "tuple" ∧ o.data = .seq its n ∧ its.size ≤ sizeLine ∧ Vals vs its.toList
theorem GTup.sq {K : PySem.W.Frag} {mg : Str → Option Value} {x : Str} {vs : List V} (g : GTup K mg x vs) : ∃ a, mg x = some (.ref a) ∧ ∀ H, SqT K H a vs := by
  obtain ⟨a, o, its, n, h1, h2, h3, h4, h5, h6⟩ := g
  exact ⟨a, h1, fun H => .inr ⟨o, its, n, h2, h3, h4, h5, h6⟩⟩
/-- its name, its items -/
def tGT (K : PySem.W.Frag) (vs : List V) : TE := fun _ H Q => ∀ a, SqT K H a vs → Q (.ref a) H
theorem pe_gt {X : Cx} {x : Str} {vs : List V} {pos : Pos} (g : GTup X.K X.mg x vs) (hg : Gl X x := by rfl) (hd : (x == ("__debug__" : Str)) = false := by decide) : PE X (.Name x pos) (tGT X.K vs) := by
  obtain ⟨a, h1, h2⟩ := g.sq
  exact fun pins s σ H Q I h => pe_glob hg h1 (v := .ref a) rfl hd pins s σ H Q I (h a (h2 H))
end L2

set_option Elab.async false
set_option linter.all false
set_option maxRecDepth 100000
/-! texts, walked sign by sign -/
namespace L2
open PySem PyProof.Rows
def sg (x : Str) : List Str := x.cps.toList.map fun c => ⟨#[c]⟩
theorem sg_len (x : Str) : (sg x).length = x.cps.size := by unfold sg; rw [List.length_map, Array.length_toList]
theorem sg_at {x : Str} {i : Nat} {c : Nat} (h : x.cps[i]? = some c) : (sg x)[i]? = some ⟨#[c]⟩ := by
  unfold sg
  rw [List.getElem?_map, Array.getElem?_toList, h]
  rfl
def Its (x : Str) : It := ⟨fun i _ => i < x.cps.size, fun i H v H' => H' = H ∧ ∃ y, (sg x)[i]? = some y ∧ v = .str y, fun i _ => x.cps.size ≤ i⟩
section
variable {P : Program} {w : World} {K : PySem.W.Frag} {tg : Expr}
theorem turn_sa (x : Str) (t : Tok) (it : Addr) : Turn P w K tg (Its x) [it] it (fun i h => h.IsStrIter it "str_ascii_iterator" x t i) where
  mem := by simp
  obj := fun i h st b hb => by
    obtain rfl : b = it := by simpa using hb
    obtain ⟨o, e, c, d⟩ := st
    exact ⟨o, e, fun v z => by rw [d] at z; cases z⟩
  keep := fun i h h' st k => let ⟨o, e, c, d⟩ := st; ⟨o, k it (by simp) o e, c, d⟩
  item := by
    intro X hP hw hK hc i pins s σ H E I hf st hg
    subst hP hw hK
    obtain ⟨cp, hx⟩ : ∃ cp, x.cps[i]? = some cp := ⟨x.cps[i]'hg, Array.getElem?_eq_getElem hg⟩
    obtain ⟨f0, f1, f2, f3, f4, f5⟩ := hf it (by simp)
    refine wpAny_pyNext_ascii_item st hx fun h1 st1 sb => ?_
    have I1 : Inv X pins σ H { s with heap := h1, toks := s.toks + 1 } := I.turned (t' := s.toks + 1) (fun b o hb e => (sb.2 b hb).trans e) f0 f1 f3 f4 f5
    obtain ⟨o, e, c, d⟩ := id st1
    exact ⟨_, rfl, go_of (s := { s with heap := h1, toks := s.toks + 1 }) e c d (by decide) ⟨.str ⟨#[cp]⟩, H, I1, ⟨_, rfl⟩, ⟨rfl, _, sg_at hx, rfl⟩, st1, fun b hb => (hf b hb).1⟩⟩
  done := by
    intro X hP hw hK hc i pins s σ H E I hf st hg
    subst hP hw hK
    obtain ⟨f0, f1, f2, f3, f4, f5⟩ := hf it (by simp)
    exact wpAny_pyNext_ascii_end (I.ok.hd hc) st (by simp; exact hg) fun h1 eb => ⟨rfl, I.turned (t' := s.toks) (fun b o hb e => eb b o hb e) f0 f1 f3 f4 f5⟩
  self := fun _ _ _ _ _ st h => wpAny_pyIter_striter_ascii st h
theorem turn_sw (x : Str) (t : Tok) (it : Addr) : Turn P w K tg (Its x) [it] it (fun i h => h.IsStrIter it "str_iterator" x t i) where
  mem := by simp
  obj := fun i h st b hb => by
    obtain rfl : b = it := by simpa using hb
    obtain ⟨o, e, c, d⟩ := st
    exact ⟨o, e, fun v z => by rw [d] at z; cases z⟩
  keep := fun i h h' st k => let ⟨o, e, c, d⟩ := st; ⟨o, k it (by simp) o e, c, d⟩
  item := by
    intro X hP hw hK hc i pins s σ H E I hf st hg
    subst hP hw hK
    obtain ⟨cp, hx⟩ : ∃ cp, x.cps[i]? = some cp := ⟨x.cps[i]'hg, Array.getElem?_eq_getElem hg⟩
    obtain ⟨f0, f1, f2, f3, f4, f5⟩ := hf it (by simp)
    refine wpAny_pyNext_wide_item st hx fun h1 st1 sb => ?_
    have I1 : Inv X pins σ H { s with heap := h1, toks := s.toks + 1 } := I.turned (t' := s.toks + 1) (fun b o hb e => (sb.2 b hb).trans e) f0 f1 f3 f4 f5
    obtain ⟨o, e, c, d⟩ := id st1
    exact ⟨_, rfl, go_of (s := { s with heap := h1, toks := s.toks + 1 }) e c d (by decide) ⟨.str ⟨#[cp]⟩, H, I1, ⟨_, rfl⟩, ⟨rfl, _, sg_at hx, rfl⟩, st1, fun b hb => (hf b hb).1⟩⟩
  done := by
    intro X hP hw hK hc i pins s σ H E I hf st hg
    subst hP hw hK
    obtain ⟨f0, f1, f2, f3, f4, f5⟩ := hf it (by simp)
    exact wpAny_pyNext_wide_end (I.ok.hd hc) st (by simp; exact hg) fun h1 eb => ⟨rfl, I.turned (t' := s.toks) (fun b o hb e => eb b o hb e) f0 f1 f3 f4 f5⟩
  self := fun _ _ _ _ _ st h => wpAny_pyIter_striter_wide st h
end
section
variable {X : Cx} {tg : Expr}
def iTx (te : TE) : TI := fun σ H R => te σ H fun v H1 => ∃ x, v = .str x ∧ R (Its x) H1
theorem pi_tx {l : Expr} {tl : TE} (hl : PE X l tl) : PI X tg l (iTx tl) := by
  intro pins s σ H R I h
  refine thn (hl pins s σ H _ I h) fun v s1 ⟨x, H1, I1, r1, q1⟩ => ?_
  obtain ⟨y, rfl, q⟩ := q1
  obtain ⟨t, rfl⟩ := r1
  have new : ∀ b, b ∈ [s1.heap.objs.size] → FpOk X pins H1 b := fun b hb => by
    obtain rfl : b = s1.heap.objs.size := by simpa using hb
    exact I1.fpOk (Nat.le_refl _) (I1.hok.fresh (Nat.le_refl _))
  cases ha : y.cps.all (· < 128) with
  | true =>
    refine wpAny_pyIter_ascii ha ?_
    exact ⟨s1.heap.objs.size, [s1.heap.objs.size], _, _, H1, rfl, I1.kept (t' := s1.toks) fun b o e => Heap.get?_push_of_some _ e, turn_sa y t _, ⟨_, Heap.get?_push_size _ rfl, rfl, rfl⟩, new, q⟩
  | false =>
    refine wpAny_pyIter_wide ha ?_
    exact ⟨s1.heap.objs.size, [s1.heap.objs.size], _, _, H1, rfl, I1.kept (t' := s1.toks) fun b o e => Heap.get?_push_of_some _ e, turn_sw y t _, ⟨_, Heap.get?_push_size _ rfl, rfl, rfl⟩, new, q⟩
end
theorem w_compX {te : TE} {n : Nat} {ix : List Nat} {g : TG} {tc : TT} {te' : TE} {σ : St} {H : Hp} {Q : VK} (h : te σ H fun v H1 => ∃ x, v = .str x ∧ ∀ D, H1 D = none → CGo (Its x) D g tc te' Q (List.replicate n none ++ sub ix σ) H1) : tComp (iTx te) n ix g tc te' σ H Q := h
theorem cgo_tx {D : Addr} {tc : TT} {te : TE} {Q : VK} {ρ : St} {H : Hp} {x : Str} (Pv : Nat → List V → Hp → Prop) (h0 : Pv 0 [] (upd H D (.lst [])))
    (hs : ∀ i y ys H', (sg x)[i]? = some y → Pv i ys H' → H' D = some (.lst ys) → ∀ (R : V → Hp → Prop) (S : Hp → Prop), (∀ z H4, H4 D = some (.lst ys) → ys.length < sizeLine → Pv (i + 1) (ys ++ [z]) (upd H4 D (.lst (ys ++ [z]))) → R z H4) → (∀ H3, H3 D = some (.lst ys) → Pv (i + 1) ys H3 → S H3) →
      tc (some (.str y) :: ρ) H' fun b H3 => if b = true then te (some (.str y) :: ρ) H3 R else S H3)
    (hd : ∀ ys H', Pv (sg x).length ys H' → H' D = some (.lst ys) → Q (.ref D) H') : CGo (Its x) D (gName 0) tc te Q (none :: ρ) H := by
  have hl := sg_len x
  refine ⟨fun i m τ ys H' => m = x.cps.size - i ∧ i ≤ x.cps.size ∧ (∃ tv, τ = tv :: ρ) ∧ Pv i ys H' ∧ H' D = some (.lst ys), ⟨x.cps.size, by omega, Nat.zero_le _, ⟨_, rfl⟩, h0, upd_same⟩, ?_⟩
  rintro i m τ ys H' ⟨rfl, hi, ⟨tv, rfl⟩, hp, hD⟩
  refine ⟨hD, ?_⟩
  by_cases hlt : i < x.cps.size
  · refine .inr ⟨hlt, ?_⟩
    rintro v H2 ⟨rfl, y, hy, rfl⟩
    refine hs i y ys _ hy hp hD _ _ (fun z H4 e4 hz p4 => ?_) (fun H3 e3 p3 => ?_)
    · exact ⟨e4, hz, x.cps.size - (i + 1), by omega, rfl, by omega, ⟨_, rfl⟩, p4, upd_same⟩
    · exact ⟨x.cps.size - (i + 1), by omega, rfl, by omega, ⟨_, rfl⟩, p3, e3⟩
  · have e : i = (sg x).length := by omega
    subst e
    exact .inl ⟨by show x.cps.size ≤ _; omega, hd ys H' hp hD⟩
end L2

set_option Elab.async false
set_option linter.all false
set_option maxRecDepth 100000
/-! set(t), t a tuple of ints and texts; how many are in it -/
namespace L2
open PySem PySem.Spec PyProof.Rows
def hasK (ks : List Key) (k : Key) : Bool := ks.any fun a => decide (a = k)
theorem hasK_iff {ks : List Key} {k : Key} : hasK ks k = true ↔ k ∈ ks := by
  unfold hasK
  rw [List.any_eq_true]
  exact ⟨fun ⟨a, h1, h2⟩ => by rw [← of_decide_eq_true h2]; exact h1, fun h => ⟨k, h, decide_eq_true rfl⟩⟩
def metK (val : Nat → Key) : Nat → List Key
  | 0 => []
  | i + 1 => if hasK (metK val i) (val i) = true then metK val i else metK val i ++ [val i]
theorem metK_le (val : Nat → Key) : ∀ i, (metK val i).length ≤ i
  | 0 => Nat.le_refl _
  | i + 1 => by
    have ih := metK_le val i
    unfold metK
    split
    · omega
    · rw [List.length_append]
      show _ + 1 ≤ _
      omega
theorem metK_in (val : Nat → Key) (i : Nat) (k : Key) : hasK (metK val (i + 1)) k = (hasK (metK val i) k || decide (k = val i)) := by
  rw [Bool.eq_iff_iff, Bool.or_eq_true, decide_eq_true_eq, hasK_iff, hasK_iff]
  show k ∈ (if hasK (metK val i) (val i) = true then metK val i else metK val i ++ [val i]) ↔ _
  split
  · rename_i h
    exact ⟨.inl, fun z => z.elim id fun e => by rw [e]; exact hasK_iff.mp h⟩
  · rw [List.mem_append, List.mem_singleton]
theorem metK_size (val : Nat → Key) (i : Nat) : (metK val (i + 1)).length = if hasK (metK val i) (val i) = true then (metK val i).length else (metK val i).length + 1 := by
  show (if hasK (metK val i) (val i) = true then metK val i else metK val i ++ [val i]).length = _
  by_cases h : hasK (metK val i) (val i) = true
  · rw [if_pos h, if_pos h]
  · rw [if_neg h, if_neg h, List.length_append]
    rfl
theorem set_same {pr : Program} {wo : World} {h : Heap} {a : Addr} {S S' : Key → Bool} {n n' : Nat} (hS : h.SetOf (mixKind pr wo) a S n) (e : ∀ k, S k = S' k) (en : n = n') : h.SetOf (mixKind pr wo) a S' n' := by
  obtain rfl : S = S' := funext e
  subst en
  exact hS
section
variable {pr : Program} {wo : World} {Ar : Around} {R : Result → Shared → Prop} {I : Addr} {fp wr : List Addr} {G : Array GenState → Array GenState → Prop} {n : Nat} {P : Nat → Value → Prop} {St : Nat → Shared → Prop}
theorem set_loop (W : WalksS pr wo Ar.in1 I fp wr G n P St) (S : Addr) (hSf : S ∉ fp) (val : Nat → Key) (hval : ∀ i v, P i v → (mixKind pr wo).is (val i) v = true ∧ v.scannable = true) (hb : n + 1 < scanBound) :
    ∀ (k i : Nat) (s : Shared), n - i = k → i ≤ n → St i s → s.heap.SetOf (mixKind pr wo) S (fun q => hasK (metK val i) q) (metK val i).length →
      (∀ z, Moved (S :: wr) G s z → z.heap.SetOf (mixKind pr wo) S (fun q => hasK (metK val n) q) (metK val n).length → R (.ok (.ret .none)) z) →
      codeAny (model pr wo) Ar (.builtin "set.update.loop" ⟨[.ref S, .ref I], []⟩) R s := by
  have nS : S ∉ wr := fun h => hSf (W.sub _ h)
  have more : ∀ b ∈ wr, b ∈ S :: wr := fun b h => List.mem_cons_of_mem _ h
  intro k
  induction k with
  | zero =>
    intro i s hk hi hst hS hR
    obtain rfl : i = n := by omega
    refine codeAny_builtin F.entry_set_update_loop ?_
    rw [Around.under_plainId F.plain_set_update_loop _]
    show wpAny _ Ar.in1 (pyNext (.ref I) >>= _) _ _ s
    refine wpAny_bind (W.done s _ _ hst fun z hm => ?_)
    show wpAny _ Ar.in1 (ret Value.none) _ _ z
    obtain ⟨o, es, ep, t, ho, r⟩ := hS
    exact wpAny_pure (hR z (hm.mono more) ⟨o, es, ep, t, hm.heap S _ nS ho, r⟩)
  | succ k ih =>
    intro i s hk hi hst hS hR
    have lt : i < n := by omega
    refine codeAny_builtin F.entry_set_update_loop ?_
    rw [Around.under_plainId F.plain_set_update_loop _]
    show wpAny _ Ar.in1 (pyNext (.ref I) >>= _) _ _ s
    refine wpAny_bind (W.item i s _ _ lt hst fun v z hP hst1 hm => ?_)
    obtain ⟨hk1, hk2⟩ := hval i v hP
    have hS1 : z.heap.SetOf (mixKind pr wo) S (fun q => hasK (metK val i) q) (metK val i).length := by
      obtain ⟨o, es, ep, tb, ho, r⟩ := hS
      exact ⟨o, es, ep, tb, hm.heap S _ nS ho, r⟩
    show wpAny _ Ar.in1 (holding [v] (setAdd S v) >>= _) _ _ z
    refine wpAny_bind (wpAny_holding ?_)
    unfold setAdd
    refine wpAny_holding ?_
    refine wpAny_bind ((mixKind pr wo).pyHash (k := val i) hk1 ?_)
    have room : (metK val i).length + 1 < scanBound := by have := metK_le val i; omega
    refine wpAny_setAddHashed_of (knd := mixKind pr wo) (s := { z with toks := z.toks + 1 }) hk1 hk2 hS1 room fun g sb hS2 => ?_
    have hS3 : g.SetOf (mixKind pr wo) S (fun q => hasK (metK val (i + 1)) q) (metK val (i + 1)).length :=
      set_same hS2 (fun q => (metK_in val i q).symm) (metK_size val i).symm
    refine wpAny_pure ⟨plainId_quiet F.plain_set_update_loop _, ih (i + 1) _ (by omega) lt (W.frame _ z _ _ hst1 (Nat.le_succ _) fun b hb o e => ?_) hS3 fun y my hy => ?_⟩
    · rw [sb.2 b (fun h : b = S => hSf (by rw [← h]; exact hb))]; exact e
    · refine hR y (Moved.trans W.gtrans ((hm.mono more).then_heap (Nat.le_succ _) fun b o hb e => ?_) my) hy
      rw [sb.2 b (fun h : b = S => hb (by rw [h]; exact List.mem_cons_self))]; exact e
end
section
variable {pr : Program} {wo : World} {Ar : Around} {E : Value → Shared → Prop} {s : Shared}
abbrev eS (led : Bool) : Obj := { cls := .type "set", dict := none, data := .set #[] 0 (.fresh 0 0 led) }
set_option maxHeartbeats 3200000 in
theorem set_of_tuple {l : Addr} {us : List Value} {ks : List Key} {Q : Value → Shared → Prop} (hh : Ar.handled = none) (hl : s.heap.IsTuple l us.toArray)
    (hk : ∀ (i : Nat) (v : Value), us[i]? = some v → (mixKind pr wo).is (ks.getD i (.inl 0)) v = true ∧ v.scannable = true) (hb : us.length + 1 < scanBound)
    (h : ∀ (g : Heap) (tk : Nat), g.SetOf (mixKind pr wo) s.heap.objs.size (fun q => hasK (metK (fun i => ks.getD i (.inl 0)) us.length) q) (metK (fun i => ks.getD i (.inl 0)) us.length).length →
      (∀ b o, b < s.heap.objs.size → s.heap.get? b = some o → g.get? b = some o) → Q (.ref s.heap.objs.size) { s with heap := g, toks := tk }) :
    wpAny (model pr wo) Ar (call (.type "set") [.ref l]) Q E s := by
  obtain ⟨cc, tl, hmro⟩ := PySem.F.called_set.mro
  have made := PySem.F.called_set.made
  have subT := PySem.F.called_set.sub
  refine wpAny_call (codeAny_of_tree ?_)
  show wpAny _ _ (callAny (.type "set") _) _ _ _
  refine wpAny_pure ⟨Code.quiet_builtin _ (by decide +kernel), codeAny_builtin PySem.F.entry_type_call ?_⟩
  rw [Around.under_plain (weight_type_call_type "set" [.ref l] []) rfl]
  have n1 := PySem.F.called_set.notType
  have n2 := PySem.F.called_set.canCreate
  have n3 := PySem.F.typeCall_set_1 (.ref l)
  repeat (any_goals (first | assumption | wp_step))
  refine codeAny_mono (code_set_new_1 (.ref l) (E := E) (Q₁ := fun ob z => ∃ led : Bool, ob = .ref s.heap.objs.size ∧ z = { s with heap := s.heap.push (eS led) }) fun led => ⟨led, rfl, rfl⟩) fun r z hr => ?_
  cases r with
  | error e => exact hr
  | ok fl =>
    cases fl with
    | ret ob =>
      obtain ⟨led, rfl, rfl⟩ := hr
      have gS : (s.heap.push (eS led)).get? s.heap.objs.size = some (eS led) := Heap.get?_push_size _ rfl
      have tS : Shared.TypeIs { s with heap := s.heap.push (eS led) } (.ref s.heap.objs.size) "set" := ⟨_, gS, rfl⟩
      have i1 := PySem.F.called_set.init.lookup
      have i2 := PySem.F.called_set.init.bind (.ref s.heap.objs.size)
      repeat (any_goals (first | assumption | wp_step))
      refine codeAny_mono (codeAny_call_builtin (R := wants (fun r y => r = .none ∧ ∃ g tk, y = { s with heap := g, toks := tk } ∧
          g.SetOf (mixKind pr wo) s.heap.objs.size (fun q => hasK (metK (fun i => ks.getD i (.inl 0)) us.length) q) (metK (fun i => ks.getD i (.inl 0)) us.length).length ∧
          (∀ b o, b < s.heap.objs.size → s.heap.get? b = some o → g.get? b = some o)) E) PySem.F.called_set.init.plain PySem.F.entry_set_init (check_set_init_1 tS ?_)) fun r2 y hr2 => ?_
      · obtain ⟨ol, hol, hcl, hdl⟩ := id hl
        have hl1 : (s.heap.push (eS led)).IsTuple l us.toArray := hl.push _
        have hT : Shared.TypeIs { s with heap := s.heap.push (eS led) } (.ref l) "tuple" := ⟨ol, Heap.get?_push_of_some _ hol, hcl⟩
        have k1 := PySem.F.sub_tuple_set
        have k2 := PySem.F.sub_tuple_frozenset
        have k3 : (Value.type "tuple" == Value.type "dict") = false := by decide
        unfold Builtin.«set.__init__» noKeywords Builtin.Frozenset.updateFrom
        generalize hPI : pyIter = PI
        wp_walk
        subst hPI
        refine wpAny_pyIter_tuple hl1 ?_
        refine wpAny_bind (wpAny_runValue ?_)
        have lt : l < s.heap.objs.size := Heap.lt_size hol
        have h3 : Ar.in1.in1.in1.handled = none := by simp [hh]
        have ne : l ≠ (s.heap.push (eS led)).objs.size := by
          rw [Heap.size_push]
          exact Nat.ne_of_lt (Nat.lt_succ_of_lt lt)
        have nf : s.heap.objs.size ∉ [(s.heap.push (eS led)).objs.size, l] := by
          rw [Heap.size_push]
          simp only [List.mem_cons, List.not_mem_nil, or_false, not_or]
          exact ⟨Nat.ne_of_lt (Nat.lt_succ_self _), Nat.ne_of_gt lt⟩
        refine set_loop ((Walks.tuple h3 _ l ne us.toArray).toS) s.heap.objs.size nf (fun i => ks.getD i (.inl 0)) (fun i v hv => hk i v (by simpa using hv)) (by simpa using hb) us.length 0 _ (by simp) (Nat.zero_le _) ⟨⟨_, Heap.get?_push_size _ rfl, rfl, rfl⟩, hl1.push _⟩ ?hS0 ?hR
        case hS0 =>
          have ge : ((s.heap.push (eS led)).push { cls := .type "tuple_iterator", data := .fields #[.ref l, .int 0 0] }).get? s.heap.objs.size = some (eS led) := Heap.get?_push_of_some _ gS
          exact ⟨_, #[], 0, _, ge, ⟨rfl, rfl, rfl⟩, rfl, fun e he => by simp at he, fun k => by simp [metK, hasK], by decide, by rfl, rfl⟩
        case hR =>
          intro y hm hS
          obtain ⟨g, ge, dr, tk, osy⟩ := y
          have x1 : ge = s.gens := hm.gens
          have x2 : dr = s.drawn := hm.drawn
          have x3 : osy = s.os := hm.os
          subst x1 x2 x3
          show wpAny _ _ _ _ _ _
          refine wpAny_pure ?_
          show wpAny _ _ (ret Value.none) _ _ _
          refine wpAny_pure ⟨rfl, g, tk, rfl, hS, fun b o hb e => ?_⟩
          refine hm.heap b o ?_ (Heap.get?_push_of_some _ (Heap.get?_push_of_some _ e))
          rw [Heap.size_push]
          simp only [List.mem_cons, List.not_mem_nil, or_false, not_or]
          exact ⟨Nat.ne_of_lt hb, Nat.ne_of_lt (Nat.lt_succ_of_lt hb)⟩
      · cases r2 with
        | error e => exact hr2
        | ok f2 =>
          cases f2 with
          | ret r =>
            obtain ⟨rfl, g, tk, rfl, hS, hk'⟩ := hr2
            repeat (any_goals (first | assumption | wp_step))
            exact h _ _ hS hk'
          | _ => exact hr2.elim
    | _ => exact hr.elim
end
/-- set(t), t of ints and texts: a new thing that has so many -/
def SetK (P : Program) (w : World) (a : Addr) (n : Nat) : HO := .ext fun h => ∃ S, h.SetOf (mixKind P w) a S n
def keyV : V → Bool
  | .int _ => true
  | .str _ => true
  | _ => false
def toK : V → Key
  | .int i => .inl i
  | .str x => .inr x
  | _ => .inl 0
def rSetT (X : Cx) : List V → Hp → VK → Prop := fun xs H Q => ∃ (p : Addr) (ys : List V), xs = [.ref p] ∧ H p = some (.tup ys) ∧ ys.all keyV = true ∧ ys.length ≤ 100 ∧ ∀ q, H q = none → Q (.ref q) (upd H q (SetK X.prog X.w q (metK (fun i => (ys.map toK).getD i (.inl 0)) ys.length).length))
theorem call_setT {X : Cx} (hc : X.calm = true) : CallR X (.type "set") (rSetT X) := by
  intro pins s σ H xs us Q I r h
  obtain ⟨p, ys, rfl, hp, hk, hl, q⟩ := h
  obtain ⟨u, rfl, rx⟩ := r.one
  cases rx
  obtain ⟨its, rv, pt, hz⟩ := I.tuple (SqT.of hp)
  have hlen := rv.length
  have hf := I.hok.fresh (a := s.heap.objs.size) (Nat.le_refl _)
  refine set_of_tuple (us := its) (ks := ys.map toK) (I.ok.hd hc) pt (fun i v hv => ?_) (by unfold scanBound; omega) fun g tk hS hkp => ?_
  · have hi := (List.getElem?_eq_some_iff.mp hv).1
    have hi2 : i < ys.length := by omega
    obtain ⟨u2, hu, ru⟩ := rv.get (List.getElem?_eq_getElem hi2)
    rw [hv] at hu
    cases hu
    have hky := List.all_eq_true.mp hk ys[i] (List.getElem_mem hi2)
    have e : (ys.map toK).getD i (.inl 0) = toK ys[i] := by simp [List.getD_eq_getElem?_getD, hi2]
    rw [e]
    cases hy : ys[i] with
    | int j =>
      rw [hy] at ru
      obtain ⟨t, rfl⟩ := ru
      exact ⟨mixKind_int _ _ _ _, rfl⟩
    | str x =>
      rw [hy] at ru
      obtain ⟨t, rfl⟩ := ru
      exact ⟨mixKind_str _ _ _ _, rfl⟩
    | _ => rw [hy] at hky; cases hky
  · rw [← hlen] at hS
    have kp : ∀ b o, s.heap.get? b = some o → g.get? b = some o := fun b o e => hkp b o (Heap.lt_size e) e
    refine ⟨.ref s.heap.objs.size, _, I.laid (t' := tk) kp (Nat.le_refl _) ?_, rfl, q _ hf⟩
    refine ⟨⟨_, hS⟩, ?_, fun h1 h2 x k => ?_⟩
    · obtain ⟨o, _, _, _, ho, _⟩ := hS
      exact ⟨o, ho⟩
    · obtain ⟨S, o, es, ep, t, ho, r⟩ := x
      exact ⟨S, o, es, ep, t, k o ho, r⟩
def rLenK (X : Cx) : List V → Hp → VK → Prop := fun xs H Q => ∃ (p : Addr) (n : Nat), xs = [.ref p] ∧ H p = some (SetK X.prog X.w p n) ∧ n ≤ 100 ∧ Q (.int (n : Int)) H
theorem call_lenK {X : Cx} : CallR X (.builtin "len") (rLenK X) := by
  intro pins s σ H xs us Q I r h
  obtain ⟨p, n, rfl, hp, hn, q⟩ := h
  obtain ⟨u, rfl, rx⟩ := r.one
  cases rx
  obtain ⟨⟨S, o, es, ep, t, ho, hex, hd, _, _, _, hf, hz⟩, _⟩ := I.hok p _ hp
  refine PySem.call_len_set ho hex hd hf (by omega) ?_
  rw [hz]
  exact ⟨.int (n : Int), H, I.kept (t' := s.toks + 1 + 1) fun b o e => e, ⟨_, rfl⟩, q⟩
end L2

set_option Elab.async false
set_option linter.all false
set_option maxRecDepth 100000
namespace K01
open PySem L2 G2
local macro_rules | `(tactic| walk_at "v") => `(tactic| repeat (with_reducible first
  | refine w_seq ?_ | refine w_asg ?_ | refine w_gname ?_ | refine w_op ?_ | refine w_var rfl ?_ | refine w_c ?_ | refine w_rI0 ?_ | refine w_ifs ?_ | refine w_ife ?_ | refine w_test ?_ | refine w_tb ?_ | refine w_bl ?_ | refine w_not ?_ | refine w_ret ?_ | refine w_retN ?_
  | refine w_nil ?_ | refine w_cons ?_ | refine w_lst ?_ | refine w_tup ?_ | refine w_cb ?_ | refine w_call ?_ | refine w_gsub ?_ | refine w_and ?_ | refine w_or ?_ | refine w_next ?_ | refine w_all ?_ | refine w_vals ?_ | refine w_compR ?_ | refine w_compT ?_ | refine w_forR ?_ | refine w_forT ?_ | refine w_forL ?_ | refine w_drop ?_ | refine w_bm ?_ | refine w_compZ ?_ | refine w_compL ?_ | refine w_chain ?_ | refine w_sl ?_ | refine w_nopart ?_ | refine w_part ?_ | refine w_unI ?_ | refine iteT ?_ | refine iteF ?_))
def top (i : Nat) : Stmt := PySem.Challenge.pw_dropsums_k01_names_and_pots.main.body.getD i (.Pass ⟨0, 0, 0, 0⟩)
abbrev sWh : Stmt := top 1
abbrev sWw : Stmt := top 2
abbrev sAw : Stmt := top 3
abbrev sAc : Stmt := top 4
abbrev sAt : Stmt := top 5
abbrev sIst : Stmt := top 24
abbrev sIam : Stmt := top 25
abbrev sIso : Stmt := top 30
def Kn (mg : Str → Option Value) (x : Str) (i : Int) : Prop := ∃ t, mg x = some (Value.int i t)
theorem pe_k {X : Cx} {x : Str} {i : Int} {pos : Pos} (h : Kn X.mg x i) (hg : Gl X x := by rfl) (hd : (x == ("__debug__" : Str)) = false := by decide) : PE X (.Name x pos) (tC (.int i)) := by
  obtain ⟨t, e⟩ := h
  exact pe_glob hg e ⟨t, rfl⟩ hd
structure Blt (mg : Str → Option Value) : Prop where
  len : mg "len" = none
  range : mg "range" = none
  tuple : mg "tuple" = none
  int : mg "int" = none
  bool : mg "bool" = none
  list : mg "list" = none
  str : mg "str" = none
  all : mg "all" = none
  any : mg "any" = none
  set : mg "set" = none
  isi : mg "isinstance" = none
/-- the comprehension that a call that is returned is handed -/
def retCallComp (s : Stmt) : Scope := match s with
  | .Return (some (.Call _ [.ListComp _ _ sc _] _ _)) _ => sc
  | _ => { kind := .function, names := [], isGenerator := false, isCoroutine := false }
abbrev nWh : List Str := ["thing"]
theorem nmWh : Nm nWh (defScope sWh) := ⟨by decide +kernel, by decide +kernel⟩
theorem scWh : FnScope nWh ["thing"] (defScope sWh) := ⟨rfl, rfl, rfl, by decide +kernel, rfl, by decide +kernel, by decide +kernel⟩
abbrev nWw : List Str := ["thing", "low", "high"]
theorem nmWw : Nm nWw (defScope sWw) := ⟨by decide +kernel, by decide +kernel⟩
theorem scWw : FnScope nWw ["thing", "low", "high"] (defScope sWw) := ⟨rfl, rfl, rfl, by decide +kernel, rfl, by decide +kernel, by decide +kernel⟩
abbrev nAw : List Str := ["many", "thing"]
theorem nmAw : Nm nAw (defScope sAw) := ⟨by decide +kernel, by decide +kernel⟩
theorem scAw : FnScope nAw ["many", "thing"] (defScope sAw) := ⟨rfl, rfl, rfl, by decide +kernel, rfl, by decide +kernel, by decide +kernel⟩
abbrev nAc : List Str := ["many", "thing"]
theorem nmAc : Nm nAc (defScope sAc) := ⟨by decide +kernel, by decide +kernel⟩
theorem scAc : FnScope nAc ["many", "thing"] (defScope sAc) := ⟨rfl, rfl, rfl, by decide +kernel, rfl, by decide +kernel, by decide +kernel⟩
abbrev nAt : List Str := ["high", "many", "thing"]
theorem nmAt : Nm nAt (defScope sAt) := ⟨by decide +kernel, by decide +kernel⟩
theorem scAt : FnScope nAt ["high", "many", "thing"] (defScope sAt) := ⟨rfl, rfl, rfl, by decide +kernel, rfl, by decide +kernel, by decide +kernel⟩
abbrev nIst : List Str := ["many", "thing"]
theorem nmIst : Nm nIst (defScope sIst) := ⟨by decide +kernel, by decide +kernel⟩
theorem scIst : FnScope nIst ["many", "thing"] (defScope sIst) := ⟨rfl, rfl, rfl, by decide +kernel, rfl, by decide +kernel, by decide +kernel⟩
abbrev nIam : List Str := ["many", "thing"]
theorem nmIam : Nm nIam (defScope sIam) := ⟨by decide +kernel, by decide +kernel⟩
theorem scIam : FnScope nIam ["many", "thing"] (defScope sIam) := ⟨rfl, rfl, rfl, by decide +kernel, rfl, by decide +kernel, by decide +kernel⟩
abbrev nIso : List Str := ["many", "thing"]
theorem nmIso : Nm nIso (defScope sIso) := ⟨by decide +kernel, by decide +kernel⟩
theorem scIso : FnScope nIso ["many", "thing"] (defScope sIso) := ⟨rfl, rfl, rfl, by decide +kernel, rfl, by decide +kernel, by decide +kernel⟩

def retAnd2 (s : Stmt) : Scope := match s with
  | .Return (some (.BoolOp _ [_, .Call _ [.ListComp _ _ sc _] _ _] _)) _ => sc
  | _ => { kind := .function, names := [], isGenerator := false, isCoroutine := false }
abbrev cAw : Scope := retCallComp ((defBody sAw).getD 1 (.Pass ⟨0, 0, 0, 0⟩))
abbrev cAc : Scope := retAnd2 ((defBody sAc).getD 0 (.Pass ⟨0, 0, 0, 0⟩))
abbrev cAt : Scope := retAnd2 ((defBody sAt).getD 0 (.Pass ⟨0, 0, 0, 0⟩))
theorem bsAw : BScope (defScope sAw) cAw ["number"] [] ["is_whole"] := { okind := by decide +kernel, kind := by decide +kernel, nocell := by decide +kernel, names := by decide +kernel, fr := by decide +kernel, ff := by decide +kernel, nd := by decide +kernel, vis := by decide +kernel, loc := by decide +kernel, gl := by decide +kernel }
theorem bsAc : BScope (defScope sAc) cAc ["count"] [] [] := { okind := by decide +kernel, kind := by decide +kernel, nocell := by decide +kernel, names := by decide +kernel, fr := by decide +kernel, ff := by decide +kernel, nd := by decide +kernel, vis := by decide +kernel, loc := by decide +kernel, gl := by decide +kernel }
theorem bsAt : BScope (defScope sAt) cAt ["count"] ["high"] [] := { okind := by decide +kernel, kind := by decide +kernel, nocell := by decide +kernel, names := by decide +kernel, fr := by decide +kernel, ff := by decide +kernel, nd := by decide +kernel, vis := by decide +kernel, loc := by decide +kernel, gl := by decide +kernel }
theorem w_andV {ta tb : TE} {σ : St} {H : Hp} {Q : VK} (h : ta σ H fun x H1 => ∃ c, x = .bl c ∧ if c = true then tb σ H1 Q else Q (.bl false) H1) : tAndV ta tb σ H Q := h
theorem w_notV {ta : TE} {σ : St} {H : Hp} {Q : VK} (h : ta σ H fun x H1 => ∃ c, x = .bl c ∧ Q (.bl (!c)) H1) : tNotV ta σ H Q := h
theorem iteB {b : Bool} {A B : Prop} (h1 : b = true → A) (h2 : b = false → B) : if b = true then A else B := by
  cases b with
  | true => exact iteT (h1 rfl)
  | false => exact iteF (h2 rfl)
theorem iteBn {b : Bool} {A B : Prop} (h1 : b = false → A) (h2 : b = true → B) : if (!b) = true then A else B := by
  cases b with
  | true => exact iteF (h2 rfl)
  | false => exact iteT (h1 rfl)
def wI (lo hi : Int) : Th → Bool
  | .int i => decide (lo ≤ i) && decide (i ≤ hi)
  | _ => false
theorem wI_int {lo hi i : Int} : wI lo hi (.int i) = (decide (lo ≤ i) && decide (i ≤ hi)) := rfl
theorem ThAt.tup_inv {H : Hp} {v : V} {t : Th} (h : ThAt H v t) (ht : t.isT = true) : ∃ p vs ts, v = .ref p ∧ t = .tup ts ∧ H p = some (.tup vs) ∧ ThsAt H vs ts := by
  cases h with
  | tup h1 h2 => exact ⟨_, _, _, rfl, rfl, h1, h2⟩
  | _ => cases ht
def spWh : Sp := fun vs H Q _ => ∃ (v : V) (t : Th), vs = [v] ∧ ThAt H v t ∧ Q (.bl (t.isI && !t.isB)) H
def spWw : Sp := fun vs H Q _ => ∃ (v : V) (t : Th) (lo hi : Int), vs = [v, .int lo, .int hi] ∧ ThAt H v t ∧ ∀ H', Same H H' → Q (.bl (wI lo hi t)) H'
theorem whole_int {t : Th} (h : (t.isI && !t.isB) = true) : ∃ i, t = .int i := by
  cases t <;> first | exact ⟨_, rfl⟩ | (cases h)
theorem whole_no {t : Th} (h : (t.isI && !t.isB) = false) (lo hi : Int) : wI lo hi t = false := by
  cases t <;> first | rfl | (cases h)
theorem ths2 {H : Hp} {vs : List V} {a b : Th} {r : List Th} (h : ThsAt H vs (a :: b :: r)) : ∃ va vb vr, vs = va :: vb :: vr ∧ ThAt H va a ∧ ThAt H vb b ∧ ThsAt H vr r := by
  cases h with
  | cons h1 h =>
    cases h with
    | cons h2 h => exact ⟨_, _, _, rfl, h1, h2, h⟩
theorem ths1 {H : Hp} {vs : List V} {a : Th} {r : List Th} (h : ThsAt H vs (a :: r)) : ∃ va vr, vs = va :: vr ∧ ThAt H va a ∧ ThsAt H vr r := by
  cases h with
  | cons h1 h => exact ⟨_, _, rfl, h1, h⟩
theorem at0 {v : V} {vs : List V} : atI (v :: vs) 0 = some v := atI_nat (j := 0) rfl
theorem at1 {a b : V} {vs : List V} : atI (a :: b :: vs) 1 = some b := atI_nat (j := 1) rfl

/-- all of a tuple of things -/
theorem th_all {D a : Addr} {te : TE} {Q : VK} {ρ : St} {H : Hp} {K : PySem.W.Frag} {vs : List V} {ts : List Th} (f : Th → Bool) (ha : H a = some (.tup vs)) (hts : ThsAt H vs ts) (hn : ts.length ≤ 1000)
    (step : ∀ (v : V) (t : Th) (H' : Hp), t ∈ ts → ThAt H' v t → Same H H' → ∀ R : VK, (∀ H'', Same H' H'' → R (.bl (f t)) H'') → te (some v :: ρ) H' R)
    (q : ∀ H', Same H H' → H' D = some (.lst ((ts.map f).map V.bl)) → Q (.ref D) H') (hD : H D = none) : CGo (Itt K a) D (gName 0) tAll te Q (none :: ρ) H := by
  have hln := hts.len
  refine cgo_tup (xs := vs) (fun i ys H' => ys = ((ts.take i).map f).map V.bl ∧ Same H H') ⟨rfl, Same.new (Same.refl H) hD⟩ (fun i ys H' _ ⟨_, k'⟩ => SqT.of (k' _ _ ha)) ?_ ?_
  · rintro i x ys H' hx ⟨rfl, K'⟩ hDy R S kR _
    obtain ⟨t, ht1, ht2⟩ := hts.atV hx
    refine w_all ?_
    refine iteT ?_
    refine step x t H' (List.mem_of_getElem? ht1) (ht2.ks (KS.same K')) K' R fun H'' K'' => ?_
    have hi := (List.getElem?_eq_some_iff.mp hx).1
    refine kR _ _ (K'' _ _ hDy) (by rw [List.length_map, List.length_map, List.length_take]; exact small1000 (by omega)) ⟨?_, (K'.trans K'').put hD⟩
    rw [List.take_add_one, ht1, List.map_append, List.map_append]
    rfl
  · rintro ys H' ⟨rfl, K'⟩ hDy
    rw [List.take_of_length_le (by omega)] at hDy
    exact q H' K' hDy
theorem all_map {α : Type} (xs : List α) (f : α → Bool) : (xs.map f).all id = xs.all f := by rw [List.all_map]; rfl
theorem any_map {α : Type} (xs : List α) (f : α → Bool) : (xs.map f).any id = xs.any f := by rw [List.any_map]; rfl
/-- no tuple of it is longer than n, no int of it greater than 10 ** 40 -/
inductive ThL (n : Nat) : Th → Prop
  | non : ThL n .non
  | bl (b : Bool) : ThL n (.bl b)
  | int {i : Int} : -(10 ^ 40) ≤ i ∧ i ≤ 10 ^ 40 → ThL n (.int i)
  | str {s : Str} : s.length ≤ 1000 → ThL n (.str s)
  | lst : ThL n .lst
  | dct : ThL n .dct
  | tup {ts : List Th} : ts.length ≤ n → (∀ t ∈ ts, ThL n t) → ThL n (.tup ts)
theorem ThL.len {n : Nat} {ts : List Th} (h : ThL n (.tup ts)) : ts.length ≤ n := by cases h; assumption
theorem ThL.all {n : Nat} {ts : List Th} (h : ThL n (.tup ts)) : ∀ t ∈ ts, ThL n t := by cases h; assumption
theorem ThL.s {n : Nat} {s : Str} (h : ThL n (.str s)) : s.length ≤ 1000 := by cases h; assumption
theorem ThL.i {n : Nat} {i : Int} (h : ThL n (.int i)) : -(10 ^ 40) ≤ i ∧ i ≤ 10 ^ 40 := by cases h; assumption
def whT (t : Th) : Bool := t.isI && !t.isB
def ge0 : Th → Bool
  | .int i => decide (0 ≤ i)
  | _ => false
/-- a row of so many wholes; counts; counts up to a bound -/
def whsT (m : Nat) : Th → Bool
  | .tup ts => decide (ts.length = m) && ts.all whT
  | _ => false
def cntT (m : Nat) : Th → Bool
  | .tup ts => decide (ts.length = m) && ts.all ge0
  | _ => false
def rowT (m : Nat) (hi : Int) : Th → Bool
  | .tup ts => decide (ts.length = m) && ts.all (wI 0 hi)
  | _ => false
theorem whsT_not {m : Nat} {t : Th} (h : t.isT = false) : whsT m t = false := by
  cases t <;> first | rfl | (cases h)
theorem ge0_wh {t : Th} : ge0 t = (whT t && ge0 t) := by cases t <;> rfl
theorem wI_ge {t : Th} {hi : Int} : wI 0 hi t = (ge0 t && wI 0 hi t) := by
  cases t <;> first | rfl | skip
  rename_i i
  show (decide (0 ≤ i) && decide (i ≤ hi)) = (decide (0 ≤ i) && (decide (0 ≤ i) && decide (i ≤ hi)))
  cases decide (0 ≤ i) <;> rfl
theorem all_and {α : Type} (f g : α → Bool) (hfg : ∀ x, g x = (f x && g x)) : ∀ xs : List α, xs.all g = (xs.all f && xs.all g)
  | [] => rfl
  | x :: xs => by
    rw [List.all_cons, List.all_cons, all_and f g hfg xs, hfg x]
    cases f x <;> cases g x <;> cases xs.all f <;> cases xs.all g <;> rfl
theorem cnt_wh {m : Nat} {t : Th} : cntT m t = (whsT m t && cntT m t) := by
  cases t <;> first | rfl | skip
  rename_i ts
  show (decide (ts.length = m) && ts.all ge0) = ((decide (ts.length = m) && ts.all whT) && (decide (ts.length = m) && ts.all ge0))
  rw [all_and whT ge0 (fun x => ge0_wh) ts]
  cases decide (ts.length = m) <;> cases ts.all whT <;> cases ts.all ge0 <;> rfl
theorem row_cnt {m : Nat} {hi : Int} {t : Th} : rowT m hi t = (cntT m t && rowT m hi t) := by
  cases t <;> first | rfl | skip
  rename_i ts
  show (decide (ts.length = m) && ts.all (wI 0 hi)) = ((decide (ts.length = m) && ts.all ge0) && (decide (ts.length = m) && ts.all (wI 0 hi)))
  rw [all_and ge0 (wI 0 hi) (fun x => wI_ge) ts]
  cases decide (ts.length = m) <;> cases ts.all ge0 <;> cases ts.all (wI 0 hi) <;> rfl
def spMT (f : Nat → Th → Bool) : Sp := fun vs H Q _ => ∃ (m : Nat) (v : V) (t : Th) (n : Nat), vs = [.int (m : Int), v] ∧ ThAt H v t ∧ ThL n t ∧ n ≤ 1000 ∧ ∀ H', Same H H' → Q (.bl (f m t)) H'
def spAt : Sp := fun vs H Q _ => ∃ (hi : Int) (m : Nat) (v : V) (t : Th) (n : Nat), vs = [.int hi, .int (m : Int), v] ∧ ThAt H v t ∧ ThL n t ∧ n ≤ 1000 ∧ ∀ H', Same H H' → Q (.bl (rowT m hi t)) H'
def spIso : Sp := fun vs H Q _ => ∃ (m : Nat) (v : V) (t : Th), vs = [.int (m : Int), v] ∧ ThAt H v t ∧ ∀ H', Same H H' → Q (.bl (wI 0 ((m : Int) - 1) t)) H'
section
variable {P : Program} {w : World} {K : PySem.W.Frag} {mg : Str → Option Value} {base : Heap}
set_option maxHeartbeats 4000000 in
theorem ok_Wh {f : Addr} {fd : FuncData} (B : Blt mg) (F : Fun K "is_whole" "is_whole" sWh f fd) : FnOk P w K mg base CX0 1 f fd ["thing"] spWh := by
  refine F.ok scWh (fun vs H Q E h => ?_) (fun cdv A outer s H vs Q E hr h => ?_)
  · obtain ⟨v, t, rfl, _⟩ := h
    rfl
  · obtain ⟨v, t, rfl, ht, k⟩ := h
    refine' ⟨_, ?hb, ?rd⟩
    case hb =>
      refine' pss_one ?s1
      case' s1 => refine' ps_ret ?p1
      case' p1 => refine' pe_and ?a1 ?a2
      case a1 => exact (pe_cB is_int B.isi PyProof.Rows.boot_isinstance (pa_2 (pvd nmWh 0) (pe_bltn (v := .ty "int") rfl B.int PyProof.Rows.boot_int rfl)))
      case' a2 => refine' pe_one ?a5
      case' a5 => refine' pe_not ?a6
      case a6 => exact (pe_cB is_bool B.isi PyProof.Rows.boot_isinstance (pa_2 (pvd nmWh 0) (pe_bltn (v := .ty "bool") rfl B.bool PyProof.Rows.boot_bool rfl)))
    case rd =>
      walk_at "v"
      refine w_andV ?_
      walk_at "v"
      refine ⟨_, t, rfl, ht, ?_⟩
      walk_at "v"
      refine iteB (fun h => ?_) (fun h => ?_)
      · refine w_notV ?_
        walk_at "v"
        refine ⟨_, t, rfl, ht, ?_⟩
        walk_at "v"
        rw [h, Bool.true_and] at k
        exact k
      · rw [h, Bool.false_and] at k
        exact k
set_option maxHeartbeats 4000000 in
theorem ok_Ww {f : Addr} {fd : FuncData} (B : Blt mg) (fW : Has P w K mg base 1 "is_whole" ["thing"] spWh) (F : Fun K "is_whole_within" "is_whole_within" sWw f fd) : FnOk P w K mg base CX0 2 f fd ["thing", "low", "high"] spWw := by
  refine F.ok scWw (fun vs H Q E h => ?_) (fun cdv A outer s H vs Q E hr h => ?_)
  · obtain ⟨v, t, lo, hi, rfl, _⟩ := h
    rfl
  · obtain ⟨v, t, lo, hi, rfl, ht, k⟩ := h
    refine' ⟨_, ?hb, ?rd⟩
    case hb =>
      refine' pss_one ?s1
      case' s1 => refine' ps_ret ?p1
      case' p1 => refine' pe_and ?a1 ?a2
      case a1 => exact pe_f fW hr (by decide) (pa_1 (pvd nmWw 0))
      case' a2 => refine' pe_one ?a5
      case a5 => exact pe_chain op_le op_le (pvd nmWw 1) (pvd nmWw 0) (pvd nmWw 2)
    case rd =>
      have k0 := k H (Same.refl H)
      walk_at "v"
      refine w_andV ?_
      walk_at "v"
      refine ⟨_, t, rfl, ht, ?_⟩
      walk_at "v"
      refine iteB (fun h => ?_) (fun h => ?_)
      · obtain ⟨i, rfl⟩ := whole_int h
        cases ht
        walk_at "v"
        by_cases h1 : lo ≤ i
        · rw [show wI lo hi (.int i) = decide (i ≤ hi) by rw [wI_int, decide_eq_true h1, Bool.true_and]] at k0
          refine iteD (fun _ => ?_) (fun z => absurd h1 z)
          walk_at "v"
          exact k0
        · rw [show wI lo hi (.int i) = false by rw [wI_int, decide_eq_false h1, Bool.false_and]] at k0
          refine iteD (fun z => absurd z h1) (fun _ => ?_)
          exact k0
      · rw [whole_no h] at k0
        exact k0
set_option maxHeartbeats 4000000 in
theorem ok_Aw {f : Addr} {fd : FuncData} (B : Blt mg) (fW : Has P w K mg base 1 "is_whole" ["thing"] spWh) (F : Fun K "are_wholes" "are_wholes" sAw f fd) : FnOk P w K mg base CX0 2 f fd ["many", "thing"] (spMT whsT) := by
  refine F.ok scAw (fun vs H Q E h => ?_) (fun cdv A outer s H vs Q E hr h => ?_)
  · obtain ⟨m, v, t, n, rfl, _⟩ := h
    rfl
  · obtain ⟨m, v, t, n, rfl, ht, hL, hn, k⟩ := h
    refine' ⟨_, ?hb, ?rd⟩
    case hb =>
      refine' pss_cons ?s1 ?r1
      case' r1 => refine' pss_one ?s2
      case s1 =>
        refine' ps_if ?o1 (pss_one (ps_ret pe_bl)) pss_nil
        case' o1 => refine' PW.pt ?o2
        case' o2 => refine' pw_or ?o3 ?o4
        case o3 => exact pt_not (pt_val (pe_cB is_tup B.isi PyProof.Rows.boot_isinstance (pa_2 (pvd nmAw 1) (pe_bltn (v := .ty "tuple") rfl B.tuple PyProof.Rows.boot_tuple rfl))))
        case' o4 => refine' pw_or1 ?o5
        case o5 => exact pt_cmpR op_ne (pe_cB call_lnT B.len PySem.boot_len (pa_1 (pvd nmAw 1))) (pvd nmAw 0) (nomark _)
      case s2 =>
        refine' ps_ret ?p1
        case' p1 => refine' pe_cB (call_all rfl) B.all PyProof.Rows.boot_all ?p2
        case' p2 => refine' pa_1 ?p3
        case p3 =>
          refine' pe_comp (ix := []) bsAw.toCScope rfl rfl (pi_tup (pvd nmAw 1)) ?h4 ?h5 ?h6
          case h4 => exact fun _ _ _ _ _ _ => pgb bsAw 0
          case h5 => exact fun _ _ _ _ _ _ => pts_nil
          case h6 => exact fun _ _ _ _ _ _ => pe_f fW hr (by decide) (pa_1 (pvb bsAw 0)) (bsAw.g 0)
    case rd =>
      walk_at "v"
      refine ⟨_, t, rfl, ht, ?_⟩
      walk_at "v"
      refine iteBn (fun h => ?_) (fun h => ?_)
      · walk_at "v"
        rw [whsT_not h] at k
        exact k _ (Same.refl _)
      obtain ⟨p, vs, ts, rfl, rfl, hp, hts⟩ := ThAt.tup_inv ht h
      have hl := hL.len
      walk_at "v"
      refine ⟨p, _, rfl, hp, ?_⟩
      rw [hts.len]
      walk_at "v"
      refine ⟨rfl, ?_⟩
      walk_at "v"
      refine iteNB (fun hne => ?_) (fun he => ?_)
      · walk_at "v"
        rw [show whsT m (.tup ts) = false by show (decide (ts.length = m) && _) = false; rw [decide_eq_false (fun z => hne (by rw [z])), Bool.false_and]] at k
        exact k _ (Same.refl _)
      have h2 : ts.length = m := by
        have : (ts.length : Int) = m := V.int.inj he
        omega
      rw [show whsT m (.tup ts) = ts.all whT by show (decide (ts.length = m) && _) = _; rw [decide_eq_true h2, Bool.true_and]] at k
      walk_at "v"
      refine ⟨p, rfl, ⟨_, SqT.of hp⟩, fun D hD => ?_⟩
      refine th_all (ρ := []) whT hp hts (by omega) (fun v t H' _ ht K' R kR => ?_) (fun H1 K1 e1 => ?_) hD
      · walk_at "v"
        exact ⟨v, t, rfl, ht, kR _ (Same.refl _)⟩
      walk_at "v"
      refine ⟨D, _, rfl, e1, ?_⟩
      rw [all_map]
      exact k _ K1
set_option maxHeartbeats 4000000 in
theorem ok_Ac {f : Addr} {fd : FuncData} (B : Blt mg) (fW : Has P w K mg base 2 "are_wholes" ["many", "thing"] (spMT whsT)) (F : Fun K "are_counts" "are_counts" sAc f fd) : FnOk P w K mg base CX0 3 f fd ["many", "thing"] (spMT cntT) := by
  refine F.ok scAc (fun vs H Q E h => ?_) (fun cdv A outer s H vs Q E hr h => ?_)
  · obtain ⟨m, v, t, n, rfl, _⟩ := h
    rfl
  · obtain ⟨m, v, t, n, rfl, ht, hL, hn, k⟩ := h
    refine' ⟨_, ?hb, ?rd⟩
    case hb =>
      refine' pss_one ?s2
      case' s2 => refine' ps_ret ?p0
      case' p0 => refine' pe_and (pe_f fW hr (by decide) (pa_2 (pvd nmAc 0) (pvd nmAc 1))) ?p9
      case' p9 => refine' pe_one ?p1
      case' p1 => refine' pe_cB (call_all rfl) B.all PyProof.Rows.boot_all ?p2
      case' p2 => refine' pa_1 ?p3
      case p3 =>
        refine' pe_comp (ix := []) bsAc.toCScope rfl rfl (pi_tup (pvd nmAc 1)) ?h4 ?h5 ?h6
        case h4 => exact fun _ _ _ _ _ _ => pgb bsAc 0
        case h5 => exact fun _ _ _ _ _ _ => pts_nil
        case h6 => exact fun _ _ _ _ _ _ => pe_cmpR op_ge (pvb bsAc 0) pe_int (nomark _)
    case rd =>
      walk_at "v"
      refine w_andV ?_
      walk_at "v"
      refine ⟨m, v, t, n, rfl, ht, hL, hn, fun H1 K1 => ?_⟩
      walk_at "v"
      rw [cnt_wh] at k
      refine iteB (fun h => ?_) (fun h => ?_)
      rotate_left
      · rw [h, Bool.false_and] at k
        exact k _ K1
      rw [h, Bool.true_and] at k
      have hT : t.isT = true := by
        cases h2 : t.isT with
        | true => rfl
        | false => rw [whsT_not h2] at h; cases h
      obtain ⟨p, vs, ts, rfl, rfl, hp, hts⟩ := ThAt.tup_inv ht hT
      have hl := hL.len
      have h' : (decide (ts.length = m) && ts.all whT) = true := h
      rw [Bool.and_eq_true] at h'
      rw [show cntT m (.tup ts) = ts.all ge0 by show (decide (ts.length = m) && _) = _; rw [h'.1, Bool.true_and]] at k
      walk_at "v"
      refine ⟨p, rfl, ⟨_, SqT.of (K1 _ _ hp)⟩, fun D hD => ?_⟩
      refine th_all (ρ := []) ge0 (K1 _ _ hp) (hts.ks (KS.same K1)) (by omega) (fun v t H' hm ht K' R kR => ?_) (fun H2 K2 e2 => ?_) hD
      · obtain ⟨i, rfl⟩ := whole_int (List.all_eq_true.mp h'.2 t hm)
        cases ht
        walk_at "v"
        exact kR _ (Same.refl _)
      walk_at "v"
      refine ⟨D, _, rfl, e2, ?_⟩
      rw [all_map]
      exact k _ (K1.trans K2)
set_option maxHeartbeats 4000000 in
theorem ok_At {f : Addr} {fd : FuncData} (B : Blt mg) (fW : Has P w K mg base 3 "are_counts" ["many", "thing"] (spMT cntT)) (F : Fun K "are_counts_to" "are_counts_to" sAt f fd) : FnOk P w K mg base CX0 4 f fd ["high", "many", "thing"] spAt := by
  refine F.ok scAt (fun vs H Q E h => ?_) (fun cdv A outer s H vs Q E hr h => ?_)
  · obtain ⟨hi, m, v, t, n, rfl, _⟩ := h
    rfl
  · obtain ⟨hi, m, v, t, n, rfl, ht, hL, hn, k⟩ := h
    refine' ⟨_, ?hb, ?rd⟩
    case hb =>
      refine' pss_one ?s2
      case' s2 => refine' ps_ret ?p0
      case' p0 => refine' pe_and (pe_f fW hr (by decide) (pa_2 (pvd nmAt 1) (pvd nmAt 2))) ?p9
      case' p9 => refine' pe_one ?p1
      case' p1 => refine' pe_cB (call_all rfl) B.all PyProof.Rows.boot_all ?p2
      case' p2 => refine' pa_1 ?p3
      case p3 =>
        refine' pe_comp (ix := [0]) bsAt.toCScope rfl rfl (pi_tup (pvd nmAt 2)) ?h4 ?h5 ?h6
        case h4 => exact fun _ _ _ _ _ _ => pgb bsAt 0
        case h5 => exact fun _ _ _ _ _ _ => pts_nil
        case h6 => exact fun _ _ _ _ _ _ => pe_cmpR op_le (pvb bsAt 0) (pvb bsAt 1) (nomark _)
    case rd =>
      walk_at "v"
      refine w_andV ?_
      walk_at "v"
      refine ⟨m, v, t, n, rfl, ht, hL, hn, fun H1 K1 => ?_⟩
      walk_at "v"
      rw [row_cnt] at k
      refine iteB (fun h => ?_) (fun h => ?_)
      rotate_left
      · rw [h, Bool.false_and] at k
        exact k _ K1
      rw [h, Bool.true_and] at k
      have hT : t.isT = true := by cases t <;> first | rfl | (cases h)
      obtain ⟨p, vs, ts, rfl, rfl, hp, hts⟩ := ThAt.tup_inv ht hT
      have hl := hL.len
      have h' : (decide (ts.length = m) && ts.all ge0) = true := h
      rw [Bool.and_eq_true] at h'
      rw [show rowT m hi (.tup ts) = ts.all (wI 0 hi) by show (decide (ts.length = m) && _) = _; rw [h'.1, Bool.true_and]] at k
      walk_at "v"
      refine ⟨p, rfl, ⟨_, SqT.of (K1 _ _ hp)⟩, fun D hD => ?_⟩
      refine th_all (ρ := [some (.int hi)]) (wI 0 hi) (K1 _ _ hp) (hts.ks (KS.same K1)) (by omega) (fun v t H' hm ht K' R kR => ?_) (fun H2 K2 e2 => ?_) hD
      · have hg := List.all_eq_true.mp h'.2 t hm
        rw [ge0_wh, Bool.and_eq_true] at hg
        obtain ⟨i, rfl⟩ := whole_int hg.1
        have h0 : decide (0 ≤ i) = true := hg.2
        cases ht
        walk_at "v"
        rw [wI_int, h0, Bool.true_and] at kR
        exact kR _ (Same.refl _)
      walk_at "v"
      refine ⟨D, _, rfl, e2, ?_⟩
      rw [all_map]
      exact k _ (K1.trans K2)
set_option maxHeartbeats 4000000 in
theorem ok_Ist {f : Addr} {fd : FuncData} (fW : Has P w K mg base 3 "are_counts" ["many", "thing"] (spMT cntT)) (F : Fun K "is_stand" "is_stand" sIst f fd) : FnOk P w K mg base CX0 4 f fd ["many", "thing"] (spMT cntT) := by
  refine F.ok scIst (fun vs H Q E h => ?_) (fun cdv A outer s H vs Q E hr h => ?_)
  · obtain ⟨m, v, t, n, rfl, _⟩ := h
    rfl
  · obtain ⟨m, v, t, n, rfl, ht, hL, hn, k⟩ := h
    refine' ⟨_, ?hb, ?rd⟩
    case hb =>
      refine' pss_one ?s2
      case s2 => exact ps_ret (pe_f fW hr (by decide) (pa_2 (pvd nmIst 0) (pvd nmIst 1)))
    case rd =>
      walk_at "v"
      exact ⟨m, v, t, n, rfl, ht, hL, hn, k⟩
set_option maxHeartbeats 4000000 in
theorem ok_Iam {f : Addr} {fd : FuncData} (fW : Has P w K mg base 3 "are_counts" ["many", "thing"] (spMT cntT)) (F : Fun K "is_amounts" "is_amounts" sIam f fd) : FnOk P w K mg base CX0 4 f fd ["many", "thing"] (spMT cntT) := by
  refine F.ok scIam (fun vs H Q E h => ?_) (fun cdv A outer s H vs Q E hr h => ?_)
  · obtain ⟨m, v, t, n, rfl, _⟩ := h
    rfl
  · obtain ⟨m, v, t, n, rfl, ht, hL, hn, k⟩ := h
    refine' ⟨_, ?hb, ?rd⟩
    case hb =>
      refine' pss_one ?s2
      case s2 => exact ps_ret (pe_f fW hr (by decide) (pa_2 (pvd nmIam 0) (pvd nmIam 1)))
    case rd =>
      walk_at "v"
      exact ⟨m, v, t, n, rfl, ht, hL, hn, k⟩
set_option maxHeartbeats 4000000 in
theorem ok_Iso {f : Addr} {fd : FuncData} (fW : Has P w K mg base 2 "is_whole_within" ["thing", "low", "high"] spWw) (F : Fun K "is_sort" "is_sort" sIso f fd) : FnOk P w K mg base CX0 3 f fd ["many", "thing"] spIso := by
  refine F.ok scIso (fun vs H Q E h => ?_) (fun cdv A outer s H vs Q E hr h => ?_)
  · obtain ⟨m, v, t, rfl, _⟩ := h
    rfl
  · obtain ⟨m, v, t, rfl, ht, k⟩ := h
    refine' ⟨_, ?hb, ?rd⟩
    case hb =>
      refine' pss_one ?s2
      case s2 => exact ps_ret (pe_f fW hr (by decide) (pa_c (pvd nmIso 1) (pa_2 pe_int (pe_op op_sub (pvd nmIso 0) pe_int))))
    case rd =>
      walk_at "v"
      exact ⟨v, t, 0, _, rfl, ht, k⟩
end
end K01

set_option Elab.async false
set_option linter.all false
set_option maxRecDepth 100000
namespace K01
open PySem L2 G2
local macro_rules | `(tactic| walk_at "v") => `(tactic| repeat (with_reducible first
  | refine w_seq ?_ | refine w_asg ?_ | refine w_gname ?_ | refine w_op ?_ | refine w_var rfl ?_ | refine w_c ?_ | refine w_rI0 ?_ | refine w_ifs ?_ | refine w_ife ?_ | refine w_test ?_ | refine w_tb ?_ | refine w_bl ?_ | refine w_not ?_ | refine w_ret ?_ | refine w_retN ?_
  | refine w_nil ?_ | refine w_cons ?_ | refine w_lst ?_ | refine w_tup ?_ | refine w_cb ?_ | refine w_call ?_ | refine w_gsub ?_ | refine w_and ?_ | refine w_or ?_ | refine w_next ?_ | refine w_all ?_ | refine w_vals ?_ | refine w_compR ?_ | refine w_compT ?_ | refine w_forR ?_ | refine w_forT ?_ | refine w_forL ?_ | refine w_drop ?_ | refine w_bm ?_ | refine w_compZ ?_ | refine w_compL ?_ | refine w_chain ?_ | refine w_sl ?_ | refine w_nopart ?_ | refine w_part ?_ | refine w_unI ?_ | refine iteT ?_ | refine iteF ?_))

abbrev sIn : Stmt := top 22
abbrev sAs : Stmt := top 26
abbrev sAi : Stmt := top 29
abbrev sUn : Stmt := top 31
abbrev nIn : List Str := ["thing"]
theorem nmIn : Nm nIn (defScope sIn) := ⟨by decide +kernel, by decide +kernel⟩
theorem scIn : FnScope nIn ["thing"] (defScope sIn) := ⟨rfl, rfl, rfl, by decide +kernel, rfl, by decide +kernel, by decide +kernel⟩
abbrev nAs : List Str := ["thing"]
theorem nmAs : Nm nAs (defScope sAs) := ⟨by decide +kernel, by decide +kernel⟩
theorem scAs : FnScope nAs ["thing"] (defScope sAs) := ⟨rfl, rfl, rfl, by decide +kernel, rfl, by decide +kernel, by decide +kernel⟩
abbrev nAi : List Str := ["many", "thing"]
theorem nmAi : Nm nAi (defScope sAi) := ⟨by decide +kernel, by decide +kernel⟩
theorem scAi : FnScope nAi ["many", "thing"] (defScope sAi) := ⟨rfl, rfl, rfl, by decide +kernel, rfl, by decide +kernel, by decide +kernel⟩
abbrev nUn : List Str := ["things"]
theorem nmUn : Nm nUn (defScope sUn) := ⟨by decide +kernel, by decide +kernel⟩
theorem scUn : FnScope nUn ["things"] (defScope sUn) := ⟨rfl, rfl, rfl, by decide +kernel, rfl, by decide +kernel, by decide +kernel⟩

def retAnd1 (s : Stmt) : Scope := match s with
  | .Return (some (.BoolOp _ [.Call _ [.ListComp _ _ sc _] _ _, _] _)) _ => sc
  | _ => { kind := .function, names := [], isGenerator := false, isCoroutine := false }
abbrev cIn : Scope := retAnd2 ((defBody sIn).getD 1 (.Pass ⟨0, 0, 0, 0⟩))
abbrev cAs : Scope := retAnd1 ((defBody sAs).getD 1 (.Pass ⟨0, 0, 0, 0⟩))
abbrev cAi : Scope := retAnd1 ((defBody sAi).getD 1 (.Pass ⟨0, 0, 0, 0⟩))
theorem bsIn : BScope (defScope sIn) cIn ["sign"] [] ["LETTERS"] := { okind := by decide +kernel, kind := by decide +kernel, nocell := by decide +kernel, names := by decide +kernel, fr := by decide +kernel, ff := by decide +kernel, nd := by decide +kernel, vis := by decide +kernel, loc := by decide +kernel, gl := by decide +kernel }
theorem bsAs : BScope (defScope sAs) cAs ["name"] [] ["is_name"] := { okind := by decide +kernel, kind := by decide +kernel, nocell := by decide +kernel, names := by decide +kernel, fr := by decide +kernel, ff := by decide +kernel, nd := by decide +kernel, vis := by decide +kernel, loc := by decide +kernel, gl := by decide +kernel }
theorem bsAi : BScope (defScope sAi) cAi ["sort"] ["many"] ["is_sort"] := { okind := by decide +kernel, kind := by decide +kernel, nocell := by decide +kernel, names := by decide +kernel, fr := by decide +kernel, ff := by decide +kernel, nd := by decide +kernel, vis := by decide +kernel, loc := by decide +kernel, gl := by decide +kernel }

def noNames : List Str := ["sorts", "begin", "in", "out", "rule", "to"]
structure BltK (K : PySem.W.Frag) (mg : Str → Option Value) : Prop extends Blt mg where
  soK : Kn mg "SORTS" 0
  ruK : Kn mg "RULES" 1
  inK : Kn mg "INPUTS" 2
  beK : Kn mg "BEGIN" 3
  anK : Kn mg "ANSWER" 4
  taK : Kn mg "TAKES" 0
  giK : Kn mg "GIVES" 1
  msK : Kn mg "MOST_SORTS" 8
  mrK : Kn mg "MOST_RULES" 8
  miK : Kn mg "MOST_INPUTS" 3
  mbK : Kn mg "MOST_BEGIN" 99
  mdK : Kn mg "MOST_DROPS" 9
  mlK : Kn mg "MOST_LETTERS" 8
  leK : ∃ t, mg "LETTERS" = some (Value.str "abcdefghijklmnopqrstuvwxyz" t)
  nnK : GTup K mg "NO_NAMES" (noNames.map V.str)
theorem bootSet : bootBuiltins "set" = some (.type "set") := by decide +kernel
def inL (y : Str) : Bool := !(Builtin.Str.occurrences "abcdefghijklmnopqrstuvwxyz" y 0 (Str.length "abcdefghijklmnopqrstuvwxyz") 1).isEmpty
def nameT : Th → Bool
  | .str s => (decide ((1 : Int) ≤ s.length) && decide ((s.length : Int) ≤ 8)) && (!(Th.str s).inW noNames && (sg s).all inL)
  | _ => false
theorem nameT_not {t : Th} (h : t.isS = false) : nameT t = false := by
  cases t <;> first | rfl | (cases h)
theorem ThAt.str_of {H : Hp} {v : V} {t : Th} (h : ThAt H v t) (hs : t.isS = true) : ∃ s, t = .str s ∧ v = .str s := by
  cases h with
  | str s => exact ⟨s, rfl, rfl⟩
  | _ => cases hs
def thK : Th → Key
  | .int i => .inl i
  | .str s => .inr s
  | _ => .inl 0
def isK : Th → Bool
  | .int _ => true
  | .str _ => true
  | _ => false
def unlT (ts : List Th) : Bool := decide (V.int ((metK (fun i => (ts.map thK).getD i (.inl 0)) ts.length).length : Int) = V.int (ts.length : Int))
theorem ths_key {H : Hp} : ∀ {vs : List V} {ts : List Th}, ThsAt H vs ts → ts.all isK = true → vs.all keyV = true ∧ vs.map toK = ts.map thK
  | [], [], _, _ => ⟨rfl, rfl⟩
  | v :: vs, t :: ts, h, ha => by
    rw [List.all_cons, Bool.and_eq_true] at ha
    cases h with
    | cons h1 h2 =>
      obtain ⟨i1, i2⟩ := ths_key h2 ha.2
      cases h1 with
      | int i => exact ⟨by rw [List.all_cons, i1]; rfl, by rw [List.map_cons, List.map_cons, i2]; rfl⟩
      | str s => exact ⟨by rw [List.all_cons, i1]; rfl, by rw [List.map_cons, List.map_cons, i2]; rfl⟩
      | _ => cases ha.1
def sortsT : Th → Bool
  | .tup ts => (decide ((1 : Int) ≤ ts.length) && decide ((ts.length : Int) ≤ 8)) && (ts.all nameT && unlT ts)
  | _ => false
def inpT (m : Nat) : Th → Bool
  | .tup ts => !decide ((3 : Int) < ts.length) && (ts.all (wI 0 ((m : Int) - 1)) && unlT ts)
  | _ => false
theorem sortsT_not {t : Th} (h : t.isT = false) : sortsT t = false := by
  cases t <;> first | rfl | (cases h)
theorem inpT_not {m : Nat} {t : Th} (h : t.isT = false) : inpT m t = false := by
  cases t <;> first | rfl | (cases h)
theorem name_key {t : Th} (h : nameT t = true) : isK t = true := by
  cases t <;> first | rfl | (cases h)
theorem wI_key {lo hi : Int} {t : Th} (h : wI lo hi t = true) : isK t = true := by
  cases t <;> first | rfl | (cases h)
theorem w_gt {K : PySem.W.Frag} {vs : List V} {σ : St} {H : Hp} {Q : VK} (h : ∀ a, SqT K H a vs → Q (.ref a) H) : tGT K vs σ H Q := h
def spT (f : Th → Bool) : Sp := fun vs H Q _ => ∃ (v : V) (t : Th) (n : Nat), vs = [v] ∧ ThAt H v t ∧ ThL n t ∧ n ≤ 1000 ∧ ∀ H', Same H H' → Q (.bl (f t)) H'
def spUn : Sp := fun vs H Q _ => ∃ (p : Addr) (us : List V) (ts : List Th), vs = [.ref p] ∧ H p = some (.tup us) ∧ ThsAt H us ts ∧ ts.all isK = true ∧ ts.length ≤ 100 ∧ ∀ H', Same H H' → Q (.bl (unlT ts)) H'
section
variable {P : Program} {w : World} {K : PySem.W.Frag} {mg : Str → Option Value} {base : Heap}
set_option maxHeartbeats 4000000 in
theorem ok_In {f : Addr} {fd : FuncData} (B : BltK K mg) (F : Fun K "is_name" "is_name" sIn f fd) : FnOk P w K mg base CX0 1 f fd ["thing"] (spT nameT) := by
  refine F.ok scIn (fun vs H Q E h => ?_) (fun cdv A outer s H vs Q E hr h => ?_)
  · obtain ⟨v, t, n, rfl, _⟩ := h
    rfl
  · obtain ⟨v, t, n, rfl, ht, hL, hn, k⟩ := h
    refine' ⟨_, ?hb, ?rd⟩
    case hb =>
      obtain ⟨tl, hle⟩ := B.leK
      refine' pss_cons ?s1 ?r1
      case' r1 => refine' pss_one ?s2
      case s1 =>
        refine' ps_if ?o1 (pss_one (ps_ret pe_bl)) pss_nil
        case' o1 => refine' PW.pt ?o2
        case' o2 => refine' pw_or ?o3 ?o4
        case o3 => exact pt_not (pt_val (pe_cB is_str B.isi PyProof.Rows.boot_isinstance (pa_2 (pvd nmIn 0) (pe_bltn (v := .ty "str") rfl B.str PyProof.Rows.boot_str rfl))))
        case' o4 => refine' pw_or1 ?o5
        case' o5 => refine' pt_not ?o6
        case o6 => exact pt_chain op_le op_le pe_int (pe_cB call_len_str B.len PySem.boot_len (pa_1 (pvd nmIn 0))) (pe_k B.mlK)
      case s2 =>
        refine' ps_ret ?p0
        case' p0 => refine' pe_and ?p1 ?p2
        case p1 => exact pe_cmpR (op_notW (ws := noNames) hr) (pvd nmIn 0) (pe_gt B.nnK) (by with_unfolding_all rfl)
        case' p2 => refine' pe_one ?p3
        case' p3 => refine' pe_cB (call_all rfl) B.all PyProof.Rows.boot_all ?p4
        case' p4 => refine' pa_1 ?p5
        case p5 =>
          refine' pe_comp (ix := []) bsIn.toCScope rfl rfl (pi_tx (pvd nmIn 0)) ?h4 ?h5 ?h6
          case h4 => exact fun _ _ _ _ _ _ => pgb bsIn 0
          case h5 => exact fun _ _ _ _ _ _ => pts_nil
          case h6 => exact fun _ _ _ _ _ _ => pe_cmpR op_in_str (pvb bsIn 0) (pe_glob (bsIn.g 0) hle (v := .str "abcdefghijklmnopqrstuvwxyz") ⟨tl, rfl⟩) (by with_unfolding_all rfl)
    case rd =>
      walk_at "v"
      refine ⟨_, t, rfl, ht, ?_⟩
      walk_at "v"
      refine iteBn (fun h => ?_) (fun h => ?_)
      · walk_at "v"
        rw [nameT_not h] at k
        exact k _ (Same.refl _)
      obtain ⟨s, rfl, rfl⟩ := ThAt.str_of ht h
      have hsl := hL.s
      walk_at "v"
      refine ⟨s, rfl, Nat.le_of_lt (small1000 hsl), ?_⟩
      walk_at "v"
      by_cases h1 : (1 : Int) ≤ s.length
      rotate_left
      · refine iteD (fun z => absurd z h1) (fun _ => ?_)
        walk_at "v"
        rw [show nameT (.str s) = false by show ((decide _ && _) && _) = false; rw [decide_eq_false h1, Bool.false_and, Bool.false_and]] at k
        exact k _ (Same.refl _)
      refine iteD (fun _ => ?_) (fun z => absurd h1 z)
      walk_at "v"
      refine iteBn (fun h2 => ?_) (fun h2 => ?_)
      · walk_at "v"
        rw [show nameT (.str s) = false by show ((decide _ && decide _) && _) = false; rw [h2, Bool.and_false, Bool.false_and]] at k
        exact k _ (Same.refl _)
      rw [show nameT (.str s) = (!(Th.str s).inW noNames && (sg s).all inL) by show ((decide _ && decide _) && _) = _; rw [h2, decide_eq_true h1, Bool.true_and, Bool.true_and]] at k
      walk_at "v"
      refine w_andV ?_
      walk_at "v"
      refine w_gt fun a ha => ?_
      refine ⟨a, .str s, rfl, ha, .str s, ?_⟩
      walk_at "v"
      refine iteB (fun h3 => ?_) (fun h3 => ?_)
      rotate_left
      · rw [h3, Bool.false_and] at k
        exact k _ (Same.refl _)
      rw [h3, Bool.true_and] at k
      walk_at "v"
      refine w_compX ?_
      walk_at "v"
      refine ⟨s, rfl, fun D hD => ?_⟩
      have hgl : (sg s).length ≤ 1000 := by rw [sg_len]; exact hsl
      refine cgo_tx (ρ := []) (fun i ys H' => ys = (((sg s).take i).map inL).map V.bl ∧ Same H H') ⟨rfl, Same.new (Same.refl H) hD⟩ ?_ ?_
      · rintro i y ys H' hy ⟨rfl, K'⟩ hDy R S kR _
        walk_at "v"
        refine ⟨y, _, rfl, rfl, ?_⟩
        refine kR _ _ hDy (by rw [List.length_map, List.length_map, List.length_take]; exact small1000 (by omega)) ⟨?_, K'.put hD⟩
        rw [List.take_add_one, hy, List.map_append, List.map_append]
        rfl
      rintro ys H1 ⟨rfl, K1⟩ e1
      rw [List.take_length] at e1
      walk_at "v"
      refine ⟨D, _, rfl, e1, ?_⟩
      rw [all_map]
      exact k _ K1
set_option maxHeartbeats 4000000 in
theorem ok_Un {f : Addr} {fd : FuncData} (B : Blt mg) (F : Fun K "are_unlike" "are_unlike" sUn f fd) : FnOk P w K mg base CX0 1 f fd ["things"] spUn := by
  refine F.ok scUn (fun vs H Q E h => ?_) (fun cdv A outer s H vs Q E hr h => ?_)
  · obtain ⟨p, us, ts, rfl, _⟩ := h
    rfl
  · obtain ⟨p, us, ts, rfl, hp, hts, ha, hl, k⟩ := h
    refine' ⟨_, ?hb, ?rd⟩
    case hb =>
      refine' pss_one ?s2
      case' s2 => refine' ps_ret ?p0
      case p0 => exact pe_cmpR op_eq (pe_cB call_lenK B.len PySem.boot_len (pa_1 (pe_cT (call_setT rfl) B.set bootSet (pa_1 (pvd nmUn 0))))) (pe_cB call_lnT B.len PySem.boot_len (pa_1 (pvd nmUn 0))) (nomark _)
    case rd =>
      obtain ⟨k1, k2⟩ := ths_key hts ha
      have hln := hts.len
      walk_at "v"
      refine ⟨p, us, rfl, hp, k1, by omega, fun q hq => ?_⟩
      have hm := metK_le (fun i => (us.map toK).getD i (.inl 0)) us.length
      have KQ : ∀ o, Same H (upd H q o) := fun o => Same.new (Same.refl H) hq
      walk_at "v"
      refine ⟨q, _, rfl, upd_same, by omega, ?_⟩
      walk_at "v"
      refine ⟨p, us, rfl, KQ _ _ _ hp, ?_⟩
      walk_at "v"
      refine ⟨rfl, ?_⟩
      rw [k2, hln]
      exact k _ (KQ _)
set_option maxHeartbeats 4000000 in
theorem ok_As {f : Addr} {fd : FuncData} (B : BltK K mg) (fN : Has P w K mg base 1 "is_name" ["thing"] (spT nameT)) (fU : Has P w K mg base 1 "are_unlike" ["things"] spUn) (F : Fun K "are_sorts" "are_sorts" sAs f fd) : FnOk P w K mg base CX0 2 f fd ["thing"] (spT sortsT) := by
  refine F.ok scAs (fun vs H Q E h => ?_) (fun cdv A outer s H vs Q E hr h => ?_)
  · obtain ⟨v, t, n, rfl, _⟩ := h
    rfl
  · obtain ⟨v, t, n, rfl, ht, hL, hn, k⟩ := h
    refine' ⟨_, ?hb, ?rd⟩
    case hb =>
      refine' pss_cons ?s1 ?r1
      case' r1 => refine' pss_one ?s2
      case s1 =>
        refine' ps_if ?o1 (pss_one (ps_ret pe_bl)) pss_nil
        case' o1 => refine' PW.pt ?o2
        case' o2 => refine' pw_or ?o3 ?o4
        case o3 => exact pt_not (pt_val (pe_cB is_tup B.isi PyProof.Rows.boot_isinstance (pa_2 (pvd nmAs 0) (pe_bltn (v := .ty "tuple") rfl B.tuple PyProof.Rows.boot_tuple rfl))))
        case' o4 => refine' pw_or1 ?o5
        case' o5 => refine' pt_not ?o6
        case o6 => exact pt_chain op_le op_le pe_int (pe_cB call_lnT B.len PySem.boot_len (pa_1 (pvd nmAs 0))) (pe_k B.msK)
      case s2 =>
        refine' ps_ret ?p0
        case' p0 => refine' pe_and ?p1 ?p2
        case' p1 => refine' pe_cB (call_all rfl) B.all PyProof.Rows.boot_all ?p4
        case' p4 => refine' pa_1 ?p5
        case p5 =>
          refine' pe_comp (ix := []) bsAs.toCScope rfl rfl (pi_tup (pvd nmAs 0)) ?h4 ?h5 ?h6
          case h4 => exact fun _ _ _ _ _ _ => pgb bsAs 0
          case h5 => exact fun _ _ _ _ _ _ => pts_nil
          case h6 => exact fun _ _ _ _ _ _ => pe_f fN hr (by decide) (pa_1 (pvb bsAs 0)) (bsAs.g 0)
        case' p2 => refine' pe_one ?p3
        case p3 => exact pe_f fU hr (by decide) (pa_1 (pvd nmAs 0))
    case rd =>
      walk_at "v"
      refine ⟨_, t, rfl, ht, ?_⟩
      walk_at "v"
      refine iteBn (fun h => ?_) (fun h => ?_)
      · walk_at "v"
        rw [sortsT_not h] at k
        exact k _ (Same.refl _)
      obtain ⟨p, vs, ts, rfl, rfl, hp, hts⟩ := ThAt.tup_inv ht h
      have hl := hL.len
      walk_at "v"
      refine ⟨p, _, rfl, hp, ?_⟩
      rw [hts.len]
      walk_at "v"
      by_cases h1 : (1 : Int) ≤ ts.length
      rotate_left
      · refine iteD (fun z => absurd z h1) (fun _ => ?_)
        walk_at "v"
        rw [show sortsT (.tup ts) = false by show ((decide _ && _) && _) = false; rw [decide_eq_false h1, Bool.false_and, Bool.false_and]] at k
        exact k _ (Same.refl _)
      refine iteD (fun _ => ?_) (fun z => absurd h1 z)
      walk_at "v"
      refine iteBn (fun h2 => ?_) (fun h2 => ?_)
      · walk_at "v"
        rw [show sortsT (.tup ts) = false by show ((decide _ && decide _) && _) = false; rw [h2, Bool.and_false, Bool.false_and]] at k
        exact k _ (Same.refl _)
      rw [show sortsT (.tup ts) = (ts.all nameT && unlT ts) by show ((decide _ && decide _) && _) = _; rw [h2, decide_eq_true h1, Bool.true_and, Bool.true_and]] at k
      have h2' := of_decide_eq_true h2
      walk_at "v"
      refine w_andV ?_
      walk_at "v"
      refine ⟨p, rfl, ⟨_, SqT.of hp⟩, fun D hD => ?_⟩
      refine th_all (ρ := []) nameT hp hts (by omega) (fun v t H' hm ht K' R kR => ?_) (fun H1 K1 e1 => ?_) hD
      · walk_at "v"
        exact ⟨v, t, n, rfl, ht, hL.all t hm, hn, kR⟩
      walk_at "v"
      refine ⟨D, _, rfl, e1, ?_⟩
      rw [all_map]
      walk_at "v"
      refine iteB (fun h3 => ?_) (fun h3 => ?_)
      rotate_left
      · rw [h3, Bool.false_and] at k
        exact k _ K1
      rw [h3, Bool.true_and] at k
      walk_at "v"
      exact ⟨p, vs, ts, rfl, K1 _ _ hp, hts.ks (KS.same K1), List.all_eq_true.mpr fun t ht => name_key (List.all_eq_true.mp h3 t ht), by omega, fun H2 K2 => k _ (K1.trans K2)⟩
set_option maxHeartbeats 4000000 in
theorem ok_Ai {f : Addr} {fd : FuncData} (B : BltK K mg) (fN : Has P w K mg base 3 "is_sort" ["many", "thing"] spIso) (fU : Has P w K mg base 1 "are_unlike" ["things"] spUn) (F : Fun K "are_inputs" "are_inputs" sAi f fd) : FnOk P w K mg base CX0 4 f fd ["many", "thing"] (spMT inpT) := by
  refine F.ok scAi (fun vs H Q E h => ?_) (fun cdv A outer s H vs Q E hr h => ?_)
  · obtain ⟨m, v, t, n, rfl, _⟩ := h
    rfl
  · obtain ⟨m, v, t, n, rfl, ht, hL, hn, k⟩ := h
    refine' ⟨_, ?hb, ?rd⟩
    case hb =>
      refine' pss_cons ?s1 ?r1
      case' r1 => refine' pss_one ?s2
      case s1 =>
        refine' ps_if ?o1 (pss_one (ps_ret pe_bl)) pss_nil
        case' o1 => refine' PW.pt ?o2
        case' o2 => refine' pw_or ?o3 ?o4
        case o3 => exact pt_not (pt_val (pe_cB is_tup B.isi PyProof.Rows.boot_isinstance (pa_2 (pvd nmAi 1) (pe_bltn (v := .ty "tuple") rfl B.tuple PyProof.Rows.boot_tuple rfl))))
        case' o4 => refine' pw_or1 ?o5
        case o5 => exact pt_cmpR op_gt (pe_cB call_lnT B.len PySem.boot_len (pa_1 (pvd nmAi 1))) (pe_k B.miK) (nomark _)
      case s2 =>
        refine' ps_ret ?p0
        case' p0 => refine' pe_and ?p1 ?p2
        case' p1 => refine' pe_cB (call_all rfl) B.all PyProof.Rows.boot_all ?p4
        case' p4 => refine' pa_1 ?p5
        case p5 =>
          refine' pe_comp (ix := [0]) bsAi.toCScope rfl rfl (pi_tup (pvd nmAi 1)) ?h4 ?h5 ?h6
          case h4 => exact fun _ _ _ _ _ _ => pgb bsAi 0
          case h5 => exact fun _ _ _ _ _ _ => pts_nil
          case h6 => exact fun _ _ _ _ _ _ => pe_f fN hr (by decide) (pa_2 (pvb bsAi 1) (pvb bsAi 0)) (bsAi.g 0)
        case' p2 => refine' pe_one ?p3
        case p3 => exact pe_f fU hr (by decide) (pa_1 (pvd nmAi 1))
    case rd =>
      walk_at "v"
      refine ⟨_, t, rfl, ht, ?_⟩
      walk_at "v"
      refine iteBn (fun h => ?_) (fun h => ?_)
      · walk_at "v"
        rw [inpT_not h] at k
        exact k _ (Same.refl _)
      obtain ⟨p, vs, ts, rfl, rfl, hp, hts⟩ := ThAt.tup_inv ht h
      have hl := hL.len
      walk_at "v"
      refine ⟨p, _, rfl, hp, ?_⟩
      rw [hts.len]
      walk_at "v"
      refine iteB (fun h2 => ?_) (fun h2 => ?_)
      · walk_at "v"
        rw [show inpT m (.tup ts) = false by show (!decide _ && _) = false; rw [h2, Bool.not_true, Bool.false_and]] at k
        exact k _ (Same.refl _)
      have h2' := of_decide_eq_false h2
      rw [show inpT m (.tup ts) = (ts.all (wI 0 ((m : Int) - 1)) && unlT ts) by show (!decide _ && _) = _; rw [h2, Bool.not_false, Bool.true_and]] at k
      walk_at "v"
      refine w_andV ?_
      walk_at "v"
      refine ⟨p, rfl, ⟨_, SqT.of hp⟩, fun D hD => ?_⟩
      refine th_all (ρ := [some (.int (m : Int))]) (wI 0 ((m : Int) - 1)) hp hts (by omega) (fun v t H' hm ht K' R kR => ?_) (fun H1 K1 e1 => ?_) hD
      · walk_at "v"
        exact ⟨m, v, t, rfl, ht, kR⟩
      walk_at "v"
      refine ⟨D, _, rfl, e1, ?_⟩
      rw [all_map]
      walk_at "v"
      refine iteB (fun h3 => ?_) (fun h3 => ?_)
      rotate_left
      · rw [h3, Bool.false_and] at k
        exact k _ K1
      rw [h3, Bool.true_and] at k
      walk_at "v"
      exact ⟨p, vs, ts, rfl, K1 _ _ hp, hts.ks (KS.same K1), List.all_eq_true.mpr fun t ht => wI_key (List.all_eq_true.mp h3 t ht), by omega, fun H2 K2 => k _ (K1.trans K2)⟩
end
end K01

set_option Elab.async false
set_option linter.all false
set_option maxRecDepth 100000
namespace K01
open PySem L2 G2
local macro_rules | `(tactic| walk_at "v") => `(tactic| repeat (with_reducible first
  | refine w_seq ?_ | refine w_asg ?_ | refine w_gname ?_ | refine w_op ?_ | refine w_var rfl ?_ | refine w_c ?_ | refine w_rI0 ?_ | refine w_ifs ?_ | refine w_ife ?_ | refine w_test ?_ | refine w_tb ?_ | refine w_bl ?_ | refine w_not ?_ | refine w_ret ?_ | refine w_retN ?_
  | refine w_nil ?_ | refine w_cons ?_ | refine w_lst ?_ | refine w_tup ?_ | refine w_cb ?_ | refine w_call ?_ | refine w_gsub ?_ | refine w_and ?_ | refine w_or ?_ | refine w_next ?_ | refine w_all ?_ | refine w_vals ?_ | refine w_compR ?_ | refine w_compT ?_ | refine w_forR ?_ | refine w_forT ?_ | refine w_forL ?_ | refine w_drop ?_ | refine w_bm ?_ | refine w_compZ ?_ | refine w_compL ?_ | refine w_chain ?_ | refine w_sl ?_ | refine w_nopart ?_ | refine w_part ?_ | refine w_unI ?_ | refine iteT ?_ | refine iteF ?_))

abbrev sIr : Stmt := top 28
abbrev sAr : Stmt := top 27
abbrev sIp : Stmt := top 23
abbrev nIr : List Str := ["many", "thing"]
theorem nmIr : Nm nIr (defScope sIr) := ⟨by decide +kernel, by decide +kernel⟩
theorem scIr : FnScope nIr ["many", "thing"] (defScope sIr) := ⟨rfl, rfl, rfl, by decide +kernel, rfl, by decide +kernel, by decide +kernel⟩
abbrev nAr : List Str := ["many", "thing"]
theorem nmAr : Nm nAr (defScope sAr) := ⟨by decide +kernel, by decide +kernel⟩
theorem scAr : FnScope nAr ["many", "thing"] (defScope sAr) := ⟨rfl, rfl, rfl, by decide +kernel, rfl, by decide +kernel, by decide +kernel⟩
abbrev nIp : List Str := ["thing", "many"]
theorem nmIp : Nm nIp (defScope sIp) := ⟨by decide +kernel, by decide +kernel⟩
theorem scIp : FnScope nIp ["thing"] (defScope sIp) := ⟨rfl, rfl, rfl, by decide +kernel, rfl, by decide +kernel, by decide +kernel⟩

def ifNotC (s : Stmt) : Scope := match s with
  | .If (.UnaryOp _ (.Call _ [.ListComp _ _ sc _] _ _) _) _ _ _ => sc
  | _ => { kind := .function, names := [], isGenerator := false, isCoroutine := false }
abbrev cIrA : Scope := ifNotC ((defBody sIr).getD 1 (.Pass ⟨0, 0, 0, 0⟩))
abbrev cIrB : Scope := retAnd1 ((defBody sIr).getD 2 (.Pass ⟨0, 0, 0, 0⟩))
abbrev cAr : Scope := retCallComp ((defBody sAr).getD 1 (.Pass ⟨0, 0, 0, 0⟩))
theorem bsIrA : BScope (defScope sIr) cIrA ["side"] ["many"] ["are_counts_to", "MOST_DROPS"] := { okind := by decide +kernel, kind := by decide +kernel, nocell := by decide +kernel, names := by decide +kernel, fr := by decide +kernel, ff := by decide +kernel, nd := by decide +kernel, vis := by decide +kernel, loc := by decide +kernel, gl := by decide +kernel }
theorem bsIrB : BScope (defScope sIr) cIrB ["count"] [] [] := { okind := by decide +kernel, kind := by decide +kernel, nocell := by decide +kernel, names := by decide +kernel, fr := by decide +kernel, ff := by decide +kernel, nd := by decide +kernel, vis := by decide +kernel, loc := by decide +kernel, gl := by decide +kernel }
theorem bsAr : BScope (defScope sAr) cAr ["rule"] ["many"] ["is_rule"] := { okind := by decide +kernel, kind := by decide +kernel, nocell := by decide +kernel, names := by decide +kernel, fr := by decide +kernel, ff := by decide +kernel, nd := by decide +kernel, vis := by decide +kernel, loc := by decide +kernel, gl := by decide +kernel }

def iOf : Th → Int
  | .int i => i
  | _ => 0
def rw' : Th → List Int
  | .tup ts => ts.map iOf
  | _ => []
theorem ths_ints {H : Hp} : ∀ {vs : List V} {ts : List Th}, ThsAt H vs ts → (∀ t ∈ ts, ∃ i, t = .int i) → vs = (ts.map iOf).map V.int
  | [], [], _, _ => rfl
  | v :: vs, t :: ts, h, ha => by
    obtain ⟨i, rfl⟩ := ha t List.mem_cons_self
    cases h with
    | cons h1 h2 =>
      cases h1
      rw [List.map_cons, List.map_cons, ← ths_ints h2 fun t h => ha t (List.mem_cons_of_mem _ h)]
      rfl
theorem wI_int' {lo hi : Int} {t : Th} (h : wI lo hi t = true) : ∃ i, t = .int i ∧ lo ≤ i ∧ i ≤ hi := by
  cases t with
  | int i =>
    rw [wI_int, Bool.and_eq_true, decide_eq_true_eq, decide_eq_true_eq] at h
    exact ⟨i, rfl, h.1, h.2⟩
  | _ => cases h
theorem row_inv {H : Hp} {v : V} {t : Th} {m : Nat} {hi : Int} (ht : ThAt H v t) (h : rowT m hi t = true) : ∃ (p : Addr) (ns : List Int), v = .ref p ∧ H p = some (.tup (ns.map V.int)) ∧ rw' t = ns ∧ ns.length = m ∧ ∀ n ∈ ns, 0 ≤ n ∧ n ≤ hi := by
  have hT : t.isT = true := by cases t <;> first | rfl | (cases h)
  obtain ⟨p, vs, ts, rfl, rfl, hp, hts⟩ := ThAt.tup_inv ht hT
  have h' : (decide (ts.length = m) && ts.all (wI 0 hi)) = true := h
  rw [Bool.and_eq_true, decide_eq_true_eq] at h'
  have hi' : ∀ t ∈ ts, ∃ i, t = .int i := fun t ht => let ⟨i, e, _⟩ := wI_int' (List.all_eq_true.mp h'.2 t ht); ⟨i, e⟩
  refine ⟨p, ts.map iOf, rfl, by rw [← ths_ints hts hi']; exact hp, rfl, by rw [List.length_map]; exact h'.1, fun n hn => ?_⟩
  obtain ⟨t, ht, rfl⟩ := List.mem_map.mp hn
  obtain ⟨i, rfl, h1, h2⟩ := wI_int' (List.all_eq_true.mp h'.2 t ht)
  exact ⟨h1, h2⟩
theorem w_neT {H : Hp} {Q : VK} {p q : Addr} {ns ms : List Int} (hp : H p = some (.tup (ns.map V.int))) (hq : H q = some (.tup (ms.map V.int))) (h : Q (.bl (!decide (ns = ms))) H) : rNeD (.ref p) (.ref q) H Q := by
  refine ⟨_, _, .tup hp (rdInts ns), .tup hq (rdInts ms), lay_ints ns, lay_ints ms, ?_, ?_⟩
  · show PyData.depthAll _ + 1 ≤ 60
    rw [depth_ints]
    decide
  · have e : PyData.eqv (.tuple (ns.map PyData.int)) (.tuple (ms.map PyData.int)) = decide (ns = ms) := eqv_ints ns ms
    rw [e]
    exact h
def ruleT (m : Nat) : Th → Bool
  | .tup [a, b] => (rowT m 9 a && rowT m 9 b) && ((rw' a).any (fun i => decide (0 < i)) && !decide (rw' a = rw' b))
  | _ => false
def rulesT (m : Nat) : Th → Bool
  | .tup ts => !decide ((8 : Int) < ts.length) && ts.all (ruleT m)
  | _ => false
def lenT : Th → Nat
  | .tup ts => ts.length
  | _ => 0
def potT : Th → Bool
  | .tup [s, r, i, b, a] => sortsT s && (rulesT (lenT s) r && (inpT (lenT s) i && (rowT (lenT s) 99 b && wI 0 ((lenT s : Int) - 1) a)))
  | _ => false
theorem ruleT_not {m : Nat} {t : Th} (h : t.isT = false) : ruleT m t = false := by
  cases t <;> first | rfl | (cases h)
theorem ruleT_len {m : Nat} {ts : List Th} (h : ts.length ≠ 2) : ruleT m (.tup ts) = false := by
  match ts with
  | [] => rfl
  | [a] => rfl
  | [a, b] => exact absurd rfl h
  | a :: b :: c :: r => rfl
theorem rulesT_not {m : Nat} {t : Th} (h : t.isT = false) : rulesT m t = false := by
  cases t <;> first | rfl | (cases h)
theorem potT_not {t : Th} (h : t.isT = false) : potT t = false := by
  cases t <;> first | rfl | (cases h)
theorem potT_len {ts : List Th} (h : ts.length ≠ 5) : potT (.tup ts) = false := by
  match ts with
  | [] => rfl
  | [a] => rfl
  | [a, b] => rfl
  | [a, b, c] => rfl
  | [a, b, c, d] => rfl
  | [a, b, c, d, e] => exact absurd rfl h
  | a :: b :: c :: d :: e :: f :: r => rfl
theorem eq5 {ts : List Th} (h : ts.length = 5) : ∃ a b c d e, ts = [a, b, c, d, e] := by
  match ts, h with
  | [a, b, c, d, e], _ => exact ⟨a, b, c, d, e, rfl⟩
theorem at2 {a b c : V} {vs : List V} : atI (a :: b :: c :: vs) 2 = some c := atI_nat (j := 2) rfl
theorem at3 {a b c d : V} {vs : List V} : atI (a :: b :: c :: d :: vs) 3 = some d := atI_nat (j := 3) rfl
theorem at4 {a b c d e : V} {vs : List V} : atI (a :: b :: c :: d :: e :: vs) 4 = some e := atI_nat (j := 4) rfl
section
variable {P : Program} {w : World} {K : PySem.W.Frag} {mg : Str → Option Value} {base : Heap}
set_option maxHeartbeats 4000000 in
theorem ok_Ir {f : Addr} {fd : FuncData} (B : BltK K mg) (fA : Has P w K mg base 4 "are_counts_to" ["high", "many", "thing"] spAt) (F : Fun K "is_rule" "is_rule" sIr f fd) : FnOk P w K mg base CX0 5 f fd ["many", "thing"] (spMT ruleT) := by
  refine F.ok scIr (fun vs H Q E h => ?_) (fun cdv A outer s H vs Q E hr h => ?_)
  · obtain ⟨m, v, t, n, rfl, _⟩ := h
    rfl
  · obtain ⟨m, v, t, n, rfl, ht, hL, hn, k⟩ := h
    refine' ⟨_, ?hb, ?rd⟩
    case hb =>
      refine' pss_cons ?s1 ?r1
      case' r1 => refine' pss_cons ?s2 ?r2
      case' r2 => refine' pss_one ?s3
      case s1 =>
        refine' ps_if ?o1 (pss_one (ps_ret pe_bl)) pss_nil
        case' o1 => refine' PW.pt ?o2
        case' o2 => refine' pw_or ?o3 ?o4
        case o3 => exact pt_not (pt_val (pe_cB is_tup B.isi PyProof.Rows.boot_isinstance (pa_2 (pvd nmIr 1) (pe_bltn (v := .ty "tuple") rfl B.tuple PyProof.Rows.boot_tuple rfl))))
        case' o4 => refine' pw_or1 ?o5
        case o5 => exact pt_cmpR op_ne (pe_cB call_lnT B.len PySem.boot_len (pa_1 (pvd nmIr 1))) pe_int (nomark _)
      case s2 =>
        refine' ps_if ?q1 (pss_one (ps_ret pe_bl)) pss_nil
        case' q1 => refine' pt_not ?q2
        case' q2 => refine' pt_val ?q3
        case' q3 => refine' pe_cB (call_all rfl) B.all PyProof.Rows.boot_all ?q4
        case' q4 => refine' pa_1 ?q5
        case q5 =>
          refine' pe_comp (ix := [0]) bsIrA.toCScope rfl rfl (pi_tup (pvd nmIr 1)) ?g4 ?g5 ?g6
          case g4 => exact fun _ _ _ _ _ _ => pgb bsIrA 0
          case g5 => exact fun _ _ _ _ _ _ => pts_nil
          case g6 => exact fun _ _ _ _ _ _ => pe_f fA hr (by decide) (pa_c (pe_k B.mdK (bsIrA.g 1)) (pa_2 (pvb bsIrA 1) (pvb bsIrA 0))) (bsIrA.g 0)
      case s3 =>
        refine' ps_ret ?p0
        case' p0 => refine' pe_and ?p1 ?p2
        case' p1 => refine' pe_cB (call_any rfl) B.any PyProof.Rows.boot_any ?p4
        case' p4 => refine' pa_1 ?p5
        case p5 =>
          refine' pe_comp (ix := []) bsIrB.toCScope rfl rfl (pi_tup (pe_ix ix_d (pvd nmIr 1) (pe_k B.taK) (fun _ _ => rfl))) ?h4 ?h5 ?h6
          case h4 => exact fun _ _ _ _ _ _ => pgb bsIrB 0
          case h5 => exact fun _ _ _ _ _ _ => pts_nil
          case h6 => exact fun _ _ _ _ _ _ => pe_cmpR op_gt (pvb bsIrB 0) pe_int (nomark _)
        case' p2 => refine' pe_one ?p3
        case p3 => exact pe_cmpR (op_neD hr) (pe_ix ix_d (pvd nmIr 1) (pe_k B.taK) (fun _ _ => rfl)) (pe_ix ix_d (pvd nmIr 1) (pe_k B.giK) (fun _ _ => rfl)) (nomark _)
    case rd =>
      walk_at "v"
      refine ⟨_, t, rfl, ht, ?_⟩
      walk_at "v"
      refine iteBn (fun h => ?_) (fun h => ?_)
      · walk_at "v"
        rw [ruleT_not h] at k
        exact k _ (Same.refl _)
      obtain ⟨p, vs, ts, rfl, rfl, hp, hts⟩ := ThAt.tup_inv ht h
      walk_at "v"
      refine ⟨p, _, rfl, hp, ?_⟩
      rw [hts.len]
      walk_at "v"
      refine ⟨rfl, ?_⟩
      walk_at "v"
      refine iteNB (fun hne => ?_) (fun he => ?_)
      · walk_at "v"
        rw [ruleT_len (fun z => hne (by rw [z]; rfl))] at k
        exact k _ (Same.refl _)
      have h2 : ts.length = 2 := by
        have : (ts.length : Int) = 2 := V.int.inj he
        omega
      walk_at "v"
      refine ⟨p, rfl, ⟨_, SqT.of hp⟩, fun D hD => ?_⟩
      refine th_all (ρ := [some (.int (m : Int))]) (rowT m 9) hp hts (by omega) (fun v t H' hm ht K' R kR => ?_) (fun H1 K1 e1 => ?_) hD
      · walk_at "v"
        exact ⟨9, m, v, t, n, rfl, ht, hL.all t hm, hn, kR⟩
      obtain ⟨ta, tb, rfl⟩ : ∃ a b, ts = [a, b] := by
        match ts, h2 with
        | [a, b], _ => exact ⟨a, b, rfl⟩
      obtain ⟨va, vb, vr, rfl, ha, hb, hc⟩ := ths2 hts
      cases hc
      walk_at "v"
      refine ⟨D, _, rfl, e1, ?_⟩
      rw [all_map]
      walk_at "v"
      have hall : ([ta, tb] : List Th).all (rowT m 9) = (rowT m 9 ta && rowT m 9 tb) := by simp
      rw [hall]
      refine iteBn (fun h3 => ?_) (fun h3 => ?_)
      · walk_at "v"
        rw [show ruleT m (.tup [ta, tb]) = false by show (_ && _) = false; rw [h3, Bool.false_and]] at k
        exact k _ K1
      rw [show ruleT m (.tup [ta, tb]) = ((rw' ta).any (fun i => decide (0 < i)) && !decide (rw' ta = rw' tb)) by show (_ && _) = _; rw [h3, Bool.true_and]] at k
      rw [Bool.and_eq_true] at h3
      obtain ⟨pa, as, rfl, hpa, ea, la, ba⟩ := row_inv ha h3.1
      obtain ⟨pb, bs', rfl, hpb, eb, lb, bb⟩ := row_inv hb h3.2
      rw [ea, eb] at k
      have lta : as.length ≤ 1000 := by
        have h5 := (hL.all ta (by simp))
        cases ta with
        | tup us =>
          have := h5.len
          have e5 : us.map iOf = as := ea
          rw [← e5, List.length_map]
          omega
        | _ => cases h3.1
      walk_at "v"
      refine w_andV ?_
      walk_at "v"
      refine w_ixT (K1 _ _ hp) at0 ?_
      refine ⟨pa, rfl, ⟨_, SqT.of (K1 _ _ hpa)⟩, fun D2 hD2 => ?_⟩
      refine cgo_tup (xs := as.map V.int) (ρ := []) (fun i ys H' => ys = ((as.take i).map fun x => decide (0 < x)).map V.bl ∧ Same H1 H') ⟨rfl, Same.new (Same.refl H1) hD2⟩ (fun i ys H' _ ⟨_, k'⟩ => SqT.of (k' _ _ (K1 _ _ hpa))) ?_ ?_
      · rintro i x ys H' hx ⟨rfl, K'⟩ hDy R S kR _
        rw [List.getElem?_map] at hx
        cases h5 : as[i]? with
        | none => rw [h5] at hx; cases hx
        | some g =>
          rw [h5] at hx
          cases hx
          walk_at "v"
          refine kR _ _ hDy (by rw [List.length_map, List.length_map, List.length_take]; exact small1000 (by omega)) ⟨?_, K'.put hD2⟩
          rw [List.take_add_one, h5, List.map_append, List.map_append]
          rfl
      rintro ys H2 ⟨rfl, K2⟩ e2
      rw [List.length_map, List.take_length] at e2
      have K02 := K1.trans K2
      walk_at "v"
      refine ⟨D2, _, rfl, e2, ?_⟩
      rw [any_map]
      walk_at "v"
      refine iteB (fun h4 => ?_) (fun h4 => ?_)
      rotate_left
      · rw [h4, Bool.false_and] at k
        exact k _ K02
      rw [h4, Bool.true_and] at k
      walk_at "v"
      refine w_ixT (K02 _ _ hp) at0 ?_
      walk_at "v"
      refine w_ixT (K02 _ _ hp) at1 ?_
      exact w_neT (K02 _ _ hpa) (K02 _ _ hpb) (k _ K02)
set_option maxHeartbeats 4000000 in
theorem ok_Ar {f : Addr} {fd : FuncData} (B : BltK K mg) (fR : Has P w K mg base 5 "is_rule" ["many", "thing"] (spMT ruleT)) (F : Fun K "are_rules" "are_rules" sAr f fd) : FnOk P w K mg base CX0 6 f fd ["many", "thing"] (spMT rulesT) := by
  refine F.ok scAr (fun vs H Q E h => ?_) (fun cdv A outer s H vs Q E hr h => ?_)
  · obtain ⟨m, v, t, n, rfl, _⟩ := h
    rfl
  · obtain ⟨m, v, t, n, rfl, ht, hL, hn, k⟩ := h
    refine' ⟨_, ?hb, ?rd⟩
    case hb =>
      refine' pss_cons ?s1 ?r1
      case' r1 => refine' pss_one ?s2
      case s1 =>
        refine' ps_if ?o1 (pss_one (ps_ret pe_bl)) pss_nil
        case' o1 => refine' PW.pt ?o2
        case' o2 => refine' pw_or ?o3 ?o4
        case o3 => exact pt_not (pt_val (pe_cB is_tup B.isi PyProof.Rows.boot_isinstance (pa_2 (pvd nmAr 1) (pe_bltn (v := .ty "tuple") rfl B.tuple PyProof.Rows.boot_tuple rfl))))
        case' o4 => refine' pw_or1 ?o5
        case o5 => exact pt_cmpR op_gt (pe_cB call_lnT B.len PySem.boot_len (pa_1 (pvd nmAr 1))) (pe_k B.mrK) (nomark _)
      case s2 =>
        refine' ps_ret ?p1
        case' p1 => refine' pe_cB (call_all rfl) B.all PyProof.Rows.boot_all ?p4
        case' p4 => refine' pa_1 ?p5
        case p5 =>
          refine' pe_comp (ix := [0]) bsAr.toCScope rfl rfl (pi_tup (pvd nmAr 1)) ?h4 ?h5 ?h6
          case h4 => exact fun _ _ _ _ _ _ => pgb bsAr 0
          case h5 => exact fun _ _ _ _ _ _ => pts_nil
          case h6 => exact fun _ _ _ _ _ _ => pe_f fR hr (by decide) (pa_2 (pvb bsAr 1) (pvb bsAr 0)) (bsAr.g 0)
    case rd =>
      walk_at "v"
      refine ⟨_, t, rfl, ht, ?_⟩
      walk_at "v"
      refine iteBn (fun h => ?_) (fun h => ?_)
      · walk_at "v"
        rw [rulesT_not h] at k
        exact k _ (Same.refl _)
      obtain ⟨p, vs, ts, rfl, rfl, hp, hts⟩ := ThAt.tup_inv ht h
      have hl := hL.len
      walk_at "v"
      refine ⟨p, _, rfl, hp, ?_⟩
      rw [hts.len]
      walk_at "v"
      refine iteB (fun h2 => ?_) (fun h2 => ?_)
      · walk_at "v"
        rw [show rulesT m (.tup ts) = false by show (!decide _ && _) = false; rw [h2, Bool.not_true, Bool.false_and]] at k
        exact k _ (Same.refl _)
      rw [show rulesT m (.tup ts) = ts.all (ruleT m) by show (!decide _ && _) = _; rw [h2, Bool.not_false, Bool.true_and]] at k
      walk_at "v"
      refine ⟨p, rfl, ⟨_, SqT.of hp⟩, fun D hD => ?_⟩
      refine th_all (ρ := [some (.int (m : Int))]) (ruleT m) hp hts (by omega) (fun v t H' hm ht K' R kR => ?_) (fun H1 K1 e1 => ?_) hD
      · walk_at "v"
        exact ⟨m, v, t, n, rfl, ht, hL.all t hm, hn, kR⟩
      walk_at "v"
      refine ⟨D, _, rfl, e1, ?_⟩
      rw [all_map]
      exact k _ K1
set_option maxHeartbeats 4000000 in
theorem ok_Ip {f : Addr} {fd : FuncData} (B : BltK K mg) (fS : Has P w K mg base 2 "are_sorts" ["thing"] (spT sortsT)) (fR : Has P w K mg base 6 "are_rules" ["many", "thing"] (spMT rulesT)) (fI : Has P w K mg base 4 "are_inputs" ["many", "thing"] (spMT inpT)) (fA : Has P w K mg base 4 "are_counts_to" ["high", "many", "thing"] spAt) (fO : Has P w K mg base 3 "is_sort" ["many", "thing"] spIso) (F : Fun K "is_pot" "is_pot" sIp f fd) : FnOk P w K mg base CX0 7 f fd ["thing"] (spT potT) := by
  refine F.ok scIp (fun vs H Q E h => ?_) (fun cdv A outer s H vs Q E hr h => ?_)
  · obtain ⟨v, t, n, rfl, _⟩ := h
    rfl
  · obtain ⟨v, t, n, rfl, ht, hL, hn, k⟩ := h
    refine' ⟨_, ?hb, ?rd⟩
    case hb =>
      refine' pss_cons ?s1 ?r1
      case' r1 => refine' pss_cons ?s2 ?r2
      case' r2 => refine' pss_one ?s3
      case s1 =>
        refine' ps_if ?o1 (pss_one (ps_ret pe_bl)) pss_nil
        case' o1 => refine' PW.pt ?o2
        case' o2 => refine' pw_or ?o3 ?o4
        case o3 => exact pt_not (pt_val (pe_cB is_tup B.isi PyProof.Rows.boot_isinstance (pa_2 (pvd nmIp 0) (pe_bltn (v := .ty "tuple") rfl B.tuple PyProof.Rows.boot_tuple rfl))))
        case' o4 => refine' pw_or ?o5 ?o6
        case o5 => exact pt_cmpR op_ne (pe_cB call_lnT B.len PySem.boot_len (pa_1 (pvd nmIp 0))) pe_int (nomark _)
        case' o6 => refine' pw_or1 ?o7
        case o7 => exact pt_not (pt_val (pe_f fS hr (by decide) (pa_1 (pe_ix ix_d (pvd nmIp 0) (pe_k B.soK) (fun _ _ => rfl)))))
      case s2 => exact ps_setD nmIp 1 (pe_cB call_lnT B.len PySem.boot_len (pa_1 (pe_ix ix_d (pvd nmIp 0) (pe_k B.soK) (fun _ _ => rfl))))
      case s3 =>
        refine' ps_ret ?p0
        case' p0 => refine' pe_and (pe_f fR hr (by decide) (pa_2 (pvd nmIp 1) (pe_ix ix_d (pvd nmIp 0) (pe_k B.ruK) (fun _ _ => rfl)))) ?p1
        case' p1 => refine' pe_and (pe_f fI hr (by decide) (pa_2 (pvd nmIp 1) (pe_ix ix_d (pvd nmIp 0) (pe_k B.inK) (fun _ _ => rfl)))) ?p2
        case' p2 => refine' pe_and (pe_f fA hr (by decide) (pa_c (pe_k B.mbK) (pa_2 (pvd nmIp 1) (pe_ix ix_d (pvd nmIp 0) (pe_k B.beK) (fun _ _ => rfl))))) ?p3
        case' p3 => refine' pe_one ?p4
        case p4 => exact pe_f fO hr (by decide) (pa_2 (pvd nmIp 1) (pe_ix ix_d (pvd nmIp 0) (pe_k B.anK) (fun _ _ => rfl)))
    case rd =>
      walk_at "v"
      refine ⟨_, t, rfl, ht, ?_⟩
      walk_at "v"
      refine iteBn (fun h => ?_) (fun h => ?_)
      · walk_at "v"
        rw [potT_not h] at k
        exact k _ (Same.refl _)
      obtain ⟨p, vs, ts, rfl, rfl, hp, hts⟩ := ThAt.tup_inv ht h
      walk_at "v"
      refine ⟨p, _, rfl, hp, ?_⟩
      rw [hts.len]
      walk_at "v"
      refine ⟨rfl, ?_⟩
      walk_at "v"
      refine iteNB (fun hne => ?_) (fun he => ?_)
      · walk_at "v"
        rw [potT_len (fun z => hne (by rw [z]; rfl))] at k
        exact k _ (Same.refl _)
      have h2 : ts.length = 5 := by
        have : (ts.length : Int) = 5 := V.int.inj he
        omega
      obtain ⟨ts0, ts1, ts2, ts3, ts4, rfl⟩ := eq5 h2
      obtain ⟨v0, v1, vr, rfl, h0, h1, hr1⟩ := ths2 hts
      obtain ⟨v2, v3, vr', rfl, hh2, h3, hr2⟩ := ths2 hr1
      obtain ⟨v4, vr'', rfl, h4, hr3⟩ := ths1 hr2
      cases hr3
      have L0 := hL.all ts0 (by simp)
      have L1 := hL.all ts1 (by simp)
      have L2' := hL.all ts2 (by simp)
      have L3 := hL.all ts3 (by simp)
      walk_at "v"
      refine w_ixT hp at0 ?_
      walk_at "v"
      refine ⟨v0, ts0, n, rfl, h0, L0, hn, fun H1 K1 => ?_⟩
      walk_at "v"
      refine iteBn (fun h => ?_) (fun h => ?_)
      · walk_at "v"
        rw [show potT (.tup [ts0, ts1, ts2, ts3, ts4]) = false by show (sortsT ts0 && _) = false; rw [h, Bool.false_and]] at k
        exact k _ K1
      rw [show potT (.tup [ts0, ts1, ts2, ts3, ts4]) = (rulesT (lenT ts0) ts1 && (inpT (lenT ts0) ts2 && (rowT (lenT ts0) 99 ts3 && wI 0 ((lenT ts0 : Int) - 1) ts4))) by show (sortsT ts0 && _) = _; rw [h, Bool.true_and]] at k
      have hT : ts0.isT = true := by
        cases h2 : ts0.isT with
        | true => rfl
        | false => rw [sortsT_not h2] at h; cases h
      obtain ⟨p0, us0, tss, rfl, rfl, hp0, hts0⟩ := ThAt.tup_inv h0 hT
      rw [show lenT (.tup tss) = tss.length from rfl] at k
      walk_at "v"
      refine w_ixT (K1 _ _ hp) at0 ?_
      walk_at "v"
      refine ⟨p0, _, rfl, K1 _ _ hp0, ?_⟩
      rw [hts0.len]
      generalize tss.length = m at k ⊢
      walk_at "v"
      refine w_andV ?_
      walk_at "v"
      refine w_ixT (K1 _ _ hp) at1 ?_
      walk_at "v"
      refine ⟨m, v1, ts1, n, rfl, h1.ks (KS.same K1), L1, hn, fun H2 K2 => ?_⟩
      have K02 := K1.trans K2
      walk_at "v"
      refine iteB (fun h => ?_) (fun h => ?_)
      rotate_left
      · rw [h, Bool.false_and] at k
        exact k _ K02
      rw [h, Bool.true_and] at k
      refine w_andV ?_
      walk_at "v"
      refine w_ixT (K02 _ _ hp) at2 ?_
      walk_at "v"
      refine ⟨m, v2, ts2, n, rfl, hh2.ks (KS.same K02), L2', hn, fun H3 K3 => ?_⟩
      have K03 := K02.trans K3
      walk_at "v"
      refine iteB (fun h => ?_) (fun h => ?_)
      rotate_left
      · rw [h, Bool.false_and] at k
        exact k _ K03
      rw [h, Bool.true_and] at k
      refine w_andV ?_
      walk_at "v"
      refine w_ixT (K03 _ _ hp) at3 ?_
      walk_at "v"
      refine ⟨99, m, v3, ts3, n, rfl, h3.ks (KS.same K03), L3, hn, fun H4 K4 => ?_⟩
      have K04 := K03.trans K4
      walk_at "v"
      refine iteB (fun h => ?_) (fun h => ?_)
      rotate_left
      · rw [h, Bool.false_and] at k
        exact k _ K04
      rw [h, Bool.true_and] at k
      walk_at "v"
      refine w_ixT (K04 _ _ hp) at4 ?_
      walk_at "v"
      exact ⟨m, v4, ts4, rfl, h4.ks (KS.same K04), fun H5 K5 => k _ (K04.trans K5)⟩
end
end K01

set_option Elab.async false
set_option linter.all false
set_option maxRecDepth 100000
namespace K01
open PySem L2 G2
local macro_rules | `(tactic| walk_at "v") => `(tactic| repeat (with_reducible first
  | refine w_seq ?_ | refine w_asg ?_ | refine w_gname ?_ | refine w_op ?_ | refine w_var rfl ?_ | refine w_c ?_ | refine w_rI0 ?_ | refine w_ifs ?_ | refine w_ife ?_ | refine w_test ?_ | refine w_tb ?_ | refine w_bl ?_ | refine w_not ?_ | refine w_ret ?_ | refine w_retN ?_
  | refine w_nil ?_ | refine w_cons ?_ | refine w_lst ?_ | refine w_tup ?_ | refine w_cb ?_ | refine w_call ?_ | refine w_gsub ?_ | refine w_and ?_ | refine w_or ?_ | refine w_next ?_ | refine w_all ?_ | refine w_vals ?_ | refine w_compR ?_ | refine w_compT ?_ | refine w_forR ?_ | refine w_forT ?_ | refine w_forL ?_ | refine w_drop ?_ | refine w_bm ?_ | refine w_compZ ?_ | refine w_compL ?_ | refine w_chain ?_ | refine w_sl ?_ | refine w_nopart ?_ | refine w_part ?_ | refine w_unI ?_ | refine iteT ?_ | refine iteF ?_))

abbrev sLw : Stmt := top 40
abbrev sLn : Stmt := top 41
abbrev sLr : Stmt := top 42
abbrev sLu : Stmt := top 43
abbrev nLw : List Str := ["_law_thing", "_law_least", "_law_most"]
theorem nmLw : Nm nLw (defScope sLw) := ⟨by decide +kernel, by decide +kernel⟩
theorem scLw : FnScope nLw ["_law_thing", "_law_least", "_law_most"] (defScope sLw) := ⟨rfl, rfl, rfl, by decide +kernel, rfl, by decide +kernel, by decide +kernel⟩
abbrev nLn : List Str := ["_law_thing"]
theorem nmLn : Nm nLn (defScope sLn) := ⟨by decide +kernel, by decide +kernel⟩
theorem scLn : FnScope nLn ["_law_thing"] (defScope sLn) := ⟨rfl, rfl, rfl, by decide +kernel, rfl, by decide +kernel, by decide +kernel⟩
abbrev nLr : List Str := ["_law_thing", "_law_many", "_law_most"]
theorem nmLr : Nm nLr (defScope sLr) := ⟨by decide +kernel, by decide +kernel⟩
theorem scLr : FnScope nLr ["_law_thing", "_law_many", "_law_most"] (defScope sLr) := ⟨rfl, rfl, rfl, by decide +kernel, rfl, by decide +kernel, by decide +kernel⟩
abbrev nLu : List Str := ["_law_things"]
theorem nmLu : Nm nLu (defScope sLu) := ⟨by decide +kernel, by decide +kernel⟩
theorem scLu : FnScope nLu ["_law_things"] (defScope sLu) := ⟨rfl, rfl, rfl, by decide +kernel, rfl, by decide +kernel, by decide +kernel⟩

def retCmpC (s : Stmt) : Scope := match s with
  | .Return (some (.Compare (.ListComp _ _ sc _) _ _ _)) _ => sc
  | .Return (some (.BoolOp _ [_, .Compare (.ListComp _ _ sc _) _ _ _] _)) _ => sc
  | _ => { kind := .function, names := [], isGenerator := false, isCoroutine := false }
abbrev cLn : Scope := retCmpC ((defBody sLn).getD 1 (.Pass ⟨0, 0, 0, 0⟩))
abbrev cLr : Scope := retCmpC ((defBody sLr).getD 1 (.Pass ⟨0, 0, 0, 0⟩))
abbrev cLu : Scope := retCmpC ((defBody sLu).getD 0 (.Pass ⟨0, 0, 0, 0⟩))
theorem bsLn : BScope (defScope sLn) cLn ["_law_sign"] [] [] := { okind := by decide +kernel, kind := by decide +kernel, nocell := by decide +kernel, names := by decide +kernel, fr := by decide +kernel, ff := by decide +kernel, nd := by decide +kernel, vis := by decide +kernel, loc := by decide +kernel, gl := by decide +kernel }
theorem bsLr : BScope (defScope sLr) cLr ["_law_one"] ["_law_most"] ["_law_whole"] := { okind := by decide +kernel, kind := by decide +kernel, nocell := by decide +kernel, names := by decide +kernel, fr := by decide +kernel, ff := by decide +kernel, nd := by decide +kernel, vis := by decide +kernel, loc := by decide +kernel, gl := by decide +kernel }
theorem bsLu : BScope (defScope sLu) cLu ["_law_k"] ["_law_things"] [] := { okind := by decide +kernel, kind := by decide +kernel, nocell := by decide +kernel, names := by decide +kernel, fr := by decide +kernel, ff := by decide +kernel, nd := by decide +kernel, vis := by decide +kernel, loc := by decide +kernel, gl := by decide +kernel }

def rInT : R2 := fun x y H Q => ∃ p xs, y = .ref p ∧ H p = some (.tup xs) ∧ flatV x = true ∧ xs.all flatV = true ∧ Q (.bl (inV x xs)) H
theorem op_inT {X : Cx} : OpR X (compareOp .In) rInT := fun pins s σ H x y v u Q I rx ry h => op_in_seq pins s σ H x y v u Q I rx ry (let ⟨p, xs, e, hp, f1, f2, q⟩ := h; ⟨p, xs, e, .inr (SqT.of hp), f1, f2, q⟩)
def rInL : R2 := fun x y H Q => ∃ p xs, y = .ref p ∧ H p = some (.lst xs) ∧ flatV x = true ∧ xs.all flatV = true ∧ Q (.bl (inV x xs)) H
theorem op_inL {X : Cx} : OpR X (compareOp .In) rInL := fun pins s σ H x y v u Q I rx ry h => op_in_seq pins s σ H x y v u Q I rx ry (let ⟨p, xs, e, hp, f1, f2, q⟩ := h; ⟨p, xs, e, .inl (SqL.of hp), f1, f2, q⟩)
theorem in_names (s : Str) : inV (.str s) (noNames.map V.str) = (Th.str s).inW noNames := by
  unfold inV
  rw [List.any_map]
  rfl
theorem eq_key {a b : V} (ha : keyV a = true) (hb : keyV b = true) : eqV a b = decide (toK a = toK b) := by
  cases a <;> first | (cases ha; done) | skip
  · cases b <;> first | (cases hb; done) | skip
    · exact (key_ll _ _).symm
    · exact (key_lr _ _).symm
  · cases b <;> first | (cases hb; done) | skip
    · exact (key_rl _ _).symm
    · rename_i x y
      show (x == y) = decide ((Sum.inr x : Key) = Sum.inr y)
      rw [key_rr, Bool.eq_iff_iff, beq_iff_eq, decide_eq_true_eq]
theorem hasK_any (val : Nat → Key) (q : Key) : ∀ k, hasK (metK val k) q = (List.range k).any fun j => decide (val j = q)
  | 0 => rfl
  | k + 1 => by
    rw [metK_in, hasK_any val q k, List.range_succ, List.any_append]
    congr 1
    rw [List.any_cons, List.any_nil, Bool.or_false, decide_eq_decide]
    exact eq_comm
theorem metK_full (val : Nat → Key) : ∀ n, decide ((metK val n).length = n) = (List.range n).all fun k => !hasK (metK val k) (val k)
  | 0 => rfl
  | n + 1 => by
    have hle := metK_le val n
    rw [List.range_succ, List.all_append, ← metK_full val n, metK_size, List.all_cons, List.all_nil, Bool.and_true]
    cases hasK (metK val n) (val n) with
    | true => rw [if_pos rfl, Bool.not_true, Bool.and_false]; exact decide_eq_false (by omega)
    | false =>
      rw [if_neg (by decide), Bool.not_false, Bool.and_true, decide_eq_decide]
      omega
theorem any_take {vs : List V} (f : V → Bool) : ∀ k, k ≤ vs.length → (vs.take k).any f = (List.range k).any fun j => f (vs.getD j .non)
  | 0, _ => rfl
  | k + 1, h => by
    have hk : k < vs.length := h
    rw [List.take_add_one, List.any_append, any_take f k (by omega), List.range_succ, List.any_append, List.getElem?_eq_getElem hk]
    congr 1
    show [vs[k]].any f = [k].any _
    rw [List.any_cons, List.any_cons, List.any_nil, List.any_nil, show vs.getD k .non = vs[k] by simp [List.getD_eq_getElem?_getD, hk]]
theorem unl_is {H : Hp} {vs : List V} {ts : List Th} (hts : ThsAt H vs ts) (ha : ts.all isK = true) : ((List.range vs.length).all fun k => !inV (vs.getD k .non) (vs.take k)) = unlT ts := by
  obtain ⟨h1, h2⟩ := ths_key hts ha
  have hl := hts.len
  have e : unlT ts = decide ((metK (fun i => (ts.map thK).getD i (.inl 0)) ts.length).length = ts.length) := by
    unfold unlT
    rw [decide_eq_decide]
    constructor
    · intro z
      have := V.int.inj z
      omega
    · intro z
      rw [z]
  rw [e, metK_full, ← hl]
  rw [Bool.eq_iff_iff, List.all_eq_true, List.all_eq_true]
  refine forall_congr' fun k => ?_
  constructor
  · intro h hk
    rw [← h hk]
    exact unl_at k (List.mem_range.mp hk)
  · intro h hk
    rw [← h hk]
    exact (unl_at k (List.mem_range.mp hk)).symm
where
  unl_at : ∀ k, k < vs.length → (!hasK (metK (fun i => (ts.map thK).getD i (.inl 0)) k) ((ts.map thK).getD k (.inl 0))) = !inV (vs.getD k .non) (vs.take k) := fun k hk => by
    obtain ⟨h1, h2⟩ := ths_key hts ha
    have hv : ∀ j, j < vs.length → (ts.map thK).getD j (.inl 0) = toK (vs.getD j .non) ∧ keyV (vs.getD j .non) = true := fun j hj => by
      rw [← h2]
      have e : vs.getD j .non = vs[j] := by simp [List.getD_eq_getElem?_getD, hj]
      rw [e]
      exact ⟨by simp [List.getD_eq_getElem?_getD, hj], List.all_eq_true.mp h1 _ (List.getElem_mem hj)⟩
    congr 1
    rw [hasK_any]
    unfold inV
    rw [any_take _ k (by omega), Bool.eq_iff_iff, List.any_eq_true, List.any_eq_true]
    refine exists_congr fun j => and_congr_right fun hj => ?_
    have hj' : j < k := List.mem_range.mp hj
    obtain ⟨a1, a2⟩ := hv j (by omega)
    obtain ⟨b1, b2⟩ := hv k hk
    show decide ((ts.map thK).getD j (.inl 0) = (ts.map thK).getD k (.inl 0)) = true ↔ _
    rw [eq_key a2 b2, a1, b1]
theorem key_flat {vs : List V} (h : vs.all keyV = true) : vs.all flatV = true := List.all_eq_true.mpr fun v hv => by
  have := List.all_eq_true.mp h v hv
  cases v <;> first | rfl | (cases this)
def spLr : Sp := fun vs H Q _ => ∃ (v : V) (t : Th) (m : Nat) (hi : Int) (n : Nat), vs = [v, .int (m : Int), .int hi] ∧ ThAt H v t ∧ ThL n t ∧ n ≤ 1000 ∧ ∀ H', Same H H' → Q (.bl (rowT m hi t)) H'
theorem row_not {m : Nat} {hi : Int} {t : Th} (h : t.isT = false) : rowT m hi t = false := by
  cases t <;> first | rfl | (cases h)
section
variable {P : Program} {w : World} {K : PySem.W.Frag} {mg : Str → Option Value} {base : Heap}
set_option maxHeartbeats 4000000 in
theorem ok_Lw {f : Addr} {fd : FuncData} (B : Blt mg) (F : Fun K "_law_whole" "_law_whole" sLw f fd) : FnOk P w K mg base CX0 1 f fd ["_law_thing", "_law_least", "_law_most"] spWw := by
  refine F.ok scLw (fun vs H Q E h => ?_) (fun cdv A outer s H vs Q E hr h => ?_)
  · obtain ⟨v, t, lo, hi, rfl, _⟩ := h
    rfl
  · obtain ⟨v, t, lo, hi, rfl, ht, k⟩ := h
    refine' ⟨_, ?hb, ?rd⟩
    case hb =>
      refine' pss_one ?s1
      case' s1 => refine' ps_ret ?p1
      case' p1 => refine' pe_and ?a1 ?a2
      case a1 => exact (pe_cB is_int B.isi PyProof.Rows.boot_isinstance (pa_2 (pvd nmLw 0) (pe_bltn (v := .ty "int") rfl B.int PyProof.Rows.boot_int rfl)))
      case' a2 => refine' pe_and ?a3 ?a4
      case' a3 => refine' pe_not ?a5
      case a5 => exact (pe_cB is_bool B.isi PyProof.Rows.boot_isinstance (pa_2 (pvd nmLw 0) (pe_bltn (v := .ty "bool") rfl B.bool PyProof.Rows.boot_bool rfl)))
      case' a4 => refine' pe_one ?a6
      case a6 => exact pe_chain op_le op_le (pvd nmLw 1) (pvd nmLw 0) (pvd nmLw 2)
    case rd =>
      have k0 := k H (Same.refl H)
      walk_at "v"
      refine w_andV ?_
      walk_at "v"
      refine ⟨_, t, rfl, ht, ?_⟩
      walk_at "v"
      refine iteB (fun h => ?_) (fun h => ?_)
      · refine w_andV ?_
        refine w_notV ?_
        walk_at "v"
        refine ⟨_, t, rfl, ht, ?_⟩
        walk_at "v"
        refine iteBn (fun h2 => ?_) (fun h2 => ?_)
        · obtain ⟨i, rfl⟩ := whole_int (t := t) (by rw [h, h2]; rfl)
          cases ht
          walk_at "v"
          by_cases h1 : lo ≤ i
          · rw [show wI lo hi (.int i) = decide (i ≤ hi) by rw [wI_int, decide_eq_true h1, Bool.true_and]] at k0
            refine iteD (fun _ => ?_) (fun z => absurd h1 z)
            walk_at "v"
            exact k0
          · rw [show wI lo hi (.int i) = false by rw [wI_int, decide_eq_false h1, Bool.false_and]] at k0
            refine iteD (fun z => absurd z h1) (fun _ => ?_)
            exact k0
        · rw [whole_no (t := t) (by rw [h, h2]; rfl)] at k0
          exact k0
      · rw [whole_no (t := t) (by rw [h]; rfl)] at k0
        exact k0
set_option maxHeartbeats 4000000 in
theorem ok_Ln {f : Addr} {fd : FuncData} (B : Blt mg) (F : Fun K "_law_is_name" "_law_is_name" sLn f fd) : FnOk P w K mg base CX0 1 f fd ["_law_thing"] (spT nameT) := by
  refine F.ok scLn (fun vs H Q E h => ?_) (fun cdv A outer s H vs Q E hr h => ?_)
  · obtain ⟨v, t, n, rfl, _⟩ := h
    rfl
  · obtain ⟨v, t, n, rfl, ht, hL, hn, k⟩ := h
    refine' ⟨_, ?hb, ?rd⟩
    case hb =>
      refine' pss_cons ?s1 ?r1
      case' r1 => refine' pss_one ?s2
      case s1 =>
        refine' ps_if ?o1 (pss_one (ps_ret pe_bl)) pss_nil
        case' o1 => refine' PW.pt ?o2
        case' o2 => refine' pw_or ?o3 ?o4
        case o3 => exact pt_not (pt_val (pe_cB is_str B.isi PyProof.Rows.boot_isinstance (pa_2 (pvd nmLn 0) (pe_bltn (v := .ty "str") rfl B.str PyProof.Rows.boot_str rfl))))
        case' o4 => refine' pw_or1 ?o5
        case' o5 => refine' pt_cmpR op_inL (pvd nmLn 0) ?o6 (by with_unfolding_all rfl)
        case o6 => exact pe_lst (pa_c pe_str (pa_c pe_str (pa_c pe_str (pa_c pe_str (pa_2 pe_str pe_str)))))
      case s2 =>
        refine' ps_ret ?p0
        case' p0 => refine' pe_and ?p1 ?p2
        case p1 => exact pe_chain op_lt op_lt pe_int (pe_cB call_len_str B.len PySem.boot_len (pa_1 (pvd nmLn 0))) pe_int
        case' p2 => refine' pe_one ?p3
        case' p3 => refine' pe_cmpR (op_eqE hr) ?p4 (pe_lst pa_nil) (nomark _)
        case p4 =>
          refine' pe_comp (ix := []) bsLn.toCScope rfl rfl (pi_tx (pvd nmLn 0)) ?h4 ?h5 ?h6
          case h4 => exact fun _ _ _ _ _ _ => pgb bsLn 0
          case h5 =>
            intro _ _ _ _ _ _
            refine' pts_one ?h7
            case h7 => exact pt_cmpR op_notin_str (pvb bsLn 0) pe_str (by with_unfolding_all rfl)
          case h6 => exact fun _ _ _ _ _ _ => pvb bsLn 0
    case rd =>
      walk_at "v"
      refine ⟨_, t, rfl, ht, ?_⟩
      walk_at "v"
      refine iteBn (fun h => ?_) (fun h => ?_)
      · walk_at "v"
        rw [nameT_not h] at k
        exact k _ (Same.refl _)
      obtain ⟨s, rfl, rfl⟩ := ThAt.str_of ht h
      have hsl := hL.s
      walk_at "v"
      refine ⟨by show 6 ≤ sizeLine; decide, fun q hq => ?_⟩
      have KQ : Same H (upd H q (.lst (noNames.map V.str))) := Same.new (Same.refl _) hq
      have eQ : upd H q (.lst (noNames.map V.str)) q = some (.lst (noNames.map V.str)) := upd_same
      show rInL _ _ (upd H q (.lst (noNames.map V.str))) _
      generalize upd H q (.lst (noNames.map V.str)) = H1 at KQ eQ ⊢
      refine ⟨q, _, rfl, eQ, rfl, by decide, ?_⟩
      rw [in_names]
      walk_at "v"
      have e0 : nameT (.str s) = ((decide ((1 : Int) ≤ s.length) && decide ((s.length : Int) ≤ 8)) && (!(Th.str s).inW noNames && (sg s).all inL)) := rfl
      refine iteB (fun h0 => ?_) (fun h0 => ?_)
      · walk_at "v"
        rw [e0, h0, Bool.not_true, Bool.false_and, Bool.and_false] at k
        exact k _ KQ
      rw [e0, h0, Bool.not_false, Bool.true_and] at k
      walk_at "v"
      refine w_andV ?_
      walk_at "v"
      refine ⟨s, rfl, Nat.le_of_lt (small1000 hsl), ?_⟩
      walk_at "v"
      by_cases h1 : (1 : Int) ≤ s.length
      rotate_left
      · refine iteD (fun z => absurd z (by omega)) (fun _ => ?_)
        rw [decide_eq_false h1, Bool.false_and, Bool.false_and] at k
        exact ⟨_, rfl, k _ KQ⟩
      refine iteD (fun _ => ?_) (fun z => absurd h1 (by omega))
      walk_at "v"
      rw [decide_eq_true h1, Bool.true_and] at k
      by_cases h2 : (s.length : Int) ≤ 8
      rotate_left
      · rw [decide_eq_false h2, Bool.false_and] at k
        refine iteD (fun z => absurd z (by omega)) (fun _ => ?_)
        exact k _ KQ
      rw [decide_eq_true h2, Bool.true_and] at k
      refine iteD (fun _ => ?_) (fun z => absurd h2 (by omega))
      walk_at "v"
      refine w_compX ?_
      walk_at "v"
      refine ⟨s, rfl, fun D hD => ?_⟩
      have hgl : (sg s).length ≤ 1000 := by rw [sg_len]; exact hsl
      refine cgo_tx (ρ := []) (fun i ys H' => ys.isEmpty = ((sg s).take i).all inL ∧ ys.length ≤ i ∧ Same H1 H') ⟨rfl, Nat.le_refl _, Same.new (Same.refl H1) hD⟩ ?_ ?_
      · rintro i y ys H' hy ⟨hz, hzl, K'⟩ hDy R S kR kS
        have hi := (List.getElem?_eq_some_iff.mp hy).1
        have hst : ((sg s).take (i + 1)).all inL = (ys.isEmpty && inL y) := by
          rw [List.take_add_one, hy, List.all_append, hz]
          simp
        walk_at "v"
        refine ⟨y, _, rfl, rfl, ?_⟩
        walk_at "v"
        refine iteBn (fun h3 => ?_) (fun h3 => ?_)
        · walk_at "v"
          refine kR _ _ hDy (small1000 (by omega)) ⟨?_, by rw [List.length_append]; show _ + 1 ≤ _; omega, K'.put hD⟩
          have h3' : inL y = false := h3
          rw [hst, h3', Bool.and_false]
          cases ys <;> rfl
        · refine kS _ hDy ⟨?_, by omega, K'⟩
          have h3' : inL y = true := h3
          rw [hst, h3', Bool.and_true]
      rintro ys H2 ⟨hz, hzl, K2⟩ e2
      rw [List.take_length] at hz
      walk_at "v"
      refine ⟨Nat.zero_le _, fun z hz' => ?_⟩
      have K3 : Same H2 (upd H2 z (.lst [])) := Same.new (Same.refl _) hz'
      refine ⟨D, z, _, rfl, rfl, K3 _ _ e2, upd_same, ?_⟩
      rw [hz]
      exact k _ ((KQ.trans K2).trans K3)
set_option maxHeartbeats 4000000 in
theorem ok_Lr {f : Addr} {fd : FuncData} (B : Blt mg) (fW : Has P w K mg base 1 "_law_whole" ["_law_thing", "_law_least", "_law_most"] spWw) (F : Fun K "_law_is_row" "_law_is_row" sLr f fd) : FnOk P w K mg base CX0 2 f fd ["_law_thing", "_law_many", "_law_most"] spLr := by
  refine F.ok scLr (fun vs H Q E h => ?_) (fun cdv A outer s H vs Q E hr h => ?_)
  · obtain ⟨v, t, m, hi, n, rfl, _⟩ := h
    rfl
  · obtain ⟨v, t, m, hi, n, rfl, ht, hL, hn, k⟩ := h
    refine' ⟨_, ?hb, ?rd⟩
    case hb =>
      refine' pss_cons ?s1 ?r1
      case' r1 => refine' pss_one ?s2
      case s1 =>
        refine' ps_if ?o1 (pss_one (ps_ret pe_bl)) pss_nil
        case' o1 => refine' PW.pt ?o2
        case' o2 => refine' pw_or ?o3 ?o4
        case o3 => exact pt_not (pt_val (pe_cB is_tup B.isi PyProof.Rows.boot_isinstance (pa_2 (pvd nmLr 0) (pe_bltn (v := .ty "tuple") rfl B.tuple PyProof.Rows.boot_tuple rfl))))
        case' o4 => refine' pw_or1 ?o5
        case o5 => exact pt_cmpR op_ne (pe_cB call_lnT B.len PySem.boot_len (pa_1 (pvd nmLr 0))) (pvd nmLr 1) (nomark _)
      case s2 =>
        refine' ps_ret ?p3
        case' p3 => refine' pe_cmpR (op_eqE hr) ?p4 (pe_lst pa_nil) (nomark _)
        case p4 =>
          refine' pe_comp (ix := [2]) bsLr.toCScope rfl rfl (pi_tup (pvd nmLr 0)) ?h4 ?h5 ?h6
          case h4 => exact fun _ _ _ _ _ _ => pgb bsLr 0
          case h5 =>
            intro _ _ _ _ _ _
            refine' pts_one ?h7
            case h7 => exact pt_not (pt_val (pe_f fW hr (by decide) (pa_c (pvb bsLr 0) (pa_2 pe_int (pvb bsLr 1))) (bsLr.g 0)))
          case h6 => exact fun _ _ _ _ _ _ => pvb bsLr 0
    case rd =>
      walk_at "v"
      refine ⟨_, t, rfl, ht, ?_⟩
      walk_at "v"
      refine iteBn (fun h => ?_) (fun h => ?_)
      · walk_at "v"
        rw [row_not h] at k
        exact k _ (Same.refl _)
      obtain ⟨p, vs, ts, rfl, rfl, hp, hts⟩ := ThAt.tup_inv ht h
      have hl := hL.len
      have hln := hts.len
      walk_at "v"
      refine ⟨p, _, rfl, hp, ?_⟩
      rw [hts.len]
      walk_at "v"
      refine ⟨rfl, ?_⟩
      walk_at "v"
      refine iteNB (fun hne => ?_) (fun he => ?_)
      · walk_at "v"
        rw [show rowT m hi (.tup ts) = false by show (decide (ts.length = m) && _) = false; rw [decide_eq_false (fun z => hne (by rw [z])), Bool.false_and]] at k
        exact k _ (Same.refl _)
      have h2 : ts.length = m := by
        have : (ts.length : Int) = m := V.int.inj he
        omega
      rw [show rowT m hi (.tup ts) = ts.all (wI 0 hi) by show (decide (ts.length = m) && _) = _; rw [decide_eq_true h2, Bool.true_and]] at k
      walk_at "v"
      refine ⟨p, rfl, ⟨_, SqT.of hp⟩, fun D hD => ?_⟩
      refine cgo_tup (xs := vs) (ρ := [some (.int hi)]) (fun i ys H' => ys.isEmpty = (ts.take i).all (wI 0 hi) ∧ ys.length ≤ i ∧ Same H H') ⟨rfl, Nat.le_refl _, Same.new (Same.refl H) hD⟩ (fun i ys H' _ ⟨_, _, k'⟩ => SqT.of (k' _ _ hp)) ?_ ?_
      · rintro i x ys H' hx ⟨hz, hzl, K'⟩ hDy R S kR kS
        obtain ⟨t', ht1, ht2⟩ := hts.atV hx
        have hi' := (List.getElem?_eq_some_iff.mp hx).1
        have hst : (ts.take (i + 1)).all (wI 0 hi) = (ys.isEmpty && wI 0 hi t') := by
          rw [List.take_add_one, ht1, List.all_append, hz]
          simp
        walk_at "v"
        refine ⟨x, t', 0, hi, rfl, ht2.ks (KS.same K'), fun H2 K2 => ?_⟩
        walk_at "v"
        refine iteBn (fun h3 => ?_) (fun h3 => ?_)
        · walk_at "v"
          refine kR _ _ (K2 _ _ hDy) (small1000 (by omega)) ⟨?_, by rw [List.length_append]; show _ + 1 ≤ _; omega, (K'.trans K2).put hD⟩
          rw [hst, h3, Bool.and_false]
          cases ys <;> rfl
        · refine kS _ (K2 _ _ hDy) ⟨?_, by omega, K'.trans K2⟩
          rw [hst, h3, Bool.and_true]
      rintro ys H2 ⟨hz, hzl, K2⟩ e2
      rw [List.take_of_length_le (by omega)] at hz
      walk_at "v"
      refine ⟨Nat.zero_le _, fun z hz' => ?_⟩
      have K3 : Same H2 (upd H2 z (.lst [])) := Same.new (Same.refl _) hz'
      refine ⟨D, z, _, rfl, rfl, K3 _ _ e2, upd_same, ?_⟩
      rw [hz]
      exact k _ (K2.trans K3)
set_option maxHeartbeats 4000000 in
theorem ok_Lu {f : Addr} {fd : FuncData} (B : Blt mg) (F : Fun K "_law_unlike" "_law_unlike" sLu f fd) : FnOk P w K mg base CX0 1 f fd ["_law_things"] spUn := by
  refine F.ok scLu (fun vs H Q E h => ?_) (fun cdv A outer s H vs Q E hr h => ?_)
  · obtain ⟨p, us, ts, rfl, _⟩ := h
    rfl
  · obtain ⟨p, us, ts, rfl, hp, hts, ha, hl, k⟩ := h
    refine' ⟨_, ?hb, ?rd⟩
    case hb =>
      refine' pss_one ?s2
      case' s2 => refine' ps_ret ?p3
      case' p3 => refine' pe_cmpR (op_eqE hr) ?p4 (pe_lst pa_nil) (nomark _)
      case p4 =>
        refine' pe_comp (ix := [0]) bsLu.toCScope rfl rfl (pi_r1 B.range (pa_1 (pe_cB call_lnT B.len PySem.boot_len (pa_1 (pvd nmLu 0))))) ?h4 ?h5 ?h6
        case h4 => exact fun _ _ _ _ _ _ => pgb bsLu 0
        case h5 =>
          intro _ _ _ _ _ _
          refine' pts_one ?h7
          case h7 => exact pt_cmpR op_inT (pe_ix ix_d (pvb bsLu 1) (pvb bsLu 0) (fun _ _ => rfl)) (pe_slice sl_tupG (pvb bsLu 1) po_none (po_some (pvb bsLu 0))) (by with_unfolding_all rfl)
        case h6 => exact fun _ _ _ _ _ _ => pvb bsLu 0
    case rd =>
      rw [← unl_is hts ha] at k
      obtain ⟨k1, k2⟩ := ths_key hts ha
      have hln := hts.len
      have hfl := key_flat k1
      walk_at "v"
      refine ⟨p, us, rfl, hp, ?_⟩
      walk_at "v"
      refine ⟨_, rfl, by omega, by omega, fun D hD => ?_⟩
      rw [Int.toNat_natCast]
      refine cgo_range (ρ := [some (.ref p)]) (fun i ys H' => ys.isEmpty = ((List.range i).all fun k => !inV (us.getD k .non) (us.take k)) ∧ ys.length ≤ i ∧ Same H H') ⟨rfl, Nat.le_refl _, Same.new (Same.refl H) hD⟩ ?_ ?_
      · rintro i ys H' hi ⟨hz, hzl, K'⟩ hDy R S kR kS
        rw [Int.zero_add]
        have e : us.getD i .non = us[i] := by simp [List.getD_eq_getElem?_getD, hi]
        have hst : ((List.range (i + 1)).all fun k => !inV (us.getD k .non) (us.take k)) = (ys.isEmpty && !inV us[i] (us.take i)) := by
          rw [List.range_succ, List.all_append, ← hz, List.all_cons, List.all_nil, Bool.and_true, e]
        walk_at "v"
        refine w_ixT (K' _ _ hp) (v := us[i]) (atI_nat (by simp [hi])) ?_
        walk_at "v"
        refine ⟨_, rfl, ?_⟩
        walk_at "v"
        refine ⟨p, _, rfl, K' _ _ hp, fun q H2 K2 e2 => ?_⟩
        have ec : cutV us none (some (i : Int)) = us.take i := by
          unfold cutV HT.sIx
          dsimp only
          rw [if_neg (by omega : ¬ (i : Int) < 0), Nat.sub_zero, List.drop_zero, Int.toNat_natCast, Nat.min_eq_left (by omega)]
        rw [ec] at e2
        refine ⟨q, _, rfl, e2, List.all_eq_true.mp hfl _ (List.getElem_mem hi), List.all_eq_true.mpr fun v hv => List.all_eq_true.mp hfl v (List.mem_of_mem_take hv), ?_⟩
        walk_at "v"
        refine iteB (fun h3 => ?_) (fun h3 => ?_)
        · walk_at "v"
          refine kR _ _ (K2 _ _ hDy) (small1000 (by omega)) ⟨?_, by rw [List.length_append]; show _ + 1 ≤ _; omega, (K'.trans K2).put hD⟩
          rw [hst, h3, Bool.not_true, Bool.and_false]
          cases ys <;> rfl
        · refine kS _ (K2 _ _ hDy) ⟨?_, by omega, K'.trans K2⟩
          rw [hst, h3, Bool.not_false, Bool.and_true]
      rintro ys H2 ⟨hz, hzl, K2⟩ e2
      walk_at "v"
      refine ⟨Nat.zero_le _, fun z hz' => ?_⟩
      have K3 : Same H2 (upd H2 z (.lst [])) := Same.new (Same.refl _) hz'
      refine ⟨D, z, _, rfl, rfl, K3 _ _ e2, upd_same, ?_⟩
      rw [hz]
      exact k _ (K2.trans K3)
end
end K01

set_option Elab.async false
set_option linter.all false
set_option maxRecDepth 100000
namespace K01
open PySem L2 G2
local macro_rules | `(tactic| walk_at "v") => `(tactic| repeat (with_reducible first
  | refine w_seq ?_ | refine w_asg ?_ | refine w_gname ?_ | refine w_op ?_ | refine w_var rfl ?_ | refine w_c ?_ | refine w_rI0 ?_ | refine w_ifs ?_ | refine w_ife ?_ | refine w_test ?_ | refine w_tb ?_ | refine w_bl ?_ | refine w_not ?_ | refine w_ret ?_ | refine w_retN ?_
  | refine w_nil ?_ | refine w_cons ?_ | refine w_lst ?_ | refine w_tup ?_ | refine w_cb ?_ | refine w_call ?_ | refine w_gsub ?_ | refine w_and ?_ | refine w_or ?_ | refine w_next ?_ | refine w_all ?_ | refine w_vals ?_ | refine w_compR ?_ | refine w_compT ?_ | refine w_forR ?_ | refine w_forT ?_ | refine w_forL ?_ | refine w_drop ?_ | refine w_bm ?_ | refine w_compZ ?_ | refine w_compL ?_ | refine w_chain ?_ | refine w_sl ?_ | refine w_nopart ?_ | refine w_part ?_ | refine w_unI ?_ | refine iteT ?_ | refine iteF ?_))

abbrev sLru : Stmt := top 44
abbrev sLp : Stmt := top 45
abbrev nLru : List Str := ["_law_thing", "_law_many"]
theorem nmLru : Nm nLru (defScope sLru) := ⟨by decide +kernel, by decide +kernel⟩
theorem scLru : FnScope nLru ["_law_thing", "_law_many"] (defScope sLru) := ⟨rfl, rfl, rfl, by decide +kernel, rfl, by decide +kernel, by decide +kernel⟩
abbrev nLp : List Str := ["_law_thing", "_law_sorts", "_law_rules", "_law_inputs", "_law_begin", "_law_answer", "_law_many"]
theorem nmLp : Nm nLp (defScope sLp) := ⟨by decide +kernel, by decide +kernel⟩
theorem scLp : FnScope nLp ["_law_thing"] (defScope sLp) := ⟨rfl, rfl, rfl, by decide +kernel, rfl, by decide +kernel, by decide +kernel⟩

def orIn (s : Stmt) (i : Nat) : Scope := match s with
  | .If (.BoolOp _ es _) _ _ _ => match es.getD i (.Name "" ⟨0, 0, 0, 0⟩) with
    | .Compare _ _ [.ListComp _ _ sc _] _ => sc
    | _ => { kind := .function, names := [], isGenerator := false, isCoroutine := false }
  | _ => { kind := .function, names := [], isGenerator := false, isCoroutine := false }
abbrev cLpA : Scope := orIn ((defBody sLp).getD 3 (.Pass ⟨0, 0, 0, 0⟩)) 1
abbrev cLpB : Scope := orIn ((defBody sLp).getD 4 (.Pass ⟨0, 0, 0, 0⟩)) 2
abbrev cLpC : Scope := orIn ((defBody sLp).getD 6 (.Pass ⟨0, 0, 0, 0⟩)) 0
theorem bsLpA : BScope (defScope sLp) cLpA ["_law_one"] [] ["_law_is_name"] := { okind := by decide +kernel, kind := by decide +kernel, nocell := by decide +kernel, names := by decide +kernel, fr := by decide +kernel, ff := by decide +kernel, nd := by decide +kernel, vis := by decide +kernel, loc := by decide +kernel, gl := by decide +kernel }
theorem bsLpB : BScope (defScope sLp) cLpB ["_law_rule_here"] ["_law_many"] ["_law_is_rule"] := { okind := by decide +kernel, kind := by decide +kernel, nocell := by decide +kernel, names := by decide +kernel, fr := by decide +kernel, ff := by decide +kernel, nd := by decide +kernel, vis := by decide +kernel, loc := by decide +kernel, gl := by decide +kernel }
theorem bsLpC : BScope (defScope sLp) cLpC ["_law_one"] ["_law_many"] ["_law_whole"] := { okind := by decide +kernel, kind := by decide +kernel, nocell := by decide +kernel, names := by decide +kernel, fr := by decide +kernel, ff := by decide +kernel, nd := by decide +kernel, vis := by decide +kernel, loc := by decide +kernel, gl := by decide +kernel }

theorem in_fls (xs : List Bool) : inV (.bl false) (xs.map V.bl) = !xs.all id := by
  unfold inV
  rw [List.any_map]
  induction xs with
  | nil => rfl
  | cons x xs ih =>
    rw [List.any_cons, List.all_cons, ih]
    cases x <;> cases xs.all id <;> rfl
theorem flat_bl (xs : List Bool) : (xs.map V.bl).all flatV = true := by
  induction xs with
  | nil => rfl
  | cons x xs ih => rw [List.map_cons, List.all_cons, ih]; rfl
theorem any_pos {m : Nat} : ∀ {xs : List Int}, xs.length = m → (∀ x ∈ xs, 0 ≤ x) → xs.any (fun i => decide (0 < i)) = !decide (xs = List.replicate m 0) := by
  induction m with
  | zero =>
    intro xs h _
    rw [List.eq_nil_of_length_eq_zero h]
    rfl
  | succ m ih =>
    intro xs h hp
    match xs, h with
    | x :: xs, h =>
      have h' : xs.length = m := by simpa using h
      have i' := ih h' fun y hy => hp y (List.mem_cons_of_mem _ hy)
      have hx := hp x List.mem_cons_self
      rw [List.any_cons, i', List.replicate_succ]
      by_cases h0 : x = 0
      · subst h0
        rw [show decide ((0 : Int) < 0) = false from rfl, Bool.false_or]
        congr 1
        rw [decide_eq_decide]
        constructor
        · intro z
          rw [z]
        · intro z
          exact (List.cons.inj z).2
      · rw [decide_eq_true (by omega : 0 < x), Bool.true_or, decide_eq_false (fun z => h0 (List.cons.inj z).1)]
        rfl
def spLru : Sp := fun vs H Q _ => ∃ (v : V) (t : Th) (m : Nat) (n : Nat), vs = [v, .int (m : Int)] ∧ ThAt H v t ∧ ThL n t ∧ n ≤ 1000 ∧ m ≤ 100 ∧ ∀ H', Same H H' → Q (.bl (ruleT m t)) H'
section
variable {P : Program} {w : World} {K : PySem.W.Frag} {mg : Str → Option Value} {base : Heap}
set_option maxHeartbeats 4000000 in
theorem ok_Lru {f : Addr} {fd : FuncData} (B : Blt mg) (fR : Has P w K mg base 2 "_law_is_row" ["_law_thing", "_law_many", "_law_most"] spLr) (F : Fun K "_law_is_rule" "_law_is_rule" sLru f fd) : FnOk P w K mg base CX0 3 f fd ["_law_thing", "_law_many"] spLru := by
  refine F.ok scLru (fun vs H Q E h => ?_) (fun cdv A outer s H vs Q E hr h => ?_)
  · obtain ⟨v, t, m, n, rfl, _⟩ := h
    rfl
  · obtain ⟨v, t, m, n, rfl, ht, hL, hn, hm, k⟩ := h
    refine' ⟨_, ?hb, ?rd⟩
    case hb =>
      refine' pss_cons ?s1 ?r1
      case' r1 => refine' pss_cons ?s2 ?r2
      case' r2 => refine' pss_one ?s3
      case s1 =>
        refine' ps_if ?o1 (pss_one (ps_ret pe_bl)) pss_nil
        case' o1 => refine' PW.pt ?o2
        case' o2 => refine' pw_or ?o3 ?o4
        case o3 => exact pt_not (pt_val (pe_cB is_tup B.isi PyProof.Rows.boot_isinstance (pa_2 (pvd nmLru 0) (pe_bltn (v := .ty "tuple") rfl B.tuple PyProof.Rows.boot_tuple rfl))))
        case' o4 => refine' pw_or1 ?o5
        case o5 => exact pt_cmpR op_ne (pe_cB call_lnT B.len PySem.boot_len (pa_1 (pvd nmLru 0))) pe_int (nomark _)
      case s2 =>
        refine' ps_if ?q1 (pss_one (ps_ret pe_bl)) pss_nil
        case' q1 => refine' PW.pt ?q2
        case' q2 => refine' pw_or ?q3 ?q4
        case q3 => exact pt_not (pt_val (pe_f fR hr (by decide) (pa_c (pe_ix ix_d (pvd nmLru 0) pe_int (fun _ _ => rfl)) (pa_2 (pvd nmLru 1) pe_int))))
        case' q4 => refine' pw_or1 ?q5
        case q5 => exact pt_not (pt_val (pe_f fR hr (by decide) (pa_c (pe_ix ix_d (pvd nmLru 0) pe_int (fun _ _ => rfl)) (pa_2 (pvd nmLru 1) pe_int))))
      case s3 =>
        refine' ps_ret ?p0
        case' p0 => refine' pe_and ?p1 ?p2
        case p1 => exact pe_cmpR (op_neD hr) (pe_ix ix_d (pvd nmLru 0) pe_int (fun _ _ => rfl)) (pe_ix ix_d (pvd nmLru 0) pe_int (fun _ _ => rfl)) (nomark _)
        case' p2 => refine' pe_one ?p3
        case p3 => exact pe_cmpR (op_neD hr) (pe_ix ix_d (pvd nmLru 0) pe_int (fun _ _ => rfl)) (pe_op op_repG (pe_tup (pa_1 pe_int)) (pvd nmLru 1)) (nomark _)
    case rd =>
      walk_at "v"
      refine ⟨_, t, rfl, ht, ?_⟩
      walk_at "v"
      refine iteBn (fun h => ?_) (fun h => ?_)
      · walk_at "v"
        rw [ruleT_not h] at k
        exact k _ (Same.refl _)
      obtain ⟨p, vs, ts, rfl, rfl, hp, hts⟩ := ThAt.tup_inv ht h
      walk_at "v"
      refine ⟨p, _, rfl, hp, ?_⟩
      rw [hts.len]
      walk_at "v"
      refine ⟨rfl, ?_⟩
      walk_at "v"
      refine iteNB (fun hne => ?_) (fun he => ?_)
      · walk_at "v"
        rw [ruleT_len (fun z => hne (by rw [z]; rfl))] at k
        exact k _ (Same.refl _)
      have h2 : ts.length = 2 := by
        have : (ts.length : Int) = 2 := V.int.inj he
        omega
      obtain ⟨ta, tb, rfl⟩ : ∃ a b, ts = [a, b] := by
        match ts, h2 with
        | [a, b], _ => exact ⟨a, b, rfl⟩
      obtain ⟨va, vb, vr, rfl, ha, hb, hc⟩ := ths2 hts
      cases hc
      have La := hL.all ta (by simp)
      have Lb := hL.all tb (by simp)
      walk_at "v"
      refine w_ixT hp at0 ?_
      walk_at "v"
      refine ⟨va, ta, m, 9, n, rfl, ha, La, hn, fun H1 K1 => ?_⟩
      walk_at "v"
      refine iteBn (fun h3 => ?_) (fun h3 => ?_)
      · walk_at "v"
        rw [show ruleT m (.tup [ta, tb]) = false by show ((rowT m 9 ta && _) && _) = false; rw [h3, Bool.false_and, Bool.false_and]] at k
        exact k _ K1
      walk_at "v"
      refine w_ixT (K1 _ _ hp) at1 ?_
      walk_at "v"
      refine ⟨vb, tb, m, 9, n, rfl, hb.ks (KS.same K1), Lb, hn, fun H2 K2 => ?_⟩
      have K02 := K1.trans K2
      walk_at "v"
      refine iteBn (fun h4 => ?_) (fun h4 => ?_)
      · walk_at "v"
        rw [show ruleT m (.tup [ta, tb]) = false by show ((rowT m 9 ta && rowT m 9 tb) && _) = false; rw [h4, Bool.and_false, Bool.false_and]] at k
        exact k _ K02
      rw [show ruleT m (.tup [ta, tb]) = ((rw' ta).any (fun i => decide (0 < i)) && !decide (rw' ta = rw' tb)) by show ((rowT m 9 ta && rowT m 9 tb) && _) = _; rw [h3, h4, Bool.true_and, Bool.true_and]] at k
      obtain ⟨pa, as, rfl, hpa, ea, la, ba⟩ := row_inv ha h3
      obtain ⟨pb, bs', rfl, hpb, eb, lb, bb⟩ := row_inv hb h4
      rw [ea, eb, any_pos la (fun x hx => (ba x hx).1), Bool.and_comm] at k
      walk_at "v"
      refine w_andV ?_
      walk_at "v"
      refine w_ixT (K02 _ _ hp) at0 ?_
      walk_at "v"
      refine w_ixT (K02 _ _ hp) at1 ?_
      refine w_neT (K02 _ _ hpa) (K02 _ _ hpb) ?_
      walk_at "v"
      refine iteB (fun h5 => ?_) (fun h5 => ?_)
      rotate_left
      · rw [h5, Bool.false_and] at k
        exact k _ K02
      rw [h5, Bool.true_and] at k
      walk_at "v"
      refine w_ixT (K02 _ _ hp) at0 ?_
      walk_at "v"
      refine ⟨by show 1 ≤ sizeLine; decide, fun z hz => ?_⟩
      have K3 : Same H2 (upd H2 z (.tup [.int 0])) := Same.new (Same.refl _) hz
      have e3 : upd H2 z (.tup [.int 0]) z = some (.tup [.int 0]) := upd_same
      generalize upd H2 z (.tup [.int 0]) = H3 at K3 e3 ⊢
      walk_at "v"
      refine ⟨z, m, _, rfl, rfl, e3, by omega, fun c H4 K4 e4 => ?_⟩
      have K04 := (K02.trans K3).trans K4
      rw [show List.replicate m (V.int 0) = (List.replicate m (0 : Int)).map V.int by rw [List.map_replicate]] at e4
      exact w_neT (K04 _ _ hpa) e4 (k _ K04)
set_option maxHeartbeats 4000000 in
theorem ok_Lp {f : Addr} {fd : FuncData} (B : Blt mg) (fN : Has P w K mg base 1 "_law_is_name" ["_law_thing"] (spT nameT)) (fU : Has P w K mg base 1 "_law_unlike" ["_law_things"] spUn) (fR : Has P w K mg base 3 "_law_is_rule" ["_law_thing", "_law_many"] spLru) (fW : Has P w K mg base 1 "_law_whole" ["_law_thing", "_law_least", "_law_most"] spWw) (fA : Has P w K mg base 2 "_law_is_row" ["_law_thing", "_law_many", "_law_most"] spLr) (F : Fun K "_law_is_pot" "_law_is_pot" sLp f fd) : FnOk P w K mg base CX0 4 f fd ["_law_thing"] (spT potT) := by
  refine F.ok scLp (fun vs H Q E h => ?_) (fun cdv A outer s H vs Q E hr h => ?_)
  · obtain ⟨v, t, n, rfl, _⟩ := h
    rfl
  · obtain ⟨v, t, n, rfl, ht, hL, hn, k⟩ := h
    refine' ⟨_, ?hb, ?rd⟩
    case hb =>
      refine' pss_cons ?s1 ?r1
      case' r1 => refine' pss_cons ?s2 ?r2
      case' r2 => refine' pss_cons ?s3 ?r3
      case' r3 => refine' pss_cons ?s4 ?r4
      case' r4 => refine' pss_cons ?s5 ?r5
      case' r5 => refine' pss_cons ?s6 ?r6
      case' r6 => refine' pss_cons ?s7 ?r7
      case' r7 => refine' pss_one ?s8
      case s1 =>
        refine' ps_if ?a1 (pss_one (ps_ret pe_bl)) pss_nil
        case' a1 => refine' PW.pt ?a2
        case' a2 => refine' pw_or ?a3 ?a4
        case a3 => exact pt_not (pt_val (pe_cB is_tup B.isi PyProof.Rows.boot_isinstance (pa_2 (pvd nmLp 0) (pe_bltn (v := .ty "tuple") rfl B.tuple PyProof.Rows.boot_tuple rfl))))
        case' a4 => refine' pw_or ?a5 ?a6
        case a5 => exact pt_cmpR op_ne (pe_cB call_lnT B.len PySem.boot_len (pa_1 (pvd nmLp 0))) pe_int (nomark _)
        case' a6 => refine' pw_or1 ?a7
        case a7 => exact pt_not (pt_val (pe_cB is_tup B.isi PyProof.Rows.boot_isinstance (pa_2 (pe_ix ix_d (pvd nmLp 0) pe_int (fun _ _ => rfl)) (pe_bltn (v := .ty "tuple") rfl B.tuple PyProof.Rows.boot_tuple rfl))))
      case s2 => exact ps_asg (pvd nmLp 0) (pg_tup rfl (pgs_cons (pgd nmLp 1) (pgs_cons (pgd nmLp 2) (pgs_cons (pgd nmLp 3) (pgs_cons (pgd nmLp 4) (pgs_cons (pgd nmLp 5) pgs_nil))))))
      case s3 => exact ps_setD nmLp 6 (pe_cB call_lnT B.len PySem.boot_len (pa_1 (pvd nmLp 1)))
      case s4 =>
        refine' ps_if ?b1 (pss_one (ps_ret pe_bl)) pss_nil
        case' b1 => refine' PW.pt ?b2
        case' b2 => refine' pw_or ?b3 ?b4
        case' b3 => refine' pt_not ?b5
        case b5 => exact pt_chain op_le op_le pe_int (pvd nmLp 6) pe_int
        case' b4 => refine' pw_or ?b6 ?b7
        case' b6 => refine' pt_cmpR op_inL pe_bl ?b8 (by with_unfolding_all rfl)
        case b8 =>
          refine' pe_comp (ix := []) bsLpA.toCScope rfl rfl (pi_tup (pvd nmLp 1)) ?g4 ?g5 ?g6
          case g4 => exact fun _ _ _ _ _ _ => pgb bsLpA 0
          case g5 => exact fun _ _ _ _ _ _ => pts_nil
          case g6 => exact fun _ _ _ _ _ _ => pe_f fN hr (by decide) (pa_1 (pvb bsLpA 0)) (bsLpA.g 0)
        case' b7 => refine' pw_or1 ?b9
        case b9 => exact pt_not (pt_val (pe_f fU hr (by decide) (pa_1 (pvd nmLp 1))))
      case s5 =>
        refine' ps_if ?c1 (pss_one (ps_ret pe_bl)) pss_nil
        case' c1 => refine' PW.pt ?c2
        case' c2 => refine' pw_or ?c3 ?c4
        case c3 => exact pt_not (pt_val (pe_cB is_tup B.isi PyProof.Rows.boot_isinstance (pa_2 (pvd nmLp 2) (pe_bltn (v := .ty "tuple") rfl B.tuple PyProof.Rows.boot_tuple rfl))))
        case' c4 => refine' pw_or ?c5 ?c6
        case c5 => exact pt_cmpR op_gt (pe_cB call_lnT B.len PySem.boot_len (pa_1 (pvd nmLp 2))) pe_int (nomark _)
        case' c6 => refine' pw_or1 ?c7
        case' c7 => refine' pt_cmpR op_inL pe_bl ?c8 (by with_unfolding_all rfl)
        case c8 =>
          refine' pe_comp (ix := [6]) bsLpB.toCScope rfl rfl (pi_tup (pvd nmLp 2)) ?h4 ?h5 ?h6
          case h4 => exact fun _ _ _ _ _ _ => pgb bsLpB 0
          case h5 => exact fun _ _ _ _ _ _ => pts_nil
          case h6 => exact fun _ _ _ _ _ _ => pe_f fR hr (by decide) (pa_2 (pvb bsLpB 0) (pvb bsLpB 1)) (bsLpB.g 0)
      case s6 =>
        refine' ps_if ?d1 (pss_one (ps_ret pe_bl)) pss_nil
        case' d1 => refine' PW.pt ?d2
        case' d2 => refine' pw_or ?d3 ?d4
        case d3 => exact pt_not (pt_val (pe_cB is_tup B.isi PyProof.Rows.boot_isinstance (pa_2 (pvd nmLp 3) (pe_bltn (v := .ty "tuple") rfl B.tuple PyProof.Rows.boot_tuple rfl))))
        case' d4 => refine' pw_or1 ?d5
        case d5 => exact pt_cmpR op_gt (pe_cB call_lnT B.len PySem.boot_len (pa_1 (pvd nmLp 3))) pe_int (nomark _)
      case s7 =>
        refine' ps_if ?e1 (pss_one (ps_ret pe_bl)) pss_nil
        case' e1 => refine' PW.pt ?e2
        case' e2 => refine' pw_or ?e3 ?e4
        case' e3 => refine' pt_cmpR op_inL pe_bl ?e5 (by with_unfolding_all rfl)
        case e5 =>
          refine' pe_comp (ix := [6]) bsLpC.toCScope rfl rfl (pi_tup (pvd nmLp 3)) ?j4 ?j5 ?j6
          case j4 => exact fun _ _ _ _ _ _ => pgb bsLpC 0
          case j5 => exact fun _ _ _ _ _ _ => pts_nil
          case j6 => exact fun _ _ _ _ _ _ => pe_f fW hr (by decide) (pa_c (pvb bsLpC 0) (pa_2 pe_int (pe_op op_sub (pvb bsLpC 1) pe_int))) (bsLpC.g 0)
        case' e4 => refine' pw_or1 ?e6
        case e6 => exact pt_not (pt_val (pe_f fU hr (by decide) (pa_1 (pvd nmLp 3))))
      case s8 =>
        refine' ps_ret ?f0
        case' f0 => refine' pe_and (pe_f fA hr (by decide) (pa_c (pvd nmLp 4) (pa_2 (pvd nmLp 6) pe_int))) ?f1
        case' f1 => refine' pe_one ?f2
        case f2 => exact pe_f fW hr (by decide) (pa_c (pvd nmLp 5) (pa_2 pe_int (pe_op op_sub (pvd nmLp 6) pe_int)))
    case rd =>
      walk_at "v"
      refine ⟨_, t, rfl, ht, ?_⟩
      walk_at "v"
      refine iteBn (fun h => ?_) (fun h => ?_)
      · walk_at "v"
        rw [potT_not h] at k
        exact k _ (Same.refl _)
      obtain ⟨p, vs, ts, rfl, rfl, hp, hts⟩ := ThAt.tup_inv ht h
      walk_at "v"
      refine ⟨p, _, rfl, hp, ?_⟩
      rw [hts.len]
      walk_at "v"
      refine ⟨rfl, ?_⟩
      walk_at "v"
      refine iteNB (fun hne => ?_) (fun he => ?_)
      · walk_at "v"
        rw [potT_len (fun z => hne (by rw [z]; rfl))] at k
        exact k _ (Same.refl _)
      have h2 : ts.length = 5 := by
        have : (ts.length : Int) = 5 := V.int.inj he
        omega
      obtain ⟨ts0, ts1, ts2, ts3, ts4, rfl⟩ := eq5 h2
      obtain ⟨v0, v1, vr, rfl, h0, h1, hr1⟩ := ths2 hts
      obtain ⟨v2, v3, vr', rfl, hh2, h3, hr2⟩ := ths2 hr1
      obtain ⟨v4, vr'', rfl, h4, hr3⟩ := ths1 hr2
      cases hr3
      have L0 := hL.all ts0 (by simp)
      have L1 := hL.all ts1 (by simp)
      have L2' := hL.all ts2 (by simp)
      have L3 := hL.all ts3 (by simp)
      have epot : potT (.tup [ts0, ts1, ts2, ts3, ts4]) = (sortsT ts0 && (rulesT (lenT ts0) ts1 && (inpT (lenT ts0) ts2 && (rowT (lenT ts0) 99 ts3 && wI 0 ((lenT ts0 : Int) - 1) ts4)))) := rfl
      rw [epot] at k
      walk_at "v"
      refine w_ixT hp at0 ?_
      walk_at "v"
      refine ⟨_, ts0, rfl, h0, ?_⟩
      walk_at "v"
      refine iteBn (fun h => ?_) (fun h => ?_)
      · walk_at "v"
        rw [sortsT_not h, Bool.false_and] at k
        exact k _ (Same.refl _)
      obtain ⟨p0, us0, tss, rfl, rfl, hp0, hts0⟩ := ThAt.tup_inv h0 h
      have hln0 := hts0.len
      have hl0 := L0.len
      rw [show lenT (.tup tss) = tss.length from rfl] at k
      walk_at "v"
      refine w_gtup hp rfl ?_
      refine ⟨_, _, rfl, ?_⟩
      walk_at "v"
      refine ⟨_, _, rfl, ?_⟩
      walk_at "v"
      refine ⟨_, _, rfl, ?_⟩
      walk_at "v"
      refine ⟨_, _, rfl, ?_⟩
      walk_at "v"
      refine ⟨_, _, rfl, ?_⟩
      walk_at "v"
      refine ⟨rfl, ?_⟩
      walk_at "v"
      refine ⟨p0, _, rfl, hp0, ?_⟩
      rw [hts0.len]
      have esor : sortsT (.tup tss) = ((decide ((1 : Int) ≤ tss.length) && decide ((tss.length : Int) ≤ 8)) && (tss.all nameT && unlT tss)) := rfl
      rw [esor] at k
      generalize hmm : tss.length = m at k ⊢
      walk_at "v"
      by_cases b1 : (1 : Int) ≤ (m : Int)
      rotate_left
      · refine iteD (fun z => absurd z b1) (fun _ => ?_)
        walk_at "v"
        rw [decide_eq_false b1, Bool.false_and, Bool.false_and, Bool.false_and] at k
        exact k _ (Same.refl _)
      refine iteD (fun _ => ?_) (fun z => absurd b1 z)
      walk_at "v"
      rw [decide_eq_true b1, Bool.true_and] at k
      refine iteBn (fun b2 => ?_) (fun b2 => ?_)
      · walk_at "v"
        rw [b2, Bool.false_and, Bool.false_and] at k
        exact k _ (Same.refl _)
      rw [b2, Bool.true_and] at k
      have m8 := of_decide_eq_true b2
      walk_at "v"
      refine ⟨p0, rfl, ⟨_, SqT.of hp0⟩, fun D hD => ?_⟩
      refine th_all (ρ := []) nameT hp0 hts0 (by omega) (fun v t H' hm ht K' R kR => ?_) (fun H1 K1 e1 => ?_) hD
      · walk_at "v"
        exact ⟨v, t, n, rfl, ht, L0.all t hm, hn, kR⟩
      refine ⟨D, _, rfl, e1, rfl, flat_bl _, ?_⟩
      rw [in_fls, all_map]
      walk_at "v"
      refine iteBn (fun b3 => ?_) (fun b3 => ?_)
      · walk_at "v"
        rw [b3, Bool.false_and, Bool.false_and] at k
        exact k _ K1
      rw [b3, Bool.true_and] at k
      walk_at "v"
      refine ⟨p0, us0, tss, rfl, K1 _ _ hp0, hts0.ks (KS.same K1), List.all_eq_true.mpr fun t ht => name_key (List.all_eq_true.mp b3 t ht), by omega, fun H2 K2 => ?_⟩
      have K02 := K1.trans K2
      walk_at "v"
      refine iteBn (fun b4 => ?_) (fun b4 => ?_)
      · walk_at "v"
        rw [b4, Bool.false_and] at k
        exact k _ K02
      rw [b4, Bool.true_and] at k
      walk_at "v"
      refine ⟨_, ts1, rfl, h1.ks (KS.same K02), ?_⟩
      walk_at "v"
      refine iteBn (fun h => ?_) (fun h => ?_)
      · walk_at "v"
        rw [rulesT_not h, Bool.false_and] at k
        exact k _ K02
      obtain ⟨p1, us1, tr, rfl, rfl, hp1, hts1⟩ := ThAt.tup_inv h1 h
      have hl1 := L1.len
      have erul : rulesT m (.tup tr) = (!decide ((8 : Int) < tr.length) && tr.all (ruleT m)) := rfl
      rw [erul] at k
      walk_at "v"
      refine ⟨p1, _, rfl, K02 _ _ hp1, ?_⟩
      rw [hts1.len]
      walk_at "v"
      refine iteB (fun b5 => ?_) (fun b5 => ?_)
      · walk_at "v"
        rw [b5, Bool.not_true, Bool.false_and, Bool.false_and] at k
        exact k _ K02
      rw [b5, Bool.not_false, Bool.true_and] at k
      walk_at "v"
      refine ⟨p1, rfl, ⟨_, SqT.of (K02 _ _ hp1)⟩, fun D2 hD2 => ?_⟩
      refine th_all (ρ := [some (.int (m : Int))]) (ruleT m) (K02 _ _ hp1) (hts1.ks (KS.same K02)) (by omega) (fun v t H' hm ht K' R kR => ?_) (fun H3 K3 e3 => ?_) hD2
      · walk_at "v"
        exact ⟨v, t, m, n, rfl, ht, L1.all t hm, hn, by omega, kR⟩
      have K03 := K02.trans K3
      refine ⟨D2, _, rfl, e3, rfl, flat_bl _, ?_⟩
      rw [in_fls, all_map]
      walk_at "v"
      refine iteBn (fun b6 => ?_) (fun b6 => ?_)
      · walk_at "v"
        rw [b6, Bool.false_and] at k
        exact k _ K03
      rw [b6, Bool.true_and] at k
      walk_at "v"
      refine ⟨_, ts2, rfl, hh2.ks (KS.same K03), ?_⟩
      walk_at "v"
      refine iteBn (fun h => ?_) (fun h => ?_)
      · walk_at "v"
        rw [inpT_not h, Bool.false_and] at k
        exact k _ K03
      obtain ⟨p2, us2, ti, rfl, rfl, hp2, hts2⟩ := ThAt.tup_inv hh2 h
      have hl2 := L2'.len
      have einp : inpT m (.tup ti) = (!decide ((3 : Int) < ti.length) && (ti.all (wI 0 ((m : Int) - 1)) && unlT ti)) := rfl
      rw [einp] at k
      walk_at "v"
      refine ⟨p2, _, rfl, K03 _ _ hp2, ?_⟩
      rw [hts2.len]
      walk_at "v"
      refine iteB (fun b7 => ?_) (fun b7 => ?_)
      · walk_at "v"
        rw [b7, Bool.not_true, Bool.false_and, Bool.false_and] at k
        exact k _ K03
      rw [b7, Bool.not_false, Bool.true_and] at k
      have i3 := of_decide_eq_false b7
      walk_at "v"
      refine ⟨p2, rfl, ⟨_, SqT.of (K03 _ _ hp2)⟩, fun D3 hD3 => ?_⟩
      refine th_all (ρ := [some (.int (m : Int))]) (wI 0 ((m : Int) - 1)) (K03 _ _ hp2) (hts2.ks (KS.same K03)) (by omega) (fun v t H' hm ht K' R kR => ?_) (fun H4 K4 e4 => ?_) hD3
      · walk_at "v"
        exact ⟨v, t, 0, _, rfl, ht, kR⟩
      have K04 := K03.trans K4
      refine ⟨D3, _, rfl, e4, rfl, flat_bl _, ?_⟩
      rw [in_fls, all_map]
      walk_at "v"
      refine iteBn (fun b8 => ?_) (fun b8 => ?_)
      · walk_at "v"
        rw [b8, Bool.false_and, Bool.false_and] at k
        exact k _ K04
      rw [b8, Bool.true_and] at k
      walk_at "v"
      refine ⟨p2, us2, ti, rfl, K04 _ _ hp2, hts2.ks (KS.same K04), List.all_eq_true.mpr fun t ht => wI_key (List.all_eq_true.mp b8 t ht), by omega, fun H5 K5 => ?_⟩
      have K05 := K04.trans K5
      walk_at "v"
      refine iteBn (fun b9 => ?_) (fun b9 => ?_)
      · walk_at "v"
        rw [b9, Bool.false_and] at k
        exact k _ K05
      rw [b9, Bool.true_and] at k
      walk_at "v"
      refine w_andV ?_
      walk_at "v"
      refine ⟨v3, ts3, m, 99, n, rfl, h3.ks (KS.same K05), L3, hn, fun H6 K6 => ?_⟩
      have K06 := K05.trans K6
      walk_at "v"
      refine iteB (fun ba => ?_) (fun ba => ?_)
      rotate_left
      · rw [ba, Bool.false_and] at k
        exact k _ K06
      rw [ba, Bool.true_and] at k
      walk_at "v"
      exact ⟨v4, ts4, 0, _, rfl, h4.ks (KS.same K06), fun H7 K7 => k _ (K06.trans K7)⟩
end
end K01

set_option Elab.async false
set_option linter.all false
set_option maxRecDepth 100000
namespace K1P
open PySem L2
local macro_rules | `(tactic| walk_at "v") => `(tactic| repeat (with_reducible first
  | refine w_seq ?_ | refine w_asg ?_ | refine w_gname ?_ | refine w_op ?_ | refine w_var rfl ?_ | refine w_c ?_ | refine w_rI0 ?_ | refine w_ifs ?_ | refine w_ife ?_ | refine w_test ?_ | refine w_tb ?_ | refine w_bl ?_ | refine w_not ?_ | refine w_ret ?_ | refine w_retN ?_
  | refine w_nil ?_ | refine w_cons ?_ | refine w_lst ?_ | refine w_tup ?_ | refine w_cb ?_ | refine w_call ?_ | refine w_gsub ?_ | refine w_and ?_ | refine w_or ?_ | refine w_next ?_ | refine w_all ?_ | refine w_vals ?_ | refine w_compR ?_ | refine w_compT ?_ | refine w_forR ?_ | refine w_forT ?_ | refine w_forL ?_ | refine w_drop ?_ | refine w_bm ?_ | refine iteT ?_ | refine iteF ?_))
def top (i : Nat) : Stmt := PySem.Challenge.pw_dropsums_k01_names_and_pots.main.body.getD i (.Pass ⟨0, 0, 0, 0⟩)
abbrev sFeed : Stmt := top 33
abbrev sDraw : Stmt := top 34
/-- a feed stands at p -/
def FeedAt (H : Hp) (p : Addr) : Prop := ∃ a b c : Int, H p = some (.lst [.int a, .int b, .int c])
theorem FeedAt.here {H : Hp} {p : Addr} {x y z : Int} : FeedAt (upd H p (.lst [.int x, .int y, .int z])) p := ⟨x, y, z, upd_same⟩
def spFeed (K : PySem.W.Frag) : Sp := fun vs H Q _ => ∃ (a : Addr) (ns : List Int) (k : Nat), vs = [.ref a, .int k] ∧ SqL K H a (ns.map V.int) ∧ ns.length ≤ 63 ∧ ∀ p x y z, H p = none → Q (.ref p) (upd H p (.lst [.int x, .int y, .int z]))
def spDraw : Sp := fun vs H Q _ => ∃ (p : Addr) (m : Int), vs = [.ref p, .int m] ∧ FeedAt H p ∧ 0 < m ∧ m < 1000000 ∧ ∀ (r x y z : Int), 0 ≤ r → r < m → Q (.int r) (upd H p (.lst [.int x, .int y, .int z]))
theorem md {i j : Int} (h : 0 < j) : 0 ≤ i % j ∧ i % j < j := ⟨Int.emod_nonneg _ (Int.ne_of_gt h), Int.emod_lt_of_pos _ h⟩
theorem mulL {i j : Int} (h1 : 0 ≤ i) (h2 : i < 4000000000) : CMul i j := .inl ⟨by omega, by omega⟩
section
variable {P : Program} {w : World} {K : PySem.W.Frag} {mg : Str → Option Value} {base : Heap}
theorem scDraw : FnScope ["_law_feed_here", "_law_many", "_law_found", "_law_mixed"] ["_law_feed_here", "_law_many"] (defScope sDraw) := ⟨rfl, rfl, rfl, by decide +kernel, rfl, by decide +kernel, by decide +kernel⟩
theorem ok_draw {f : Addr} {fd : FuncData} (F : Fun K "_law_draw" "_law_draw" sDraw f fd) : FnOk P w K mg base CX0 1 f fd ["_law_feed_here", "_law_many"] spDraw := by
  refine F.ok scDraw (fun vs H Q E h => ?_) (fun cdv A outer s H vs Q E hr h => ?_)
  · obtain ⟨p, m, rfl, _⟩ := h
    rfl
  · obtain ⟨p, m, rfl, ⟨a, b, c, hp⟩, hm, hm2, k⟩ := h
    refine ⟨_, pss_cons (ps_asg (pe_op op_add (pe_ix ix_d (pv 0) pe_int (fun _ _ => rfl)) pe_int) (pg_sub (pv 0) pe_int set_d))
      (pss_cons (ps_if (pt_cmpR op_gt (pe_ix ix_d (pv 0) pe_int (fun _ _ => rfl)) pe_int (nomark _))
        (pss_cons (ps_set (i := 2) scDraw.nd rfl (Or.inl rfl) (pe_op op_mod (pe_ix ix_d (pv 0) pe_int (fun _ _ => rfl)) (pv 1)))
        (pss_cons (ps_asg (pe_op op_fdiv (pe_ix ix_d (pv 0) pe_int (fun _ _ => rfl)) (pv 1)) (pg_sub (pv 0) pe_int set_d))
        (pss_one (ps_ret (pv 2))))) pss_nil)
      (pss_cons (ps_set (i := 3) scDraw.nd rfl (Or.inl rfl) (pe_op op_mod (pe_op op_mul (pe_op op_mod (pe_op op_add (pe_ix ix_d (pv 0) pe_int (fun _ _ => rfl)) (pe_op op_mul pe_int (pe_ix ix_d (pv 0) pe_int (fun _ _ => rfl)))) pe_int) pe_int) pe_int))
      (pss_cons (ps_set (i := 3) scDraw.nd rfl (Or.inl rfl) (pe_op op_mod (pe_op op_mul (pv 3) (pe_op op_add (pv 3) pe_int)) pe_int))
      (pss_one (ps_ret (pe_op op_mod (pe_op op_fdiv (pe_op op_mod (pe_op op_mul (pv 3) pe_int) pe_int) pe_int) (pv 1))))))), ?_⟩
    walk_at "v"
    refine w_ixL hp rfl ?_
    walk_at "v"
    refine w_set hp rfl ?_
    walk_at "v"
    refine w_ixL upd_same rfl ?_
    walk_at "v"
    refine iteD (fun _ => ?_) (fun _ => ?_)
    · walk_at "v"
      refine w_ixL upd_same rfl ?_
      walk_at "v"
      refine w_rI hm ?_
      walk_at "v"
      refine w_ixL upd_same rfl ?_
      walk_at "v"
      refine w_rI ⟨hm, by omega⟩ ?_
      walk_at "v"
      refine w_set upd_same rfl ?_
      walk_at "v"
      rw [upd_upd]
      exact k _ _ _ _ (md hm).1 (md hm).2
    · walk_at "v"
      refine w_ixL upd_same rfl ?_
      walk_at "v"
      refine w_ixL upd_same rfl ?_
      refine w_rI (mulL (by decide) (by decide)) ?_
      walk_at "v"
      refine w_rI (by decide) ?_
      walk_at "v"
      refine w_rI (mulL (md (by decide)).1 (by have := (md (i := b + 40692 * (c + 1)) (j := 2147483399) (by decide)).2; omega)) ?_
      walk_at "v"
      refine w_rI (by decide) ?_
      generalize hx : (b + 40692 * (c + 1)) % 2147483399 * 48271 % 2147483647 = x
      have h1 := md (i := (b + 40692 * (c + 1)) % 2147483399 * 48271) (j := 2147483647) (by decide)
      rw [hx] at h1
      walk_at "v"
      refine w_rI (mulL h1.1 (by omega)) ?_
      walk_at "v"
      refine w_rI (by decide) ?_
      generalize hy : x * (x + 7919) % 2147483587 = y
      have h2 := md (i := x * (x + 7919)) (j := 2147483587) (by decide)
      rw [hy] at h2
      walk_at "v"
      refine w_rI (mulL h2.1 (by omega)) ?_
      walk_at "v"
      refine w_rI (by decide) ?_
      walk_at "v"
      refine w_rI ⟨by decide, by decide⟩ ?_
      walk_at "v"
      refine w_rI hm ?_
      exact k _ _ _ _ (md hm).1 (md hm).2
theorem scFeed : FnScope ["_law_script", "_law_k", "_law_cell", "_law_left"] ["_law_script", "_law_k"] (defScope sFeed) := ⟨rfl, rfl, rfl, by decide +kernel, rfl, by decide +kernel, by decide +kernel⟩
theorem ok_feed {f : Addr} {fd : FuncData} (hlen : mg "len" = none) (F : Fun K "_law_feed" "_law_feed" sFeed f fd) : FnOk P w K mg base CX0 1 f fd ["_law_script", "_law_k"] (spFeed K) := by
  refine F.ok scFeed (fun vs H Q E h => ?_) (fun cdv A outer s H vs Q E hr h => ?_)
  · obtain ⟨a, ns, k, rfl, _⟩ := h
    rfl
  · obtain ⟨a, ns, k, rfl, hS, hl, q⟩ := h
    refine ⟨_, pss_cons (ps_set (i := 2) scFeed.nd rfl (Or.inl rfl) (pe_op op_add (pe_op op_mul pe_int (pv 1)) pe_int))
      (pss_cons (ps_if (pt_cmpR op_gt (pe_callB call_len_seq (by rfl) hlen PySem.boot_len (pa_cons (pv 0) pa_nil)) pe_int (nomark _))
        (pss_one (ps_set (i := 2) scFeed.nd rfl (Or.inl rfl) (pe_op op_add (pe_ix ix_list (pv 0) (pe_op op_mod (pv 1) (pe_callB call_len_seq (by rfl) hlen PySem.boot_len (pa_cons (pv 0) pa_nil))) (fun _ _ => rfl))
          (pe_op op_mul pe_int (pe_op op_fdiv (pv 1) (pe_callB call_len_seq (by rfl) hlen PySem.boot_len (pa_cons (pv 0) pa_nil)))))))
        pss_nil)
      (pss_cons (ps_set (i := 3) scFeed.nd rfl (Or.inl rfl) (pe_ifExp (pt_cmpR op_ge (pv 2) (pe_op op_pow pe_int pe_int) (nomark _)) (pv 2) pe_int))
      (pss_one (ps_ret (pe_lst (pa_cons (pv 3) (pa_cons (pe_op op_add (pe_op op_add (pe_op op_mod (pv 2) pe_int) (pe_op op_mul pe_int (pv 1))) pe_int) (pa_cons pe_int pa_nil)))))))), ?_⟩
    walk_at "v"
    refine w_rI (mulL (by decide) (by decide)) ?_
    walk_at "v"
    refine ⟨a, _, rfl, .inl hS, ?_⟩
    walk_at "v"
    refine iteD (fun h0 => ?_) (fun _ => ?_)
    · walk_at "v"
      refine ⟨a, _, rfl, .inl hS, ?_⟩
      rw [List.length_map] at h0 ⊢
      have h0' : 0 < ns.length := by omega
      refine w_rI h0 ?_
      obtain ⟨j, hj⟩ : ∃ j : Nat, (k : Int) % (ns.length : Int) = (j : Int) := ⟨k % ns.length, by omega⟩
      have hjl : j < ns.length := by
        have := (md (i := (k : Int)) h0).2
        omega
      refine ⟨a, _, _, .int ns[j], rfl, rfl, hS, ?_, ?_⟩
      · rw [hj]
        exact atI_nat (by simp [hjl])
      · walk_at "v"
        refine ⟨a, _, rfl, .inl hS, ?_⟩
        rw [List.length_map]
        refine w_rI ⟨h0, by omega⟩ ?_
        refine w_rI (mulL (by decide) (by decide)) ?_
        walk_at "v"
        refine w_rI ⟨by decide, by decide, by decide⟩ ?_
        walk_at "v"
        refine iteD (fun _ => ?_) (fun _ => ?_)
        all_goals
          walk_at "v"
          refine w_rI (by decide) ?_
          walk_at "v"
          refine w_rI (mulL (by decide) (by decide)) ?_
          walk_at "v"
          exact ⟨by show 3 ≤ sizeLine; decide, fun p hp => q p _ _ _ hp⟩
    · walk_at "v"
      refine w_rI ⟨by decide, by decide, by decide⟩ ?_
      walk_at "v"
      refine iteD (fun _ => ?_) (fun _ => ?_)
      all_goals
        walk_at "v"
        refine w_rI (by decide) ?_
        walk_at "v"
        refine w_rI (mulL (by decide) (by decide)) ?_
        walk_at "v"
        exact ⟨by show 3 ≤ sizeLine; decide, fun p hp => q p _ _ _ hp⟩
end
end K1P

set_option Elab.async false
set_option linter.all false
set_option maxRecDepth 100000
namespace K1P
open PySem L2
local macro_rules | `(tactic| walk_at "v") => `(tactic| repeat (with_reducible first
  | refine w_seq ?_ | refine w_asg ?_ | refine w_gname ?_ | refine w_op ?_ | refine w_var rfl ?_ | refine w_c ?_ | refine w_rI0 ?_ | refine w_ifs ?_ | refine w_ife ?_ | refine w_test ?_ | refine w_tb ?_ | refine w_bl ?_ | refine w_not ?_ | refine w_ret ?_ | refine w_retN ?_
  | refine w_nil ?_ | refine w_cons ?_ | refine w_lst ?_ | refine w_tup ?_ | refine w_cb ?_ | refine w_call ?_ | refine w_gsub ?_ | refine w_and ?_ | refine w_or ?_ | refine w_next ?_ | refine w_all ?_ | refine w_vals ?_ | refine w_compR ?_ | refine w_compT ?_ | refine w_forR ?_ | refine w_forT ?_ | refine w_forL ?_ | refine w_drop ?_ | refine w_bm ?_ | refine iteT ?_ | refine iteF ?_))
abbrev sNames : Stmt := top 35
def names12 : List Str := ["a", "ab", "abc", "insort", "outer", "ruler", "tone", "begins", "sort", "b", "zzzzzzzz", "x"]
def nmOf (st sp k : Nat) : Str := names12.getD ((st + sp * k) % 12) ""
/-- all that was tracked is as it was, but at p -/
def But (p : Addr) (H H' : Hp) : Prop := ∀ q o, H q = some o → q ≠ p → H' q = some o
theorem But.refl {p : Addr} {H : Hp} : But p H H := fun _ _ h _ => h
theorem But.new {p a : Addr} {H H' : Hp} {o : HO} (b : But p H H') (h : H' a = none) : But p H (upd H' a o) := fun q u e hq => by
  have e' := b q u e hq
  rw [upd_ne (ne_of_none e' h)]
  exact e'
theorem But.at {p : Addr} {H H' : Hp} {o : HO} (b : But p H H') : But p H (upd H' p o) := fun q u e hq => by
  rw [upd_ne hq]
  exact b q u e hq
theorem But.put {p a : Addr} {H H' : Hp} {o : HO} (b : But p H H') (h : H a = none) : But p H (upd H' a o) := fun q u e hq => by
  rw [upd_ne (ne_of_none e h)]
  exact b q u e hq
theorem But.trans {p : Addr} {H H1 H2 : Hp} (a : But p H H1) (b : But p H1 H2) : But p H H2 := fun q o e hq => b q o (a q o e hq) hq
theorem But.free {p a : Addr} {H H' : Hp} (b : But p H H') (hp : p ≠ a) (h : H' a = none) : H a = none := by
  cases e : H a with
  | none => rfl
  | some o => rw [b a o e (Ne.symm hp)] at h; cases h
theorem FeedAt.ne {H : Hp} {p a : Addr} (F : FeedAt H p) (h : H a = none) : p ≠ a := by
  obtain ⟨x, y, z, e⟩ := F
  exact ne_of_none e h
theorem FeedAt.new {H : Hp} {p a : Addr} {o : HO} (F : FeedAt H p) (h : p ≠ a) : FeedAt (upd H a o) p := by
  obtain ⟨x, y, z, e⟩ := F
  exact ⟨x, y, z, by rw [upd_ne h]; exact e⟩
theorem Nat.ofI {r : Int} (h : 0 ≤ r) : ∃ n : Nat, r = (n : Int) := ⟨r.toNat, by omega⟩
/-- what names there may be -/
def Names (m : Nat) (nm : List Str) : Prop := nm.length = m ∧ nm.Nodup ∧ ∀ x ∈ nm, x ∈ names12
theorem ix_ok : ∀ st < 12, ∀ sp ∈ [1, 5, 7, 11], ∀ m < 13, ((List.range m).map fun k => (st + sp * k) % 12).Nodup := by decide +kernel
theorem names12_nd : names12.Nodup := by decide +kernel
theorem names_ok {st sp m : Nat} (h1 : st < 12) (h2 : sp ∈ [1, 5, 7, 11]) (h3 : m < 13) : ((List.range m).map (nmOf st sp)).Nodup := by
  have h := ix_ok st h1 sp h2 m h3
  have e : (List.range m).map (nmOf st sp) = ((List.range m).map fun k => (st + sp * k) % 12).map fun j => names12.getD j "" := by
    rw [List.map_map]
    rfl
  rw [e]
  refine List.Pairwise.map _ (R := fun a b => a ≠ b ∧ a < 12 ∧ b < 12) (fun a b ⟨hab, ha, hb⟩ hc => ?_) ?_
  · have hl : names12.length = 12 := rfl
    simp only [List.getD_eq_getElem?_getD, List.getElem?_eq_getElem (show a < names12.length by omega), List.getElem?_eq_getElem (show b < names12.length by omega), Option.getD_some] at hc
    exact hab ((List.getElem_inj names12_nd).mp hc)
  · refine List.Pairwise.imp_of_mem (R := fun a b => a ≠ b) (fun {a b} ha hb hab => ⟨hab, ?_, ?_⟩) h
    · obtain ⟨k, _, rfl⟩ := List.mem_map.mp ha
      omega
    · obtain ⟨k, _, rfl⟩ := List.mem_map.mp hb
      omega
theorem names_in {st sp m : Nat} : ∀ x ∈ (List.range m).map (nmOf st sp), x ∈ names12 := fun x hx => by
  obtain ⟨k, _, rfl⟩ := List.mem_map.mp hx
  show names12.getD ((st + sp * k) % 12) "" ∈ names12
  have hl : names12.length = 12 := rfl
  have hk : (st + sp * k) % 12 < names12.length := by omega
  rw [List.getD_eq_getElem?_getD, List.getElem?_eq_getElem hk]
  exact List.getElem_mem hk
def spNames : Sp := fun vs H Q _ => ∃ (p : Addr) (m : Nat), vs = [.ref p, .int m] ∧ FeedAt H p ∧ 0 < m ∧ m ≤ 12 ∧ ∀ (l : Addr) (nm : List Str) (H' : Hp), H l = none → Names m nm → FeedAt H' p → But p H H' → H' l = some (.lst (nm.map V.str)) → Q (.ref l) H'
section
variable {P : Program} {w : World} {K : PySem.W.Frag} {mg : Str → Option Value} {base : Heap}
abbrev nNames : List Str := ["_law_feed_here", "_law_many", "_law_some", "_law_start", "_law_step"]
theorem nmNames : Nm nNames (defScope sNames) := ⟨by decide +kernel, by decide +kernel⟩
theorem scNames : FnScope nNames ["_law_feed_here", "_law_many"] (defScope sNames) := ⟨rfl, rfl, rfl, by decide +kernel, rfl, by decide +kernel, by decide +kernel⟩
/-- the scope of the comprehension in the n-th statement, as a value that is returned -/
def retComp (s : Stmt) : Scope := match s with
  | .Return (some (.ListComp _ _ sc _)) _ => sc
  | _ => { kind := .function, names := [], isGenerator := false, isCoroutine := false }
abbrev cNames : Scope := retComp ((defBody sNames).getD 3 (.Pass ⟨0, 0, 0, 0⟩))
theorem bsNames : BScope (defScope sNames) cNames ["_law_k"] ["_law_some", "_law_start", "_law_step"] [] := { okind := by decide +kernel, kind := by decide +kernel, nocell := by decide +kernel, names := by decide +kernel, fr := by decide +kernel, ff := by decide +kernel, nd := by decide +kernel, vis := by decide +kernel, loc := by decide +kernel, gl := by decide +kernel }
set_option maxHeartbeats 200000 in
theorem ok_names {f : Addr} {fd : FuncData} (hrange : mg "range" = none) (D : Has P w K mg base 1 "_law_draw" ["_law_feed_here", "_law_many"] spDraw) (F : Fun K "_law_names" "_law_names" sNames f fd) : FnOk P w K mg base CX0 2 f fd ["_law_feed_here", "_law_many"] spNames := by
  refine F.ok scNames (fun vs H Q E h => ?_) (fun cdv A outer s H vs Q E hr h => ?_)
  · obtain ⟨p, m, rfl, _⟩ := h
    rfl
  · obtain ⟨p, m, rfl, hF, h1, h8, k⟩ := h
    refine' ⟨_, ?hb, ?rd⟩
    case hb =>
      refine' pss_cons ?s1 ?r1
      case' r1 => refine' pss_cons ?s2 ?r2
      case' r2 => refine' pss_cons ?s3 ?r3
      case' r3 => refine' pss_one ?s4
      case s1 =>
        refine' ps_setD nmNames 2 ?p1
        case p1 =>
          refine pe_lstC (vs := names12.map V.str) ?_
          decide +kernel
      case s2 =>
        refine' ps_setD nmNames 3 ?p2
        case p2 => exact pe_fn D hr (by decide) (pa_cons (pvd nmNames 0) (pa_cons pe_int pa_nil))
      case s3 =>
        refine' ps_setD nmNames 4 ?p3
        case p3 =>
          refine' pe_ix ix_d ?a3 (pe_fn D hr (by decide) (pa_cons (pvd nmNames 0) (pa_cons pe_int pa_nil))) (fun _ _ => rfl)
          case a3 =>
            refine pe_lstC (vs := [.int 1, .int 5, .int 7, .int 11]) ?_
            decide +kernel
      case s4 =>
        refine' ps_ret ?p4
        case p4 =>
          refine' pe_comp (ix := [2, 3, 4]) bsNames.toCScope rfl rfl ?h3 ?h4 ?h5 ?h6
          case h3 => exact pi_range1 rfl hrange (pa_cons (pvd nmNames 1) pa_nil)
          case h4 => exact fun _ _ _ _ _ _ => pgb bsNames 0
          case h5 => exact fun _ _ _ _ _ _ => pts_nil
          case h6 => exact fun _ _ _ _ _ _ => pe_ix ix_d (pvb bsNames 1) (pe_op op_mod (pe_op op_add (pvb bsNames 2) (pe_op op_mul (pvb bsNames 3) (pvb bsNames 0))) pe_int) (fun _ _ => rfl)
    case rd =>
      walk_at "v"
      refine ⟨by show 12 ≤ sizeLine; decide, fun a1 ha1 => ?_⟩
      walk_at "v"
      refine ⟨p, 12, rfl, hF.new (hF.ne ha1), by decide, by decide, fun r x y z r0 r1 => ?_⟩
      walk_at "v"
      refine ⟨by show 4 ≤ sizeLine; decide, fun a2 ha2 => ?_⟩
      walk_at "v"
      have np1 : p ≠ a1 := hF.ne ha1
      have np2 : p ≠ a2 := by
        intro e
        rw [← e, upd_same] at ha2
        cases ha2
      refine ⟨p, 4, rfl, FeedAt.here.new np2, by decide, by decide, fun r' x' y' z' r0' r1' => ?_⟩
      obtain ⟨st, rfl⟩ := Nat.ofI r0
      obtain ⟨j, rfl⟩ := Nat.ofI r0'
      obtain ⟨sp, hsp, hat⟩ : ∃ sp : Nat, sp ∈ [1, 5, 7, 11] ∧ atI ([.int 1, .int 5, .int 7, .int 11] : List V) (j : Int) = some (.int sp) := by
        have : j = 0 ∨ j = 1 ∨ j = 2 ∨ j = 3 := by omega
        rcases this with rfl | rfl | rfl | rfl
        · exact ⟨1, by decide, rfl⟩
        · exact ⟨5, by decide, rfl⟩
        · exact ⟨7, by decide, rfl⟩
        · exact ⟨11, by decide, rfl⟩
      refine w_ixL (by rw [upd_ne (Ne.symm np2), upd_same]) hat ?_
      walk_at "v"
      refine ⟨m, rfl, by omega, by omega, fun l hl => ?_⟩
      generalize hH3 : upd (upd (upd (upd H a1 (HO.lst (List.map V.str names12))) p (HO.lst [V.int x, V.int y, V.int z])) a2 (HO.lst [V.int 1, V.int 5, V.int 7, V.int 11])) p (HO.lst [V.int x', V.int y', V.int z']) = H3 at hl ⊢
      have hlp : l ≠ p := by
        intro e
        rw [e, ← hH3, upd_same] at hl
        cases hl
      have ha12 : a1 ≠ a2 := by
        intro e
        rw [← e, upd_ne (Ne.symm np1), upd_same] at ha2
        cases ha2
      have hl1 : l ≠ a1 := by
        intro e
        rw [e, ← hH3, upd_ne (Ne.symm np1), upd_ne ha12, upd_ne (Ne.symm np1), upd_same] at hl
        cases hl
      have hl2 : l ≠ a2 := by
        intro e
        rw [e, ← hH3, upd_ne (Ne.symm np2), upd_same] at hl
        cases hl
      have h3s : H3 a1 = some (.lst (names12.map V.str)) := by
        rw [← hH3, upd_ne (Ne.symm np1), upd_ne ha12, upd_ne (Ne.symm np1), upd_same]
      refine cgo_range (ρ := [some (.ref a1), some (.int st), some (.int sp)]) (fun i ys H' => ys = ((List.range i).map (nmOf st sp)).map V.str ∧ H' = upd H3 l (.lst ys)) ⟨rfl, rfl⟩ ?_ ?_
      · rintro i ys H' hi ⟨rfl, rfl⟩ hD R S kR _
        walk_at "v"
        refine w_rI (mulL (by omega) (by simp only [List.mem_cons, List.not_mem_nil, or_false] at hsp; omega)) ?_
        walk_at "v"
        refine w_rI (by decide) ?_
        have e1 : ((st : Int) + (sp : Int) * (0 + (i : Int))) % 12 = (((st + sp * i) % 12 : Nat) : Int) := by
          rw [Int.zero_add]
          norm_cast
        rw [e1]
        refine w_ixL (v := .str (nmOf st sp i)) (by rw [upd_ne (Ne.symm hl1)]; exact h3s) (atI_nat ?_) ?_
        · rw [List.getElem?_map]
          unfold nmOf
          have hlt : (st + sp * i) % 12 < names12.length := Nat.mod_lt _ (by decide)
          rw [List.getD_eq_getElem?_getD, List.getElem?_eq_getElem hlt]
          rfl
        · refine kR _ _ hD (by simp only [List.length_map, List.length_range]; exact small1000 (by omega)) ⟨?_, upd_upd⟩
          rw [List.range_succ, List.map_append, List.map_append]
          rfl
      · rintro ys H' ⟨rfl, rfl⟩ hD
        refine k l ((List.range m).map (nmOf st sp)) _ ?_ ⟨by simp, names_ok (by omega) hsp (by omega), names_in⟩ ?_ ?_ upd_same
        · cases e : H l with
          | none => rfl
          | some o =>
            rw [← hH3, upd_ne hlp, upd_ne hl2, upd_ne hlp, upd_ne hl1, e] at hl
            cases hl
        · rw [← hH3]
          exact FeedAt.here.new (Ne.symm hlp)
        · intro q o e hq
          have hq1 : q ≠ a1 := ne_of_none e ha1
          have hq2 : q ≠ a2 := by
            intro z
            rw [← z, upd_ne hq, upd_ne hq1, e] at ha2
            cases ha2
          have hql : q ≠ l := by
            intro z
            rw [← z, ← hH3, upd_ne hq, upd_ne hq2, upd_ne hq, upd_ne hq1, e] at hl
            cases hl
          rw [upd_ne hql, ← hH3, upd_ne hq, upd_ne hq2, upd_ne hq, upd_ne hq1]
          exact e
end
end K1P

set_option Elab.async false
set_option linter.all false
set_option maxRecDepth 100000
namespace K1P
open PySem L2
local macro_rules | `(tactic| walk_at "v") => `(tactic| repeat (with_reducible first
  | refine w_seq ?_ | refine w_asg ?_ | refine w_gname ?_ | refine w_op ?_ | refine w_var rfl ?_ | refine w_c ?_ | refine w_rI0 ?_ | refine w_ifs ?_ | refine w_ife ?_ | refine w_test ?_ | refine w_tb ?_ | refine w_bl ?_ | refine w_not ?_ | refine w_ret ?_ | refine w_retN ?_
  | refine w_nil ?_ | refine w_cons ?_ | refine w_lst ?_ | refine w_tup ?_ | refine w_cb ?_ | refine w_call ?_ | refine w_gsub ?_ | refine w_and ?_ | refine w_or ?_ | refine w_next ?_ | refine w_all ?_ | refine w_vals ?_ | refine w_compR ?_ | refine w_compT ?_ | refine w_forR ?_ | refine w_forT ?_ | refine w_forL ?_ | refine w_drop ?_ | refine w_bm ?_ | refine iteT ?_ | refine iteF ?_))
abbrev sRule : Stmt := top 36
abbrev nRule : List Str := ["_law_feed_here", "_law_many", "_law_takes", "_law_gives", "_law_j", "_law_sort", "_law_way"]
theorem nmRule : Nm nRule (defScope sRule) := ⟨by decide +kernel, by decide +kernel⟩
theorem scRule : FnScope nRule ["_law_feed_here", "_law_many"] (defScope sRule) := ⟨rfl, rfl, rfl, by decide +kernel, rfl, by decide +kernel, by decide +kernel⟩
def asgComp (s : Stmt) : Scope := match s with
  | .Assign _ (.ListComp _ _ sc _) _ => sc
  | _ => { kind := .function, names := [], isGenerator := false, isCoroutine := false }
abbrev cRule (i : Nat) : Scope := asgComp ((defBody sRule).getD i (.Pass ⟨0, 0, 0, 0⟩))
theorem bsRule0 : BScope (defScope sRule) (cRule 0) ["_law_sort"] [] [] := { okind := by decide +kernel, kind := by decide +kernel, nocell := by decide +kernel, names := by decide +kernel, fr := by decide +kernel, ff := by decide +kernel, nd := by decide +kernel, vis := by decide +kernel, loc := by decide +kernel, gl := by decide +kernel }
theorem bsRule1 : BScope (defScope sRule) (cRule 1) ["_law_sort"] [] [] := { okind := by decide +kernel, kind := by decide +kernel, nocell := by decide +kernel, names := by decide +kernel, fr := by decide +kernel, ff := by decide +kernel, nd := by decide +kernel, vis := by decide +kernel, loc := by decide +kernel, gl := by decide +kernel }
theorem locRule : (defScope sRule).names.lookup ("_law_takes" : Str) = some .local ∧ (defScope sRule).names.lookup ("_law_gives" : Str) = some .local := by decide +kernel
def Ns (lo hi : Int) (m : Nat) (ns : List Int) : Prop := ns.length = m ∧ ∀ n ∈ ns, lo ≤ n ∧ n ≤ hi
/-- a rule: so many counts, some of them taken, not both sides alike -/
structure RuOk (m : Nat) (ts gs : List Int) : Prop where
  a : Ns 0 9 m ts
  b : Ns 0 9 m gs
  pos : ∃ x ∈ ts, 0 < x
  ne : ts ≠ gs
def RuleAt (m : Nat) (H : Hp) (r : Addr) : Prop := ∃ (a b : Addr) (ts gs : List Int), H r = some (.tup [.ref a, .ref b]) ∧ H a = some (.tup (ts.map V.int)) ∧ H b = some (.tup (gs.map V.int)) ∧ RuOk m ts gs
def spRule : Sp := fun vs H Q _ => ∃ (p : Addr) (m : Nat), vs = [.ref p, .int m] ∧ FeedAt H p ∧ 0 < m ∧ m ≤ 8 ∧ ∀ (r : Addr) (H' : Hp), H r = none → RuleAt m H' r → FeedAt H' p → But p H H' → Q (.ref r) H'

theorem w_zeros {m : Nat} {H : Hp} {Q : VK} (hm : m ≤ 1000) (h : ∀ l, H l = none → Q (.ref l) (upd H l (.lst ((List.replicate m (0 : Int)).map V.int)))) :
    ∃ j : Int, [V.int (m : Int)] = [.int j] ∧ -(2 ^ 62) ≤ j ∧ j < 2 ^ 62 ∧ ∀ D, H D = none → CGo (Itr 0 j.toNat) D (gName 0) tAll (tC (V.int 0)) Q [none] H := by
  refine ⟨m, rfl, by omega, by omega, fun l hl => ?_⟩
  refine cgo_range (ρ := []) (fun i ys H' => ys = (List.replicate i (0 : Int)).map V.int ∧ H' = upd H l (.lst ys)) ⟨rfl, rfl⟩ ?_ ?_
  · rintro i ys H' hi ⟨rfl, rfl⟩ hD R S kR _
    walk_at "v"
    have hi' : i < m := by
      rw [Int.toNat_natCast] at hi
      exact hi
    refine kR _ _ hD (by rw [List.length_map, List.length_replicate]; exact small1000 (by omega)) ⟨?_, upd_upd⟩
    rw [List.replicate_succ', List.map_append]
    rfl
  · rintro ys H' ⟨rfl, rfl⟩ hD
    rw [Int.toNat_natCast]
    exact h l hl
/-- where a rule is being made: the feed at p, ts at a, gs at b; H0 the heap at the entry -/
structure RS (p a b : Addr) (H0 H : Hp) (ts gs : List Int) : Prop where
  fd : FeedAt H p
  ea : H a = some (.lst (ts.map V.int))
  eb : H b = some (.lst (gs.map V.int))
  pa : p ≠ a
  pb : p ≠ b
  ab : a ≠ b
  bt : But p H0 H
  na : H0 a = none
  nb : H0 b = none
section
variable {p a b : Addr} {H0 H : Hp} {ts gs : List Int}
theorem RS.draw (r : RS p a b H0 H ts gs) {x y z : Int} : RS p a b H0 (upd H p (.lst [.int x, .int y, .int z])) ts gs :=
  ⟨FeedAt.here, by rw [upd_ne (Ne.symm r.pa)]; exact r.ea, by rw [upd_ne (Ne.symm r.pb)]; exact r.eb, r.pa, r.pb, r.ab, r.bt.at, r.na, r.nb⟩
theorem RS.new (r : RS p a b H0 H ts gs) {l : Addr} {o : HO} (h : H l = none) : RS p a b H0 (upd H l o) ts gs :=
  ⟨r.fd.new (r.fd.ne h), by rw [upd_ne (ne_of_none r.ea h)]; exact r.ea, by rw [upd_ne (ne_of_none r.eb h)]; exact r.eb, r.pa, r.pb, r.ab, r.bt.new h, r.na, r.nb⟩
theorem RS.setA (r : RS p a b H0 H ts gs) {j : Nat} {v : Int} : RS p a b H0 (upd H a (.lst ((ts.map V.int).set j (.int v)))) (ts.set j v) gs :=
  ⟨r.fd.new r.pa, by rw [upd_same, List.map_set], by rw [upd_ne (Ne.symm r.ab)]; exact r.eb, r.pa, r.pb, r.ab, r.bt.put r.na, r.na, r.nb⟩
theorem RS.setB (r : RS p a b H0 H ts gs) {j : Nat} {v : Int} : RS p a b H0 (upd H b (.lst ((gs.map V.int).set j (.int v)))) ts (gs.set j v) :=
  ⟨r.fd.new r.pb, by rw [upd_ne r.ab]; exact r.ea, by rw [upd_same, List.map_set], r.pa, r.pb, r.ab, r.bt.put r.nb, r.na, r.nb⟩
theorem Ns.set {lo hi : Int} {m j : Nat} {ns : List Int} {v : Int} (h : Ns lo hi m ns) (hv : lo ≤ v ∧ v ≤ hi) : Ns lo hi m (ns.set j v) := ⟨by rw [List.length_set]; exact h.1, fun n hn => by
  rcases List.mem_or_eq_of_mem_set hn with z | z
  · exact h.2 n z
  · rw [z]; exact hv⟩
theorem Ns.up {lo hi hi' : Int} {m : Nat} {ns : List Int} (h : Ns lo hi m ns) (hh : hi ≤ hi') : Ns lo hi' m ns := ⟨h.1, fun n hn => ⟨(h.2 n hn).1, Int.le_trans (h.2 n hn).2 hh⟩⟩
/-- a drawn place of a row -/
theorem place {ns : List Int} {m : Nat} {r : Int} (hl : ns.length = m) (h0 : 0 ≤ r) (h1 : r < m) : ∃ (j : Nat) (hj : j < ns.length), r = (j : Int) ∧ atI (ns.map V.int) r = some (.int ns[j]) ∧ ixN (ns.map V.int).length r = some j := by
  obtain ⟨j, rfl⟩ := Nat.ofI h0
  have hj : j < ns.length := by omega
  refine ⟨j, hj, rfl, atI_nat (by simp [hj]), ?_⟩
  rw [List.length_map]
  unfold ixN
  rw [if_pos h0, if_pos (by omega)]
  rfl
theorem pos_set {ns : List Int} {j : Nat} {v : Int} (hj : j < ns.length) (hv : 0 < v) : ∃ x ∈ ns.set j v, 0 < x := ⟨v, List.mem_iff_getElem.mpr ⟨j, by rw [List.length_set]; exact hj, by simp⟩, hv⟩
theorem ne_at {xs ys : List Int} {j : Nat} (h1 : j < xs.length) (h2 : j < ys.length) (h : xs[j] ≠ ys[j]) : xs ≠ ys := fun e => h (by subst e; rfl)
end
section
variable {P : Program} {w : World} {K : PySem.W.Frag} {mg : Str → Option Value} {base : Heap}
structure Blt (mg : Str → Option Value) : Prop where
  len : mg "len" = none
  range : mg "range" = none
  tuple : mg "tuple" = none
  int : mg "int" = none
theorem ok_rule {f : Addr} {fd : FuncData} (B : Blt mg) (D : Has P w K mg base 1 "_law_draw" ["_law_feed_here", "_law_many"] spDraw) (F : Fun K "_law_rule" "_law_rule" sRule f fd) : FnOk P w K mg base CX0 2 f fd ["_law_feed_here", "_law_many"] spRule := by
  refine F.ok scRule (fun vs H Q E h => ?_) (fun cdv A outer s H vs Q E hr h => ?_)
  · obtain ⟨p, m, rfl, _⟩ := h
    rfl
  · obtain ⟨p, m, rfl, hF, h1, h8, k⟩ := h
    refine' ⟨_, ?hb, ?rd⟩
    case hb =>
      refine' pss_cons ?s1 ?r1
      case' r1 => refine' pss_cons ?s2 ?r2
      case' r2 => refine' pss_cons ?s3 ?r3
      case' r3 => refine' pss_cons ?s4 ?r4
      case' r4 => refine' pss_cons ?s5 ?r5
      case' r5 => refine' pss_cons ?s6 ?r6
      case' r6 => refine' pss_cons ?s7 ?r7
      case' r7 => refine' pss_cons ?s8 ?r8
      case' r8 => refine' pss_cons ?s9 ?r9
      case' r9 => refine' pss_one ?s10
      case s1 =>
        refine' ps_setC (i := 2) (ix := []) nmRule.nd rfl locRule.1 bsRule0.toCScope rfl rfl ?h3 ?h4 ?h5 ?h6
        case h3 => exact pi_range1 rfl B.range (pa_cons (pvd nmRule 1) pa_nil)
        case h4 => exact fun _ _ _ _ _ _ => pgb bsRule0 0
        case h5 => exact fun _ _ _ _ _ _ => pts_nil
        case h6 => exact fun _ _ _ _ _ _ => pe_int
      case s2 =>
        refine' ps_setC (i := 3) (ix := []) nmRule.nd rfl locRule.2 bsRule1.toCScope rfl rfl ?h3 ?h4 ?h5 ?h6
        case h3 => exact pi_range1 rfl B.range (pa_cons (pvd nmRule 1) pa_nil)
        case h4 => exact fun _ _ _ _ _ _ => pgb bsRule1 0
        case h5 => exact fun _ _ _ _ _ _ => pts_nil
        case h6 => exact fun _ _ _ _ _ _ => pe_int
      case s3 =>
        refine' ps_for PassesOwn.never rfl (pi_range1 rfl B.range (pa_cons (pe_op op_add pe_int (pe_fn D hr (by decide) (pa_cons (pvd nmRule 0) (pa_cons pe_int pa_nil)))) pa_nil)) (pgd nmRule 4) ?b3
        case b3 =>
          refine' pss_cons ?t1 ?u1
          case t1 => exact ps_setD nmRule 5 (pe_fn D hr (by decide) (pa_cons (pvd nmRule 0) (pa_cons (pvd nmRule 1) pa_nil)))
          case u1 =>
            refine' pss_one ?t2
            case t2 => exact ps_asg (pe_op op_add (pe_op op_add (pe_ix ix_d (pvd nmRule 2) (pvd nmRule 5) (fun _ _ => rfl)) pe_int) (pe_fn D hr (by decide) (pa_cons (pvd nmRule 0) (pa_cons pe_int pa_nil)))) (pg_sub (pvd nmRule 2) (pvd nmRule 5) set_d)
      case s4 =>
        refine' ps_for PassesOwn.never rfl (pi_range1 rfl B.range (pa_cons (pe_fn D hr (by decide) (pa_cons (pvd nmRule 0) (pa_cons pe_int pa_nil))) pa_nil)) (pgd nmRule 4) ?b4
        case b4 =>
          refine' pss_cons ?t1 ?u1
          case t1 => exact ps_setD nmRule 5 (pe_fn D hr (by decide) (pa_cons (pvd nmRule 0) (pa_cons (pvd nmRule 1) pa_nil)))
          case u1 =>
            refine' pss_one ?t2
            case t2 => exact ps_asg (pe_op op_add (pe_op op_add (pe_ix ix_d (pvd nmRule 3) (pvd nmRule 5) (fun _ _ => rfl)) pe_int) (pe_fn D hr (by decide) (pa_cons (pvd nmRule 0) (pa_cons pe_int pa_nil)))) (pg_sub (pvd nmRule 3) (pvd nmRule 5) set_d)
      case s5 => exact ps_setD nmRule 6 (pe_fn D hr (by decide) (pa_cons (pvd nmRule 0) (pa_cons pe_int pa_nil)))
      case s6 => exact ps_setD nmRule 5 (pe_fn D hr (by decide) (pa_cons (pvd nmRule 0) (pa_cons (pvd nmRule 1) pa_nil)))
      case s7 => exact ps_if (pt_cmpR op_lt (pvd nmRule 6) pe_int (nomark _)) (pss_one (ps_asg (pe_ix ix_d (pvd nmRule 2) (pvd nmRule 5) (fun _ _ => rfl)) (pg_sub (pvd nmRule 3) (pvd nmRule 5) set_d))) pss_nil
      case s8 => exact ps_if (pt_cmpR op_eq (pvd nmRule 6) pe_int (nomark _)) (pss_one (ps_asg pe_int (pg_sub (pvd nmRule 2) (pvd nmRule 5) set_d))) pss_nil
      case s9 => exact ps_if (pt_cmpR (op_eqD hr) (pvd nmRule 2) (pvd nmRule 3) (nomark _)) (pss_one (ps_asg (pe_ix ix_d (pe_lst (pa_cons (pe_op op_add (pe_ix ix_d (pvd nmRule 3) (pvd nmRule 5) (fun _ _ => rfl)) pe_int) (pa_cons pe_int pa_nil)))
          (pe_callTy call_int1 rfl B.int PyProof.Rows.boot_int (pa_cons (pe_cmpR op_eq (pe_ix ix_d (pvd nmRule 2) (pvd nmRule 5) (fun _ _ => rfl)) pe_int (nomark _)) pa_nil)) (fun _ _ => rfl)) (pg_sub (pvd nmRule 3) (pvd nmRule 5) set_d))) pss_nil
      case s10 => exact ps_ret (pe_tup (pa_cons (pe_callTy call_tuple_of rfl B.tuple PyProof.Rows.boot_tuple (pa_cons (pvd nmRule 2) pa_nil)) (pa_cons (pe_callTy call_tuple_of rfl B.tuple PyProof.Rows.boot_tuple (pa_cons (pvd nmRule 3) pa_nil)) pa_nil)))
    case rd =>
      have hm : ((m : Nat) : Int) < 1000000 := by omega
      have hm0 : (0 : Int) < (m : Int) := by omega
      walk_at "v"
      refine w_zeros (m := m) (by omega) fun a ha => ?_
      walk_at "v"
      refine w_zeros (m := m) (by omega) fun b hb => ?_
      have hpa : p ≠ a := hF.ne ha
      have hpb : p ≠ b := (hF.new hpa).ne hb
      have hab : a ≠ b := ne_of_none upd_same hb
      have R0 : RS p a b H (upd (upd H a (.lst ((List.replicate m (0 : Int)).map V.int))) b (.lst ((List.replicate m (0 : Int)).map V.int))) (List.replicate m 0) (List.replicate m 0) :=
        ⟨(hF.new hpa).new hpb, by rw [upd_ne hab, upd_same], upd_same, hpa, hpb, hab, (But.refl.new ha).new hb, ha, by rw [upd_ne (Ne.symm hab)] at hb; exact hb⟩
      have z0 : Ns 0 0 m (List.replicate m 0) := ⟨List.length_replicate, fun n h => by rw [List.eq_of_mem_replicate h]; exact ⟨by decide, by decide⟩⟩
      generalize upd (upd H a (.lst ((List.replicate m (0 : Int)).map V.int))) b (.lst ((List.replicate m (0 : Int)).map V.int)) = H1 at R0 ⊢
      walk_at "v"
      refine ⟨p, 3, rfl, R0.fd, by decide, by decide, fun r x y z r0 r1 => ?_⟩
      have R1 := R0.draw (x := x) (y := y) (z := z)
      generalize upd H1 p (.lst [.int x, .int y, .int z]) = H2 at R1 ⊢
      walk_at "v"
      refine ⟨_, rfl, by omega, by omega, ?_⟩
      refine for_range (fun i σ H' => ∃ u v ts, σ = [some (.ref p), some (.int m), some (.ref a), some (.ref b), u, v, none] ∧ RS p a b H H' ts (List.replicate m 0) ∧ Ns 0 (2 * (i : Int)) m ts ∧ (0 < i → ∃ x ∈ ts, 0 < x)) ⟨none, none, _, rfl, R1, z0.up (by omega), fun h => absurd h (by omega)⟩ ?_ ?_
      · rintro i σ H' hi ⟨u, v, ts, rfl, R, hN, hP⟩
        walk_at "v"
        refine ⟨p, m, rfl, R.fd, hm0, hm, fun r x y z r0 r1 => ?_⟩
        have R' := R.draw (x := x) (y := y) (z := z)
        generalize upd H' p (.lst [.int x, .int y, .int z]) = H2 at R' ⊢
        walk_at "v"
        obtain ⟨j, hj, _, ea, ei⟩ := place hN.1 r0 r1
        have hb := hN.2 _ (List.getElem_mem hj)
        refine w_ixL R'.ea ea ?_
        walk_at "v"
        refine ⟨p, 2, rfl, R'.fd, by decide, by decide, fun r2 x2 y2 z2 r20 r21 => ?_⟩
        have R2 := R'.draw (x := x2) (y := y2) (z := z2)
        generalize upd H2 p (.lst [.int x2, .int y2, .int z2]) = H3 at R2 ⊢
        walk_at "v"
        refine w_set R2.ea ei ?_
        exact ⟨_, _, _, rfl, R2.setA, (hN.up (hi' := 2 * ((i + 1 : Nat) : Int)) (by omega)).set ⟨by omega, by omega⟩, fun _ => pos_set hj (by omega)⟩
      · rintro σ H' ⟨u, v, ts, rfl, R, hN, hP⟩
        clear R0 R1
        have hP' := hP (by omega)
        replace hN := hN.up (hi' := 6) (by omega)
        clear hP
        walk_at "v"
        refine ⟨p, 4, rfl, R.fd, by decide, by decide, fun r x y z r0 r1 => ?_⟩
        have R1 := R.draw (x := x) (y := y) (z := z)
        generalize upd H' p (.lst [.int x, .int y, .int z]) = H2 at R1 ⊢
        walk_at "v"
        refine ⟨_, rfl, by omega, by omega, ?_⟩
        refine for_range (fun i σ H' => ∃ u v gs, σ = [some (.ref p), some (.int m), some (.ref a), some (.ref b), u, v, none] ∧ RS p a b H H' ts gs ∧ Ns 0 (3 * (i : Int)) m gs) ⟨u, v, _, rfl, R1, z0.up (by omega)⟩ ?_ ?_
        · rintro i σ H' hi ⟨u, v, gs, rfl, R, hG⟩
          walk_at "v"
          refine ⟨p, m, rfl, R.fd, hm0, hm, fun r x y z r0 r1 => ?_⟩
          have R' := R.draw (x := x) (y := y) (z := z)
          generalize upd H' p (.lst [.int x, .int y, .int z]) = H2 at R' ⊢
          walk_at "v"
          obtain ⟨j, hj, _, ea, ei⟩ := place hG.1 r0 r1
          have hb := hG.2 _ (List.getElem_mem hj)
          refine w_ixL R'.eb ea ?_
          walk_at "v"
          refine ⟨p, 3, rfl, R'.fd, by decide, by decide, fun r2 x2 y2 z2 r20 r21 => ?_⟩
          have R2 := R'.draw (x := x2) (y := y2) (z := z2)
          generalize upd H2 p (.lst [.int x2, .int y2, .int z2]) = H3 at R2 ⊢
          walk_at "v"
          refine w_set R2.eb ei ?_
          exact ⟨_, _, _, rfl, R2.setB, (hG.up (hi' := 3 * ((i + 1 : Nat) : Int)) (by omega)).set ⟨by omega, by omega⟩⟩
        · rintro σ H' ⟨u, v, gs, rfl, R, hG⟩
          clear R1
          replace hG := hG.up (hi' := 9) (by omega)
          replace hN := hN.up (hi' := 9) (by omega)
          walk_at "v"
          refine ⟨p, 8, rfl, R.fd, by decide, by decide, fun way x y z w0 w1 => ?_⟩
          have R1 := R.draw (x := x) (y := y) (z := z)
          generalize upd H' p (.lst [.int x, .int y, .int z]) = H2 at R1 ⊢
          walk_at "v"
          refine ⟨p, m, rfl, R1.fd, hm0, hm, fun r x y z r0 r1 => ?_⟩
          have R2 := R1.draw (x := x) (y := y) (z := z)
          generalize upd H2 p (.lst [.int x, .int y, .int z]) = H3 at R2 ⊢
          refine w_gname ?_
          with_reducible refine seq_post (fun σ' H4 => ∃ gs, σ' = [some (.ref p), some (.int m), some (.ref a), some (.ref b), u, some (.int r), some (.int way)] ∧ RS p a b H H4 ts gs ∧ Ns 0 9 m gs) ?_ fun rest => ?_
          rotate_left
          · walk_at "v"
            refine iteD (fun _ => ?_) (fun _ => ?_)
            · walk_at "v"
              obtain ⟨j, hj, _, ea, ei⟩ := place hN.1 r0 r1
              refine w_ixL R2.ea ea ?_
              walk_at "v"
              obtain ⟨j', hj', _, ea', ei'⟩ := place hG.1 r0 r1
              refine w_set R2.eb ei' ?_
              exact rest _ _ ⟨_, rfl, R2.setB, hG.set (hN.2 _ (List.getElem_mem hj))⟩
            · exact rest _ _ ⟨_, rfl, R2, hG⟩
          rintro σ' H4 ⟨gs, rfl, R3, hG⟩
          with_reducible refine seq_post (fun σ' H5 => ∃ ts, σ' = [some (.ref p), some (.int m), some (.ref a), some (.ref b), u, some (.int r), some (.int way)] ∧ RS p a b H H5 ts gs ∧ Ns 0 9 m ts ∧ ∃ x ∈ ts, 0 < x) ?_ fun rest => ?_
          rotate_left
          · walk_at "v"
            refine ⟨rfl, ?_⟩
            walk_at "v"
            refine iteD (fun _ => ?_) (fun _ => ?_)
            · walk_at "v"
              obtain ⟨j, hj, _, ea, ei⟩ := place hN.1 r0 r1
              refine w_set R3.ea ei ?_
              exact rest _ _ ⟨_, rfl, R3.setA, hN.set ⟨by decide, by decide⟩, pos_set hj (by decide)⟩
            · exact rest _ _ ⟨_, rfl, R3, hN, hP'⟩
          rintro σ' H5 ⟨ts, rfl, R4, hN, hP⟩
          with_reducible refine seq_post (fun σ' H7 => ∃ gs, σ' = [some (.ref p), some (.int m), some (.ref a), some (.ref b), u, some (.int r), some (.int way)] ∧ RS p a b H H7 ts gs ∧ RuOk m ts gs) ?_ fun rest => ?_
          rotate_left
          · walk_at "v"
            refine w_eqL R4.ea R4.eb ?_
            walk_at "v"
            refine iteD (fun heq => ?_) (fun hne => ?_)
            rotate_left
            · exact rest _ _ ⟨_, rfl, R4, hN, hG, hP, hne⟩
            walk_at "v"
            obtain ⟨j, hj, ej, ea, ei⟩ := place hG.1 r0 r1
            refine w_ixL R4.eb ea ?_
            walk_at "v"
            refine ⟨by show 2 ≤ sizeLine; decide, fun c hc => ?_⟩
            have R5 := R4.new (o := .lst [.int (gs[j] + 1), .int 0]) hc
            have hcc : upd H5 c (.lst [.int (gs[j] + 1), .int 0]) c = some (.lst [.int (gs[j] + 1), .int 0]) := upd_same
            generalize upd H5 c (.lst [.int (gs[j] + 1), .int 0]) = H6 at R5 hcc ⊢
            walk_at "v"
            obtain ⟨j2, hj2, ej2, ea2, ei2⟩ := place hN.1 r0 r1
            refine w_ixL R5.ea ea2 ?_
            have hjj : j2 = j := by omega
            subst hjj
            walk_at "v"
            refine ⟨rfl, ?_⟩
            walk_at "v"
            refine .inr ⟨_, rfl, ?_⟩
            have hb := hG.2 _ (List.getElem_mem hj)
            have hsame : ts[j2] = gs[j2] := by simp only [heq]
            obtain ⟨q, hq0, hqn, hq⟩ : ∃ q : Int, (0 ≤ q ∧ q ≤ 9) ∧ q ≠ ts[j2] ∧ atI ([.int (gs[j2] + 1), .int 0] : List V) (if decide (V.int ts[j2] = V.int 9) = true then 1 else 0) = some (.int q) := by
              by_cases h9 : decide (V.int ts[j2] = V.int 9) = true
              · have := V.int.inj (of_decide_eq_true h9)
                rw [if_pos h9]
                exact ⟨0, ⟨by decide, by decide⟩, by omega, rfl⟩
              · have h9' : ts[j2] ≠ 9 := fun z => h9 (by rw [z]; exact decide_eq_true rfl)
                rw [if_neg h9]
                exact ⟨gs[j2] + 1, ⟨by omega, by omega⟩, by omega, rfl⟩
            refine w_ixL hcc hq ?_
            walk_at "v"
            refine w_set R5.eb ei ?_
            refine rest _ _ ⟨_, rfl, R5.setB, hN, hG.set hq0, hP, ne_at hj2 (by rw [List.length_set]; exact hj) ?_⟩
            rw [List.getElem_set_self]
            exact Ne.symm hqn
          rintro σ' H7 ⟨gs, rfl, R6, hR⟩
          walk_at "v"
          refine ⟨a, _, rfl, .inl ⟨SqL.of R6.ea, fun ta hta => ?_⟩⟩
          walk_at "v"
          have nb : b ≠ ta := ne_of_none R6.eb hta
          refine ⟨b, _, rfl, .inl ⟨SqL.of (by rw [upd_ne nb]; exact R6.eb), fun tb htb => ?_⟩⟩
          walk_at "v"
          refine ⟨by show 2 ≤ sizeLine; decide, fun rr hrr => ?_⟩
          have nt : ta ≠ tb := by
            intro z
            rw [← z, upd_same] at htb
            cases htb
          have nrb : tb ≠ rr := by
            intro z
            rw [← z, upd_same] at hrr
            cases hrr
          have nra : ta ≠ rr := by
            intro z
            rw [← z, upd_ne nt, upd_same] at hrr
            cases hrr
          have R7 := (R6.new (o := .tup (ts.map V.int)) hta).new (o := .tup (gs.map V.int)) htb
          have R8 := R7.new (o := .tup [.ref ta, .ref tb]) hrr
          refine k rr _ ?_ ⟨ta, tb, ts, gs, upd_same, ?_, ?_, hR⟩ R8.fd R8.bt
          · cases e : H rr with
            | none => rfl
            | some o =>
              have hrp : rr ≠ p := by
                intro z
                exact R7.fd.ne hrr z.symm
              rw [R7.bt rr o e hrp] at hrr
              cases hrr
          · rw [upd_ne nra, upd_ne nt, upd_same]
          · rw [upd_ne nrb, upd_same]
end
end K1P

set_option Elab.async false
set_option linter.all false
set_option maxRecDepth 100000
namespace L2
open PySem PySem.Spec PyProof.Rows
section
variable {X : Cx}
/-- tuple(xs), xs a list: a tuple that is known as an object (so that its methods may be called) -/
def rTupF (K : PySem.W.Frag) : List V → Hp → VK → Prop := fun xs H Q => ∃ p ys, xs = [.ref p] ∧ SqL K H p ys ∧ ∀ l o, H l = none → o.dict = none → o.cls = .type "tuple" → Q (.ref l) (upd H l (.frz o (.tup ys)))
end
section
variable {prog : Program} {w : World} {A : Around} {E : Value → Shared → Prop} {s : Shared}
end

/-- a tuple that is known as an object -/
def TupF (H : Hp) (l : Addr) (ys : List V) : Prop := ∃ o, H l = some (.frz o (.tup ys)) ∧ o.dict = none ∧ o.cls = .type "tuple"
theorem TupF.sq {K : PySem.W.Frag} {H : Hp} {l : Addr} {ys : List V} (t : TupF H l ys) : SqT K H l ys := let ⟨o, e, _⟩ := t; .inl (.inr ⟨o, e⟩)
section
variable {X : Cx} {o e : Expr} {to : TE} {ta : TA} {apos cpos : Pos}
/-- t.index(e), t a known tuple of flat items: the first place where it stands -/
def tIndex (to : TE) (ta : TA) : TE := fun σ H Q => to σ H fun x H1 => (∃ l ys, x = .ref l ∧ TupF H1 l ys) ∧ ta σ H1 fun vs H2 => ∃ (l : Addr) (ys : List V) (v : V) (k : Nat) (hk : k < ys.length), vs = [v] ∧ x = .ref l ∧ TupF H2 l ys ∧ flatV v = true ∧ (∀ y ∈ ys, flatV y = true) ∧
  eqV ys[k] v = true ∧ (∀ i (hi : i < ys.length), i < k → eqV ys[i] v = false) ∧ Q (.int (k : Int)) H2
end
end L2

set_option Elab.async false
set_option linter.all false
set_option maxRecDepth 100000
namespace K1P
open PySem L2
local macro_rules | `(tactic| walk_at "v") => `(tactic| repeat (with_reducible first
  | refine w_seq ?_ | refine w_asg ?_ | refine w_gname ?_ | refine w_op ?_ | refine w_var rfl ?_ | refine w_c ?_ | refine w_rI0 ?_ | refine w_ifs ?_ | refine w_ife ?_ | refine w_test ?_ | refine w_tb ?_ | refine w_bl ?_ | refine w_not ?_ | refine w_ret ?_ | refine w_retN ?_
  | refine w_nil ?_ | refine w_cons ?_ | refine w_lst ?_ | refine w_tup ?_ | refine w_cb ?_ | refine w_call ?_ | refine w_gsub ?_ | refine w_and ?_ | refine w_or ?_ | refine w_next ?_ | refine w_all ?_ | refine w_vals ?_ | refine w_compR ?_ | refine w_compT ?_ | refine w_forR ?_ | refine w_forT ?_ | refine w_forL ?_ | refine w_drop ?_ | refine w_bm ?_ | refine iteT ?_ | refine iteF ?_))
abbrev sPot : Stmt := top 37
abbrev nPot : List Str := ["_law_feed_here", "_law_many", "_law_sorts", "_law_rules", "_law_left", "_law_inputs", "_law_k", "_law_begin"]
theorem nmPot : Nm nPot (defScope sPot) := ⟨by decide +kernel, by decide +kernel⟩
theorem scPot : FnScope nPot ["_law_feed_here"] (defScope sPot) := ⟨rfl, rfl, rfl, by decide +kernel, rfl, by decide +kernel, by decide +kernel⟩
/-- the comprehension that a call of the n-th statement is handed -/
def callComp (s : Stmt) : Scope := match s with
  | .Assign _ (.Call _ [.ListComp _ _ sc _] _ _) _ => sc
  | _ => { kind := .function, names := [], isGenerator := false, isCoroutine := false }
abbrev cPot (i : Nat) : Scope := callComp ((defBody sPot).getD i (.Pass ⟨0, 0, 0, 0⟩))
theorem bsPot2 : BScope (defScope sPot) (cPot 2) ["_law_k"] ["_law_feed_here", "_law_many"] ["_law_rule"] := { okind := by decide +kernel, kind := by decide +kernel, nocell := by decide +kernel, names := by decide +kernel, fr := by decide +kernel, ff := by decide +kernel, nd := by decide +kernel, vis := by decide +kernel, loc := by decide +kernel, gl := by decide +kernel }
theorem bsPot6 : BScope (defScope sPot) (cPot 6) ["_law_sort"] ["_law_feed_here"] ["_law_draw"] := { okind := by decide +kernel, kind := by decide +kernel, nocell := by decide +kernel, names := by decide +kernel, fr := by decide +kernel, ff := by decide +kernel, nd := by decide +kernel, vis := by decide +kernel, loc := by decide +kernel, gl := by decide +kernel }


/-- tuples stay -/
structure TK (H H' : Hp) : Prop where
  t : ∀ q xs, H q = some (.tup xs) → H' q = some (.tup xs)
  f : ∀ q o u, H q = some (.frz o u) → H' q = some (.frz o u)
structure SS (p : Addr) (H0 H : Hp) : Prop where
  fd : FeedAt H p
  bt : But p H0 H
section
variable {p l : Addr} {H0 H H' H'' : Hp} {o : HO}
theorem TK.refl : TK H H := ⟨fun _ _ e => e, fun _ _ _ e => e⟩
theorem TK.trans (a : TK H H') (b : TK H' H'') : TK H H'' := ⟨fun q xs e => b.t q xs (a.t q xs e), fun q o u e => b.f q o u (a.f q o u e)⟩
theorem TK.new (h : H l = none) : TK H (upd H l o) := ⟨fun q xs e => by rw [upd_ne (ne_of_none e h)]; exact e, fun q ob u e => by rw [upd_ne (ne_of_none e h)]; exact e⟩
theorem TK.lst {ys : List V} (h : H l = some (.lst ys)) : TK H (upd H l o) := ⟨fun q xs e => by rw [upd_ne (ne_of e h (by intro z; cases z))]; exact e, fun q ob u e => by rw [upd_ne (ne_of e h (by intro z; cases z))]; exact e⟩
theorem TK.feed (F : FeedAt H p) : TK H (upd H p o) := by
  obtain ⟨x, y, z, e⟩ := F
  exact TK.lst e
theorem TK.but (F : FeedAt H p) (b : But p H H') : TK H H' := by
  obtain ⟨x, y, z, ep⟩ := F
  exact ⟨fun q xs e => b q _ e (ne_of e ep (by intro z; cases z)), fun q ob u e => b q _ e (ne_of e ep (by intro z; cases z))⟩
theorem SS.draw (r : SS p H0 H) {x y z : Int} : SS p H0 (upd H p (.lst [.int x, .int y, .int z])) := ⟨FeedAt.here, r.bt.at⟩
theorem SS.new (r : SS p H0 H) (h : H l = none) : SS p H0 (upd H l o) := ⟨r.fd.new (r.fd.ne h), r.bt.new h⟩
theorem SS.put (r : SS p H0 H) (h : H0 l = none) (hl : p ≠ l) : SS p H0 (upd H l o) := ⟨r.fd.new hl, r.bt.put h⟩
theorem SS.call (r : SS p H0 H) (f : FeedAt H' p) (b : But p H H') : SS p H0 H' := ⟨f, r.bt.trans b⟩
theorem SS.none (r : SS p H0 H) (h : H l = none) : H0 l = none := r.bt.free (r.fd.ne h) h
theorem RuleAt.tk {m : Nat} {r : Addr} (k : TK H H') (R : RuleAt m H r) : RuleAt m H' r := by
  obtain ⟨a, b, ts, gs, e, et, eg, h⟩ := R
  exact ⟨a, b, ts, gs, k.t _ _ e, k.t _ _ et, k.t _ _ eg, h⟩
end
theorem map_erase {α β : Type} (f : α → β) : ∀ (xs : List α) (j : Nat), (xs.map f).eraseIdx j = (xs.eraseIdx j).map f
  | [], _ => rfl
  | _ :: _, 0 => rfl
  | x :: xs, j + 1 => by
    show f x :: (xs.map f).eraseIdx j = f x :: (xs.eraseIdx j).map f
    rw [map_erase f xs j]
theorem nd_rng (m : Nat) : (((List.range m).map fun (i : Nat) => (i : Int)) ++ []).Nodup := by
  rw [List.append_nil]
  exact List.Pairwise.map _ (fun a b h z => h (by omega)) List.nodup_range
theorem perm_pop : ∀ (lf : List Int) (j : Nat) (hj : j < lf.length), (lf[j] :: lf.eraseIdx j).Perm lf
  | x :: xs, 0, _ => List.Perm.refl _
  | x :: xs, j + 1, hj => (List.Perm.swap x _ _).trans ((perm_pop xs j (by simpa using hj)).cons x)
theorem nd_pop {lf is : List Int} {j : Nat} (hj : j < lf.length) (h : (lf ++ is).Nodup) : (lf.eraseIdx j ++ (is ++ [lf[j]])).Nodup := by
  have p1 : (lf[j] :: lf.eraseIdx j).Perm lf := perm_pop lf j hj
  have p2 : (lf.eraseIdx j ++ (is ++ [lf[j]])).Perm (lf ++ is) := by
    rw [← List.append_assoc]
    exact List.perm_append_comm.trans (p1.append_right is)
  exact p2.nodup_iff.mpr h
theorem pick8 {r : Int} (h0 : 0 ≤ r) (h1 : r < 8) : ∃ m : Nat, 0 < m ∧ m ≤ 8 ∧ atI ([.int 1, .int 2, .int 3, .int 3, .int 4, .int 5, .int 6, .int 8] : List V) r = some (.int (m : Int)) := by
  obtain ⟨j, rfl⟩ := Nat.ofI h0
  have : j = 0 ∨ j = 1 ∨ j = 2 ∨ j = 3 ∨ j = 4 ∨ j = 5 ∨ j = 6 ∨ j = 7 := by omega
  rcases this with rfl | rfl | rfl | rfl | rfl | rfl | rfl | rfl
  · exact ⟨1, by decide, by decide, rfl⟩
  · exact ⟨2, by decide, by decide, rfl⟩
  · exact ⟨3, by decide, by decide, rfl⟩
  · exact ⟨3, by decide, by decide, rfl⟩
  · exact ⟨4, by decide, by decide, rfl⟩
  · exact ⟨5, by decide, by decide, rfl⟩
  · exact ⟨6, by decide, by decide, rfl⟩
  · exact ⟨8, by decide, by decide, rfl⟩
theorem pickR {r : Int} (h0 : 0 ≤ r) (h1 : r < 8) : ∃ m : Nat, m ≤ 8 ∧ atI ([.int 0, .int 1, .int 2, .int 2, .int 3, .int 4, .int 5, .int 8] : List V) r = some (.int (m : Int)) := by
  obtain ⟨j, rfl⟩ := Nat.ofI h0
  have : j = 0 ∨ j = 1 ∨ j = 2 ∨ j = 3 ∨ j = 4 ∨ j = 5 ∨ j = 6 ∨ j = 7 := by omega
  rcases this with rfl | rfl | rfl | rfl | rfl | rfl | rfl | rfl
  · exact ⟨0, by decide, rfl⟩
  · exact ⟨1, by decide, rfl⟩
  · exact ⟨2, by decide, rfl⟩
  · exact ⟨2, by decide, rfl⟩
  · exact ⟨3, by decide, rfl⟩
  · exact ⟨4, by decide, rfl⟩
  · exact ⟨5, by decide, rfl⟩
  · exact ⟨8, by decide, rfl⟩
theorem pickI {r : Int} (h0 : 0 ≤ r) (h1 : r < 5) : ∃ m : Nat, m ≤ 3 ∧ atI ([.int 0, .int 1, .int 2, .int 2, .int 3] : List V) r = some (.int (m : Int)) := by
  obtain ⟨j, rfl⟩ := Nat.ofI h0
  have : j = 0 ∨ j = 1 ∨ j = 2 ∨ j = 3 ∨ j = 4 := by omega
  rcases this with rfl | rfl | rfl | rfl | rfl
  · exact ⟨0, by decide, rfl⟩
  · exact ⟨1, by decide, rfl⟩
  · exact ⟨2, by decide, rfl⟩
  · exact ⟨2, by decide, rfl⟩
  · exact ⟨3, by decide, rfl⟩
theorem pickB {r b : Int} (h0 : 0 ≤ r) (h1 : r < 6) (b0 : 0 ≤ b) (b1 : b < 100) : ∃ m : Int, 0 ≤ m ∧ m ≤ 99 ∧ atI ([.int 0, .int 0, .int 1, .int 2, .int 99, .int b] : List V) r = some (.int m) := by
  obtain ⟨j, rfl⟩ := Nat.ofI h0
  have : j = 0 ∨ j = 1 ∨ j = 2 ∨ j = 3 ∨ j = 4 ∨ j = 5 := by omega
  rcases this with rfl | rfl | rfl | rfl | rfl | rfl
  · exact ⟨0, by decide, by decide, rfl⟩
  · exact ⟨0, by decide, by decide, rfl⟩
  · exact ⟨1, by decide, by decide, rfl⟩
  · exact ⟨2, by decide, by decide, rfl⟩
  · exact ⟨99, by decide, by decide, rfl⟩
  · exact ⟨b, by omega, by omega, rfl⟩
/-- what a drawn pot is -/
structure PotAt (H : Hp) (p : Addr) (nm : List Str) (ins beg : List Int) (ans : Int) (m : Nat) : Prop where
  ex : ∃ (ps pr pin pb : Addr) (rs : List Addr), H p = some (.tup [.ref ps, .ref pr, .ref pin, .ref pb, .int ans]) ∧ H ps = some (.tup (nm.map V.str)) ∧ H pr = some (.tup (rs.map V.ref)) ∧ (∀ r ∈ rs, RuleAt m H r) ∧ rs.length ≤ 8 ∧
    H pin = some (.tup (ins.map V.int)) ∧ H pb = some (.tup (beg.map V.int))
  hn : Names m nm
  m0 : 0 < m
  m8 : m ≤ 8
  hi : ∀ i ∈ ins, 0 ≤ i ∧ i < m
  i3 : ins.length ≤ 3
  nd : ins.Nodup
  bl : beg.length = m
  hb : ∀ b ∈ beg, 0 ≤ b ∧ b ≤ 99
  ha : 0 ≤ ans ∧ ans < m
def spPot : Sp := fun vs H Q _ => ∃ (p : Addr), vs = [.ref p] ∧ FeedAt H p ∧ ∀ (l : Addr) (H' : Hp) (nm : List Str) (ins beg : List Int) (ans : Int) (m : Nat), H l = none → PotAt H' l nm ins beg ans m → FeedAt H' p → But p H H' → Q (.ref l) H'
section
variable {P : Program} {w : World} {K : PySem.W.Frag} {mg : Str → Option Value} {base : Heap}
structure Blt2 (mg : Str → Option Value) : Prop extends Blt mg where
  list : mg "list" = none
  min : mg "min" = none
set_option maxHeartbeats 2000000 in
theorem ok_pot {f : Addr} {fd : FuncData} (B : Blt2 mg) (D : Has P w K mg base 1 "_law_draw" ["_law_feed_here", "_law_many"] spDraw) (N : Has P w K mg base 2 "_law_names" ["_law_feed_here", "_law_many"] spNames)
    (R : Has P w K mg base 2 "_law_rule" ["_law_feed_here", "_law_many"] spRule) (F : Fun K "_law_pot" "_law_pot" sPot f fd) : FnOk P w K mg base CX0 3 f fd ["_law_feed_here"] spPot := by
  refine F.ok scPot (fun vs H Q E h => ?_) (fun cdv A outer s H vs Q E hr h => ?_)
  · obtain ⟨p, rfl, _⟩ := h
    rfl
  · obtain ⟨p, rfl, hF, k⟩ := h
    refine' ⟨_, ?hb, ?rd⟩
    case hb =>
      refine' pss_cons ?s1 ?r1
      case' r1 => refine' pss_cons ?s2 ?r2
      case' r2 => refine' pss_cons ?s3 ?r3
      case' r3 => refine' pss_cons ?s4 ?r4
      case' r4 => refine' pss_cons ?s5 ?r5
      case' r5 => refine' pss_cons ?s6 ?r6
      case' r6 => refine' pss_cons ?s7 ?r7
      case' r7 => refine' pss_one ?s8
      case s1 =>
        refine' ps_setD nmPot 1 ?p1
        case p1 =>
          refine' pe_ix ix_d ?a1 (pe_f D hr (by decide) (pa_2 (pvd nmPot 0) pe_int)) (fun _ _ => rfl)
          case a1 =>
            refine pe_lstC (vs := [.int 1, .int 2, .int 3, .int 3, .int 4, .int 5, .int 6, .int 8]) ?_
            decide +kernel
      case s2 => exact ps_setD nmPot 2 (pe_cT call_tuple_of B.tuple PyProof.Rows.boot_tuple (pa_1 (pe_f N hr (by decide) (pa_2 (pvd nmPot 0) (pvd nmPot 1)))))
      case s3 =>
        refine' ps_setD nmPot 3 ?p3
        case p3 =>
          refine' pe_cT call_tuple_of B.tuple PyProof.Rows.boot_tuple ?qc3
          case' qc3 => refine' pa_1 ?c3
          case c3 =>
            refine' pe_comp (ix := [0, 1]) bsPot2.toCScope rfl rfl ?h3 ?h4 ?h5 ?h6
            case h3 =>
              refine' pi_r1 B.range ?pa3
              case' pa3 => refine' pa_1 ?i3
              case i3 =>
                refine' pe_ix ix_d ?l3 (pe_f D hr (by decide) (pa_2 (pvd nmPot 0) pe_int)) (fun _ _ => rfl)
                case l3 =>
                  refine pe_lstC (vs := [.int 0, .int 1, .int 2, .int 2, .int 3, .int 4, .int 5, .int 8]) ?_
                  decide +kernel
            case h4 => exact fun _ _ _ _ _ _ => pgb bsPot2 0
            case h5 => exact fun _ _ _ _ _ _ => pts_nil
            case h6 => exact fun _ _ _ _ _ _ => pe_f R hr (by decide) (pa_2 (pvb bsPot2 1) (pvb bsPot2 2)) (bsPot2.g 0)
      case s4 =>
        refine' ps_setD nmPot 4 ?p4
        case' p4 => refine' pe_cT (call_listRng rfl) B.list PyProof.Rows.boot_list ?q4
        case' q4 => refine' pa_1 ?u4
        case u4 => exact pe_cT call_rangeV B.range PyProof.Rows.boot_range (pa_1 (pvd nmPot 1))
      case s5 => exact ps_setD nmPot 5 (pe_lst pa_nil)
      case s6 =>
        refine' ps_for PassesOwn.never rfl ?i6 (pgd nmPot 6) ?b6
        case i6 =>
          refine' pi_r1 B.range ?pa6
          case' pa6 => refine' pa_1 ?j6
          case j6 =>
            refine' pe_cB (call_min2 rfl) B.min PyProof.Rows.boot_min ?q6
            case' q6 => refine' pa_2 ?m6a ?m6
            case m6a => exact pvd nmPot 1
            case m6 =>
              refine' pe_ix ix_d ?l6 (pe_f D hr (by decide) (pa_2 (pvd nmPot 0) pe_int)) (fun _ _ => rfl)
              case l6 =>
                refine pe_lstC (vs := [.int 0, .int 1, .int 2, .int 2, .int 3]) ?_
                decide +kernel
        case b6 =>
          refine' pss_one ?b6a
          case' b6a => refine' ps_expr ?b6b
          case' b6b => refine' pe_bm PySem.F.plainAttrs_list PySem.F.slot_list_append PySem.F.type_list_append mt_append (pvd nmPot 5) ?b6c
          case' b6c => refine' pa_1 ?b6d
          case' b6d => refine' pe_bm PySem.F.plainAttrs_list PySem.F.slot_list_pop PySem.F.type_list_pop mt_popAt (pvd nmPot 4) ?b6e
          case' b6e => refine' pa_1 ?b6f
          case' b6f => refine' pe_f D hr (by decide) ?b6g
          case' b6g => refine' pa_2 (pvd nmPot 0) ?b6h
          case b6h => exact pe_cB call_len_seq B.len PySem.boot_len (pa_1 (pvd nmPot 4))
      case s7 =>
        refine' ps_setD nmPot 7 ?p7
        case p7 =>
          refine' pe_cT call_tuple_of B.tuple PyProof.Rows.boot_tuple ?qc7
          case' qc7 => refine' pa_1 ?c7
          case c7 =>
            refine' pe_comp (ix := [0]) bsPot6.toCScope rfl rfl ?h3 ?h4 ?h5 ?h6
            case h3 => exact pi_tup (pvd nmPot 2)
            case h4 => exact fun _ _ _ _ _ _ => pgb bsPot6 0
            case h5 => exact fun _ _ _ _ _ _ => pts_nil
            case h6 =>
              intro _ _ _ _ _ _
              refine' pe_ix ix_d ?e7 ?g7 (fun _ _ => rfl)
              case g7 => exact pe_f D hr (by decide) (pa_2 (pvb bsPot6 1) pe_int) (bsPot6.g 0)
              case e7 =>
                refine' pe_lst ?e7a
                case' e7a => refine' pa_c pe_int ?e7b
                case' e7b => refine' pa_c pe_int ?e7c
                case' e7c => refine' pa_c pe_int ?e7d
                case' e7d => refine' pa_c pe_int ?e7e
                case' e7e => refine' pa_c pe_int ?e7f
                case' e7f => refine' pa_1 ?e7g
                case e7g => exact pe_f D hr (by decide) (pa_2 (pvb bsPot6 1) pe_int) (bsPot6.g 0)
      case s8 => exact ps_ret (pe_tup (pa_c (pvd nmPot 2) (pa_c (pvd nmPot 3) (pa_c (pe_cT call_tuple_of B.tuple PyProof.Rows.boot_tuple (pa_1 (pvd nmPot 5))) (pa_c (pvd nmPot 7) (pa_c (pe_f D hr (by decide) (pa_2 (pvd nmPot 0) (pvd nmPot 1))) pa_nil))))))
    case rd =>
      have S0 : SS p H H := ⟨hF, But.refl⟩
      walk_at "v"
      refine ⟨by show 8 ≤ sizeLine; decide, fun a1 ha1 => ?_⟩
      have S1 := S0.new (o := .lst [.int 1, .int 2, .int 3, .int 3, .int 4, .int 5, .int 6, .int 8]) ha1
      have np1 := S0.fd.ne ha1
      walk_at "v"
      refine ⟨p, 8, rfl, S1.fd, by decide, by decide, fun r x y z r0 r1 => ?_⟩
      obtain ⟨m, m0, m8, hat⟩ := pick8 r0 r1
      refine w_ixL (by rw [upd_ne (Ne.symm np1), upd_same]) hat ?_
      have S2 := S1.draw (x := x) (y := y) (z := z)
      generalize upd (upd H a1 (.lst [.int 1, .int 2, .int 3, .int 3, .int 4, .int 5, .int 6, .int 8])) p (.lst [.int x, .int y, .int z]) = H2 at S2 ⊢
      clear S1 hat r0 r1
      have hm : ((m : Nat) : Int) < 1000000 := by omega
      have hm0 : (0 : Int) < (m : Int) := by omega
      walk_at "v"
      refine ⟨p, m, rfl, S2.fd, m0, by omega, fun l nm H3 hl hN hF3 hB3 hl3 => ?_⟩
      have S3 := S2.call hF3 hB3
      walk_at "v"
      refine ⟨l, _, rfl, .inl ⟨SqL.of hl3, fun ps hps => ?_⟩⟩
      have S4 := S3.new (o := .tup (nm.map V.str)) hps
      have ep : upd H3 ps (.tup (nm.map V.str)) ps = some (.tup (nm.map V.str)) := upd_same
      generalize upd H3 ps (.tup (nm.map V.str)) = H4 at S4 ep ⊢
      clear S3 S2 hl hF3 hB3 hl3 hps
      walk_at "v"
      refine ⟨by show 8 ≤ sizeLine; decide, fun a3 ha3 => ?_⟩
      have S5 := S4.new (o := .lst [.int 0, .int 1, .int 2, .int 2, .int 3, .int 4, .int 5, .int 8]) ha3
      have np3 := S4.fd.ne ha3
      walk_at "v"
      refine ⟨p, 8, rfl, S5.fd, by decide, by decide, fun r x y z r0 r1 => ?_⟩
      obtain ⟨n, n8, hat⟩ := pickR r0 r1
      refine w_ixL (by rw [upd_ne (Ne.symm np3), upd_same]) hat ?_
      have S6 := S5.draw (x := x) (y := y) (z := z)
      have ep6 := ((TK.new (o := .lst [.int 0, .int 1, .int 2, .int 2, .int 3, .int 4, .int 5, .int 8]) ha3).trans (TK.feed (o := .lst [.int x, .int y, .int z]) S5.fd)).t _ _ ep
      generalize upd (upd H4 a3 (.lst [.int 0, .int 1, .int 2, .int 2, .int 3, .int 4, .int 5, .int 8])) p (.lst [.int x, .int y, .int z]) = H6 at S6 ep6 ⊢
      clear S5 hat r0 r1 ep S4 ha3 np3 np1 ha1
      walk_at "v"
      refine ⟨n, rfl, by omega, by omega, fun dr hdr => ?_⟩
      have ndr := S6.none hdr
      have pdr := S6.fd.ne hdr
      refine cgo_range (ρ := [some (.ref p), some (.int m)]) (fun i ys H' => ∃ rs : List Addr, ys = rs.map V.ref ∧ rs.length = i ∧ (∀ r ∈ rs, RuleAt m H' r) ∧ SS p H H' ∧ TK H6 H') ⟨[], rfl, rfl, (fun r h => by cases h), S6.new hdr, TK.new hdr⟩ ?_ ?_
      · rintro i ys H' hi ⟨rs, rfl, hlen, hrs, S, T⟩ hD R' S' kR _
        walk_at "v"
        refine ⟨p, m, rfl, S.fd, m0, m8, fun r H'' hr0 hR hF' hB => ?_⟩
        have S7 := S.call hF' hB
        have hD' := hB dr _ hD (Ne.symm pdr)
        have T7 := TK.but S.fd hB
        have T8 : TK H'' (upd H'' dr (.lst (rs.map V.ref ++ [.ref r]))) := TK.lst hD'
        refine kR _ _ hD' (by rw [List.length_map]; exact small1000 (by rw [Int.toNat_natCast] at hi; omega)) ⟨rs ++ [r], by rw [List.map_append]; rfl, by simp [hlen], fun q hq => ?_, S7.put ndr pdr, (T.trans T7).trans T8⟩
        rcases List.mem_append.mp hq with old | new
        · exact ((hrs q old).tk T7).tk T8
        · rw [List.mem_singleton.mp new]
          exact hR.tk T8
      · rintro ys H' ⟨rs, rfl, hlen, hrs, S, T⟩ hD
        rw [Int.toNat_natCast] at hlen
        have ep7 := T.t _ _ ep6
        clear ep6 T S6
        walk_at "v"
        refine ⟨dr, _, rfl, .inl ⟨SqL.of hD, fun pr hpr => ?_⟩⟩
        have S8 := S.new (o := .tup (rs.map V.ref)) hpr
        have T8 : TK H' (upd H' pr (.tup (rs.map V.ref))) := TK.new hpr
        have ep8 := T8.t _ _ ep7
        have hrs8 : ∀ r ∈ rs, RuleAt m (upd H' pr (.tup (rs.map V.ref))) r := fun r h => (hrs r h).tk T8
        have er8 : upd H' pr (.tup (rs.map V.ref)) pr = some (.tup (rs.map V.ref)) := upd_same
        generalize upd H' pr (.tup (rs.map V.ref)) = H8 at S8 ep8 er8 hrs8 ⊢
        clear S T8 ep7 hD hrs hpr
        walk_at "v"
        refine ⟨m, rfl, fun rg hrg => ?_⟩
        have S9 := S8.new (o := .rng 0 m) hrg
        have T9 : TK H8 (upd H8 rg (.rng 0 m)) := TK.new hrg
        have erg : upd H8 rg (.rng 0 m) rg = some (.rng 0 m) := upd_same
        generalize upd H8 rg (.rng 0 m) = H9 at S9 T9 erg ⊢
        walk_at "v"
        refine ⟨rg, m, rfl, erg, by omega, fun pl hpl => ?_⟩
        have S10 := S9.new (o := .lst ((List.range m).map fun (i : Nat) => V.int (i : Int))) hpl
        have T10 := T9.trans (TK.new (o := .lst ((List.range m).map fun (i : Nat) => V.int (i : Int))) hpl)
        have npl := S9.none hpl
        have ppl := S9.fd.ne hpl
        have el : upd H9 pl (.lst ((List.range m).map fun (i : Nat) => V.int (i : Int))) pl = some (.lst (((List.range m).map fun (i : Nat) => (i : Int)).map V.int)) := by rw [upd_same, List.map_map]; rfl
        generalize upd H9 pl (.lst ((List.range m).map fun (i : Nat) => V.int (i : Int))) = H10 at S10 T10 el ⊢
        clear S9 T9 erg hpl hrg S8
        walk_at "v"
        refine ⟨Nat.zero_le _, fun pi hpi => ?_⟩
        have S11 := S10.new (o := .lst []) hpi
        have T11 := T10.trans (TK.new (o := .lst []) hpi)
        have npi := S10.none hpi
        have ppi := S10.fd.ne hpi
        have nli : pl ≠ pi := ne_of_none el hpi
        have el11 : upd H10 pi (.lst []) pl = some (.lst (((List.range m).map fun (i : Nat) => (i : Int)).map V.int)) := by rw [upd_ne nli]; exact el
        have ei11 : upd H10 pi (.lst []) pi = some (.lst (([] : List Int).map V.int)) := upd_same
        generalize upd H10 pi (.lst []) = H11 at S11 T11 el11 ei11 ⊢
        clear S10 T10 el hpi
        walk_at "v"
        refine ⟨by show 5 ≤ sizeLine; decide, fun a5 ha5 => ?_⟩
        have S12 := S11.new (o := .lst [.int 0, .int 1, .int 2, .int 2, .int 3]) ha5
        have np5 := S11.fd.ne ha5
        walk_at "v"
        refine ⟨p, 5, rfl, S12.fd, by decide, by decide, fun r x y z r0 r1 => ?_⟩
        obtain ⟨c, c3, hat⟩ := pickI r0 r1
        refine w_ixL (by rw [upd_ne (Ne.symm np5), upd_same]) hat ?_
        have S13 := S12.draw (x := x) (y := y) (z := z)
        have T13 := (T11.trans (TK.new (o := .lst [.int 0, .int 1, .int 2, .int 2, .int 3]) ha5)).trans (TK.feed (o := .lst [.int x, .int y, .int z]) S12.fd)
        have el13 : upd (upd H11 a5 (.lst [.int 0, .int 1, .int 2, .int 2, .int 3])) p (.lst [.int x, .int y, .int z]) pl = some (.lst (((List.range m).map fun (i : Nat) => (i : Int)).map V.int)) := by rw [upd_ne (Ne.symm ppl), upd_ne (ne_of_none el11 ha5)]; exact el11
        have ei13 : upd (upd H11 a5 (.lst [.int 0, .int 1, .int 2, .int 2, .int 3])) p (.lst [.int x, .int y, .int z]) pi = some (.lst (([] : List Int).map V.int)) := by rw [upd_ne (Ne.symm ppi), upd_ne (ne_of_none ei11 ha5)]; exact ei11
        generalize upd (upd H11 a5 (.lst [.int 0, .int 1, .int 2, .int 2, .int 3])) p (.lst [.int x, .int y, .int z]) = H13 at S13 T13 el13 ei13 ⊢
        clear S12 S11 T11 el11 ei11 ha5 np5 hat r0 r1
        walk_at "v"
        refine ⟨m, c, rfl, ?_⟩
        have ec : (if (c : Int) < (m : Int) then (c : Int) else (m : Int)) = ((min c m : Nat) : Int) := by
          by_cases h : (c : Int) < (m : Int)
          · rw [if_pos h]; omega
          · rw [if_neg h]; omega
        rw [ec]
        walk_at "v"
        refine ⟨_, rfl, by omega, by omega, ?_⟩
        rw [Int.toNat_natCast]
        refine for_range (fun i σ H' => ∃ (u : Option V) (lf is : List Int), σ = [some (.ref p), some (.int m), some (.ref ps), some (.ref pr), some (.ref pl), some (.ref pi), u, none] ∧ H' pl = some (.lst (lf.map V.int)) ∧ H' pi = some (.lst (is.map V.int)) ∧
            lf.length + i = m ∧ is.length = i ∧ (∀ j ∈ lf, 0 ≤ j ∧ j < (m : Int)) ∧ (∀ j ∈ is, 0 ≤ j ∧ j < (m : Int)) ∧ SS p H H' ∧ TK H8 H' ∧ (lf ++ is).Nodup)
          ⟨none, _, [], rfl, el13, ei13, by simp, rfl, fun j hj => by
            obtain ⟨q, hq, rfl⟩ := List.mem_map.mp hj
            have := List.mem_range.mp hq
            omega, (fun j hj => by cases hj), S13, T13, nd_rng m⟩ ?_ ?_
        · rintro i σ H' hi ⟨u, lf, is, rfl, el, ei, hlen1, hlen2, hlf, his, S, T, hnd⟩
          walk_at "v"
          refine ⟨.inl ⟨rfl, _, SqL.of ei⟩, ?_⟩
          walk_at "v"
          refine ⟨.inl ⟨rfl, _, SqL.of el⟩, ?_⟩
          walk_at "v"
          refine ⟨pl, _, rfl, .inl (SqL.of el), ?_⟩
          rw [List.length_map]
          refine ⟨p, lf.length, rfl, S.fd, by omega, by omega, fun r x y z r0 r1 => ?_⟩
          have S' := S.draw (x := x) (y := y) (z := z)
          have T' := T.trans (TK.feed (o := .lst [.int x, .int y, .int z]) S.fd)
          have el' : upd H' p (.lst [.int x, .int y, .int z]) pl = some (.lst (lf.map V.int)) := by rw [upd_ne (Ne.symm ppl)]; exact el
          have ei' : upd H' p (.lst [.int x, .int y, .int z]) pi = some (.lst (is.map V.int)) := by rw [upd_ne (Ne.symm ppi)]; exact ei
          generalize upd H' p (.lst [.int x, .int y, .int z]) = H2 at S' T' el' ei' ⊢
          obtain ⟨j, rfl⟩ := Nat.ofI r0
          have hj : j < lf.length := by omega
          have hix : ixN (lf.map V.int).length (j : Int) = some j := by
            rw [List.length_map]
            unfold ixN
            rw [if_pos r0, if_pos r1]
            rfl
          walk_at "v"
          refine ⟨pl, _, _, j, .int lf[j], rfl, rfl, el', by omega, by omega, (ixN_seq hix).1, by simp [hj], ?_⟩
          have S'' := S'.put (o := .lst ((lf.map V.int).eraseIdx j)) npl ppl
          have T'' := T'.trans (TK.lst (o := .lst ((lf.map V.int).eraseIdx j)) el')
          have el'' : upd H2 pl (.lst ((lf.map V.int).eraseIdx j)) pl = some (.lst ((lf.eraseIdx j).map V.int)) := by rw [upd_same, map_erase]
          have ei'' : upd H2 pl (.lst ((lf.map V.int).eraseIdx j)) pi = some (.lst (is.map V.int)) := by rw [upd_ne (Ne.symm nli)]; exact ei'
          generalize upd H2 pl (.lst ((lf.map V.int).eraseIdx j)) = H3' at S'' T'' el'' ei'' ⊢
          walk_at "v"
          refine ⟨pi, _, _, rfl, rfl, ei'', by rw [List.length_map]; exact small1000 (by omega), ?_⟩
          refine ⟨_, lf.eraseIdx j, is ++ [lf[j]], rfl, by rw [upd_ne nli]; exact el'', by rw [upd_same, List.map_append]; rfl, ?_, by simp [hlen2], ?_, ?_, S''.put npi ppi, T''.trans (TK.lst ei''), nd_pop hj hnd⟩
          · rw [List.length_eraseIdx_of_lt hj]
            omega
          · exact fun q hq => hlf q (List.mem_of_mem_eraseIdx hq)
          · intro q hq
            rcases List.mem_append.mp hq with old | new
            · exact his q old
            · rw [List.mem_singleton.mp new]
              exact hlf _ (List.getElem_mem hj)
        · rintro σ H14 ⟨u, lf, is, rfl, el, ei, hlen1, hlen2, hlf, his, S14, T14, hnd⟩
          have ep14 := T14.t _ _ ep8
          have hi3 : is.length ≤ 3 := by omega
          clear S13 T13 el13 ei13 el hlf hlen1
          walk_at "v"
          refine ⟨ps, rfl, ⟨_, SqT.of ep14⟩, fun db hdb => ?_⟩
          have ndb := S14.none hdb
          have pdb := S14.fd.ne hdb
          have idb : pi ≠ db := ne_of_none ei hdb
          refine cgo_tup (xs := nm.map V.str) (ρ := [some (.ref p)]) (fun i ys H' => ∃ bs : List Int, ys = bs.map V.int ∧ bs.length = i ∧ (∀ b ∈ bs, 0 ≤ b ∧ b ≤ 99) ∧ SS p H H' ∧ TK H14 H' ∧ H' pi = some (.lst (is.map V.int)))
            ⟨[], rfl, rfl, (fun b hb => by cases hb), S14.new hdb, TK.new hdb, by rw [upd_ne idb]; exact ei⟩ (fun i ys H' _ ⟨_, _, _, _, _, T, _⟩ => SqT.of (T.t _ _ ep14)) ?_ ?_
          · rintro i xv ys H' hxi ⟨bs, rfl, hbl, hbs, S, T, eI⟩ hD R' S' kR _
            have hi8 : i < 8 := by
              have := (List.getElem?_eq_some_iff.mp hxi).1
              rw [List.length_map, hN.1] at this
              omega
            walk_at "v"
            refine ⟨p, 100, rfl, S.fd, by decide, by decide, fun r x y z r0 r1 => ?_⟩
            have S2 := S.draw (x := x) (y := y) (z := z)
            have T2 := T.trans (TK.feed (o := .lst [.int x, .int y, .int z]) S.fd)
            have eI2 : upd H' p (.lst [.int x, .int y, .int z]) pi = some (.lst (is.map V.int)) := by rw [upd_ne (Ne.symm ppi)]; exact eI
            have hD2 : upd H' p (.lst [.int x, .int y, .int z]) db = some (.lst (bs.map V.int)) := by rw [upd_ne (Ne.symm pdb)]; exact hD
            generalize upd H' p (.lst [.int x, .int y, .int z]) = H2 at S2 T2 eI2 hD2 ⊢
            walk_at "v"
            refine ⟨by show 6 ≤ sizeLine; decide, fun a6 ha6 => ?_⟩
            have S3 := S2.new (o := .lst [.int 0, .int 0, .int 1, .int 2, .int 99, .int r]) ha6
            have T3 := T2.trans (TK.new (o := .lst [.int 0, .int 0, .int 1, .int 2, .int 99, .int r]) ha6)
            have p6 := S2.fd.ne ha6
            have eI3 : upd H2 a6 (.lst [.int 0, .int 0, .int 1, .int 2, .int 99, .int r]) pi = some (.lst (is.map V.int)) := by rw [upd_ne (ne_of_none eI2 ha6)]; exact eI2
            have hD3 : upd H2 a6 (.lst [.int 0, .int 0, .int 1, .int 2, .int 99, .int r]) db = some (.lst (bs.map V.int)) := by rw [upd_ne (ne_of_none hD2 ha6)]; exact hD2
            have e6 : upd H2 a6 (.lst [.int 0, .int 0, .int 1, .int 2, .int 99, .int r]) a6 = some (.lst [.int 0, .int 0, .int 1, .int 2, .int 99, .int r]) := upd_same
            generalize upd H2 a6 (.lst [.int 0, .int 0, .int 1, .int 2, .int 99, .int r]) = H3' at S3 T3 eI3 hD3 e6 ⊢
            walk_at "v"
            refine ⟨p, 6, rfl, S3.fd, by decide, by decide, fun r' x' y' z' r0' r1' => ?_⟩
            obtain ⟨bv, b0, b1, hat⟩ := pickB r0' r1' r0 r1
            refine w_ixL (by rw [upd_ne (Ne.symm p6)]; exact e6) hat ?_
            have hD4 : upd H3' p (.lst [.int x', .int y', .int z']) db = some (.lst (bs.map V.int)) := by rw [upd_ne (Ne.symm pdb)]; exact hD3
            refine kR _ _ hD4 (by rw [List.length_map]; exact small1000 (by omega)) ⟨bs ++ [bv], by rw [List.map_append]; rfl, by simp [hbl], fun b hb => ?_, S3.draw.put ndb pdb, (T3.trans (TK.feed S3.fd)).trans (TK.lst hD4), by rw [upd_ne idb, upd_ne (Ne.symm ppi)]; exact eI3⟩
            rcases List.mem_append.mp hb with old | new
            · exact hbs b old
            · rw [List.mem_singleton.mp new]
              exact ⟨b0, b1⟩
          · rintro ys H15 ⟨bs, rfl, hbl, hbs, S15, T15, eI⟩ hD
            rw [List.length_map, hN.1] at hbl
            walk_at "v"
            refine ⟨db, _, rfl, .inl ⟨SqL.of hD, fun pb hpb => ?_⟩⟩
            have S16 := S15.new (o := .tup (bs.map V.int)) hpb
            have T16 := (T14.trans T15).trans (TK.new (o := .tup (bs.map V.int)) hpb)
            have eI16 : upd H15 pb (.tup (bs.map V.int)) pi = some (.lst (is.map V.int)) := by rw [upd_ne (ne_of_none eI hpb)]; exact eI
            have eb16 : upd H15 pb (.tup (bs.map V.int)) pb = some (.tup (bs.map V.int)) := upd_same
            generalize upd H15 pb (.tup (bs.map V.int)) = H16 at S16 T16 eI16 eb16 ⊢
            clear S15 T15 eI hD hpb
            walk_at "v"
            refine ⟨pi, _, rfl, .inl ⟨SqL.of eI16, fun pin hpin => ?_⟩⟩
            have S17 := S16.new (o := .tup (is.map V.int)) hpin
            have T17 : TK H16 (upd H16 pin (.tup (is.map V.int))) := TK.new hpin
            have ein : upd H16 pin (.tup (is.map V.int)) pin = some (.tup (is.map V.int)) := upd_same
            generalize upd H16 pin (.tup (is.map V.int)) = H17 at S17 T17 ein ⊢
            walk_at "v"
            refine ⟨p, m, rfl, S17.fd, hm0, hm, fun ans x y z a0 a1 => ?_⟩
            have S18 := S17.draw (x := x) (y := y) (z := z)
            have T18 : TK H17 (upd H17 p (.lst [.int x, .int y, .int z])) := TK.feed S17.fd
            generalize upd H17 p (.lst [.int x, .int y, .int z]) = H18 at S18 T18 ⊢
            walk_at "v"
            refine ⟨by show 5 ≤ sizeLine; decide, fun l hl => ?_⟩
            have T19 : TK H18 (upd H18 l (.tup [.ref ps, .ref pr, .ref pin, .ref pb, .int ans])) := TK.new hl
            have S19 := S18.new (o := .tup [.ref ps, .ref pr, .ref pin, .ref pb, .int ans]) hl
            have TA : TK H8 (upd H18 l (.tup [.ref ps, .ref pr, .ref pin, .ref pb, .int ans])) := ((T16.trans T17).trans T18).trans T19
            refine k l _ nm is bs ans m (S18.none hl) ⟨⟨ps, pr, pin, pb, rs, upd_same, TA.t _ _ ep8, TA.t _ _ er8, fun r h => (hrs8 r h).tk TA, by omega, (T18.trans T19).t _ _ ein, ((T17.trans T18).trans T19).t _ _ eb16⟩, hN, m0, m8, his, hi3, (List.nodup_append.mp hnd).2.1, hbl, hbs, a0, a1⟩ S19.fd S19.bt
end
end K1P

set_option Elab.async false
set_option linter.all false
set_option maxRecDepth 100000
/-! t * 2, t any tuple -/
namespace PySem
open AutoSeq1 (wpAny_loadPart')
theorem mul_none (l : Addr) (n : Nat) (dd : Option Addr) (sl : Array (Option Value)) (u : Tok) :
    Meets (Builtin.«tuple.__mul__» ⟨[.ref l, .int 2 u], []⟩) (fun _ R s => s.heap.get? l = some { cls := .type "tuple", dict := dd, data := .seq #[] n, slots := sl } ∧ R (.ok (.ret (.ref l))) s) :=
  .of_wp fun prog w A R s h => by
    obtain ⟨hp, g, d, tk, os⟩ := s
    obtain ⟨hl, h⟩ := h
    have f1 := AutoSeq1.idx_int
    wp_walk using wpAny_loadPart' hl
    exact ⟨_, rfl, h⟩
end PySem
namespace L2
open PySem PySem.Spec PyProof.Rows
def rRep2 : R2 := fun x y H Q => ∃ (a : Addr) (xs : List V), x = .ref a ∧ y = .int 2 ∧ H a = some (.tup xs) ∧ xs.length ≤ 400 ∧ ∀ q H', Same H H' → H' q = some (.tup (xs ++ xs)) → Q (.ref q) H'
theorem op_rep2 {X : Cx} : OpR X (binaryOp .Mult) rRep2 := by
  intro pins s σ H x y v u Q I rx ry h
  obtain ⟨a, xs, rfl, rfl, hH, hl, q⟩ := h
  by_cases h0 : xs = []
  · subst h0
    cases rx
    obtain ⟨t, rfl⟩ := ry
    obtain ⟨z, its, rv, ⟨cls, dd, data, sl⟩, e, c, n, d⟩ := I.hok a _ hH
    simp only at c d
    subst c d
    cases rv
    refine wpAny_binaryOp_repeat_ref (T := "tuple") (U := "int") (by decide) ⟨_, e, rfl⟩ (fun z => typeIs_int z 2 t) noFill_tuple_mul F.fills_int_mul F.slot_int_rmul repeat_tuple F.slot_int_index.lookup
      (call_meets F.slot_int_rmul (typeIs_int s 2 t) F.entry_int_rmul (F.args_int_rmul_2 _ _) (rmulW 2 t a #[] n dd sl)
        ⟨e, rfl, ⟨_, e, rfl⟩, call_meets F.slot_tuple_mul ⟨_, e, rfl⟩ F.entry_tuple_mul (F.args_tuple_mul_2 _ _) (mul_none a n dd sl t) ⟨e, ?_⟩⟩)
    exact ⟨.ref a, H, I, rfl, q a H (Same.refl H) hH⟩
  · refine op_repT pins s σ H _ _ v u Q I rx ry ⟨a, 2, xs, rfl, rfl, hH, h0, by decide, by decide, by show xs.length * 2 ≤ 1000; omega, fun z => absurd z (by decide), fun _ p hp => ?_⟩
    have e : (List.replicate (2 : Int).toNat xs).flatten = xs ++ xs := by
      show (List.replicate 2 xs).flatten = xs ++ xs
      simp
    rw [e]
    exact q p _ (Same.new (Same.refl H) hp) upd_same
end L2

set_option Elab.async false
set_option linter.all false
set_option maxRecDepth 100000
namespace L2
open PySem PySem.Spec PyProof.Rows
/-! ### displays of things: one reading for the whole display -/
def tTh (t : Th) : TE := fun _ H Q => ∀ v H', Same H H' → ThAt H' v t → Q v H'
def tThs (ts : List Th) : TA := fun _ H Q => ∀ vs H', Same H H' → ThsAt H' vs ts → Q vs H'
section
variable {X : Cx} {es : List Expr} {pos : Pos} {ts : List Th} {t : Th}
theorem pe_th_c {e : Expr} {v : V} (h : PE X e (tC v)) (hv : ∀ H, ThAt H v t) : PE X e (tTh t) := fun pins s σ H Q I q => h pins s σ H Q I (q v H (Same.refl H) (hv H))
theorem pe_th_tup {k : Nat} (h : PA X es (tThs ts)) (hl : ts.length ≤ 1000) : PE X (.Tuple es k pos) (tTh (.tup ts)) := fun pins s σ H Q I q =>
  pe_tup h pins s σ H Q I fun vs H1 K1 hv => ⟨by rw [hv.len]; exact Nat.le_of_lt (small1000 hl), fun p hp => q _ _ (K1.new hp) (.tup upd_same (ThsAt.ks (KS.new hp) hv))⟩
theorem pe_th_lst (h : PA X es (tThs ts)) (hl : ts.length ≤ 1000) : PE X (.List es pos) (tTh .lst) := fun pins s σ H Q I q =>
  pe_lst h pins s σ H Q I fun vs H1 K1 hv => ⟨by rw [hv.len]; exact Nat.le_of_lt (small1000 hl), fun p hp => q _ _ (K1.new hp) (.lst upd_same)⟩
theorem pe_th_dct : PE X (.Dict [] [] pos) (tTh .dct) := fun pins s σ H Q I q => pe_dnewK pins s σ H Q I fun p hp => q _ _ (Same.new (Same.refl H) hp) (.dct upd_same)
theorem pe_th_pow {a b : Int} {j k : Nat} {p1 p2 : Pos} (h : CPow a b) : PE X (.BinOp (.Constant (.int a) j p1) .Pow (.Constant (.int b) k p2) pos) (tTh (.int (a ^ b.toNat))) := fun pins s σ H Q I q =>
  pe_op op_pow pe_int pe_int pins s σ H Q I ⟨a, b, rfl, rfl, h, q _ _ (Same.refl H) (.int _)⟩
theorem pe_th_neg {n : Int} {j : Nat} {p : Pos} : PE X (.UnaryOp .USub (.Constant (.int n) j p) pos) (tTh (.int (-n))) := fun pins s σ H Q I h => pe_un un_neg pe_int pins s σ H Q I ⟨_, rfl, h _ _ (Same.refl H) (.int _)⟩
theorem pa_th_nil : PA X [] (tThs []) := fun p pins s σ H Q I h => pa_nil p pins s σ H Q I (h [] H (Same.refl H) .nil)
theorem pa_th_cons {e : Expr} (he : PE X e (tTh t)) (h : PA X es (tThs ts)) (hs : isStar e = false) : PA X (e :: es) (tThs (t :: ts)) := fun p pins s σ H Q I q =>
  pa_c he h hs p pins s σ H Q I fun v H1 K1 hv vs H2 K2 hvs => q _ _ (K1.trans K2) (.cons (ThAt.ks (KS.same K2) hv) hvs)
end
def allTh (f : Expr → Option Th) : List Expr → Option (List Th)
  | [] => some []
  | e :: es => match f e, allTh f es with
    | some t, some ts => some (t :: ts)
    | _, _ => none
instance {a b : Int} : Decidable (CPow a b) := by unfold CPow; infer_instance
def thOf : Nat → Expr → Option Th
  | 0, _ => none
  | _ + 1, .Constant .none _ _ => some .non
  | _ + 1, .Constant (.bool b) _ _ => some (.bl b)
  | _ + 1, .Constant (.int i) _ _ => some (.int i)
  | _ + 1, .Constant (.str s) _ _ => some (.str s)
  | _ + 1, .UnaryOp .USub (.Constant (.int i) _ _) _ => some (.int (-i))
  | _ + 1, .BinOp (.Constant (.int a) _ _) .Pow (.Constant (.int b) _ _) _ => if CPow a b then some (.int (a ^ b.toNat)) else none
  | n + 1, .Tuple es _ _ => match allTh (thOf n) es with
    | some ts => if ts.length ≤ 1000 then some (.tup ts) else none
    | none => none
  | n + 1, .List es _ => match allTh (thOf n) es with
    | some ts => if ts.length ≤ 1000 then some .lst else none
    | none => none
  | _ + 1, .Dict [] [] _ => some .dct
  | _, _ => none
theorem thOf_star : ∀ {n : Nat} {e : Expr} {t : Th}, thOf n e = some t → isStar e = false := by
  intro n e t h
  cases n with
  | zero => cases h
  | succ n => cases e <;> first | rfl | (simp [thOf] at h)
theorem pa_allTh {X : Cx} {f : Expr → Option Th} (hf : ∀ e t, f e = some t → PE X e (tTh t)) (hs : ∀ e t, f e = some t → isStar e = false) : ∀ {es : List Expr} {ts : List Th}, allTh f es = some ts → PA X es (tThs ts)
  | [], ts, h => by cases h; exact pa_th_nil
  | e :: es, ts, h => by
    unfold allTh at h
    split at h
    · rename_i t ts' h1 h2
      cases h
      exact pa_th_cons (hf e t h1) (pa_allTh hf hs h2) (hs e t h1)
    · cases h
theorem pe_thOf {X : Cx} : ∀ (n : Nat) (e : Expr) (t : Th), thOf n e = some t → PE X e (tTh t) := by
  intro n
  induction n with
  | zero => intro e t h; cases h
  | succ n ih =>
    intro e t h
    unfold thOf at h
    split at h
    all_goals first
      | (cases h; done)
      | (cases h; exact pe_th_c pe_non fun _ => .non)
      | (cases h; exact pe_th_c pe_bl fun _ => .bl _)
      | (cases h; exact pe_th_c pe_int fun _ => .int _)
      | (cases h; exact pe_th_c pe_str fun _ => .str _)
      | (cases h; exact pe_th_neg)
      | (cases h; exact pe_th_dct)
      | skip
    · rename_i n' a _ _ b _ _ _ hn
      split at h
      · rename_i hc; cases h; exact pe_th_pow hc
      · cases h
    · rename_i hn
      cases hn
      split at h
      · rename_i ts h1
        split at h
        · rename_i hl; cases h; exact pe_th_tup (pa_allTh ih (fun e t z => thOf_star z) h1) hl
        · cases h
      · cases h
    · rename_i hn
      cases hn
      split at h
      · rename_i ts h1
        split at h
        · rename_i hl; cases h; exact pe_th_lst (pa_allTh ih (fun e t z => thOf_star z) h1) hl
        · cases h
      · cases h
/-- a display: its items -/
theorem pa_thsOf {X : Cx} {n : Nat} {es : List Expr} {ts : List Th} (h : allTh (thOf n) es = some ts) : PA X es (tThs ts) := pa_allTh (pe_thOf n) (fun e t z => thOf_star z) h
theorem w_ths {ts : List Th} {σ : St} {H : Hp} {Q : List V → Hp → Prop} (h : ∀ vs H', Same H H' → ThsAt H' vs ts → Q vs H') : tThs ts σ H Q := h
end L2

set_option Elab.async false
set_option linter.all false
set_option maxRecDepth 100000
namespace K01
open PySem L2 G2
local macro_rules | `(tactic| walk_at "v") => `(tactic| repeat (with_reducible first
  | refine w_seq ?_ | refine w_asg ?_ | refine w_gname ?_ | refine w_op ?_ | refine w_var rfl ?_ | refine w_c ?_ | refine w_rI0 ?_ | refine w_ifs ?_ | refine w_ife ?_ | refine w_test ?_ | refine w_tb ?_ | refine w_bl ?_ | refine w_not ?_ | refine w_ret ?_ | refine w_retN ?_
  | refine w_nil ?_ | refine w_cons ?_ | refine w_lst ?_ | refine w_tup ?_ | refine w_cb ?_ | refine w_call ?_ | refine w_gsub ?_ | refine w_and ?_ | refine w_or ?_ | refine w_next ?_ | refine w_all ?_ | refine w_vals ?_ | refine w_compR ?_ | refine w_compT ?_ | refine w_forR ?_ | refine w_forT ?_ | refine w_forL ?_ | refine w_drop ?_ | refine w_bm ?_ | refine w_compZ ?_ | refine w_compL ?_ | refine w_chain ?_ | refine w_sl ?_ | refine w_nopart ?_ | refine w_part ?_ | refine w_unI ?_ | refine iteT ?_ | refine iteF ?_))

abbrev sOd : Stmt := top 38
abbrev nOd : List Str := ["_law_feed_here", "_law_thing", "_law_some"]
theorem nmOd : Nm nOd (defScope sOd) := ⟨by decide +kernel, by decide +kernel⟩
theorem scOd : FnScope nOd ["_law_feed_here", "_law_thing"] (defScope sOd) := ⟨rfl, rfl, rfl, by decide +kernel, rfl, by decide +kernel, by decide +kernel⟩
theorem pe_neg {X : Cx} {n : Int} {j : Nat} {p pos : Pos} : PE X (.UnaryOp .USub (.Constant (.int n) j p) pos) (tC (.int (-n))) := fun pins s σ H Q I h => pe_un un_neg pe_int pins s σ H Q I ⟨_, rfl, h⟩
/-- all but what stands at p stays; the kinds stay -/
structure PK (p : Addr) (H H' : Hp) : Prop extends KS H H' where
  bp : ∀ q o, q ≠ p → H q = some o → H' q = some o
theorem PK.same {p : Addr} {H H' : Hp} (k : Same H H') : PK p H H' := ⟨KS.same k, fun q o _ h => k q o h⟩
theorem PK.refl {p : Addr} {H : Hp} : PK p H H := PK.same (Same.refl H)
theorem PK.trans {p : Addr} {H H' H'' : Hp} (a : PK p H H') (b : PK p H' H'') : PK p H H'' := ⟨a.toKS.trans b.toKS, fun q o hq h => b.bp q o hq (a.bp q o hq h)⟩
theorem ThAt.pk {p : Addr} {H H' : Hp} (k : PK p H H') {v : V} {t : Th} (h : ThAt H v t) : ThAt H' v t := ThAt.ks k.toKS h
theorem ThsAt.pk {p : Addr} {H H' : Hp} (k : PK p H H') {vs : List V} {ts : List Th} (h : ThsAt H vs ts) : ThsAt H' vs ts := ThsAt.ks k.toKS h
theorem fd_pk {H : Hp} {p : Addr} (t : K1P.FeedAt H p) {ys : List V} : PK p H (upd H p (.lst ys)) := let ⟨_, _, _, e⟩ := t; ⟨KS.lst e, fun q o hq h => by rw [upd_ne hq]; exact h⟩
theorem fd_same {H H' : Hp} {p : Addr} (k : Same H H') (t : K1P.FeedAt H p) : K1P.FeedAt H' p := let ⟨x, y, z, e⟩ := t; ⟨x, y, z, k _ _ e⟩
theorem ThL.mono {n m : Nat} (hnm : n ≤ m) {t : Th} (h : ThL n t) : ThL m t := by
  induction h with
  | non => exact .non
  | bl b => exact .bl b
  | int h => exact .int h
  | str h => exact .str h
  | lst => exact .lst
  | dct => exact .dct
  | tup h1 _ ih => exact .tup (Nat.le_trans h1 hnm) ih
theorem all_n {n : Nat} : ∀ t ∈ ([] : List Th), ThL n t := fun t ht => by cases ht
theorem all_c {n : Nat} {x : Th} {xs : List Th} (h1 : ThL n x) (h2 : ∀ t ∈ xs, ThL n t) : ∀ t ∈ x :: xs, ThL n t := fun t ht => by
  rcases List.mem_cons.mp ht with z | z
  · rw [z]
    exact h1
  · exact h2 t z
theorem all_app {n : Nat} {xs ys : List Th} (h1 : ∀ t ∈ xs, ThL n t) (h2 : ∀ t ∈ ys, ThL n t) : ∀ t ∈ xs ++ ys, ThL n t := fun t ht => by
  rcases List.mem_append.mp ht with z | z
  · exact h1 t z
  · exact h2 t z
theorem cutT_len {ts : List Th} {lo hi : Option Int} : (cutT ts lo hi).length ≤ ts.length := by
  unfold cutT
  rw [List.length_take, List.length_drop]
  omega
theorem cutT_mem {ts : List Th} {lo hi : Option Int} {t : Th} (h : t ∈ cutT ts lo hi) : t ∈ ts := List.mem_of_mem_drop (List.mem_of_mem_take h)
theorem w_rev {te : TE} {σ : St} {H : Hp} {Q : VK} (h : te σ H fun x H1 => ∃ (a : Addr) (xs : List V), x = .ref a ∧ H1 a = some (.tup xs) ∧ ∀ q, H1 q = none → Q (.ref q) (upd H1 q (.tup xs.reverse))) : tRev te σ H Q := h
theorem po_neg1 {X : Cx} {j : Nat} {p pos : Pos} : PO X (some (.UnaryOp .USub (.Constant (.int 1) j p) pos)) (tPart (tC (.int (-1)))) := po_some pe_neg
theorem at_lt {vs : List V} {r : Int} (h0 : 0 ≤ r) (h1 : r < (vs.length : Int)) : ∃ v, atI vs r = some v ∧ vs[r.toNat]? = some v := by
  obtain ⟨n, rfl⟩ := ofI h0
  have hn : n < vs.length := by omega
  exact ⟨vs[n], atI_nat (by simp [hn]), by simp [hn]⟩

def lisEs (s : Stmt) : List Expr := match s with
  | .Assign _ (.List es _) _ => es
  | .Assign _ (.BinOp _ _ (.List es _) _) _ => es
  | _ => []
def tsOd1 : List Th := [.non, .bl true, .bl false, .int 0, .int 1, .int (-1), .int 9, .int 10, .int 99, .int 100, .int 8, .int 3, .str "", .str "a", .str "to", .str "sorts", .str "A", .str "a1", .str "abcdefghi", .tup [], .lst]
def tsOd2 : List Th := [.dct, .tup [.int 0], .tup [.int 1], .tup [.int 0, .int 0], .tup [.str "a"], .lst, .tup [.str "a", .str "a"], .tup [.tup [.int 1], .tup [.int 0]], .tup [.tup [.int 0], .tup [.int 1]], .int (10 ^ (39 : Int).toNat), .str "zz"]
theorem th_nn {n : Nat} {t : Th} (h : ThL 2 t) (hn : 2 ≤ n) : ThL n t := h.mono hn
theorem od1_l : ∀ t ∈ tsOd1, ThL 2 t := by
  unfold tsOd1
  repeat (first | exact all_n | exact .non | exact .bl _ | exact .lst | exact .dct | exact .int (by decide) | exact .str (by decide +kernel) | refine all_c ?_ ?_ | refine .tup (by decide) ?_)
theorem od2_l : ∀ t ∈ tsOd2, ThL 2 t := by
  unfold tsOd2
  repeat (first | exact all_n | exact .non | exact .bl _ | exact .lst | exact .dct | exact .int (by decide +kernel) | exact .str (by decide +kernel) | refine all_c ?_ ?_ | refine .tup (by decide) ?_)
def spOd : Sp := fun vs H Q _ => ∃ (p : Addr) (v : V) (t : Th) (n : Nat), vs = [.ref p, v] ∧ K1P.FeedAt H p ∧ ThAt H v t ∧ ThL n t ∧ 2 ≤ n ∧ n ≤ 150 ∧ ∀ (v' : V) (t' : Th) (H' : Hp), ThAt H' v' t' → ThL (2 * n) t' → K1P.FeedAt H' p → PK p H H' → Q v' H'
section
variable {P : Program} {w : World} {K : PySem.W.Frag} {mg : Str → Option Value} {base : Heap}
set_option maxHeartbeats 4000000 in
theorem ok_Od {f : Addr} {fd : FuncData} (B : Blt mg) (D : Has P w K mg base 1 "_law_draw" ["_law_feed_here", "_law_many"] K1P.spDraw) (F : Fun K "_law_odd" "_law_odd" sOd f fd) : FnOk P w K mg base CX0 2 f fd ["_law_feed_here", "_law_thing"] spOd := by
  refine F.ok scOd (fun vs H Q E h => ?_) (fun cdv A outer s H vs Q E hr h => ?_)
  · obtain ⟨p, v, t, n, rfl, _⟩ := h
    rfl
  · obtain ⟨p, v, t, n, rfl, hF, ht, hL, n2, n150, k⟩ := h
    refine' ⟨_, ?hb, ?rd⟩
    case hb =>
      refine' pss_cons ?s1 ?r1
      case' r1 => refine' pss_cons ?s2 ?r2
      case' r2 => refine' pss_cons ?s3 ?r3
      case' r3 => refine' pss_one ?s4
      case s1 =>
        refine' ps_setD nmOd 2 ?y0
        case' y0 => refine' pe_lst ?x0
        case x0 =>
          with_reducible refine pa_thsOf (n := 4) (ts := tsOd1) ?_
          kernel_rfl
      case s2 =>
        refine' ps_setD nmOd 2 ?z0
        case' z0 => refine' pe_op op_cat (pvd nmOd 2) ?z1
        case' z1 => refine' pe_lst ?z2
        case z2 =>
          with_reducible refine pa_thsOf (n := 4) (ts := tsOd2) ?_
          kernel_rfl
      case s3 =>
        refine' ps_if (pt_val (pe_cB is_tup B.isi PyProof.Rows.boot_isinstance (pa_2 (pvd nmOd 1) (pe_bltn (v := .ty "tuple") rfl B.tuple PyProof.Rows.boot_tuple rfl)))) ?w1 pss_nil
        case' w1 => refine' pss_one ?w2
        case' w2 => refine' ps_setD nmOd 2 ?w3
        case' w3 => refine' pe_op op_cat (pvd nmOd 2) ?w4
        case' w4 => refine' pe_lst ?w5
        case' w5 => refine' pa_c (pe_cT call_list_of B.list PyProof.Rows.boot_list (pa_1 (pvd nmOd 1))) ?w6
        case' w6 => refine' pa_c (pe_op op_catG (pvd nmOd 1) (pe_tup (pa_1 pe_int))) ?w7
        case' w7 => refine' pa_c (pe_slice sl_tupG (pvd nmOd 1) po_none po_neg1) ?w8
        case' w8 => refine' pa_c (pe_op op_catG (pvd nmOd 1) (pe_slice sl_tupG (pvd nmOd 1) po_none (po_some pe_int))) ?w9
        case' w9 => refine' pa_c (pe_slice sl_tupG (pvd nmOd 1) (po_some pe_int) po_none) ?wa
        case' wa => refine' pa_c (pe_rev (p1 := default) (pvd nmOd 1) po_neg1) ?wb
        case wb => exact pa_1 (pe_op op_rep2 (pvd nmOd 1) pe_int)
      case s4 =>
        refine' ps_ret ?v1
        case' v1 => refine' pe_ix ix_d (pvd nmOd 2) ?v2 (fun _ _ => rfl)
        case v2 => exact pe_f D hr (by decide) (pa_2 (pvd nmOd 0) (pe_cB call_lnL B.len PySem.boot_len (pa_1 (pvd nmOd 2))))
    case rd =>
      walk_at "v"
      refine w_ths fun us H1 K1 hus => ?_
      have hl1 : us.length = 21 := hus.len
      refine ⟨by rw [hl1]; decide, fun o1 ho1 => ?_⟩
      have K2 : Same H1 (upd H1 o1 (.lst us)) := Same.new (Same.refl _) ho1
      have e2 : upd H1 o1 (.lst us) o1 = some (.lst us) := upd_same
      generalize upd H1 o1 (.lst us) = H2 at K2 e2 ⊢
      have hus2 := hus.ks (KS.same K2)
      walk_at "v"
      refine w_ths fun us2 H3 K3 hus3 => ?_
      have hl2 : us2.length = 11 := hus3.len
      refine ⟨by rw [hl2]; decide, fun o2 ho2 => ?_⟩
      have K4 : Same H3 (upd H3 o2 (.lst us2)) := Same.new (Same.refl _) ho2
      have e4 : upd H3 o2 (.lst us2) o2 = some (.lst us2) := upd_same
      generalize upd H3 o2 (.lst us2) = H4 at K4 e4 ⊢
      have hA : ThsAt H4 (us ++ us2) (tsOd1 ++ tsOd2) := (hus2.ks (KS.same (K3.trans K4))).app (hus3.ks (KS.same K4))
      have hLA : ∀ t ∈ tsOd1 ++ tsOd2, ThL n t := all_app (fun t ht => th_nn (od1_l t ht) n2) (fun t ht => th_nn (od2_l t ht) n2)
      refine ⟨o1, o2, _, _, rfl, rfl, (K3.trans K4) _ _ e2, e4, by rw [hl1, hl2]; decide, fun o3 ho3 => ?_⟩
      have hlA : (us ++ us2).length = 32 := by rw [List.length_append, hl1, hl2]
      generalize us ++ us2 = ua at hA hlA ⊢
      generalize tsOd1 ++ tsOd2 = ta at hA hLA ⊢
      have K5 : Same H4 (upd H4 o3 (.lst ua)) := Same.new (Same.refl _) ho3
      have e5 : upd H4 o3 (.lst ua) o3 = some (.lst ua) := upd_same
      generalize upd H4 o3 (.lst ua) = H5 at K5 e5 ⊢
      have hA5 := hA.ks (KS.same K5)
      have K05 := (((K1.trans K2).trans K3).trans K4).trans K5
      have F5 := fd_same K05 hF
      have ht5 := ht.ks (KS.same K05)
      have no3 : p ≠ o3 := K1P.FeedAt.ne (fd_same (((K1.trans K2).trans K3).trans K4) hF) ho3
      refine w_gname ?_
      with_reducible refine seq_post (fun σ' H' => ∃ (o : Addr) (ws : List V) (ts : List Th), σ' = [some (.ref p), some v, some (.ref o)] ∧ H' o = some (.lst ws) ∧ ThsAt H' ws ts ∧ (∀ t ∈ ts, ThL (2 * n) t) ∧ 0 < ws.length ∧ ws.length ≤ 60 ∧ Same H H' ∧ p ≠ o) ?_ fun rest => ?_
      · rintro σ' H6 ⟨o, ws, ts, rfl, eo, hws, hts, l0, l60, K6, npo⟩
        have F6 := fd_same K6 hF
        walk_at "v"
        refine ⟨o, _, rfl, eo, ?_⟩
        walk_at "v"
        refine ⟨p, _, rfl, F6, by omega, by omega, fun r x y z r0 r1 => ?_⟩
        have kp := fd_pk F6 (ys := [.int x, .int y, .int z])
        have F7 : K1P.FeedAt (upd H6 p (.lst [.int x, .int y, .int z])) p := K1P.FeedAt.here
        obtain ⟨v', hv1, hv2⟩ := at_lt (vs := ws) r0 r1
        obtain ⟨t', ht1, ht2⟩ := hws.atV hv2
        refine w_ixL (by rw [upd_ne (Ne.symm npo)]; exact eo) hv1 ?_
        walk_at "v"
        exact k v' t' _ (ThAt.pk kp ht2) (hts t' (List.mem_of_getElem? ht1)) F7 ((PK.same K6).trans kp)
      have nn : n ≤ 2 * n := by omega
      walk_at "v"
      refine ⟨_, t, rfl, ht5, ?_⟩
      walk_at "v"
      cases hk : t.isT with
      | false =>
        refine iteF ?_
        exact rest _ _ ⟨o3, ua, ta, rfl, e5, hA5, fun t ht => (hLA t ht).mono nn, by omega, by omega, K05, no3⟩
      | true =>
        refine iteT ?_
        obtain ⟨q, vs, ts, rfl, rfl, hq, hts⟩ := ThAt.tup_inv ht5 hk
        have hln := hts.len
        have hTn := hL.len
        have hTa := hL.all
        have cl : ∀ lo hi : Option Int, (cutV vs lo hi).length ≤ n := fun lo hi => by
          have h1 := (hts.cut lo hi).len
          have h2 := cutT_len (ts := ts) (lo := lo) (hi := hi)
          omega
        walk_at "v"
        refine ⟨q, _, rfl, .inr (SqT.of hq), fun l1 hl1 => ?_⟩
        have KL : Same H5 (upd H5 l1 (.lst vs)) := Same.new (Same.refl _) hl1
        have eL : upd H5 l1 (.lst vs) l1 = some (.lst vs) := upd_same
        generalize upd H5 l1 (.lst vs) = HL at KL eL ⊢
        walk_at "v"
        refine ⟨by show 1 ≤ sizeLine; decide, fun z0 hz0 => ?_⟩
        have KZ : Same HL (upd HL z0 (.tup [.int 0])) := Same.new (Same.refl _) hz0
        have eZ : upd HL z0 (.tup [.int 0]) z0 = some (.tup [.int 0]) := upd_same
        generalize upd HL z0 (.tup [.int 0]) = HZ at KZ eZ ⊢
        have KLZ := KL.trans KZ
        refine ⟨q, z0, _, _, rfl, rfl, KLZ _ _ hq, eZ, by show vs.length + 1 ≤ 1000; omega, fun qb HB KB eB => ?_⟩
        have KLB := KLZ.trans KB
        walk_at "v"
        refine ⟨_, rfl, ?_⟩
        walk_at "v"
        refine ⟨q, _, rfl, KLB _ _ hq, fun qc HC KC eC => ?_⟩
        have KLC := KLB.trans KC
        walk_at "v"
        refine ⟨_, rfl, ?_⟩
        walk_at "v"
        refine ⟨q, _, rfl, KLC _ _ hq, fun qd HD KD eD => ?_⟩
        have KLD := KLC.trans KD
        refine ⟨q, qd, _, _, rfl, rfl, KLD _ _ hq, eD, by have := cl none (some 1); omega, fun qe HE KE eE => ?_⟩
        have KLE := KLD.trans KE
        walk_at "v"
        refine ⟨_, rfl, ?_⟩
        walk_at "v"
        refine ⟨q, _, rfl, KLE _ _ hq, fun qf HF KF eF => ?_⟩
        have KLF := KLE.trans KF
        walk_at "v"
        refine w_rev ?_
        walk_at "v"
        refine ⟨q, _, rfl, KLF _ _ hq, fun qg hqg => ?_⟩
        have KG : Same HF (upd HF qg (.tup vs.reverse)) := Same.new (Same.refl _) hqg
        have eG : upd HF qg (.tup vs.reverse) qg = some (.tup vs.reverse) := upd_same
        generalize upd HF qg (.tup vs.reverse) = HG at KG eG ⊢
        have KLG := KLF.trans KG
        walk_at "v"
        refine ⟨q, _, rfl, rfl, KLG _ _ hq, by omega, fun qh HH KH eH => ?_⟩
        have KLH := KLG.trans KH
        walk_at "v"
        refine ⟨by show 7 ≤ sizeLine; decide, fun o4 ho4 => ?_⟩
        have hJ : ThsAt HH vs ts := hts.ks (KS.same KLH)
        have hall : ThsAt HH [.ref l1, .ref qb, .ref qc, .ref qe, .ref qf, .ref qg, .ref qh] [.lst, .tup (ts ++ [.int 0]), .tup (cutT ts none (some (-1))), .tup (ts ++ cutT ts none (some 1)), .tup (cutT ts (some 1) none), .tup ts.reverse, .tup (ts ++ ts)] :=
          .cons (.lst (((((((KZ.trans KB).trans KC).trans KD).trans KE).trans KF).trans (KG.trans KH)) _ _ eL)) (.cons (.tup ((((KC.trans KD).trans KE).trans KF).trans (KG.trans KH) _ _ eB) (hJ.app (.cons (.int 0) .nil))) (.cons (.tup (((KD.trans KE).trans KF).trans (KG.trans KH) _ _ eC) (hJ.cut _ _))
            (.cons (.tup ((KF.trans (KG.trans KH)) _ _ eE) (hJ.app (hJ.cut _ _))) (.cons (.tup ((KG.trans KH) _ _ eF) (hJ.cut _ _)) (.cons (.tup (KH _ _ eG) hJ.rev) (.cons (.tup eH (hJ.app hJ)) .nil))))))
        have hTm : ∀ t ∈ ts, ThL (2 * n) t := fun t ht => (hTa t ht).mono nn
        have hc : ∀ lo hi t, t ∈ cutT ts lo hi → ThL (2 * n) t := fun lo hi t h => hTm t (cutT_mem h)
        have clt : ∀ lo hi : Option Int, (cutT ts lo hi).length ≤ ts.length := fun lo hi => cutT_len
        have hsm : ∀ t ∈ ([.lst, .tup (ts ++ [.int 0]), .tup (cutT ts none (some (-1))), .tup (ts ++ cutT ts none (some 1)), .tup (cutT ts (some 1) none), .tup ts.reverse, .tup (ts ++ ts)] : List Th), ThL (2 * n) t := by
          refine all_c .lst (all_c (.tup ?_ ?_) (all_c (.tup ?_ ?_) (all_c (.tup ?_ ?_) (all_c (.tup ?_ ?_) (all_c (.tup ?_ ?_) (all_c (.tup ?_ ?_) all_n))))))
          · rw [List.length_append]; show ts.length + 1 ≤ _; omega
          · exact all_app hTm (all_c (.int (by decide)) all_n)
          · have := clt none (some (-1)); omega
          · exact hc _ _
          · rw [List.length_append]; have := clt none (some 1); omega
          · exact all_app hTm (hc _ _)
          · have := clt (some 1) none; omega
          · exact hc _ _
          · rw [List.length_reverse]; omega
          · exact fun t ht => hTm t (List.mem_reverse.mp ht)
          · rw [List.length_append]; omega
          · exact all_app hTm hTm
        have hl7 : ([.ref l1, .ref qb, .ref qc, .ref qe, .ref qf, .ref qg, .ref qh] : List V).length = 7 := rfl
        generalize ([.ref l1, .ref qb, .ref qc, .ref qe, .ref qf, .ref qg, .ref qh] : List V) = w7 at hall hl7 ⊢
        generalize ([.lst, .tup (ts ++ [.int 0]), .tup (cutT ts none (some (-1))), .tup (ts ++ cutT ts none (some 1)), .tup (cutT ts (some 1) none), .tup ts.reverse, .tup (ts ++ ts)] : List Th) = t7 at hall hsm ⊢
        have KO : Same HH (upd HH o4 (.lst w7)) := Same.new (Same.refl _) ho4
        have eO : upd HH o4 (.lst w7) o4 = some (.lst w7) := upd_same
        generalize upd HH o4 (.lst w7) = HO at KO eO ⊢
        have KLO := KLH.trans KO
        refine ⟨o3, o4, _, _, rfl, rfl, KLO _ _ e5, eO, by rw [hlA, hl7]; decide, fun o5 ho5 => ?_⟩
        have hfin : ThsAt HO (ua ++ w7) (ta ++ t7) := (hA5.ks (KS.same KLO)).app (hall.ks (KS.same KO))
        have hlf : (ua ++ w7).length = 39 := by rw [List.length_append, hlA, hl7]
        have KP : Same HO (upd HO o5 (.lst (ua ++ w7))) := Same.new (Same.refl _) ho5
        have eP : upd HO o5 (.lst (ua ++ w7)) o5 = some (.lst (ua ++ w7)) := upd_same
        generalize upd HO o5 (.lst (ua ++ w7)) = HP at KP eP ⊢
        refine w_gname ?_
        exact rest _ _ ⟨o5, ua ++ w7, ta ++ t7, rfl, eP, hfin.ks (KS.same KP), all_app (fun t ht => (hLA t ht).mono nn) hsm, by omega, by omega, (K05.trans KLO).trans KP, K1P.FeedAt.ne (fd_same KLO F5) ho5⟩
end
end K01

set_option Elab.async false
set_option linter.all false
set_option maxRecDepth 100000
namespace K01
open PySem L2 G2
local macro_rules | `(tactic| walk_at "v") => `(tactic| repeat (with_reducible first
  | refine w_seq ?_ | refine w_asg ?_ | refine w_gname ?_ | refine w_op ?_ | refine w_var rfl ?_ | refine w_c ?_ | refine w_rI0 ?_ | refine w_ifs ?_ | refine w_ife ?_ | refine w_test ?_ | refine w_tb ?_ | refine w_bl ?_ | refine w_not ?_ | refine w_ret ?_ | refine w_retN ?_
  | refine w_nil ?_ | refine w_cons ?_ | refine w_lst ?_ | refine w_tup ?_ | refine w_cb ?_ | refine w_call ?_ | refine w_gsub ?_ | refine w_and ?_ | refine w_or ?_ | refine w_next ?_ | refine w_all ?_ | refine w_vals ?_ | refine w_compR ?_ | refine w_compT ?_ | refine w_forR ?_ | refine w_forT ?_ | refine w_forL ?_ | refine w_drop ?_ | refine w_bm ?_ | refine w_compZ ?_ | refine w_compL ?_ | refine w_chain ?_ | refine w_sl ?_ | refine w_nopart ?_ | refine w_part ?_ | refine w_unI ?_ | refine iteT ?_ | refine iteF ?_))

abbrev sBt : Stmt := top 39
abbrev nBt : List Str := ["_law_feed_here", "_law_thing", "_law_deep", "_law_k"]
theorem nmBt : Nm nBt (defScope sBt) := ⟨by decide +kernel, by decide +kernel⟩
theorem scBt : FnScope nBt ["_law_feed_here", "_law_thing", "_law_deep"] (defScope sBt) := ⟨rfl, rfl, rfl, by decide +kernel, rfl, by decide +kernel, by decide +kernel⟩
def spBt (d : Nat) : Sp := fun vs H Q _ => ∃ (p : Addr) (v : V) (t : Th) (n : Nat) (deep : Int), vs = [.ref p, v, .int deep] ∧ 1 ≤ d ∧ deep + d = 7 ∧ 0 ≤ deep ∧ K1P.FeedAt H p ∧ ThAt H v t ∧ ThL n t ∧ 2 ≤ n ∧ n ≤ 150 ∧ ∀ (v' : V) (t' : Th) (H' : Hp), ThAt H' v' t' → ThL (3 * n) t' → K1P.FeedAt H' p → PK p H H' → Q v' H'
section
variable {P : Program} {w : World} {K : PySem.W.Frag} {mg : Str → Option Value} {base : Heap}
theorem fn_no {f : Addr} {fd : FuncData} {k : Nat} {ps : List Str} : FnOk P w K mg base CX0 k f fd ps (spBt 0) := ⟨fun _ _ _ _ ⟨_, _, _, _, _, _, h, _⟩ => absurd h (by decide), fun _ _ _ _ _ _ _ _ _ _ _ _ _ ⟨_, _, _, _, _, _, h, _⟩ => absurd h (by decide)⟩
set_option maxHeartbeats 4000000 in
theorem ok_Bt {f : Addr} {fd : FuncData} {d : Nat} (B : Blt mg) (D : Has P w K mg base 1 "_law_draw" ["_law_feed_here", "_law_many"] K1P.spDraw) (fO : Has P w K mg base 2 "_law_odd" ["_law_feed_here", "_law_thing"] spOd) (fR : Has P w K mg base (d + 2) "_law_bent" ["_law_feed_here", "_law_thing", "_law_deep"] (spBt d)) (F : Fun K "_law_bent" "_law_bent" sBt f fd) : FnOk P w K mg base CX0 (d + 3) f fd ["_law_feed_here", "_law_thing", "_law_deep"] (spBt (d + 1)) := by
  refine F.ok scBt (fun vs H Q E h => ?_) (fun cdv A outer s H vs Q E hr h => ?_)
  · obtain ⟨p, v, t, n, deep, rfl, _⟩ := h
    rfl
  · obtain ⟨p, v, t, n, deep, rfl, hd1, hd7, hd0, hF, ht, hL, n2, n150, k⟩ := h
    refine' ⟨_, ?hb, ?rd⟩
    case hb =>
      refine' pss_cons ?s1 ?r1
      case' r1 => refine' pss_one ?s2
      case s2 => exact ps_ret (pe_f fO hr (by omega) (pa_2 (pvd nmBt 0) (pvd nmBt 1)))
      case s1 =>
        refine' ps_if ?a1 ?a2 pss_nil
        case' a1 => refine' PW.pt ?a3
        case' a3 => refine' pw_and (pt_val (pe_cB is_tup B.isi PyProof.Rows.boot_isinstance (pa_2 (pvd nmBt 1) (pe_bltn (v := .ty "tuple") rfl B.tuple PyProof.Rows.boot_tuple rfl)))) ?a4
        case' a4 => refine' pw_and (pt_cmpR op_gt (pe_cB call_lnT B.len PySem.boot_len (pa_1 (pvd nmBt 1))) pe_int (nomark _)) ?a5
        case' a5 => refine' pw_and (pt_cmpR op_lt (pvd nmBt 2) pe_int (nomark _)) ?a6
        case' a6 => refine' pw_and1 ?a7
        case a7 => exact pt_cmpR op_gt (pe_f D hr (by omega) (pa_2 (pvd nmBt 0) pe_int)) pe_int (nomark _)
        case' a2 => refine' pss_cons ?b1 ?b2
        case b1 => exact ps_setD nmBt 3 (pe_f D hr (by omega) (pa_2 (pvd nmBt 0) (pe_cB call_lnT B.len PySem.boot_len (pa_1 (pvd nmBt 1)))))
        case' b2 => refine' pss_one ?b3
        case' b3 => refine' ps_ret ?b4
        case' b4 => refine' pe_op op_catG ?b5 ?b6
        case' b5 => refine' pe_op op_catG (pe_slice sl_tupG (pvd nmBt 1) po_none (po_some (pvd nmBt 3))) ?b7
        case' b7 => refine' pe_tup ?b8
        case' b8 => refine' pa_1 ?b9
        case b9 => exact pe_f fR hr (by omega) (pa_c (pvd nmBt 0) (pa_2 (pe_ix ix_d (pvd nmBt 1) (pvd nmBt 3) (fun _ _ => rfl)) (pe_op op_add (pvd nmBt 2) pe_int)))
        case b6 => exact pe_slice sl_tupG (pvd nmBt 1) (po_some (pe_op op_add (pvd nmBt 3) pe_int)) po_none
    case rd =>
      with_reducible refine seq_post (fun σ' H' => ∃ u3 : Option V, σ' = [some (.ref p), some v, some (.int deep), u3] ∧ ThAt H' v t ∧ K1P.FeedAt H' p ∧ PK p H H') ?_ fun rest => ?_
      · rintro σ' H1 ⟨u3, rfl, ht1, F1, KS1⟩
        walk_at "v"
        refine ⟨p, v, t, n, rfl, F1, ht1, hL, n2, n150, fun v' t' H' h1 h2 h3 h4 => ?_⟩
        walk_at "v"
        exact k v' t' H' h1 (h2.mono (by omega)) h3 (KS1.trans h4)
      walk_at "v"
      refine ⟨_, t, rfl, ht, ?_⟩
      walk_at "v"
      cases hk : t.isT with
      | false =>
        refine iteF ?_
        refine iteF ?_
        exact rest _ _ ⟨none, rfl, ht, hF, PK.refl⟩
      | true =>
        refine iteT ?_
        obtain ⟨q, vs, ts, rfl, rfl, hq, hts⟩ := ThAt.tup_inv ht hk
        have hln := hts.len
        have hTn := hL.len
        have hTa := hL.all
        walk_at "v"
        refine ⟨q, _, rfl, hq, ?_⟩
        walk_at "v"
        refine iteD (fun hpos => ?_) (fun _ => ?_)
        · walk_at "v"
          refine iteD (fun hdp => ?_) (fun _ => ?_)
          · walk_at "v"
            refine ⟨p, 4, rfl, hF, by decide, by decide, fun r x y z r0 r1 => ?_⟩
            have KS1 := fd_pk hF (ys := [.int x, .int y, .int z])
            have F1 : K1P.FeedAt (upd H p (.lst [.int x, .int y, .int z])) p := K1P.FeedAt.here
            generalize upd H p (.lst [.int x, .int y, .int z]) = H1 at KS1 F1 ⊢
            walk_at "v"
            refine iteD (fun _ => ?_) (fun _ => ?_)
            · walk_at "v"
              refine ⟨q, _, rfl, KS1.t _ _ hq, ?_⟩
              walk_at "v"
              refine ⟨p, _, rfl, F1, by omega, by omega, fun at' x y z a0 a1 => ?_⟩
              have KS2 := KS1.trans (fd_pk F1 (ys := [.int x, .int y, .int z]))
              have F2 : K1P.FeedAt (upd H1 p (.lst [.int x, .int y, .int z])) p := K1P.FeedAt.here
              generalize upd H1 p (.lst [.int x, .int y, .int z]) = H2 at KS2 F2 ⊢
              have hts2 := ThsAt.pk KS2 hts
              have hq2 := KS2.t _ _ hq
              have len1 : ∀ lo hi : Option Int, (cutV vs lo hi).length ≤ n := fun lo hi => by
                have h1 := (hts2.cut lo hi).len
                have h2 := cutT_len (ts := ts) (lo := lo) (hi := hi)
                omega
              walk_at "v"
              refine ⟨_, rfl, ?_⟩
              walk_at "v"
              refine ⟨q, _, rfl, hq2, fun qa HA KA eA => ?_⟩
              walk_at "v"
              obtain ⟨v1, hv1, hv2⟩ := at_lt (vs := vs) a0 a1
              obtain ⟨t1, ht1, ht2⟩ := (hts2.ks (KS.same KA)).atV hv2
              refine w_ixT (KA _ _ hq2) hv1 ?_
              walk_at "v"
              refine ⟨p, v1, t1, n, _, rfl, by omega, by omega, by omega, fd_same KA F2, ht2, hTa t1 (List.mem_of_getElem? ht1), n2, n150, fun v' t' HB hB sB TB KB => ?_⟩
              walk_at "v"
              refine ⟨by show 1 ≤ sizeLine; decide, fun z hz => ?_⟩
              have KZ : Same HB (upd HB z (.tup [v'])) := Same.new (Same.refl _) hz
              have eZ : upd HB z (.tup [v']) z = some (.tup [v']) := upd_same
              generalize upd HB z (.tup [v']) = HZ at KZ eZ ⊢
              refine ⟨qa, z, _, _, rfl, rfl, KZ _ _ (KB.t _ _ eA), eZ, by have := len1 none (some at'); show _ + 1 ≤ 1000; omega, fun qc HC KC eC => ?_⟩
              have KBC := KZ.trans KC
              have KSC := (KS2.trans (PK.same KA)).trans (KB.trans (PK.same KBC))
              walk_at "v"
              refine ⟨_, rfl, ?_⟩
              walk_at "v"
              refine ⟨q, _, rfl, KSC.t _ _ hq, fun qe HE KE eE => ?_⟩
              refine ⟨qc, qe, _, _, rfl, rfl, KE _ _ eC, eE, by rw [List.length_append]; have := len1 none (some at'); have := len1 (some (at' + 1)) none; show _ + 1 + _ ≤ 1000; omega, fun qf HF' KF eF => ?_⟩
              have KCF := KE.trans KF
              have KSF := KSC.trans (PK.same KCF)
              have hF2 := ThsAt.pk KSF hts
              have cl := @cutT_len ts
              walk_at "v"
              refine k (.ref qf) (.tup ((cutT ts none (some at') ++ [t']) ++ cutT ts (some (at' + 1)) none)) HF' (.tup eF (((hF2.cut _ _).app (.cons (hB.ks (KS.same (KBC.trans KCF))) .nil)).app (hF2.cut _ _))) ?_ (fd_same (KBC.trans KCF) TB) KSF
              refine .tup (by rw [List.length_append, List.length_append]; have := cl (lo := none) (hi := some at'); have := cl (lo := some (at' + 1)) (hi := none); have l1 : [t'].length = 1 := rfl; omega) fun u hu => ?_
              rcases List.mem_append.mp hu with z | z
              · rcases List.mem_append.mp z with z | z
                · exact (hTa u (cutT_mem z)).mono (by omega)
                · rw [List.mem_singleton.mp z]
                  exact sB
              · exact (hTa u (cutT_mem z)).mono (by omega)
            · exact rest _ _ ⟨none, rfl, ThAt.pk KS1 ht, F1, KS1⟩
          · exact rest _ _ ⟨none, rfl, ht, hF, PK.refl⟩
        · exact rest _ _ ⟨none, rfl, ht, hF, PK.refl⟩
end
end K01

set_option Elab.async false
set_option linter.all false
set_option maxRecDepth 100000
namespace K01
open PySem L2 G2
local macro_rules | `(tactic| walk_at "v") => `(tactic| repeat (with_reducible first
  | refine w_seq ?_ | refine w_asg ?_ | refine w_gname ?_ | refine w_op ?_ | refine w_var rfl ?_ | refine w_c ?_ | refine w_rI0 ?_ | refine w_ifs ?_ | refine w_ife ?_ | refine w_test ?_ | refine w_tb ?_ | refine w_bl ?_ | refine w_not ?_ | refine w_ret ?_ | refine w_retN ?_
  | refine w_nil ?_ | refine w_cons ?_ | refine w_lst ?_ | refine w_tup ?_ | refine w_cb ?_ | refine w_call ?_ | refine w_gsub ?_ | refine w_and ?_ | refine w_or ?_ | refine w_next ?_ | refine w_all ?_ | refine w_vals ?_ | refine w_compR ?_ | refine w_compT ?_ | refine w_forR ?_ | refine w_forT ?_ | refine w_forL ?_ | refine w_drop ?_ | refine w_bm ?_ | refine w_compZ ?_ | refine w_compL ?_ | refine w_chain ?_ | refine w_sl ?_ | refine w_nopart ?_ | refine w_part ?_ | refine w_unI ?_ | refine iteT ?_ | refine iteF ?_))

abbrev sNr : Stmt := top 46
abbrev nNr : List Str := ["_law_feed_here", "_law_some", "_law_thing"]
theorem nmNr : Nm nNr (defScope sNr) := ⟨by decide +kernel, by decide +kernel⟩
theorem scNr : FnScope nNr ["_law_feed_here"] (defScope sNr) := ⟨rfl, rfl, rfl, by decide +kernel, rfl, by decide +kernel, by decide +kernel⟩

def tsNr1 : List Th := [.str "sorts", .str "begin", .str "in", .str "out", .str "rule", .str "to", .str "", .str "A", .str "aB", .str "a b", .str " a", .str "a1", .str "abcdefgh", .str "abcdefghi"]
def tsNr2 : List Th := [.non, .int 1, .bl true, .tup [], .lst, .tup [.str "a"], .lst, .str "ino", .str "i", .str "sort", .str "rules", .dct, .str "a/"]
theorem nr1_l : ∀ t ∈ tsNr1, ThL 2 t := by
  unfold tsNr1
  repeat (first | exact all_n | exact .non | exact .bl _ | exact .lst | exact .dct | exact .int (by decide +kernel) | exact .str (by decide +kernel) | refine all_c ?_ ?_ | refine .tup (by decide) ?_)
theorem nr2_l : ∀ t ∈ tsNr2, ThL 2 t := by
  unfold tsNr2
  repeat (first | exact all_n | exact .non | exact .bl _ | exact .lst | exact .dct | exact .int (by decide +kernel) | exact .str (by decide +kernel) | refine all_c ?_ ?_ | refine .tup (by decide) ?_)
theorem Shw.bl (b : Bool) : G2.Shw (.bool b) 5 0 := by cases b <;> exact ⟨rfl, rfl, Nat.zero_le _, by decide⟩
theorem ths_strs {H : Hp} : ∀ (nm : List Str), ThsAt H (nm.map V.str) (nm.map Th.str)
  | [] => .nil
  | x :: nm => .cons (.str x) (ths_strs nm)
theorem ths_intl {H : Hp} : ∀ (ns : List Int), ThsAt H (ns.map V.int) (ns.map Th.int)
  | [] => .nil
  | x :: ns => .cons (.int x) (ths_intl ns)
theorem names_l {m : Nat} {nm : List Str} {n : Nat} (h : K1P.Names m nm) : ∀ t ∈ nm.map Th.str, ThL n t := fun t ht => by
  obtain ⟨x, hx, rfl⟩ := List.mem_map.mp ht
  have : ∀ x ∈ K1P.names12, x.length ≤ 1000 := by decide +kernel
  exact .str (this x (h.2.2 x hx))
theorem pk_but {p : Addr} {H H' : Hp} (F : K1P.FeedAt H p) (F' : K1P.FeedAt H' p) (b : K1P.But p H H') : PK p H H' := by
  obtain ⟨x, y, z, e⟩ := F
  obtain ⟨x', y', z', e'⟩ := F'
  refine ⟨⟨fun q xs h => b q _ h (ne_of h e (by intro z; cases z)), fun q xs h => ?_, fun q xs h => ⟨_, b q _ h (ne_of h e (by intro z; cases z))⟩⟩, fun q o hq h => b q o h hq⟩
  by_cases hq : q = p
  · rw [hq]; exact ⟨_, e'⟩
  · exact ⟨_, b q _ h hq⟩
def spNr : Sp := fun vs H Q _ => ∃ p : Addr, vs = [.ref p] ∧ K1P.FeedAt H p ∧ ∀ H', K1P.FeedAt H' p → PK p H H' → Q (.bl true) H'
section
variable {P : Program} {w : World} {K : PySem.W.Frag} {mg : Str → Option Value} {base : Heap}
set_option maxHeartbeats 4000000 in
theorem ok_Nr {f : Addr} {fd : FuncData} (hrp : mg "repr" = none) (fN : Has P w K mg base 2 "_law_names" ["_law_feed_here", "_law_many"] K1P.spNames) (fI : Has P w K mg base 1 "is_name" ["thing"] (spT nameT)) (fL : Has P w K mg base 1 "_law_is_name" ["_law_thing"] (spT nameT)) (F : Fun K "_law_names_right" "_law_names_right" sNr f fd) : FnOk P w K mg base CX0 3 f fd ["_law_feed_here"] spNr := by
  refine F.ok scNr (fun vs H Q E h => ?_) (fun cdv A outer s H vs Q E hr h => ?_)
  · obtain ⟨p, rfl, _⟩ := h
    rfl
  · obtain ⟨p, rfl, hF, k⟩ := h
    refine' ⟨_, ?hb, ?rd⟩
    case hb =>
      refine' pss_cons ?s1 ?r1
      case' r1 => refine' pss_cons ?s2 ?r2
      case' r2 => refine' pss_cons ?s3 ?r3
      case' r3 => refine' pss_one ?s4
      case s4 => exact ps_ret pe_bl
      case s1 =>
        refine' ps_setD nmNr 1 ?y0
        case' y0 => refine' pe_lst ?x0
        case x0 =>
          with_reducible refine pa_thsOf (n := 4) (ts := tsNr1) ?_
          kernel_rfl
      case s2 =>
        refine' ps_setD nmNr 1 ?z0
        case' z0 => refine' pe_op op_cat ?z1 ?z5
        case z5 => exact pe_f fN hr (by decide) (pa_2 (pvd nmNr 0) pe_int)
        case' z1 => refine' pe_op op_cat (pvd nmNr 1) ?z2
        case' z2 => refine' pe_lst ?z3
        case z3 =>
          with_reducible refine pa_thsOf (n := 4) (ts := tsNr2) ?_
          kernel_rfl
      case s3 =>
        refine' ps_for PassesOwn.never rfl (pi_list (pvd nmNr 1)) (pgd nmNr 2) ?b1
        case' b1 => refine' pss_one ?b2
        case' b2 => refine' ps_if ?b3 (pss_one (ps_ret pe_bl)) pss_nil
        case' b3 => refine' pt_cmpR op_ne ?b4 ?b5 (nomark _)
        case b4 => exact (pe_cB (call_repr hr) hrp PyProof.Rows.boot_repr (pa_1 (pe_f fI hr (by decide) (pa_1 (pvd nmNr 2)))))
        case b5 => exact (pe_cB (call_repr hr) hrp PyProof.Rows.boot_repr (pa_1 (pe_f fL hr (by decide) (pa_1 (pvd nmNr 2)))))
    case rd =>
      walk_at "v"
      refine w_ths fun us H1 K1 hus => ?_
      have hl1 : us.length = 14 := hus.len
      refine ⟨by rw [hl1]; decide, fun o1 ho1 => ?_⟩
      have K2 : Same H1 (upd H1 o1 (.lst us)) := Same.new (Same.refl _) ho1
      have e2 : upd H1 o1 (.lst us) o1 = some (.lst us) := upd_same
      generalize upd H1 o1 (.lst us) = H2 at K2 e2 ⊢
      have hus2 := hus.ks (KS.same K2)
      walk_at "v"
      refine w_ths fun us2 H3 K3 hus3 => ?_
      have hl2 : us2.length = 13 := hus3.len
      refine ⟨by rw [hl2]; decide, fun o2 ho2 => ?_⟩
      have K4 : Same H3 (upd H3 o2 (.lst us2)) := Same.new (Same.refl _) ho2
      have e4 : upd H3 o2 (.lst us2) o2 = some (.lst us2) := upd_same
      generalize upd H3 o2 (.lst us2) = H4 at K4 e4 ⊢
      have hA : ThsAt H4 (us ++ us2) (tsNr1 ++ tsNr2) := (hus2.ks (KS.same (K3.trans K4))).app (hus3.ks (KS.same K4))
      have hLA : ∀ t ∈ tsNr1 ++ tsNr2, ThL 2 t := all_app nr1_l nr2_l
      refine ⟨o1, o2, _, _, rfl, rfl, (K3.trans K4) _ _ e2, e4, by rw [hl1, hl2]; decide, fun o3 ho3 => ?_⟩
      have hlA : (us ++ us2).length = 27 := by rw [List.length_append, hl1, hl2]
      generalize us ++ us2 = ua at hA hlA ⊢
      generalize tsNr1 ++ tsNr2 = ta at hA hLA ⊢
      have K5 : Same H4 (upd H4 o3 (.lst ua)) := Same.new (Same.refl _) ho3
      have e5 : upd H4 o3 (.lst ua) o3 = some (.lst ua) := upd_same
      generalize upd H4 o3 (.lst ua) = H5 at K5 e5 ⊢
      have hA5 := hA.ks (KS.same K5)
      have K05 := (((K1.trans K2).trans K3).trans K4).trans K5
      have F5 := fd_same K05 hF
      walk_at "v"
      refine ⟨p, 12, rfl, F5, by decide, by decide, fun nl nm H6 hnl hNm F6 B6 enl => ?_⟩
      have KP6 := pk_but F5 F6 B6
      have no3 : o3 ≠ p := fun z => by
        have := K1P.FeedAt.ne (fd_same (((K1.trans K2).trans K3).trans K4) hF) ho3
        exact this z.symm
      have e6 : H6 o3 = some (.lst ua) := B6 _ _ e5 no3
      refine ⟨o3, nl, _, _, rfl, rfl, e6, enl, by rw [hlA, List.length_map, hNm.1]; decide, fun o4 ho4 => ?_⟩
      have hB : ThsAt H6 (ua ++ nm.map V.str) (ta ++ nm.map Th.str) := (ThsAt.pk KP6 hA5).app (ths_strs nm)
      have hLB : ∀ t ∈ ta ++ nm.map Th.str, ThL 2 t := all_app hLA (names_l hNm)
      have hlB : (ua ++ nm.map V.str).length = 39 := by rw [List.length_append, hlA, List.length_map, hNm.1]
      generalize ua ++ nm.map V.str = ub at hB hlB ⊢
      generalize ta ++ nm.map Th.str = tb at hB hLB ⊢
      have K7 : Same H6 (upd H6 o4 (.lst ub)) := Same.new (Same.refl _) ho4
      have e7 : upd H6 o4 (.lst ub) o4 = some (.lst ub) := upd_same
      generalize upd H6 o4 (.lst ub) = H7 at K7 e7 ⊢
      have hB7 := hB.ks (KS.same K7)
      have F7 := fd_same K7 F6
      have KP7 : PK p H H7 := ((PK.same K05).trans KP6).trans (PK.same K7)
      walk_at "v"
      refine ⟨o4, rfl, ⟨_, SqL.of e7⟩, ?_⟩
      refine for_list (xs := ub) (fun i σ H' => ∃ u2 : Option V, σ = [some (.ref p), some (.ref o4), u2] ∧ Same H7 H') ⟨none, rfl, Same.refl _⟩ (fun i σ H' _ ⟨_, _, k'⟩ => SqL.of (k' _ _ e7)) ?_ ?_
      · rintro i xv σ H8 hx ⟨u2, rfl, K8⟩
        obtain ⟨t, ht1, ht2⟩ := hB7.atV hx
        have hLt := hLB t (List.mem_of_getElem? ht1)
        walk_at "v"
        refine ⟨xv, t, 2, rfl, ht2.ks (KS.same K8), hLt, by decide, fun H9 K9 => ?_⟩
        walk_at "v"
        refine G2.w_shw (.bl _) (Shw.bl _) (by decide) (by decide) ?_
        walk_at "v"
        refine ⟨xv, t, 2, rfl, ht2.ks (KS.same (K8.trans K9)), hLt, by decide, fun HA KA => ?_⟩
        walk_at "v"
        refine G2.w_shw (.bl _) (Shw.bl _) (by decide) (by decide) ?_
        walk_at "v"
        refine ⟨rfl, ?_⟩
        walk_at "v"
        refine iteNS rfl ?_
        exact ⟨_, rfl, (K8.trans K9).trans KA⟩
      · rintro σ H8 ⟨u2, rfl, K8⟩
        walk_at "v"
        exact k _ (fd_same K8 F7) (KP7.trans (PK.same K8))
end
end K01

set_option Elab.async false
set_option linter.all false
set_option maxRecDepth 100000
namespace K01
open PySem L2 G2
local macro_rules | `(tactic| walk_at "v") => `(tactic| repeat (with_reducible first
  | refine w_seq ?_ | refine w_asg ?_ | refine w_gname ?_ | refine w_op ?_ | refine w_var rfl ?_ | refine w_c ?_ | refine w_rI0 ?_ | refine w_ifs ?_ | refine w_ife ?_ | refine w_test ?_ | refine w_tb ?_ | refine w_bl ?_ | refine w_not ?_ | refine w_ret ?_ | refine w_retN ?_
  | refine w_nil ?_ | refine w_cons ?_ | refine w_lst ?_ | refine w_tup ?_ | refine w_cb ?_ | refine w_call ?_ | refine w_gsub ?_ | refine w_and ?_ | refine w_or ?_ | refine w_next ?_ | refine w_all ?_ | refine w_vals ?_ | refine w_compR ?_ | refine w_compT ?_ | refine w_forR ?_ | refine w_forT ?_ | refine w_forL ?_ | refine w_drop ?_ | refine w_bm ?_ | refine w_compZ ?_ | refine w_compL ?_ | refine w_chain ?_ | refine w_sl ?_ | refine w_nopart ?_ | refine w_part ?_ | refine w_unI ?_ | refine iteT ?_ | refine iteF ?_))

abbrev sRr : Stmt := top 47
abbrev nRr : List Str := ["_law_feed_here", "_law_many", "_law_row", "_law_things", "_law_k", "_law_thing", "_law_due"]
theorem nmRr : Nm nRr (defScope sRr) := ⟨by decide +kernel, by decide +kernel⟩
theorem scRr : FnScope nRr ["_law_feed_here", "_law_many"] (defScope sRr) := ⟨rfl, rfl, rfl, by decide +kernel, rfl, by decide +kernel, by decide +kernel⟩
def asgCallComp (s : Stmt) : Scope := match s with
  | .Assign _ (.Call _ [.ListComp _ _ sc _] _ _) _ => sc
  | _ => { kind := .function, names := [], isGenerator := false, isCoroutine := false }
def lstComp (n : Nat) (s : Stmt) : Scope := match (lisEs s).getD n (.Constant .none 0 ⟨0, 0, 0, 0⟩) with
  | .Call _ [.ListComp _ _ sc _] _ _ => sc
  | _ => { kind := .function, names := [], isGenerator := false, isCoroutine := false }
abbrev cRr1 : Scope := asgCallComp ((defBody sRr).getD 0 (.Pass ⟨0, 0, 0, 0⟩))
abbrev cRr2 : Scope := lstComp 9 ((defBody sRr).getD 1 (.Pass ⟨0, 0, 0, 0⟩))
theorem bsRr1 : BScope (defScope sRr) cRr1 ["_law_k"] ["_law_feed_here"] ["_law_draw"] := { okind := by decide +kernel, kind := by decide +kernel, nocell := by decide +kernel, names := by decide +kernel, fr := by decide +kernel, ff := by decide +kernel, nd := by decide +kernel, vis := by decide +kernel, loc := by decide +kernel, gl := by decide +kernel }
theorem bsRr2 : BScope (defScope sRr) cRr2 ["_law_one"] [] [] := { okind := by decide +kernel, kind := by decide +kernel, nocell := by decide +kernel, names := by decide +kernel, fr := by decide +kernel, ff := by decide +kernel, nd := by decide +kernel, vis := by decide +kernel, loc := by decide +kernel, gl := by decide +kernel }

theorem pick4 {r b big : Int} (h0 : 0 ≤ r) (h1 : r < 4) (b0 : 0 ≤ b) (b1 : b < 100) (g0 : 0 ≤ big) (g1 : big ≤ 10 ^ 30) : ∃ m : Int, 0 ≤ m ∧ m ≤ 10 ^ 30 ∧ atI ([.int 0, .int 1, .int big, .int b] : List V) r = some (.int m) := by
  obtain ⟨j, rfl⟩ := ofI h0
  have : j = 0 ∨ j = 1 ∨ j = 2 ∨ j = 3 := by omega
  have h9 : (100 : Int) ≤ 10 ^ 30 := by decide +kernel
  rcases this with rfl | rfl | rfl | rfl
  · exact ⟨0, by decide, by omega, rfl⟩
  · exact ⟨1, by decide, by omega, rfl⟩
  · exact ⟨big, g0, g1, rfl⟩
  · exact ⟨b, by omega, by omega, rfl⟩
theorem PK.put {p a : Addr} {H H' : Hp} {o : HO} (k : PK p H H') (h : H a = none) : PK p H (upd H' a o) :=
  ⟨⟨fun q xs e => by rw [upd_ne (ne_of_none e h)]; exact k.t _ _ e, fun q xs e => by rw [upd_ne (ne_of_none e h)]; exact k.l _ _ e, fun q xs e => by rw [upd_ne (ne_of_none e h)]; exact k.d _ _ e⟩, fun q o hq e => by rw [upd_ne (ne_of_none e h)]; exact k.bp _ _ hq e⟩
theorem PK.none {p a : Addr} {H H' : Hp} (k : PK p H H') (hp : p ≠ a) (h : H' a = none) : H a = none := by
  cases e : H a with
  | none => rfl
  | some o => rw [k.bp a o (Ne.symm hp) e] at h; cases h
theorem wI_big {n : Nat} {t : Th} {hi : Int} (h : ThL n t) (hh : (10 : Int) ^ 40 ≤ hi) : wI 0 hi t = ge0 t := by
  cases t with
  | int i =>
    have := h.i
    show (decide (0 ≤ i) && decide (i ≤ hi)) = decide (0 ≤ i)
    rw [decide_eq_true (show i ≤ hi by omega), Bool.and_true]
  | _ => rfl
theorem row_big {m n : Nat} {t : Th} {hi : Int} (h : ThL n t) (hh : (10 : Int) ^ 40 ≤ hi) : rowT m hi t = cntT m t := by
  cases t with
  | tup ts =>
    have e : ts.all (wI 0 hi) = ts.all ge0 := by
      rw [Bool.eq_iff_iff, List.all_eq_true, List.all_eq_true]
      exact ⟨fun z x hx => by rw [← wI_big (h.all x hx) hh]; exact z x hx, fun z x hx => by rw [wI_big (h.all x hx) hh]; exact z x hx⟩
    show (decide (ts.length = m) && ts.all (wI 0 hi)) = _
    rw [e]
    rfl
  | _ => rfl
def spRr : Sp := fun vs H Q _ => ∃ (p : Addr) (m : Nat), vs = [.ref p, .int (m : Int)] ∧ K1P.FeedAt H p ∧ m ≤ 3 ∧ ∀ H', K1P.FeedAt H' p → PK p H H' → Q (.bl true) H'
theorem ths_bls {H : Hp} : ∀ (n : Nat), ThsAt H (List.replicate n (V.bl true)) (List.replicate n (Th.bl true))
  | 0 => .nil
  | n + 1 => .cons (.bl true) (ths_bls n)
section
variable {P : Program} {w : World} {K : PySem.W.Frag} {mg : Str → Option Value} {base : Heap}
set_option maxHeartbeats 4000000 in
theorem ok_Rr {f : Addr} {fd : FuncData} (B : Blt mg) (hrp : mg "repr" = none) (D : Has P w K mg base 1 "_law_draw" ["_law_feed_here", "_law_many"] K1P.spDraw) (fB : Has P w K mg base 9 "_law_bent" ["_law_feed_here", "_law_thing", "_law_deep"] (spBt 7)) (fL : Has P w K mg base 2 "_law_is_row" ["_law_thing", "_law_many", "_law_most"] spLr)
    (fA : Has P w K mg base 4 "is_amounts" ["many", "thing"] (spMT cntT)) (fS : Has P w K mg base 4 "is_stand" ["many", "thing"] (spMT cntT)) (F : Fun K "_law_rows_right" "_law_rows_right" sRr f fd) : FnOk P w K mg base CX0 10 f fd ["_law_feed_here", "_law_many"] spRr := by
  refine F.ok scRr (fun vs H Q E h => ?_) (fun cdv A outer s H vs Q E hr h => ?_)
  · obtain ⟨p, m, rfl, _⟩ := h
    rfl
  · obtain ⟨p, m, rfl, hF, m3, k⟩ := h
    refine' ⟨_, ?hb, ?rd⟩
    case hb =>
      refine' pss_cons ?s1 ?r1
      case' r1 => refine' pss_cons ?s2 ?r2
      case' r2 => refine' pss_cons ?s3 ?r3
      case' r3 => refine' pss_cons ?s4 ?r4
      case' r4 => refine' pss_cons ?s5 ?r5
      case' r5 => refine' pss_one ?s6
      case s6 => exact ps_ret pe_bl
      case s1 =>
        refine' ps_setD nmRr 2 ?c1
        case' c1 => refine' pe_cT call_tuple_of B.tuple PyProof.Rows.boot_tuple ?c2
        case' c2 => refine' pa_1 ?c3
        case c3 =>
          refine' pe_comp (ix := [0]) bsRr1.toCScope rfl rfl (pi_r1 B.range (pa_1 (pvd nmRr 1))) ?h4 ?h5 ?h6
          case h4 => exact fun _ _ _ _ _ _ => pgb bsRr1 0
          case h5 => exact fun _ _ _ _ _ _ => pts_nil
          case h6 =>
            intro _ _ _ _ _ _
            refine' pe_ix ix_d ?e7 ?g7 (fun _ _ => rfl)
            case g7 => exact pe_f D hr (by decide) (pa_2 (pvb bsRr1 1) pe_int) (bsRr1.g 0)
            case e7 =>
              refine' pe_lst ?e7a
              case' e7a => refine' pa_c pe_int ?e7b
              case' e7b => refine' pa_c pe_int ?e7c
              case' e7c => refine' pa_2 (pe_op op_pow pe_int pe_int) ?e7e
              case e7e => exact pe_f D hr (by decide) (pa_2 (pvb bsRr1 1) pe_int) (bsRr1.g 0)
      case s2 =>
        refine' ps_setD nmRr 3 ?d1
        case' d1 => refine' pe_lst ?d2
        case' d2 => refine' pa_c (pvd nmRr 2) ?d3
        case' d3 => refine' pa_c (pe_cT call_list_of B.list PyProof.Rows.boot_list (pa_1 (pvd nmRr 2))) ?d4
        case' d4 => refine' pa_c (pe_op op_catG (pvd nmRr 2) (pe_tup (pa_1 pe_int))) ?d5
        case' d5 => refine' pa_c (pe_slice sl_tupG (pvd nmRr 2) (po_some pe_int) po_none) ?d6
        case' d6 => refine' pa_c pe_non ?d7
        case' d7 => refine' pa_c pe_int ?d8
        case' d8 => refine' pa_c (pe_tup pa_nil) ?d9
        case' d9 => refine' pa_c pe_bl ?da
        case' da => refine' pa_2 pe_str ?db
        case' db => refine' pe_cT call_tuple_of B.tuple PyProof.Rows.boot_tuple ?dc
        case' dc => refine' pa_1 ?dd
        case dd =>
          refine' pe_comp (ix := []) bsRr2.toCScope rfl rfl (pi_tup (pvd nmRr 2)) ?i4 ?i5 ?i6
          case i4 => exact fun _ _ _ _ _ _ => pgb bsRr2 0
          case i5 => exact fun _ _ _ _ _ _ => pts_nil
          case i6 => exact fun _ _ _ _ _ _ => pe_bl
      case s3 =>
        refine' ps_for PassesOwn.never rfl (pi_r1 B.range (pa_1 pe_int)) (pgd nmRr 4) ?f1
        case' f1 => refine' pss_one ?f2
        case' f2 => refine' ps_expr ?f3
        case' f3 => refine' pe_bm PySem.F.plainAttrs_list PySem.F.slot_list_append PySem.F.type_list_append mt_append (pvd nmRr 3) ?f4
        case' f4 => refine' pa_1 ?f5
        case f5 => exact pe_f fB hr (by decide) (pa_c (pvd nmRr 0) (pa_2 (pvd nmRr 2) pe_int))
      case s4 =>
        refine' ps_if (pt_cmpR op_gt (pvd nmRr 1) pe_int (nomark _)) ?g1 pss_nil
        case' g1 => refine' pss_one ?g2
        case' g2 => refine' ps_expr ?g3
        case' g3 => refine' pe_bm PySem.F.plainAttrs_list PySem.F.slot_list_append PySem.F.type_list_append mt_append (pvd nmRr 3) ?g4
        case' g4 => refine' pa_1 ?g5
        case g5 => exact pe_op op_catG (pe_slice sl_tupG (pvd nmRr 2) po_none po_neg1) (pe_tup (pa_1 pe_neg))
      case s5 =>
        refine' ps_for PassesOwn.never rfl (pi_list (pvd nmRr 3)) (pgd nmRr 5) ?j1
        case' j1 => refine' pss_cons ?j2 ?j3
        case j2 =>
          refine' ps_setD nmRr 6 ?j4
          case' j4 => refine' pe_cB (call_repr hr) hrp PyProof.Rows.boot_repr ?j5
          case' j5 => refine' pa_1 ?j6
          case j6 => exact pe_f fL hr (by decide) (pa_c (pvd nmRr 5) (pa_2 (pvd nmRr 1) (pe_op op_pow pe_int pe_int)))
        case' j3 => refine' pss_one ?j7
        case j7 =>
          refine' ps_if ?k1 (pss_one (ps_ret pe_bl)) pss_nil
          case' k1 => refine' PW.pt ?k2
          case' k2 => refine' pw_or ?k3 ?k4
          case' k3 => refine' pt_cmpR op_ne ?k5 (pvd nmRr 6) (nomark _)
          case k5 => exact (pe_cB (call_repr hr) hrp PyProof.Rows.boot_repr (pa_1 (pe_f fA hr (by decide) (pa_2 (pvd nmRr 1) (pvd nmRr 5)))))
          case' k4 => refine' pw_or1 ?k6
          case' k6 => refine' PW.pt ?k7
          case' k7 => refine' pw_and (pt_cmpR op_gt (pvd nmRr 1) pe_int (nomark _)) ?k8
          case' k8 => refine' pw_and1 ?k9
          case' k9 => refine' pt_cmpR op_ne ?ka (pvd nmRr 6) (nomark _)
          case ka => exact (pe_cB (call_repr hr) hrp PyProof.Rows.boot_repr (pa_1 (pe_f fS hr (by decide) (pa_2 (pvd nmRr 1) (pvd nmRr 5)))))
    case rd =>
      walk_at "v"
      refine ⟨_, rfl, by omega, by omega, fun db hdb => ?_⟩
      rw [Int.toNat_natCast]
      have pdb := K1P.FeedAt.ne hF hdb
      refine cgo_range (ρ := [some (.ref p)]) (fun i ys H' => ∃ bs : List Int, ys = bs.map V.int ∧ bs.length = i ∧ (∀ b ∈ bs, 0 ≤ b ∧ b ≤ 10 ^ 30) ∧ K1P.FeedAt H' p ∧ PK p H H') ⟨[], rfl, rfl, (fun b hb => by cases hb), hF.new pdb, PK.refl.put hdb⟩ ?_ ?_
      · rintro i ys H' hi ⟨bs, rfl, hbl, hbs, F', P'⟩ hD R' S' kR _
        walk_at "v"
        refine w_rI ⟨by decide, by decide, by decide⟩ ?_
        have g0 : 0 ≤ (10 : Int) ^ (30 : Int).toNat := by decide +kernel
        have g1 : (10 : Int) ^ (30 : Int).toNat ≤ 10 ^ 30 := by decide +kernel
        generalize (10 : Int) ^ (30 : Int).toNat = big at g0 g1 ⊢
        walk_at "v"
        refine ⟨p, 100, rfl, F', by decide, by decide, fun r x y z r0 r1 => ?_⟩
        have P2 := P'.trans (fd_pk F' (ys := [.int x, .int y, .int z]))
        have F2 : K1P.FeedAt (upd H' p (.lst [.int x, .int y, .int z])) p := K1P.FeedAt.here
        have hD2 : upd H' p (.lst [.int x, .int y, .int z]) db = some (.lst (bs.map V.int)) := by rw [upd_ne (Ne.symm pdb)]; exact hD
        generalize upd H' p (.lst [.int x, .int y, .int z]) = H2 at P2 F2 hD2 ⊢
        walk_at "v"
        refine ⟨by show 4 ≤ sizeLine; decide, fun a6 ha6 => ?_⟩
        have P3 := P2.trans (PK.same (p := p) (Same.new (o := .lst [.int 0, .int 1, .int big, .int r]) (Same.refl _) ha6))
        have p6 := K1P.FeedAt.ne F2 ha6
        have F3 := F2.new (o := .lst [.int 0, .int 1, .int big, .int r]) p6
        have hD3 : upd H2 a6 (.lst [.int 0, .int 1, .int big, .int r]) db = some (.lst (bs.map V.int)) := by rw [upd_ne (ne_of_none hD2 ha6)]; exact hD2
        have e6 : upd H2 a6 (.lst [.int 0, .int 1, .int big, .int r]) a6 = some (.lst [.int 0, .int 1, .int big, .int r]) := upd_same
        generalize upd H2 a6 (.lst [.int 0, .int 1, .int big, .int r]) = H3' at P3 F3 hD3 e6 ⊢
        walk_at "v"
        refine ⟨p, 4, rfl, F3, by decide, by decide, fun r' x' y' z' r0' r1' => ?_⟩
        obtain ⟨bv, b0, b1, hat⟩ := pick4 r0' r1' r0 r1 g0 g1
        refine w_ixL (by rw [upd_ne (Ne.symm p6)]; exact e6) hat ?_
        have hD4 : upd H3' p (.lst [.int x', .int y', .int z']) db = some (.lst (bs.map V.int)) := by rw [upd_ne (Ne.symm pdb)]; exact hD3
        refine kR _ _ hD4 (by rw [List.length_map]; exact small1000 (by omega)) ⟨bs ++ [bv], by rw [List.map_append]; rfl, by simp [hbl], fun b hb => ?_, K1P.FeedAt.here.new pdb, (P3.trans (fd_pk F3)).put hdb⟩
        rcases List.mem_append.mp hb with old | new
        · exact hbs b old
        · rw [List.mem_singleton.mp new]
          exact ⟨b0, b1⟩
      rintro ys H1 ⟨bs, rfl, hbl, hbs, F1, P1⟩ hD
      walk_at "v"
      refine ⟨db, _, rfl, .inl ⟨SqL.of hD, fun rw_ hrw => ?_⟩⟩
      have prw := K1P.FeedAt.ne F1 hrw
      have P2 := P1.trans (PK.same (p := p) (Same.new (o := .tup (bs.map V.int)) (Same.refl _) hrw))
      have F2 := F1.new (o := .tup (bs.map V.int)) prw
      have er : upd H1 rw_ (.tup (bs.map V.int)) rw_ = some (.tup (bs.map V.int)) := upd_same
      generalize upd H1 rw_ (.tup (bs.map V.int)) = H2 at P2 F2 er ⊢
      have hR : ∀ H' : Hp, ThsAt H' (bs.map V.int) (bs.map Th.int) := fun H' => ths_intl bs
      have h30 : (10 : Int) ^ 30 ≤ 10 ^ 40 := by decide +kernel
      have hRl : ∀ t ∈ bs.map Th.int, ThL 8 t := fun t ht => by
        obtain ⟨i, hi, rfl⟩ := List.mem_map.mp ht
        have := hbs i hi
        exact .int ⟨by omega, by omega⟩
      have hRn : (bs.map Th.int).length = m := by rw [List.length_map]; exact hbl
      have hVn : (bs.map V.int).length = m := by rw [List.length_map]; exact hbl
      generalize bs.map V.int = rv at er hR hVn ⊢
      generalize bs.map Th.int = rt at hR hRl hRn ⊢
      clear hbs hbl hD P1 F1 hrw
      walk_at "v"
      refine ⟨rw_, _, rfl, .inr (SqT.of er), fun l1 hl1 => ?_⟩
      have KL : Same H2 (upd H2 l1 (.lst rv)) := Same.new (Same.refl _) hl1
      have eL : upd H2 l1 (.lst rv) l1 = some (.lst rv) := upd_same
      generalize upd H2 l1 (.lst rv) = HL at KL eL ⊢
      walk_at "v"
      refine ⟨by show 1 ≤ sizeLine; decide, fun z0 hz0 => ?_⟩
      have KZ : Same HL (upd HL z0 (.tup [.int 0])) := Same.new (Same.refl _) hz0
      have eZ : upd HL z0 (.tup [.int 0]) z0 = some (.tup [.int 0]) := upd_same
      generalize upd HL z0 (.tup [.int 0]) = HZ at KZ eZ ⊢
      have KLZ := KL.trans KZ
      refine ⟨rw_, z0, _, _, rfl, rfl, KLZ _ _ er, eZ, by show rv.length + 1 ≤ 1000; omega, fun qb HB KB eB => ?_⟩
      have KLB := KLZ.trans KB
      walk_at "v"
      refine ⟨_, rfl, ?_⟩
      walk_at "v"
      refine ⟨rw_, _, rfl, KLB _ _ er, fun qc HC KC eC => ?_⟩
      have KLC := KLB.trans KC
      walk_at "v"
      refine ⟨Nat.zero_le _, fun q7 hq7 => ?_⟩
      have KD : Same HC (upd HC q7 (.tup [])) := Same.new (Same.refl _) hq7
      have eD : upd HC q7 (.tup []) q7 = some (.tup []) := upd_same
      generalize upd HC q7 (.tup []) = HD at KD eD ⊢
      have KLD := KLC.trans KD
      walk_at "v"
      refine ⟨rw_, rfl, ⟨_, SqT.of (KLD _ _ er)⟩, fun dc hdc => ?_⟩
      refine cgo_tup (xs := rv) (ρ := []) (fun i ys H' => ys = List.replicate i (V.bl true) ∧ Same HD H') ⟨rfl, Same.new (Same.refl _) hdc⟩ (fun i ys H' _ ⟨_, K'⟩ => SqT.of (K' _ _ (KLD _ _ er))) ?_ ?_
      · rintro i xv ys H' hxi ⟨rfl, K'⟩ hDc R' S' kR _
        have hi : i < rv.length := (List.getElem?_eq_some_iff.mp hxi).1
        walk_at "v"
        refine kR _ _ hDc (by rw [List.length_replicate]; exact small1000 (by omega)) ⟨?_, K'.put hdc⟩
        rw [List.replicate_succ']
      rintro ys HE ⟨rfl, KE⟩ hDc
      have KLE := KLD.trans KE
      walk_at "v"
      refine ⟨dc, _, rfl, .inl ⟨SqL.of hDc, fun qd hqd => ?_⟩⟩
      have KG : Same HE (upd HE qd (.tup (List.replicate rv.length (V.bl true)))) := Same.new (Same.refl _) hqd
      have eG : upd HE qd (.tup (List.replicate rv.length (V.bl true))) qd = some (.tup (List.replicate rv.length (V.bl true))) := upd_same
      generalize upd HE qd (.tup (List.replicate rv.length (V.bl true))) = HG at KG eG ⊢
      have KLG := KLE.trans KG
      walk_at "v"
      refine ⟨by show 10 ≤ sizeLine; decide, fun tl htl => ?_⟩
      have KCG := (KD.trans KE).trans KG
      have hall : ThsAt HG [.ref rw_, .ref l1, .ref qb, .ref qc, .non, .int 0, .ref q7, .bl true, .str "0", .ref qd] [.tup rt, .lst, .tup (rt ++ [.int 0]), .tup (cutT rt (some 1) none), .non, .int 0, .tup [], .bl true, .str "0", .tup (List.replicate rv.length (.bl true))] :=
        .cons (.tup (KLG _ _ er) (hR _)) (.cons (.lst ((((KZ.trans KB).trans KC).trans KCG) _ _ eL)) (.cons (.tup ((KC.trans KCG) _ _ eB) ((hR _).app (.cons (.int 0) .nil))) (.cons (.tup (KCG _ _ eC) ((hR _).cut _ _)) (.cons .non (.cons (.int 0) (.cons (.tup ((KE.trans KG) _ _ eD) .nil) (.cons (.bl true) (.cons (.str "0") (.cons (.tup eG (ths_bls _)) .nil)))))))))
      have hsm : ∀ t ∈ ([.tup rt, .lst, .tup (rt ++ [.int 0]), .tup (cutT rt (some 1) none), .non, .int 0, .tup [], .bl true, .str "0", .tup (List.replicate rv.length (.bl true))] : List Th), ThL 24 t := by
        have hR24 : ∀ t ∈ rt, ThL 24 t := fun t ht => (hRl t ht).mono (by decide)
        refine all_c (.tup (by omega) hR24) (all_c .lst (all_c (.tup (by rw [List.length_append]; show rt.length + 1 ≤ 24; omega) (all_app hR24 (all_c (.int (by decide)) all_n))) (all_c (.tup (by have := cutT_len (ts := rt) (lo := some 1) (hi := none); omega) (fun t ht => hR24 t (cutT_mem ht))) (all_c .non (all_c (.int (by decide)) (all_c (.tup (by decide) all_n) (all_c (.bl _) (all_c (.str (by decide +kernel)) (all_c (.tup (by rw [List.length_replicate]; omega) (fun t ht => by rw [List.eq_of_mem_replicate ht]; exact .bl _)) all_n)))))))))
      have hl10 : ([.ref rw_, .ref l1, .ref qb, .ref qc, .non, .int 0, .ref q7, .bl true, .str "0", .ref qd] : List V).length = 10 := rfl
      generalize ([.ref rw_, .ref l1, .ref qb, .ref qc, .non, .int 0, .ref q7, .bl true, .str "0", .ref qd] : List V) = w10 at hall hl10 ⊢
      generalize ([.tup rt, .lst, .tup (rt ++ [.int 0]), .tup (cutT rt (some 1) none), .non, .int 0, .tup [], .bl true, .str "0", .tup (List.replicate rv.length (.bl true))] : List Th) = t10 at hall hsm
      have FG := fd_same KLG F2
      have PG := P2.trans (PK.same (p := p) KLG)
      have ptl := K1P.FeedAt.ne FG htl
      have ntl := PG.none ptl htl
      have eG' := KLG _ _ er
      have KT : Same HG (upd HG tl (.lst w10)) := Same.new (Same.refl _) htl
      have eT : upd HG tl (.lst w10) tl = some (.lst w10) := upd_same
      generalize upd HG tl (.lst w10) = HT at KT eT ⊢
      have hall' := hall.ks (KS.same KT)
      have FT := fd_same KT FG
      have PT := PG.trans (PK.same (p := p) KT)
      have erT := KT _ _ eG'
      walk_at "v"
      refine ⟨_, rfl, by decide, by decide, ?_⟩
      refine for_range (n := 3) (fun i σ H' => ∃ (ws : List V) (ts : List Th) (u4 : Option V), σ = [some (.ref p), some (.int (m : Int)), some (.ref rw_), some (.ref tl), u4, none, none] ∧ H' tl = some (.lst ws) ∧ ThsAt H' ws ts ∧ (∀ t ∈ ts, ThL 24 t) ∧ ws.length = 10 + i ∧ H' rw_ = some (.tup rv) ∧ K1P.FeedAt H' p ∧ PK p H H')
        ⟨w10, t10, none, rfl, eT, hall', hsm, hl10, erT, FT, PT⟩ ?_ ?_
      · rintro i σ H4 hi ⟨ws, ts, u4, rfl, e4, h4, l4, n4, r4, F4, P4⟩
        walk_at "v"
        refine ⟨.inl ⟨rfl, _, SqL.of e4⟩, ?_⟩
        walk_at "v"
        refine ⟨p, .ref rw_, .tup rt, 8, 0, rfl, by decide, by decide, by decide, F4, .tup r4 (hR _), .tup (by omega) hRl, by decide, by decide, fun v' t' H5 hv hl5 F5 P5 => ?_⟩
        have e5 := P5.bp _ _ (Ne.symm ptl) e4
        walk_at "v"
        refine ⟨tl, _, _, rfl, rfl, e5, small1000 (by omega), ?_⟩
        walk_at "v"
        have KX : KS H5 (upd H5 tl (.lst (ws ++ [v']))) := KS.lst e5
        refine ⟨ws ++ [v'], ts ++ [t'], _, rfl, upd_same, ((ThsAt.pk P5 h4).app (.cons hv .nil)).ks KX, all_app l4 (all_c hl5 all_n), by rw [List.length_append, n4]; rfl, KX.t _ _ (P5.t _ _ r4), F5.new ptl, (P4.trans P5).put ntl⟩
      · rintro σ H4 ⟨ws, ts, u4, rfl, e4, h4, l4, n4, r4, F4, P4⟩
        with_reducible refine seq_post (fun σ' H' => ∃ (ws : List V) (ts : List Th), σ' = [some (.ref p), some (.int (m : Int)), some (.ref rw_), some (.ref tl), u4, none, none] ∧ H' tl = some (.lst ws) ∧ ThsAt H' ws ts ∧ (∀ t ∈ ts, ThL 24 t) ∧ K1P.FeedAt H' p ∧ PK p H H') ?_ fun rest => ?_
        · rintro σ' H5 ⟨ws, ts, rfl, e5, h5, l5, F5, P5⟩
          walk_at "v"
          refine ⟨tl, rfl, ⟨_, SqL.of e5⟩, ?_⟩
          refine for_list (xs := ws) (fun i σ H' => ∃ u5 u6 : Option V, σ = [some (.ref p), some (.int (m : Int)), some (.ref rw_), some (.ref tl), u4, u5, u6] ∧ Same H5 H') ⟨none, none, rfl, Same.refl _⟩ (fun i σ H' _ ⟨_, _, _, k'⟩ => SqL.of (k' _ _ e5)) ?_ ?_
          · rintro i xv σ H6 hx ⟨u5, u6, rfl, K6⟩
            obtain ⟨t, ht1, ht2⟩ := h5.atV hx
            have hLt := l5 t (List.mem_of_getElem? ht1)
            walk_at "v"
            refine w_rI ⟨by decide, by decide, by decide⟩ ?_
            have g1 : (10 : Int) ^ 40 ≤ (10 : Int) ^ (50 : Int).toNat := by decide +kernel
            generalize (10 : Int) ^ (50 : Int).toNat = big at g1 ⊢
            walk_at "v"
            refine ⟨xv, t, m, big, 24, rfl, ht2.ks (KS.same K6), hLt, by decide, fun H7 K7 => ?_⟩
            rw [row_big hLt g1]
            walk_at "v"
            refine G2.w_shw (.bl _) (Shw.bl _) (by decide) (by decide) ?_
            walk_at "v"
            refine ⟨m, xv, t, 24, rfl, ht2.ks (KS.same (K6.trans K7)), hLt, by decide, fun H8 K8 => ?_⟩
            walk_at "v"
            refine G2.w_shw (.bl _) (Shw.bl _) (by decide) (by decide) ?_
            walk_at "v"
            refine ⟨rfl, ?_⟩
            walk_at "v"
            refine iteNS rfl ?_
            walk_at "v"
            refine iteD (fun _ => ?_) (fun _ => ?_)
            · walk_at "v"
              refine ⟨m, xv, t, 24, rfl, ht2.ks (KS.same ((K6.trans K7).trans K8)), hLt, by decide, fun H9 K9 => ?_⟩
              walk_at "v"
              refine G2.w_shw (.bl _) (Shw.bl _) (by decide) (by decide) ?_
              walk_at "v"
              refine ⟨rfl, ?_⟩
              walk_at "v"
              refine iteNS rfl ?_
              exact ⟨_, _, rfl, ((K6.trans K7).trans K8).trans K9⟩
            · refine iteF ?_
              exact ⟨_, _, rfl, (K6.trans K7).trans K8⟩
          · rintro σ H6 ⟨u5, u6, rfl, K6⟩
            walk_at "v"
            exact k _ (fd_same K6 F5) (P5.trans (PK.same K6))
        walk_at "v"
        refine iteD (fun hm0 => ?_) (fun _ => ?_)
        · walk_at "v"
          refine ⟨.inl ⟨rfl, _, SqL.of e4⟩, ?_⟩
          walk_at "v"
          refine ⟨_, rfl, ?_⟩
          walk_at "v"
          refine ⟨rw_, _, rfl, r4, fun qc H5 K5 eC => ?_⟩
          walk_at "v"
          refine ⟨by show 1 ≤ sizeLine; decide, fun z1 hz1 => ?_⟩
          have K6 : Same H5 (upd H5 z1 (.tup [.int (-1)])) := Same.new (Same.refl _) hz1
          have e6 : upd H5 z1 (.tup [.int (-1)]) z1 = some (.tup [.int (-1)]) := upd_same
          generalize upd H5 z1 (.tup [.int (-1)]) = H6 at K6 e6 ⊢
          have lc : (cutV rv none (some (-1))).length ≤ 3 := by
            have h1 := ((hR H4).cut none (some (-1))).len
            have h2 := cutT_len (ts := rt) (lo := none) (hi := some (-1))
            omega
          refine ⟨qc, z1, _, _, rfl, rfl, K6 _ _ eC, e6, by show _ + 1 ≤ 1000; omega, fun qe H7 K7 e7 => ?_⟩
          have K57 := (K5.trans K6).trans K7
          have et := K57 _ _ e4
          walk_at "v"
          refine ⟨tl, _, _, rfl, rfl, et, small1000 (by omega), ?_⟩
          have KX : KS H7 (upd H7 tl (.lst (ws ++ [.ref qe]))) := KS.lst et
          refine rest _ _ ⟨ws ++ [.ref qe], ts ++ [.tup (cutT rt none (some (-1)) ++ [.int (-1)])], rfl, upd_same, ((h4.ks (KS.same K57)).app (.cons (.tup e7 (((hR _).cut _ _).app (.cons (.int (-1)) .nil))) .nil)).ks KX, all_app l4 (all_c (.tup ?_ ?_) all_n), (fd_same K57 F4).new ptl, (P4.trans (PK.same K57)).put ntl⟩
          · rw [List.length_append]; have := cutT_len (ts := rt) (lo := none) (hi := some (-1)); show _ + 1 ≤ 24; omega
          · exact all_app (fun t ht => (hRl t (cutT_mem ht)).mono (by decide)) (all_c (.int (by decide)) all_n)
        · exact rest _ _ ⟨ws, ts, rfl, e4, h4, l4, F4, P4⟩
end
end K01

set_option Elab.async false
set_option linter.all false
set_option maxRecDepth 100000
namespace K01
open PySem L2 G2
local macro_rules | `(tactic| walk_at "v") => `(tactic| repeat (with_reducible first
  | refine w_seq ?_ | refine w_asg ?_ | refine w_gname ?_ | refine w_op ?_ | refine w_var rfl ?_ | refine w_c ?_ | refine w_rI0 ?_ | refine w_ifs ?_ | refine w_ife ?_ | refine w_test ?_ | refine w_tb ?_ | refine w_bl ?_ | refine w_not ?_ | refine w_ret ?_ | refine w_retN ?_
  | refine w_nil ?_ | refine w_cons ?_ | refine w_lst ?_ | refine w_tup ?_ | refine w_cb ?_ | refine w_call ?_ | refine w_gsub ?_ | refine w_and ?_ | refine w_or ?_ | refine w_next ?_ | refine w_all ?_ | refine w_vals ?_ | refine w_compR ?_ | refine w_compT ?_ | refine w_forR ?_ | refine w_forT ?_ | refine w_forL ?_ | refine w_drop ?_ | refine w_bm ?_ | refine w_compZ ?_ | refine w_compL ?_ | refine w_chain ?_ | refine w_sl ?_ | refine w_nopart ?_ | refine w_part ?_ | refine w_unI ?_ | refine iteT ?_ | refine iteF ?_))

theorem names_T : ∀ x ∈ K1P.names12, nameT (.str x) = true := by decide +kernel
theorem unl_nd {ts : List Th} (h : (ts.map thK).Nodup) : unlT ts = true := by
  have e : unlT ts = decide ((metK (fun i => (ts.map thK).getD i (.inl 0)) ts.length).length = ts.length) := by
    unfold unlT
    refine decide_eq_decide.mpr ?_
    rw [V.int.injEq]
    omega
  rw [e, metK_full, List.all_eq_true]
  intro k hk
  have hk' := List.mem_range.mp hk
  rw [hasK_any, Bool.not_eq_true', List.any_eq_false]
  intro j hj
  have hj' := List.mem_range.mp hj
  rw [decide_eq_true_eq]
  intro z
  have hkl : k < (ts.map thK).length := by rw [List.length_map]; exact hk'
  have hjl : j < (ts.map thK).length := by omega
  rw [List.getD_eq_getElem?_getD, List.getD_eq_getElem?_getD, List.getElem?_eq_getElem hkl, List.getElem?_eq_getElem hjl] at z
  have := (List.getElem_inj h).mp z
  omega
theorem ns_th {lo hi : Int} {m : Nat} {ns : List Int} (hl : ns.length = m) (h : ∀ i ∈ ns, 0 ≤ i ∧ i ≤ hi) : rowT m hi (.tup (ns.map Th.int)) = true := by
  show (decide ((ns.map Th.int).length = m) && (ns.map Th.int).all (wI 0 hi)) = true
  rw [List.length_map, decide_eq_true hl, Bool.true_and, List.all_eq_true]
  intro t ht
  obtain ⟨i, hi', rfl⟩ := List.mem_map.mp ht
  have := h i hi'
  show (decide (0 ≤ i) && decide (i ≤ hi)) = true
  rw [decide_eq_true this.1, decide_eq_true this.2]
  rfl
theorem ints_l {n : Nat} {hi : Int} {ns : List Int} (hh : hi ≤ 10 ^ 40) (hl : ns.length ≤ n) (h : ∀ i ∈ ns, 0 ≤ i ∧ i ≤ hi) : ThL n (.tup (ns.map Th.int)) := by
  refine .tup (by rw [List.length_map]; exact hl) fun t ht => ?_
  obtain ⟨i, hi', rfl⟩ := List.mem_map.mp ht
  have := h i hi'
  exact .int ⟨by omega, by omega⟩
theorem iOf_ints : ∀ ns : List Int, (ns.map Th.int).map iOf = ns
  | [] => rfl
  | n :: ns => by
    show n :: (ns.map Th.int).map iOf = n :: ns
    rw [iOf_ints ns]
theorem rule_th {m : Nat} {H : Hp} {r : Addr} (m8 : m ≤ 8) (h : K1P.RuleAt m H r) : ∃ u, ThAt H (.ref r) u ∧ ThL 8 u ∧ ruleT m u = true := by
  obtain ⟨a, b, ts, gs, e, ea, eb, ok⟩ := h
  obtain ⟨la, ha⟩ := ok.a
  obtain ⟨lb, hb⟩ := ok.b
  have h9 : (9 : Int) ≤ 10 ^ 40 := by decide +kernel
  refine ⟨.tup [.tup (ts.map .int), .tup (gs.map .int)], .tup e (.cons (.tup ea (ths_intl ts)) (.cons (.tup eb (ths_intl gs)) .nil)), .tup (by show 2 ≤ 8; decide) (all_c (ints_l h9 (by omega) ha) (all_c (ints_l h9 (by omega) hb) all_n)), ?_⟩
  have r1 : rw' (.tup (ts.map Th.int)) = ts := iOf_ints ts
  have r2 : rw' (.tup (gs.map Th.int)) = gs := iOf_ints gs
  show ((rowT m 9 (.tup (ts.map .int)) && rowT m 9 (.tup (gs.map .int))) && ((rw' (.tup (ts.map .int))).any (fun i => decide (0 < i)) && !decide (rw' (.tup (ts.map .int)) = rw' (.tup (gs.map .int))))) = true
  rw [ns_th (lo := 0) la ha, ns_th (lo := 0) lb hb, r1, r2, decide_eq_false ok.ne]
  obtain ⟨x, hx, hx0⟩ := ok.pos
  have : (ts.any fun i => decide (0 < i)) = true := List.any_eq_true.mpr ⟨x, hx, decide_eq_true hx0⟩
  rw [this]
  rfl
theorem rules_th {m : Nat} {H : Hp} (m8 : m ≤ 8) : ∀ (rs : List Addr), (∀ r ∈ rs, K1P.RuleAt m H r) → ∃ us : List Th, ThsAt H (rs.map V.ref) us ∧ us.length = rs.length ∧ ∀ u ∈ us, ThL 8 u ∧ ruleT m u = true
  | [], _ => ⟨[], .nil, rfl, fun u hu => by cases hu⟩
  | r :: rs, h => by
    obtain ⟨us, h1, h2, h3⟩ := rules_th m8 rs fun q hq => h q (List.mem_cons_of_mem _ hq)
    obtain ⟨u, hu1, hu2, hu3⟩ := rule_th m8 (h r List.mem_cons_self)
    refine ⟨u :: us, .cons hu1 h1, by simp [h2], fun w hw => ?_⟩
    rcases List.mem_cons.mp hw with z | z
    · rw [z]; exact ⟨hu2, hu3⟩
    · exact h3 w z
theorem key_strs : ∀ nm : List Str, (nm.map Th.str).map thK = nm.map Sum.inr
  | [] => rfl
  | x :: nm => by
    show Sum.inr x :: (nm.map Th.str).map thK = _
    rw [key_strs nm]
    rfl
theorem key_ints : ∀ ns : List Int, (ns.map Th.int).map thK = ns.map Sum.inl
  | [] => rfl
  | x :: ns => by
    show Sum.inl x :: (ns.map Th.int).map thK = _
    rw [key_ints ns]
    rfl
theorem nd_map {α β : Type} {f : α → β} (hf : ∀ a b, f a = f b → a = b) : ∀ {l : List α}, l.Nodup → (l.map f).Nodup
  | [], _ => List.nodup_nil
  | a :: l, h => by
    rw [List.map_cons, List.nodup_cons]
    rw [List.nodup_cons] at h
    refine ⟨fun z => ?_, nd_map hf h.2⟩
    obtain ⟨b, hb, e⟩ := List.mem_map.mp z
    exact h.1 (hf b a e ▸ hb)
theorem pot_th {H : Hp} {p : Addr} {nm : List Str} {ins beg : List Int} {ans : Int} {m : Nat} (h : K1P.PotAt H p nm ins beg ans m) : ∃ t, ThAt H (.ref p) t ∧ ThL 8 t ∧ potT t = true := by
  obtain ⟨⟨ps, pr, pin, pb, rs, e1, e2, e3, e4, e5, e6, e7⟩, hn, m0, m8, hi, i3, nd, bl, hb, ha⟩ := h
  obtain ⟨us, hu1, hu2, hu3⟩ := rules_th m8 rs e4
  have h9 : (99 : Int) ≤ 10 ^ 40 := by decide +kernel
  have hi' : ∀ i ∈ ins, 0 ≤ i ∧ i ≤ (m : Int) - 1 := fun i z => by have := hi i z; omega
  refine ⟨.tup [.tup (nm.map .str), .tup us, .tup (ins.map .int), .tup (beg.map .int), .int ans], .tup e1 (.cons (.tup e2 (ths_strs nm)) (.cons (.tup e3 hu1) (.cons (.tup e6 (ths_intl ins)) (.cons (.tup e7 (ths_intl beg)) (.cons (.int ans) .nil))))), ?_, ?_⟩
  · refine .tup (by show 5 ≤ 8; decide) (all_c (.tup (by rw [List.length_map, hn.1]; omega) (names_l hn)) (all_c (.tup (by omega) fun u hu => (hu3 u hu).1) (all_c (ints_l (hi := (m : Int) - 1) (by omega) (by omega) hi') (all_c (ints_l h9 (by omega) hb) (all_c (.int ⟨by omega, by omega⟩) all_n)))))
  · have hl : lenT (.tup (nm.map Th.str)) = m := by
      show (nm.map Th.str).length = m
      rw [List.length_map]; exact hn.1
    show (sortsT (.tup (nm.map .str)) && (rulesT (lenT (.tup (nm.map .str))) (.tup us) && (inpT (lenT (.tup (nm.map .str))) (.tup (ins.map .int)) && (rowT (lenT (.tup (nm.map .str))) 99 (.tup (beg.map .int)) && wI 0 ((lenT (.tup (nm.map .str)) : Int) - 1) (.int ans))))) = true
    rw [hl]
    have s1 : sortsT (.tup (nm.map Th.str)) = true := by
      show ((decide ((1 : Int) ≤ (nm.map Th.str).length) && decide (((nm.map Th.str).length : Int) ≤ 8)) && ((nm.map Th.str).all nameT && unlT (nm.map Th.str))) = true
      rw [List.length_map, hn.1, decide_eq_true (show (1 : Int) ≤ (m : Int) by omega), decide_eq_true (show (m : Int) ≤ 8 by omega), unl_nd (by rw [key_strs]; exact nd_map (fun a b z => Sum.inr.inj z) hn.2.1)]
      have : (nm.map Th.str).all nameT = true := by
        rw [List.all_eq_true]
        intro t ht
        obtain ⟨x, hx, rfl⟩ := List.mem_map.mp ht
        exact names_T x (hn.2.2 x hx)
      rw [this]
      rfl
    have s2 : rulesT m (.tup us) = true := by
      show (!decide ((8 : Int) < us.length) && us.all (ruleT m)) = true
      rw [decide_eq_false (by omega)]
      have : us.all (ruleT m) = true := List.all_eq_true.mpr fun u hu => (hu3 u hu).2
      rw [this]
      rfl
    have s3 : inpT m (.tup (ins.map Th.int)) = true := by
      show (!decide ((3 : Int) < (ins.map Th.int).length) && ((ins.map Th.int).all (wI 0 ((m : Int) - 1)) && unlT (ins.map Th.int))) = true
      rw [List.length_map, decide_eq_false (by omega), unl_nd (by rw [key_ints]; exact nd_map (fun a b z => Sum.inl.inj z) nd)]
      have : (ins.map Th.int).all (wI 0 ((m : Int) - 1)) = true := by
        rw [List.all_eq_true]
        intro t ht
        obtain ⟨i, hi2, rfl⟩ := List.mem_map.mp ht
        have := hi' i hi2
        show (decide (0 ≤ i) && decide (i ≤ (m : Int) - 1)) = true
        rw [decide_eq_true this.1, decide_eq_true this.2]
        rfl
      rw [this]
      rfl
    have s4 : wI 0 ((m : Int) - 1) (.int ans) = true := by
      show (decide (0 ≤ ans) && decide (ans ≤ (m : Int) - 1)) = true
      rw [decide_eq_true ha.1, decide_eq_true (show ans ≤ (m : Int) - 1 by omega)]
      rfl
    rw [s1, s2, s3, s4, ns_th (lo := 0) bl hb]
    rfl
abbrev sLaw : Stmt := top 48
abbrev nLaw : List Str := ["_law_script", "_law_k", "_law_feed_here", "_law_pot_here", "_law_things", "_law_j", "_law_thing", "_law_turn"]
theorem nmLaw : Nm nLaw (defScope sLaw) := ⟨by decide +kernel, by decide +kernel⟩
theorem scLaw : FnScope nLaw ["_law_script"] (defScope sLaw) := ⟨rfl, rfl, rfl, by decide +kernel, rfl, by decide +kernel, by decide +kernel⟩
def spLaw (K : PySem.W.Frag) : Sp := fun vs H Q _ => ∃ (a : Addr) (ns : List Int), vs = [.ref a] ∧ G2.SqF K H a (ns.map V.int) ∧ ns.length ≤ 63 ∧ ∀ H', Q (.bl true) H'
theorem tk_pk {p : Addr} {H H' : Hp} (F : K1P.FeedAt H p) (k : PK p H H') : G2.TK H H' := by
  obtain ⟨x, y, z, e⟩ := F
  exact ⟨k.t, fun q o u h => k.bp q _ (ne_of h e (by intro z; cases z)) h⟩
section
variable {P : Program} {w : World} {K : PySem.W.Frag} {mg : Str → Option Value} {base : Heap}
set_option maxHeartbeats 4000000 in
theorem ok_Law {f : Addr} {fd : FuncData} (B : Blt mg) (hrp : mg "repr" = none) (fF : Has P w K mg base 1 "_law_feed" ["_law_script", "_law_k"] (K1P.spFeed K)) (D : Has P w K mg base 1 "_law_draw" ["_law_feed_here", "_law_many"] K1P.spDraw) (fP : Has P w K mg base 3 "_law_pot" ["_law_feed_here"] K1P.spPot) (fN : Has P w K mg base 3 "_law_names_right" ["_law_feed_here"] spNr)
    (fR : Has P w K mg base 10 "_law_rows_right" ["_law_feed_here", "_law_many"] spRr) (fB : Has P w K mg base 9 "_law_bent" ["_law_feed_here", "_law_thing", "_law_deep"] (spBt 7)) (fI : Has P w K mg base 7 "is_pot" ["thing"] (spT potT)) (fL : Has P w K mg base 4 "_law_is_pot" ["_law_thing"] (spT potT)) (F : Fun K "law" "law" sLaw f fd) : FnOk P w K mg base CX0 11 f fd ["_law_script"] (spLaw K) := by
  refine F.ok scLaw (fun vs H Q E h => ?_) (fun cdv A outer s H vs Q E hr h => ?_)
  · obtain ⟨a, ns, rfl, _⟩ := h
    rfl
  · obtain ⟨a, ns, rfl, hS, hl, k⟩ := h
    refine' ⟨_, ?hb, ?rd⟩
    case hb =>
      refine' pss_cons ?s1 ?r1
      case' r1 => refine' pss_one ?s2
      case s2 => exact ps_ret pe_bl
      case s1 =>
        refine' ps_for PassesOwn.never rfl (pi_r1 B.range (pa_1 pe_int)) (pgd nmLaw 1) ?b1
        case b1 =>
          refine' pss_cons ?t1 ?u1
          case' u1 => refine' pss_cons ?t2 ?u2
          case' u2 => refine' pss_cons ?t3 ?u3
          case' u3 => refine' pss_cons ?t4 ?u4
          case' u4 => refine' pss_cons ?t5 ?u5
          case' u5 => refine' pss_cons ?t6 ?u6
          case' u6 => refine' pss_one ?t7
          case t1 => exact ps_setD nmLaw 2 (pe_f fF hr (by decide) (pa_2 (pvd nmLaw 0) (pvd nmLaw 1)))
          case t2 => exact ps_setD nmLaw 3 (pe_f fP hr (by decide) (pa_1 (pvd nmLaw 2)))
          case t3 =>
            refine' ps_if ?c1 (pss_one (ps_ret pe_bl)) pss_nil
            case' c1 => refine' PW.pt ?c2
            case' c2 => refine' pw_or ?c3 ?c4
            case' c3 => refine' pt_not ?c5
            case' c5 => refine' pt_val ?c6
            case c6 => exact pe_f fN hr (by decide) (pa_1 (pvd nmLaw 2))
            case' c4 => refine' pw_or1 ?c7
            case' c7 => refine' pt_not ?c8
            case' c8 => refine' pt_val ?c9
            case c9 => exact pe_f fR hr (by decide) (pa_2 (pvd nmLaw 2) (pe_f D hr (by decide) (pa_2 (pvd nmLaw 2) pe_int)))
          case t4 => exact ps_setD nmLaw 4 (pe_lst (pa_1 (pvd nmLaw 3)))
          case t5 =>
            refine' ps_for PassesOwn.never rfl (pi_r1 B.range (pa_1 pe_int)) (pgd nmLaw 5) ?d1
            case d1 =>
              refine' pss_cons ?d2 ?d3
              case' d3 => refine' pss_cons ?d4 ?d5
              case' d5 => refine' pss_one ?d6
              case d2 => exact ps_setD nmLaw 6 (pvd nmLaw 3)
              case d4 =>
                refine' ps_for PassesOwn.never rfl (pi_r1 B.range (pa_1 (pe_op op_add pe_int (pe_f D hr (by decide) (pa_2 (pvd nmLaw 2) pe_int))))) (pgd nmLaw 7) ?d7
                case' d7 => refine' pss_one ?d8
                case d8 => exact ps_setD nmLaw 6 (pe_f fB hr (by decide) (pa_c (pvd nmLaw 2) (pa_2 (pvd nmLaw 6) pe_int)))
              case d6 =>
                refine' ps_expr ?d9
                case d9 => exact pe_bm PySem.F.plainAttrs_list PySem.F.slot_list_append PySem.F.type_list_append mt_append (pvd nmLaw 4) (pa_1 (pvd nmLaw 6))
          case t6 =>
            refine' ps_for PassesOwn.never rfl (pi_list (pvd nmLaw 4)) (pgd nmLaw 6) ?e1
            case' e1 => refine' pss_one ?e2
            case' e2 => refine' ps_if ?e3 (pss_one (ps_ret pe_bl)) pss_nil
            case' e3 => refine' pt_cmpR op_ne ?e4 ?e5 (nomark _)
            case e4 => exact (pe_cB (call_repr hr) hrp PyProof.Rows.boot_repr (pa_1 (pe_f fI hr (by decide) (pa_1 (pvd nmLaw 6)))))
            case e5 => exact (pe_cB (call_repr hr) hrp PyProof.Rows.boot_repr (pa_1 (pe_f fL hr (by decide) (pa_1 (pvd nmLaw 6)))))
          case t7 =>
            refine' ps_if ?f1 (pss_one (ps_ret pe_bl)) pss_nil
            case' f1 => refine' pt_not ?f2
            case' f2 => refine' pt_val ?f3
            case f3 => exact pe_f fL hr (by decide) (pa_1 (pvd nmLaw 3))
    case rd =>
      walk_at "v"
      refine ⟨6, rfl, by decide, by decide, ?_⟩
      refine for_range (n := 6) (fun i σ H' => ∃ (u1 u2 u3 u4 u5 u6 u7 : Option V), σ = [some (.ref a), u1, u2, u3, u4, u5, u6, u7] ∧ G2.SqF K H' a (ns.map V.int)) ⟨none, none, none, none, none, none, none, rfl, hS⟩ ?_ ?_
      · rintro i σ H1 hi ⟨u1, u2, u3, u4, u5, u6, u7, rfl, S1⟩
        rw [Int.zero_add]
        walk_at "v"
        refine ⟨a, ns, i, rfl, S1.sq, hl, fun p x y z hp => ?_⟩
        have T1 : G2.TK H1 (upd H1 p (.lst [.int x, .int y, .int z])) := G2.TK.new hp
        have F1 : K1P.FeedAt (upd H1 p (.lst [.int x, .int y, .int z])) p := K1P.FeedAt.here
        generalize upd H1 p (.lst [.int x, .int y, .int z]) = H2 at T1 F1 ⊢
        have S2 := S1.tk T1
        walk_at "v"
        refine ⟨p, rfl, F1, fun pl H3 nm ins beg ans m _ hP F3 B3 => ?_⟩
        have P3 := pk_but F1 F3 B3
        obtain ⟨pt, hpt, hpl, hpT⟩ := pot_th hP
        have S3 := S2.tk (tk_pk F1 P3)
        walk_at "v"
        refine ⟨p, rfl, F3, fun H4 F4 P4 => ?_⟩
        walk_at "v"
        refine iteF ?_
        walk_at "v"
        refine ⟨p, 4, rfl, F4, by decide, by decide, fun r x y z r0 r1 => ?_⟩
        have P5 := P4.trans (fd_pk F4 (ys := [.int x, .int y, .int z]))
        have F5 : K1P.FeedAt (upd H4 p (.lst [.int x, .int y, .int z])) p := K1P.FeedAt.here
        generalize upd H4 p (.lst [.int x, .int y, .int z]) = H5 at P5 F5 ⊢
        obtain ⟨mr, rfl⟩ := ofI r0
        walk_at "v"
        refine ⟨p, mr, rfl, F5, by omega, fun H6 F6 P6 => ?_⟩
        walk_at "v"
        refine iteF ?_
        have P36 := P5.trans P6
        have S6 := S3.tk (tk_pk F3 P36)
        have ht6 := ThAt.pk P36 hpt
        walk_at "v"
        refine ⟨by show 1 ≤ sizeLine; decide, fun tl htl => ?_⟩
        have ptl := K1P.FeedAt.ne F6 htl
        have K7 : Same H6 (upd H6 tl (.lst [.ref pl])) := Same.new (Same.refl _) htl
        have e7 : upd H6 tl (.lst [.ref pl]) tl = some (.lst [.ref pl]) := upd_same
        generalize upd H6 tl (.lst [.ref pl]) = H7 at K7 e7 ⊢
        have F7 := fd_same K7 F6
        have ht7 := ht6.ks (KS.same K7)
        have S7 := S6.tk ⟨fun q xs e => K7 _ _ e, fun q o u e => K7 _ _ e⟩
        have S6' := S6
        walk_at "v"
        refine ⟨_, rfl, by decide, by decide, ?_⟩
        refine for_range (n := 4) (fun j σ H' => ∃ (ws : List V) (ts : List Th) (u5 u6 u7 : Option V), σ = [some (.ref a), some (.int (i : Int)), some (.ref p), some (.ref pl), some (.ref tl), u5, u6, u7] ∧ H' tl = some (.lst ws) ∧ ThsAt H' ws ts ∧ (∀ t ∈ ts, ThL 216 t) ∧ ws.length = 1 + j ∧ K1P.FeedAt H' p ∧ PK p H6 H')
          ⟨[.ref pl], [pt], u5, u6, u7, rfl, e7, .cons ht7 .nil, all_c (hpl.mono (by decide)) all_n, rfl, F7, PK.same K7⟩ ?_ ?_
        · rintro j σ H8 hj ⟨ws, ts, u5, u6, u7, rfl, e8, h8, l8, n8, F8, P8⟩
          walk_at "v"
          refine ⟨p, 3, rfl, F8, by decide, by decide, fun r x y z r0 r1 => ?_⟩
          have P9 := fd_pk F8 (ys := [.int x, .int y, .int z])
          have F9 : K1P.FeedAt (upd H8 p (.lst [.int x, .int y, .int z])) p := K1P.FeedAt.here
          generalize upd H8 p (.lst [.int x, .int y, .int z]) = H9 at P9 F9 ⊢
          obtain ⟨rn, rfl⟩ := ofI r0
          walk_at "v"
          refine ⟨_, rfl, by omega, by omega, ?_⟩
          have hrn : (1 + (rn : Int)).toNat = 1 + rn := by omega
          rw [hrn]
          refine for_range (n := 1 + rn) (fun q σ H' => ∃ (v : V) (t : Th) (u7 : Option V), σ = [some (.ref a), some (.int (i : Int)), some (.ref p), some (.ref pl), some (.ref tl), some (.int (0 + (j : Int))), some v, u7] ∧ ThAt H' v t ∧ ThL (8 * 3 ^ q) t ∧ K1P.FeedAt H' p ∧ PK p H9 H')
            ⟨.ref pl, pt, u7, rfl, ThAt.pk (P8.trans P9) ht6, hpl, F9, PK.refl⟩ ?_ ?_
          · rintro q σ HA hq ⟨v, t, u7, rfl, hv, lv, FA, PA⟩
            have hq3 : q = 0 ∨ q = 1 ∨ q = 2 := by omega
            walk_at "v"
            refine ⟨p, v, t, 8 * 3 ^ q, 0, rfl, by decide, by decide, by decide, FA, hv, lv, by rcases hq3 with rfl | rfl | rfl <;> decide, by rcases hq3 with rfl | rfl | rfl <;> decide, fun v' t' HB hB lB FB PB => ?_⟩
            walk_at "v"
            refine ⟨v', t', _, rfl, hB, ?_, FB, PA.trans PB⟩
            have e3 : 3 * (8 * 3 ^ q) = 8 * 3 ^ (q + 1) := by rw [Nat.pow_succ]; omega
            rw [← e3]
            exact lB
          · rintro σ HA ⟨v, t, u7, rfl, hv, lv, FA, PA⟩
            have hq3 : rn = 0 ∨ rn = 1 ∨ rn = 2 := by omega
            have l216 : ThL 216 t := lv.mono (by rcases hq3 with rfl | rfl | rfl <;> decide)
            have P8A := P9.trans PA
            have eA := P8A.bp _ _ (Ne.symm ptl) e8
            walk_at "v"
            refine ⟨.inl ⟨rfl, _, SqL.of eA⟩, ?_⟩
            walk_at "v"
            refine ⟨tl, _, _, rfl, rfl, eA, small1000 (by omega), ?_⟩
            walk_at "v"
            have KX : KS HA (upd HA tl (.lst (ws ++ [v]))) := KS.lst eA
            exact ⟨ws ++ [v], ts ++ [t], _, _, _, rfl, upd_same, ((ThsAt.pk P8A h8).app (.cons hv .nil)).ks KX, all_app l8 (all_c l216 all_n), by rw [List.length_append, n8]; rfl, FA.new ptl, (P8.trans P8A).put htl⟩
        · rintro σ H8 ⟨ws, ts, u5, u6, u7, rfl, e8, h8, l8, n8, F8, P8⟩
          have S8 := S6.tk (tk_pk F6 P8)
          have ht8 := ThAt.pk P8 ht6
          walk_at "v"
          refine ⟨tl, rfl, ⟨_, SqL.of e8⟩, ?_⟩
          refine for_list (xs := ws) (fun q σ H' => ∃ u6 : Option V, σ = [some (.ref a), some (.int (i : Int)), some (.ref p), some (.ref pl), some (.ref tl), u5, u6, u7] ∧ Same H8 H') ⟨u6, rfl, Same.refl _⟩ (fun q σ H' _ ⟨_, _, k'⟩ => SqL.of (k' _ _ e8)) ?_ ?_
          · rintro q xv σ H9 hx ⟨u6, rfl, K9⟩
            obtain ⟨t, ht1, ht2⟩ := h8.atV hx
            have hLt := l8 t (List.mem_of_getElem? ht1)
            walk_at "v"
            refine ⟨xv, t, 216, rfl, ht2.ks (KS.same K9), hLt, by decide, fun HA KA => ?_⟩
            walk_at "v"
            refine G2.w_shw (.bl _) (Shw.bl _) (by decide) (by decide) ?_
            walk_at "v"
            refine ⟨xv, t, 216, rfl, ht2.ks (KS.same (K9.trans KA)), hLt, by decide, fun HB KB => ?_⟩
            walk_at "v"
            refine G2.w_shw (.bl _) (Shw.bl _) (by decide) (by decide) ?_
            walk_at "v"
            refine ⟨rfl, ?_⟩
            walk_at "v"
            refine iteNS rfl ?_
            exact ⟨_, rfl, (K9.trans KA).trans KB⟩
          · rintro σ H9 ⟨u6, rfl, K9⟩
            walk_at "v"
            refine ⟨.ref pl, pt, 8, rfl, ht8.ks (KS.same K9), hpl, by decide, fun HA KA => ?_⟩
            rw [hpT]
            walk_at "v"
            refine iteF ?_
            have K8A := K9.trans KA
            exact ⟨_, _, _, _, _, _, _, rfl, S8.tk ⟨fun q xs e => K8A _ _ e, fun q o u e => K8A _ _ e⟩⟩
      · rintro σ H1 ⟨u1, u2, u3, u4, u5, u6, u7, rfl, S1⟩
        walk_at "v"
        exact k _
end
end K01

set_option Elab.async false
set_option linter.all false
set_option maxRecDepth 100000
namespace K01
open PySem L2 G2
theorem all_mk {l : PySem.W.OpenLaw} {w : World} {K : PySem.W.Frag} {h : Heap} {mg : Str → Option Value} {fa f1 f2 f3 f4 f5 f6 f7 f8 f9 f10 f11 f12 f13 f14 f15 f16 f17 f18 f19 f20 f21 f22 f23 f24 f25 f26 f27 f28 f29 f30 f31 : Addr} (X : K.In h) (G : h.Ns mainGlobals mg) (hfa : mg "law" = some (.ref fa))
    {od1 an1 od2 an2 od3 an3 od4 an4 od5 an5 od6 an6 od7 an7 od8 an8 od9 an9 od10 an10 od11 an11 od12 an12 od13 an13 od14 an14 od15 an15 od16 an16 od17 an17 od18 an18 od19 an19 od20 an20 od21 an21 od22 an22 od23 an23 od24 an24 od25 an25 od26 an26 od27 an27 od28 an28 od29 an29 od30 an30 od31 an31 : Option Addr} {sl1 sl2 sl3 sl4 sl5 sl6 sl7 sl8 sl9 sl10 sl11 sl12 sl13 sl14 sl15 sl16 sl17 sl18 sl19 sl20 sl21 sl22 sl23 sl24 sl25 sl26 sl27 sl28 sl29 sl30 sl31 : Array (Option Value)} {oc1 kV1 dc1 pm1 cd1 ct1 oc2 kV2 dc2 pm2 cd2 ct2 oc3 kV3 dc3 pm3 cd3 ct3 oc4 kV4 dc4 pm4 cd4 ct4 oc5 kV5 dc5 pm5 cd5 ct5 oc6 kV6 dc6 pm6 cd6 ct6 oc7 kV7 dc7 pm7 cd7 ct7 oc8 kV8 dc8 pm8 cd8 ct8 oc9 kV9 dc9 pm9 cd9 ct9 oc10 kV10 dc10 pm10 cd10 ct10 oc11 kV11 dc11 pm11 cd11 ct11 oc12 kV12 dc12 pm12 cd12 ct12 oc13 kV13 dc13 pm13 cd13 ct13 oc14 kV14 dc14 pm14 cd14 ct14 oc15 kV15 dc15 pm15 cd15 ct15 oc16 kV16 dc16 pm16 cd16 ct16 oc17 kV17 dc17 pm17 cd17 ct17 oc18 kV18 dc18 pm18 cd18 ct18 oc19 kV19 dc19 pm19 cd19 ct19 oc20 kV20 dc20 pm20 cd20 ct20 oc21 kV21 dc21 pm21 cd21 ct21 oc22 kV22 dc22 pm22 cd22 ct22 oc23 kV23 dc23 pm23 cd23 ct23 oc24 kV24 dc24 pm24 cd24 ct24 oc25 kV25 dc25 pm25 cd25 ct25 oc26 kV26 dc26 pm26 cd26 ct26 oc27 kV27 dc27 pm27 cd27 ct27 oc28 kV28 dc28 pm28 cd28 ct28 oc29 kV29 dc29 pm29 cd29 ct29 oc30 kV30 dc30 pm30 cd30 ct30 oc31 kV31 dc31 pm31 cd31 ct31 : Value} {t1 t2 t3 t4 t5 t6 t7 t8 t9 t10 t11 t12 t13 t14 : Tok} {ta1 : Addr} {td1 : Option Addr} {tn1 : Nat} {ts1 : Array (Option Value)} {tt1_0 tt1_1 tt1_2 tt1_3 tt1_4 tt1_5 : Tok}
    (a1 : PySem.W.nsIn K mainGlobals "is_whole" = some (some (.ref f1))) (l1 : K.lookup f1 = some ⟨oc1, od1, .func (PySem.W.fnOf "is_whole" "is_whole" (defArgs sWh) (defBody sWh) (defScope sWh) .none kV1 dc1 pm1 an1 cd1 ct1), sl1⟩) (c1 : PySem.W.codeIn K cd1 "is_whole" = true) (k1 : PySem.W.keepIn K (.ref f1) = true)
    (a2 : PySem.W.nsIn K mainGlobals "is_whole_within" = some (some (.ref f2))) (l2 : K.lookup f2 = some ⟨oc2, od2, .func (PySem.W.fnOf "is_whole_within" "is_whole_within" (defArgs sWw) (defBody sWw) (defScope sWw) .none kV2 dc2 pm2 an2 cd2 ct2), sl2⟩) (c2 : PySem.W.codeIn K cd2 "is_whole_within" = true) (k2 : PySem.W.keepIn K (.ref f2) = true)
    (a3 : PySem.W.nsIn K mainGlobals "are_wholes" = some (some (.ref f3))) (l3 : K.lookup f3 = some ⟨oc3, od3, .func (PySem.W.fnOf "are_wholes" "are_wholes" (defArgs sAw) (defBody sAw) (defScope sAw) .none kV3 dc3 pm3 an3 cd3 ct3), sl3⟩) (c3 : PySem.W.codeIn K cd3 "are_wholes" = true) (k3 : PySem.W.keepIn K (.ref f3) = true)
    (a4 : PySem.W.nsIn K mainGlobals "are_counts" = some (some (.ref f4))) (l4 : K.lookup f4 = some ⟨oc4, od4, .func (PySem.W.fnOf "are_counts" "are_counts" (defArgs sAc) (defBody sAc) (defScope sAc) .none kV4 dc4 pm4 an4 cd4 ct4), sl4⟩) (c4 : PySem.W.codeIn K cd4 "are_counts" = true) (k4 : PySem.W.keepIn K (.ref f4) = true)
    (a5 : PySem.W.nsIn K mainGlobals "are_counts_to" = some (some (.ref f5))) (l5 : K.lookup f5 = some ⟨oc5, od5, .func (PySem.W.fnOf "are_counts_to" "are_counts_to" (defArgs sAt) (defBody sAt) (defScope sAt) .none kV5 dc5 pm5 an5 cd5 ct5), sl5⟩) (c5 : PySem.W.codeIn K cd5 "are_counts_to" = true) (k5 : PySem.W.keepIn K (.ref f5) = true)
    (a6 : PySem.W.nsIn K mainGlobals "is_stand" = some (some (.ref f6))) (l6 : K.lookup f6 = some ⟨oc6, od6, .func (PySem.W.fnOf "is_stand" "is_stand" (defArgs sIst) (defBody sIst) (defScope sIst) .none kV6 dc6 pm6 an6 cd6 ct6), sl6⟩) (c6 : PySem.W.codeIn K cd6 "is_stand" = true) (k6 : PySem.W.keepIn K (.ref f6) = true)
    (a7 : PySem.W.nsIn K mainGlobals "is_amounts" = some (some (.ref f7))) (l7 : K.lookup f7 = some ⟨oc7, od7, .func (PySem.W.fnOf "is_amounts" "is_amounts" (defArgs sIam) (defBody sIam) (defScope sIam) .none kV7 dc7 pm7 an7 cd7 ct7), sl7⟩) (c7 : PySem.W.codeIn K cd7 "is_amounts" = true) (k7 : PySem.W.keepIn K (.ref f7) = true)
    (a8 : PySem.W.nsIn K mainGlobals "is_sort" = some (some (.ref f8))) (l8 : K.lookup f8 = some ⟨oc8, od8, .func (PySem.W.fnOf "is_sort" "is_sort" (defArgs sIso) (defBody sIso) (defScope sIso) .none kV8 dc8 pm8 an8 cd8 ct8), sl8⟩) (c8 : PySem.W.codeIn K cd8 "is_sort" = true) (k8 : PySem.W.keepIn K (.ref f8) = true)
    (a9 : PySem.W.nsIn K mainGlobals "is_name" = some (some (.ref f9))) (l9 : K.lookup f9 = some ⟨oc9, od9, .func (PySem.W.fnOf "is_name" "is_name" (defArgs sIn) (defBody sIn) (defScope sIn) .none kV9 dc9 pm9 an9 cd9 ct9), sl9⟩) (c9 : PySem.W.codeIn K cd9 "is_name" = true) (k9 : PySem.W.keepIn K (.ref f9) = true)
    (a10 : PySem.W.nsIn K mainGlobals "are_unlike" = some (some (.ref f10))) (l10 : K.lookup f10 = some ⟨oc10, od10, .func (PySem.W.fnOf "are_unlike" "are_unlike" (defArgs sUn) (defBody sUn) (defScope sUn) .none kV10 dc10 pm10 an10 cd10 ct10), sl10⟩) (c10 : PySem.W.codeIn K cd10 "are_unlike" = true) (k10 : PySem.W.keepIn K (.ref f10) = true)
    (a11 : PySem.W.nsIn K mainGlobals "are_sorts" = some (some (.ref f11))) (l11 : K.lookup f11 = some ⟨oc11, od11, .func (PySem.W.fnOf "are_sorts" "are_sorts" (defArgs sAs) (defBody sAs) (defScope sAs) .none kV11 dc11 pm11 an11 cd11 ct11), sl11⟩) (c11 : PySem.W.codeIn K cd11 "are_sorts" = true) (k11 : PySem.W.keepIn K (.ref f11) = true)
    (a12 : PySem.W.nsIn K mainGlobals "are_inputs" = some (some (.ref f12))) (l12 : K.lookup f12 = some ⟨oc12, od12, .func (PySem.W.fnOf "are_inputs" "are_inputs" (defArgs sAi) (defBody sAi) (defScope sAi) .none kV12 dc12 pm12 an12 cd12 ct12), sl12⟩) (c12 : PySem.W.codeIn K cd12 "are_inputs" = true) (k12 : PySem.W.keepIn K (.ref f12) = true)
    (a13 : PySem.W.nsIn K mainGlobals "is_rule" = some (some (.ref f13))) (l13 : K.lookup f13 = some ⟨oc13, od13, .func (PySem.W.fnOf "is_rule" "is_rule" (defArgs sIr) (defBody sIr) (defScope sIr) .none kV13 dc13 pm13 an13 cd13 ct13), sl13⟩) (c13 : PySem.W.codeIn K cd13 "is_rule" = true) (k13 : PySem.W.keepIn K (.ref f13) = true)
    (a14 : PySem.W.nsIn K mainGlobals "are_rules" = some (some (.ref f14))) (l14 : K.lookup f14 = some ⟨oc14, od14, .func (PySem.W.fnOf "are_rules" "are_rules" (defArgs sAr) (defBody sAr) (defScope sAr) .none kV14 dc14 pm14 an14 cd14 ct14), sl14⟩) (c14 : PySem.W.codeIn K cd14 "are_rules" = true) (k14 : PySem.W.keepIn K (.ref f14) = true)
    (a15 : PySem.W.nsIn K mainGlobals "is_pot" = some (some (.ref f15))) (l15 : K.lookup f15 = some ⟨oc15, od15, .func (PySem.W.fnOf "is_pot" "is_pot" (defArgs sIp) (defBody sIp) (defScope sIp) .none kV15 dc15 pm15 an15 cd15 ct15), sl15⟩) (c15 : PySem.W.codeIn K cd15 "is_pot" = true) (k15 : PySem.W.keepIn K (.ref f15) = true)
    (a16 : PySem.W.nsIn K mainGlobals "_law_whole" = some (some (.ref f16))) (l16 : K.lookup f16 = some ⟨oc16, od16, .func (PySem.W.fnOf "_law_whole" "_law_whole" (defArgs sLw) (defBody sLw) (defScope sLw) .none kV16 dc16 pm16 an16 cd16 ct16), sl16⟩) (c16 : PySem.W.codeIn K cd16 "_law_whole" = true) (k16 : PySem.W.keepIn K (.ref f16) = true)
    (a17 : PySem.W.nsIn K mainGlobals "_law_is_name" = some (some (.ref f17))) (l17 : K.lookup f17 = some ⟨oc17, od17, .func (PySem.W.fnOf "_law_is_name" "_law_is_name" (defArgs sLn) (defBody sLn) (defScope sLn) .none kV17 dc17 pm17 an17 cd17 ct17), sl17⟩) (c17 : PySem.W.codeIn K cd17 "_law_is_name" = true) (k17 : PySem.W.keepIn K (.ref f17) = true)
    (a18 : PySem.W.nsIn K mainGlobals "_law_is_row" = some (some (.ref f18))) (l18 : K.lookup f18 = some ⟨oc18, od18, .func (PySem.W.fnOf "_law_is_row" "_law_is_row" (defArgs sLr) (defBody sLr) (defScope sLr) .none kV18 dc18 pm18 an18 cd18 ct18), sl18⟩) (c18 : PySem.W.codeIn K cd18 "_law_is_row" = true) (k18 : PySem.W.keepIn K (.ref f18) = true)
    (a19 : PySem.W.nsIn K mainGlobals "_law_unlike" = some (some (.ref f19))) (l19 : K.lookup f19 = some ⟨oc19, od19, .func (PySem.W.fnOf "_law_unlike" "_law_unlike" (defArgs sLu) (defBody sLu) (defScope sLu) .none kV19 dc19 pm19 an19 cd19 ct19), sl19⟩) (c19 : PySem.W.codeIn K cd19 "_law_unlike" = true) (k19 : PySem.W.keepIn K (.ref f19) = true)
    (a20 : PySem.W.nsIn K mainGlobals "_law_is_rule" = some (some (.ref f20))) (l20 : K.lookup f20 = some ⟨oc20, od20, .func (PySem.W.fnOf "_law_is_rule" "_law_is_rule" (defArgs sLru) (defBody sLru) (defScope sLru) .none kV20 dc20 pm20 an20 cd20 ct20), sl20⟩) (c20 : PySem.W.codeIn K cd20 "_law_is_rule" = true) (k20 : PySem.W.keepIn K (.ref f20) = true)
    (a21 : PySem.W.nsIn K mainGlobals "_law_is_pot" = some (some (.ref f21))) (l21 : K.lookup f21 = some ⟨oc21, od21, .func (PySem.W.fnOf "_law_is_pot" "_law_is_pot" (defArgs sLp) (defBody sLp) (defScope sLp) .none kV21 dc21 pm21 an21 cd21 ct21), sl21⟩) (c21 : PySem.W.codeIn K cd21 "_law_is_pot" = true) (k21 : PySem.W.keepIn K (.ref f21) = true)
    (a22 : PySem.W.nsIn K mainGlobals "_law_feed" = some (some (.ref f22))) (l22 : K.lookup f22 = some ⟨oc22, od22, .func (PySem.W.fnOf "_law_feed" "_law_feed" (defArgs K1P.sFeed) (defBody K1P.sFeed) (defScope K1P.sFeed) .none kV22 dc22 pm22 an22 cd22 ct22), sl22⟩) (c22 : PySem.W.codeIn K cd22 "_law_feed" = true) (k22 : PySem.W.keepIn K (.ref f22) = true)
    (a23 : PySem.W.nsIn K mainGlobals "_law_draw" = some (some (.ref f23))) (l23 : K.lookup f23 = some ⟨oc23, od23, .func (PySem.W.fnOf "_law_draw" "_law_draw" (defArgs K1P.sDraw) (defBody K1P.sDraw) (defScope K1P.sDraw) .none kV23 dc23 pm23 an23 cd23 ct23), sl23⟩) (c23 : PySem.W.codeIn K cd23 "_law_draw" = true) (k23 : PySem.W.keepIn K (.ref f23) = true)
    (a24 : PySem.W.nsIn K mainGlobals "_law_names" = some (some (.ref f24))) (l24 : K.lookup f24 = some ⟨oc24, od24, .func (PySem.W.fnOf "_law_names" "_law_names" (defArgs K1P.sNames) (defBody K1P.sNames) (defScope K1P.sNames) .none kV24 dc24 pm24 an24 cd24 ct24), sl24⟩) (c24 : PySem.W.codeIn K cd24 "_law_names" = true) (k24 : PySem.W.keepIn K (.ref f24) = true)
    (a25 : PySem.W.nsIn K mainGlobals "_law_rule" = some (some (.ref f25))) (l25 : K.lookup f25 = some ⟨oc25, od25, .func (PySem.W.fnOf "_law_rule" "_law_rule" (defArgs K1P.sRule) (defBody K1P.sRule) (defScope K1P.sRule) .none kV25 dc25 pm25 an25 cd25 ct25), sl25⟩) (c25 : PySem.W.codeIn K cd25 "_law_rule" = true) (k25 : PySem.W.keepIn K (.ref f25) = true)
    (a26 : PySem.W.nsIn K mainGlobals "_law_pot" = some (some (.ref f26))) (l26 : K.lookup f26 = some ⟨oc26, od26, .func (PySem.W.fnOf "_law_pot" "_law_pot" (defArgs K1P.sPot) (defBody K1P.sPot) (defScope K1P.sPot) .none kV26 dc26 pm26 an26 cd26 ct26), sl26⟩) (c26 : PySem.W.codeIn K cd26 "_law_pot" = true) (k26 : PySem.W.keepIn K (.ref f26) = true)
    (a27 : PySem.W.nsIn K mainGlobals "_law_odd" = some (some (.ref f27))) (l27 : K.lookup f27 = some ⟨oc27, od27, .func (PySem.W.fnOf "_law_odd" "_law_odd" (defArgs sOd) (defBody sOd) (defScope sOd) .none kV27 dc27 pm27 an27 cd27 ct27), sl27⟩) (c27 : PySem.W.codeIn K cd27 "_law_odd" = true) (k27 : PySem.W.keepIn K (.ref f27) = true)
    (a28 : PySem.W.nsIn K mainGlobals "_law_bent" = some (some (.ref f28))) (l28 : K.lookup f28 = some ⟨oc28, od28, .func (PySem.W.fnOf "_law_bent" "_law_bent" (defArgs sBt) (defBody sBt) (defScope sBt) .none kV28 dc28 pm28 an28 cd28 ct28), sl28⟩) (c28 : PySem.W.codeIn K cd28 "_law_bent" = true) (k28 : PySem.W.keepIn K (.ref f28) = true)
    (a29 : PySem.W.nsIn K mainGlobals "_law_names_right" = some (some (.ref f29))) (l29 : K.lookup f29 = some ⟨oc29, od29, .func (PySem.W.fnOf "_law_names_right" "_law_names_right" (defArgs sNr) (defBody sNr) (defScope sNr) .none kV29 dc29 pm29 an29 cd29 ct29), sl29⟩) (c29 : PySem.W.codeIn K cd29 "_law_names_right" = true) (k29 : PySem.W.keepIn K (.ref f29) = true)
    (a30 : PySem.W.nsIn K mainGlobals "_law_rows_right" = some (some (.ref f30))) (l30 : K.lookup f30 = some ⟨oc30, od30, .func (PySem.W.fnOf "_law_rows_right" "_law_rows_right" (defArgs sRr) (defBody sRr) (defScope sRr) .none kV30 dc30 pm30 an30 cd30 ct30), sl30⟩) (c30 : PySem.W.codeIn K cd30 "_law_rows_right" = true) (k30 : PySem.W.keepIn K (.ref f30) = true)
    (a31 : PySem.W.nsIn K mainGlobals "law" = some (some (.ref f31))) (l31 : K.lookup f31 = some ⟨oc31, od31, .func (PySem.W.fnOf "law" "law" (defArgs sLaw) (defBody sLaw) (defScope sLaw) .none kV31 dc31 pm31 an31 cd31 ct31), sl31⟩) (c31 : PySem.W.codeIn K cd31 "law" = true) (k31 : PySem.W.keepIn K (.ref f31) = true)
    (z1 : PySem.W.nsIn K mainGlobals "len" = some none) (z2 : PySem.W.nsIn K mainGlobals "range" = some none) (z3 : PySem.W.nsIn K mainGlobals "tuple" = some none) (z4 : PySem.W.nsIn K mainGlobals "int" = some none) (z5 : PySem.W.nsIn K mainGlobals "bool" = some none) (z6 : PySem.W.nsIn K mainGlobals "list" = some none) (z7 : PySem.W.nsIn K mainGlobals "str" = some none) (z8 : PySem.W.nsIn K mainGlobals "all" = some none) (z9 : PySem.W.nsIn K mainGlobals "any" = some none) (z10 : PySem.W.nsIn K mainGlobals "set" = some none) (z11 : PySem.W.nsIn K mainGlobals "isinstance" = some none) (z12 : PySem.W.nsIn K mainGlobals "min" = some none) (z13 : PySem.W.nsIn K mainGlobals "repr" = some none)
    (g1 : PySem.W.nsIn K mainGlobals "SORTS" = some (some (.int (0) t1))) (g2 : PySem.W.nsIn K mainGlobals "RULES" = some (some (.int (1) t2))) (g3 : PySem.W.nsIn K mainGlobals "INPUTS" = some (some (.int (2) t3))) (g4 : PySem.W.nsIn K mainGlobals "BEGIN" = some (some (.int (3) t4))) (g5 : PySem.W.nsIn K mainGlobals "ANSWER" = some (some (.int (4) t5))) (g6 : PySem.W.nsIn K mainGlobals "TAKES" = some (some (.int (0) t6))) (g7 : PySem.W.nsIn K mainGlobals "GIVES" = some (some (.int (1) t7))) (g8 : PySem.W.nsIn K mainGlobals "MOST_SORTS" = some (some (.int (8) t8))) (g9 : PySem.W.nsIn K mainGlobals "MOST_RULES" = some (some (.int (8) t9))) (g10 : PySem.W.nsIn K mainGlobals "MOST_INPUTS" = some (some (.int (3) t10))) (g11 : PySem.W.nsIn K mainGlobals "MOST_BEGIN" = some (some (.int (99) t11))) (g12 : PySem.W.nsIn K mainGlobals "MOST_DROPS" = some (some (.int (9) t12))) (g13 : PySem.W.nsIn K mainGlobals "MOST_LETTERS" = some (some (.int (8) t13))) (g14 : PySem.W.nsIn K mainGlobals "LETTERS" = some (some (.str "abcdefghijklmnopqrstuvwxyz" t14))) (tg1 : PySem.W.nsIn K mainGlobals "NO_NAMES" = some (some (.ref ta1))) (tl1 : K.lookup ta1 = some ⟨.type "tuple", td1, .seq #[.str "sorts" tt1_0, .str "begin" tt1_1, .str "in" tt1_2, .str "out" tt1_3, .str "rule" tt1_4, .str "to" tt1_5] tn1, ts1⟩) :
    ∃ fd : FuncData, (∀ (s : Shared) (v : Value), BindsTo s fd ⟨[v], []⟩ [("_law_script", v)]) ∧ ∀ base : Heap, K.In base → base.Ns mainGlobals mg → FnOk l.prog w K mg base CX0 11 fa fd ["_law_script"] (spLaw K) := by
  have e := hfa.symm.trans (PySem.W.mg_of X G a31)
  cases e
  have F1 := fun_mk (st := sWh) l1 c1 k1
  have b1 := F1.binds (ps := ["thing"]) fun _ _ _ _ _ _ us hl => match us, hl with | [_], _ => rfl
  have m1 := PySem.W.mg_of X G a1
  have F2 := fun_mk (st := sWw) l2 c2 k2
  have b2 := F2.binds (ps := ["thing", "low", "high"]) fun _ _ _ _ _ _ us hl => match us, hl with | [_, _, _], _ => rfl
  have m2 := PySem.W.mg_of X G a2
  have F3 := fun_mk (st := sAw) l3 c3 k3
  have b3 := F3.binds (ps := ["many", "thing"]) fun _ _ _ _ _ _ us hl => match us, hl with | [_, _], _ => rfl
  have m3 := PySem.W.mg_of X G a3
  have F4 := fun_mk (st := sAc) l4 c4 k4
  have b4 := F4.binds (ps := ["many", "thing"]) fun _ _ _ _ _ _ us hl => match us, hl with | [_, _], _ => rfl
  have m4 := PySem.W.mg_of X G a4
  have F5 := fun_mk (st := sAt) l5 c5 k5
  have b5 := F5.binds (ps := ["high", "many", "thing"]) fun _ _ _ _ _ _ us hl => match us, hl with | [_, _, _], _ => rfl
  have m5 := PySem.W.mg_of X G a5
  have F6 := fun_mk (st := sIst) l6 c6 k6
  have b6 := F6.binds (ps := ["many", "thing"]) fun _ _ _ _ _ _ us hl => match us, hl with | [_, _], _ => rfl
  have m6 := PySem.W.mg_of X G a6
  have F7 := fun_mk (st := sIam) l7 c7 k7
  have b7 := F7.binds (ps := ["many", "thing"]) fun _ _ _ _ _ _ us hl => match us, hl with | [_, _], _ => rfl
  have m7 := PySem.W.mg_of X G a7
  have F8 := fun_mk (st := sIso) l8 c8 k8
  have b8 := F8.binds (ps := ["many", "thing"]) fun _ _ _ _ _ _ us hl => match us, hl with | [_, _], _ => rfl
  have m8 := PySem.W.mg_of X G a8
  have F9 := fun_mk (st := sIn) l9 c9 k9
  have b9 := F9.binds (ps := ["thing"]) fun _ _ _ _ _ _ us hl => match us, hl with | [_], _ => rfl
  have m9 := PySem.W.mg_of X G a9
  have F10 := fun_mk (st := sUn) l10 c10 k10
  have b10 := F10.binds (ps := ["things"]) fun _ _ _ _ _ _ us hl => match us, hl with | [_], _ => rfl
  have m10 := PySem.W.mg_of X G a10
  have F11 := fun_mk (st := sAs) l11 c11 k11
  have b11 := F11.binds (ps := ["thing"]) fun _ _ _ _ _ _ us hl => match us, hl with | [_], _ => rfl
  have m11 := PySem.W.mg_of X G a11
  have F12 := fun_mk (st := sAi) l12 c12 k12
  have b12 := F12.binds (ps := ["many", "thing"]) fun _ _ _ _ _ _ us hl => match us, hl with | [_, _], _ => rfl
  have m12 := PySem.W.mg_of X G a12
  have F13 := fun_mk (st := sIr) l13 c13 k13
  have b13 := F13.binds (ps := ["many", "thing"]) fun _ _ _ _ _ _ us hl => match us, hl with | [_, _], _ => rfl
  have m13 := PySem.W.mg_of X G a13
  have F14 := fun_mk (st := sAr) l14 c14 k14
  have b14 := F14.binds (ps := ["many", "thing"]) fun _ _ _ _ _ _ us hl => match us, hl with | [_, _], _ => rfl
  have m14 := PySem.W.mg_of X G a14
  have F15 := fun_mk (st := sIp) l15 c15 k15
  have b15 := F15.binds (ps := ["thing"]) fun _ _ _ _ _ _ us hl => match us, hl with | [_], _ => rfl
  have m15 := PySem.W.mg_of X G a15
  have F16 := fun_mk (st := sLw) l16 c16 k16
  have b16 := F16.binds (ps := ["_law_thing", "_law_least", "_law_most"]) fun _ _ _ _ _ _ us hl => match us, hl with | [_, _, _], _ => rfl
  have m16 := PySem.W.mg_of X G a16
  have F17 := fun_mk (st := sLn) l17 c17 k17
  have b17 := F17.binds (ps := ["_law_thing"]) fun _ _ _ _ _ _ us hl => match us, hl with | [_], _ => rfl
  have m17 := PySem.W.mg_of X G a17
  have F18 := fun_mk (st := sLr) l18 c18 k18
  have b18 := F18.binds (ps := ["_law_thing", "_law_many", "_law_most"]) fun _ _ _ _ _ _ us hl => match us, hl with | [_, _, _], _ => rfl
  have m18 := PySem.W.mg_of X G a18
  have F19 := fun_mk (st := sLu) l19 c19 k19
  have b19 := F19.binds (ps := ["_law_things"]) fun _ _ _ _ _ _ us hl => match us, hl with | [_], _ => rfl
  have m19 := PySem.W.mg_of X G a19
  have F20 := fun_mk (st := sLru) l20 c20 k20
  have b20 := F20.binds (ps := ["_law_thing", "_law_many"]) fun _ _ _ _ _ _ us hl => match us, hl with | [_, _], _ => rfl
  have m20 := PySem.W.mg_of X G a20
  have F21 := fun_mk (st := sLp) l21 c21 k21
  have b21 := F21.binds (ps := ["_law_thing"]) fun _ _ _ _ _ _ us hl => match us, hl with | [_], _ => rfl
  have m21 := PySem.W.mg_of X G a21
  have F22 := fun_mk (st := K1P.sFeed) l22 c22 k22
  have b22 := F22.binds (ps := ["_law_script", "_law_k"]) fun _ _ _ _ _ _ us hl => match us, hl with | [_, _], _ => rfl
  have m22 := PySem.W.mg_of X G a22
  have F23 := fun_mk (st := K1P.sDraw) l23 c23 k23
  have b23 := F23.binds (ps := ["_law_feed_here", "_law_many"]) fun _ _ _ _ _ _ us hl => match us, hl with | [_, _], _ => rfl
  have m23 := PySem.W.mg_of X G a23
  have F24 := fun_mk (st := K1P.sNames) l24 c24 k24
  have b24 := F24.binds (ps := ["_law_feed_here", "_law_many"]) fun _ _ _ _ _ _ us hl => match us, hl with | [_, _], _ => rfl
  have m24 := PySem.W.mg_of X G a24
  have F25 := fun_mk (st := K1P.sRule) l25 c25 k25
  have b25 := F25.binds (ps := ["_law_feed_here", "_law_many"]) fun _ _ _ _ _ _ us hl => match us, hl with | [_, _], _ => rfl
  have m25 := PySem.W.mg_of X G a25
  have F26 := fun_mk (st := K1P.sPot) l26 c26 k26
  have b26 := F26.binds (ps := ["_law_feed_here"]) fun _ _ _ _ _ _ us hl => match us, hl with | [_], _ => rfl
  have m26 := PySem.W.mg_of X G a26
  have F27 := fun_mk (st := sOd) l27 c27 k27
  have b27 := F27.binds (ps := ["_law_feed_here", "_law_thing"]) fun _ _ _ _ _ _ us hl => match us, hl with | [_, _], _ => rfl
  have m27 := PySem.W.mg_of X G a27
  have F28 := fun_mk (st := sBt) l28 c28 k28
  have b28 := F28.binds (ps := ["_law_feed_here", "_law_thing", "_law_deep"]) fun _ _ _ _ _ _ us hl => match us, hl with | [_, _, _], _ => rfl
  have m28 := PySem.W.mg_of X G a28
  have F29 := fun_mk (st := sNr) l29 c29 k29
  have b29 := F29.binds (ps := ["_law_feed_here"]) fun _ _ _ _ _ _ us hl => match us, hl with | [_], _ => rfl
  have m29 := PySem.W.mg_of X G a29
  have F30 := fun_mk (st := sRr) l30 c30 k30
  have b30 := F30.binds (ps := ["_law_feed_here", "_law_many"]) fun _ _ _ _ _ _ us hl => match us, hl with | [_, _], _ => rfl
  have m30 := PySem.W.mg_of X G a30
  have F31 := fun_mk (st := sLaw) l31 c31 k31
  have y1 := PySem.W.mg_none_of X G z1
  have y2 := PySem.W.mg_none_of X G z2
  have y3 := PySem.W.mg_none_of X G z3
  have y4 := PySem.W.mg_none_of X G z4
  have y5 := PySem.W.mg_none_of X G z5
  have y6 := PySem.W.mg_none_of X G z6
  have y7 := PySem.W.mg_none_of X G z7
  have y8 := PySem.W.mg_none_of X G z8
  have y9 := PySem.W.mg_none_of X G z9
  have y10 := PySem.W.mg_none_of X G z10
  have y11 := PySem.W.mg_none_of X G z11
  have y12 := PySem.W.mg_none_of X G z12
  have y13 := PySem.W.mg_none_of X G z13
  have B : BltK K mg := ⟨⟨y1, y2, y3, y4, y5, y6, y7, y8, y9, y10, y11⟩, ⟨_, PySem.W.mg_of X G g1⟩, ⟨_, PySem.W.mg_of X G g2⟩, ⟨_, PySem.W.mg_of X G g3⟩, ⟨_, PySem.W.mg_of X G g4⟩, ⟨_, PySem.W.mg_of X G g5⟩, ⟨_, PySem.W.mg_of X G g6⟩, ⟨_, PySem.W.mg_of X G g7⟩, ⟨_, PySem.W.mg_of X G g8⟩, ⟨_, PySem.W.mg_of X G g9⟩, ⟨_, PySem.W.mg_of X G g10⟩, ⟨_, PySem.W.mg_of X G g11⟩, ⟨_, PySem.W.mg_of X G g12⟩, ⟨_, PySem.W.mg_of X G g13⟩, ⟨_, PySem.W.mg_of X G g14⟩, ⟨ta1, _, _, _, PySem.W.mg_of X G tg1, tl1, rfl, rfl, by show 6 ≤ sizeLine; decide, (.cons ⟨_, rfl⟩ (.cons ⟨_, rfl⟩ (.cons ⟨_, rfl⟩ (.cons ⟨_, rfl⟩ (.cons ⟨_, rfl⟩ (.cons ⟨_, rfl⟩ .nil))))))⟩⟩
  have C1 : K1P.Blt mg := ⟨y1, y2, y3, y4⟩
  have C : K1P.Blt2 mg := ⟨C1, y6, y12⟩
  refine ⟨PySem.W.fnOf "law" "law" (defArgs sLaw) (defBody sLaw) (defScope sLaw) .none kV31 dc31 pm31 an31 cd31 ct31, fun s v => .of_eq rfl, fun base _ _ => ?_⟩
  have H1 : Has l.prog w K mg base 1 "is_whole" ["thing"] spWh := ⟨_, _, ok_Wh B.toBlt F1, m1, k1, b1⟩
  have H2 : Has l.prog w K mg base 2 "is_whole_within" ["thing", "low", "high"] spWw := ⟨_, _, ok_Ww B.toBlt H1 F2, m2, k2, b2⟩
  have H3 : Has l.prog w K mg base 2 "are_wholes" ["many", "thing"] (spMT whsT) := ⟨_, _, ok_Aw B.toBlt H1 F3, m3, k3, b3⟩
  have H4 : Has l.prog w K mg base 3 "are_counts" ["many", "thing"] (spMT cntT) := ⟨_, _, ok_Ac B.toBlt H3 F4, m4, k4, b4⟩
  have H5 : Has l.prog w K mg base 4 "are_counts_to" ["high", "many", "thing"] spAt := ⟨_, _, ok_At B.toBlt H4 F5, m5, k5, b5⟩
  have H6 : Has l.prog w K mg base 4 "is_stand" ["many", "thing"] (spMT cntT) := ⟨_, _, ok_Ist H4 F6, m6, k6, b6⟩
  have H7 : Has l.prog w K mg base 4 "is_amounts" ["many", "thing"] (spMT cntT) := ⟨_, _, ok_Iam H4 F7, m7, k7, b7⟩
  have H8 : Has l.prog w K mg base 3 "is_sort" ["many", "thing"] spIso := ⟨_, _, ok_Iso H2 F8, m8, k8, b8⟩
  have H9 : Has l.prog w K mg base 1 "is_name" ["thing"] (spT nameT) := ⟨_, _, ok_In B F9, m9, k9, b9⟩
  have H10 : Has l.prog w K mg base 1 "are_unlike" ["things"] spUn := ⟨_, _, ok_Un B.toBlt F10, m10, k10, b10⟩
  have H11 : Has l.prog w K mg base 2 "are_sorts" ["thing"] (spT sortsT) := ⟨_, _, ok_As B H9 H10 F11, m11, k11, b11⟩
  have H12 : Has l.prog w K mg base 4 "are_inputs" ["many", "thing"] (spMT inpT) := ⟨_, _, ok_Ai B H8 H10 F12, m12, k12, b12⟩
  have H13 : Has l.prog w K mg base 5 "is_rule" ["many", "thing"] (spMT ruleT) := ⟨_, _, ok_Ir B H5 F13, m13, k13, b13⟩
  have H14 : Has l.prog w K mg base 6 "are_rules" ["many", "thing"] (spMT rulesT) := ⟨_, _, ok_Ar B H13 F14, m14, k14, b14⟩
  have H15 : Has l.prog w K mg base 7 "is_pot" ["thing"] (spT potT) := ⟨_, _, ok_Ip B H11 H14 H12 H5 H8 F15, m15, k15, b15⟩
  have H16 : Has l.prog w K mg base 1 "_law_whole" ["_law_thing", "_law_least", "_law_most"] spWw := ⟨_, _, ok_Lw B.toBlt F16, m16, k16, b16⟩
  have H17 : Has l.prog w K mg base 1 "_law_is_name" ["_law_thing"] (spT nameT) := ⟨_, _, ok_Ln B.toBlt F17, m17, k17, b17⟩
  have H18 : Has l.prog w K mg base 2 "_law_is_row" ["_law_thing", "_law_many", "_law_most"] spLr := ⟨_, _, ok_Lr B.toBlt H16 F18, m18, k18, b18⟩
  have H19 : Has l.prog w K mg base 1 "_law_unlike" ["_law_things"] spUn := ⟨_, _, ok_Lu B.toBlt F19, m19, k19, b19⟩
  have H20 : Has l.prog w K mg base 3 "_law_is_rule" ["_law_thing", "_law_many"] spLru := ⟨_, _, ok_Lru B.toBlt H18 F20, m20, k20, b20⟩
  have H21 : Has l.prog w K mg base 4 "_law_is_pot" ["_law_thing"] (spT potT) := ⟨_, _, ok_Lp B.toBlt H17 H19 H20 H16 H18 F21, m21, k21, b21⟩
  have H22 : Has l.prog w K mg base 1 "_law_feed" ["_law_script", "_law_k"] (K1P.spFeed K) := ⟨_, _, K1P.ok_feed y1 F22, m22, k22, b22⟩
  have H23 : Has l.prog w K mg base 1 "_law_draw" ["_law_feed_here", "_law_many"] K1P.spDraw := ⟨_, _, K1P.ok_draw F23, m23, k23, b23⟩
  have H24 : Has l.prog w K mg base 2 "_law_names" ["_law_feed_here", "_law_many"] K1P.spNames := ⟨_, _, K1P.ok_names y2 H23 F24, m24, k24, b24⟩
  have H25 : Has l.prog w K mg base 2 "_law_rule" ["_law_feed_here", "_law_many"] K1P.spRule := ⟨_, _, K1P.ok_rule C1 H23 F25, m25, k25, b25⟩
  have H26 : Has l.prog w K mg base 3 "_law_pot" ["_law_feed_here"] K1P.spPot := ⟨_, _, K1P.ok_pot C H23 H24 H25 F26, m26, k26, b26⟩
  have H27 : Has l.prog w K mg base 2 "_law_odd" ["_law_feed_here", "_law_thing"] spOd := ⟨_, _, ok_Od B.toBlt H23 F27, m27, k27, b27⟩
  have HB0 : Has l.prog w K mg base 2 "_law_bent" ["_law_feed_here", "_law_thing", "_law_deep"] (spBt 0) := ⟨_, _, fn_no, m28, k28, b28⟩
  have HB1 : Has l.prog w K mg base 3 "_law_bent" ["_law_feed_here", "_law_thing", "_law_deep"] (spBt 1) := ⟨_, _, ok_Bt B.toBlt H23 H27 HB0 F28, m28, k28, b28⟩
  have HB2 : Has l.prog w K mg base 4 "_law_bent" ["_law_feed_here", "_law_thing", "_law_deep"] (spBt 2) := ⟨_, _, ok_Bt B.toBlt H23 H27 HB1 F28, m28, k28, b28⟩
  have HB3 : Has l.prog w K mg base 5 "_law_bent" ["_law_feed_here", "_law_thing", "_law_deep"] (spBt 3) := ⟨_, _, ok_Bt B.toBlt H23 H27 HB2 F28, m28, k28, b28⟩
  have HB4 : Has l.prog w K mg base 6 "_law_bent" ["_law_feed_here", "_law_thing", "_law_deep"] (spBt 4) := ⟨_, _, ok_Bt B.toBlt H23 H27 HB3 F28, m28, k28, b28⟩
  have HB5 : Has l.prog w K mg base 7 "_law_bent" ["_law_feed_here", "_law_thing", "_law_deep"] (spBt 5) := ⟨_, _, ok_Bt B.toBlt H23 H27 HB4 F28, m28, k28, b28⟩
  have HB6 : Has l.prog w K mg base 8 "_law_bent" ["_law_feed_here", "_law_thing", "_law_deep"] (spBt 6) := ⟨_, _, ok_Bt B.toBlt H23 H27 HB5 F28, m28, k28, b28⟩
  have HB7 : Has l.prog w K mg base 9 "_law_bent" ["_law_feed_here", "_law_thing", "_law_deep"] (spBt 7) := ⟨_, _, ok_Bt B.toBlt H23 H27 HB6 F28, m28, k28, b28⟩
  have H29 : Has l.prog w K mg base 3 "_law_names_right" ["_law_feed_here"] spNr := ⟨_, _, ok_Nr y13 H24 H9 H17 F29, m29, k29, b29⟩
  have H30 : Has l.prog w K mg base 10 "_law_rows_right" ["_law_feed_here", "_law_many"] spRr := ⟨_, _, ok_Rr B.toBlt y13 H23 HB7 H18 H7 H6 F30, m30, k30, b30⟩
  exact ok_Law B.toBlt y13 H22 H23 H26 H29 H30 HB7 H15 H21 F31
theorem walk {l : PySem.W.OpenLaw} {q : Program} {loose : List Str} {XP : (Str → Option Value) → Heap → Prop} {YP : World → Heap → Prop} {d : DefRec} {K : Params → PySem.W.Frag} (hn : l.most = some 63) (hdf : d.params.defaults = [])
    (hY : ∀ (w : World) (h : Heap), YP w h → (K w.params).In h)
    (F : ∀ (w : World) (mg : Str → Option Value) (fa : Addr) (h : Heap), (K w.params).In h → h.Ns mainGlobals mg → mg d.name = some (.ref fa) →
      ∃ fd : FuncData, (∀ (s : Shared) (u : Value), BindsTo s fd ⟨[u], []⟩ [("_law_script", u)]) ∧ ∀ base : Heap, (K w.params).In base → base.Ns mainGlobals mg → FnOk l.prog w (K w.params) mg base CX0 11 fa fd ["_law_script"] (spLaw (K w.params))) :
    PySem.W.WalkO q loose XP YP l.row.toRowW d [] (fun f vs => PySem.call f vs) :=
  L2.walk_of (n := 63) (k := 11) (x := "_law_script") (CX := fun _ => CX0) (sp := fun w => spLaw (K w.params)) hn (by decide) hdf ⟨rfl, by decide, by decide, rfl⟩ hY F (fun _ H a ns hl hO hS => ⟨a, ns, rfl, SqF.of hO hS, hl, fun _ => rfl⟩) fun _ _ _ _ _ z => z
end K01
open PySem PySem.W PyProof.Rows
set_option maxRecDepth 100000 in
set_option maxHeartbeats 0 in
theorem PySem.Challenge.cw_dropsums_k01_names_and_pots_holds : PySem.Challenge.rw_dropsums_k01_names_and_pots.Holds := by
  w_on; o_law; k_head; (case hw => w_witness2)
  k_fill
  refine K01.walk (l := PySem.Challenge.rw_dropsums_k01_names_and_pots) rfl rfl (fun w h Y => PySem.W.kIn_of Y) ?F
  case F =>
    intro w mg fa h KX G hmg
    refine' K01.all_mk KX G hmg ?a1 ?l1 ?c1 ?k1 ?a2 ?l2 ?c2 ?k2 ?a3 ?l3 ?c3 ?k3 ?a4 ?l4 ?c4 ?k4 ?a5 ?l5 ?c5 ?k5 ?a6 ?l6 ?c6 ?k6 ?a7 ?l7 ?c7 ?k7 ?a8 ?l8 ?c8 ?k8 ?a9 ?l9 ?c9 ?k9 ?a10 ?l10 ?c10 ?k10 ?a11 ?l11 ?c11 ?k11 ?a12 ?l12 ?c12 ?k12 ?a13 ?l13 ?c13 ?k13 ?a14 ?l14 ?c14 ?k14 ?a15 ?l15 ?c15 ?k15 ?a16 ?l16 ?c16 ?k16 ?a17 ?l17 ?c17 ?k17 ?a18 ?l18 ?c18 ?k18 ?a19 ?l19 ?c19 ?k19 ?a20 ?l20 ?c20 ?k20 ?a21 ?l21 ?c21 ?k21 ?a22 ?l22 ?c22 ?k22 ?a23 ?l23 ?c23 ?k23 ?a24 ?l24 ?c24 ?k24 ?a25 ?l25 ?c25 ?k25 ?a26 ?l26 ?c26 ?k26 ?a27 ?l27 ?c27 ?k27 ?a28 ?l28 ?c28 ?k28 ?a29 ?l29 ?c29 ?k29 ?a30 ?l30 ?c30 ?k30 ?a31 ?l31 ?c31 ?k31 ?z1 ?z2 ?z3 ?z4 ?z5 ?z6 ?z7 ?z8 ?z9 ?z10 ?z11 ?z12 ?z13 ?g1 ?g2 ?g3 ?g4 ?g5 ?g6 ?g7 ?g8 ?g9 ?g10 ?g11 ?g12 ?g13 ?g14 ?tg1 ?tl1
    (case a1 => k_is)
    (case l1 => k_is)
    (case c1 => k_is)
    (case k1 => k_is)
    (case a2 => k_is)
    (case l2 => k_is)
    (case c2 => k_is)
    (case k2 => k_is)
    (case a3 => k_is)
    (case l3 => k_is)
    (case c3 => k_is)
    (case k3 => k_is)
    (case a4 => k_is)
    (case l4 => k_is)
    (case c4 => k_is)
    (case k4 => k_is)
    (case a5 => k_is)
    (case l5 => k_is)
    (case c5 => k_is)
    (case k5 => k_is)
    (case a6 => k_is)
    (case l6 => k_is)
    (case c6 => k_is)
    (case k6 => k_is)
    (case a7 => k_is)
    (case l7 => k_is)
    (case c7 => k_is)
    (case k7 => k_is)
    (case a8 => k_is)
    (case l8 => k_is)
    (case c8 => k_is)
    (case k8 => k_is)
    (case a9 => k_is)
    (case l9 => k_is)
    (case c9 => k_is)
    (case k9 => k_is)
    (case a10 => k_is)
    (case l10 => k_is)
    (case c10 => k_is)
    (case k10 => k_is)
    (case a11 => k_is)
    (case l11 => k_is)
    (case c11 => k_is)
    (case k11 => k_is)
    (case a12 => k_is)
    (case l12 => k_is)
    (case c12 => k_is)
    (case k12 => k_is)
    (case a13 => k_is)
    (case l13 => k_is)
    (case c13 => k_is)
    (case k13 => k_is)
    (case a14 => k_is)
    (case l14 => k_is)
    (case c14 => k_is)
    (case k14 => k_is)
    (case a15 => k_is)
    (case l15 => k_is)
    (case c15 => k_is)
    (case k15 => k_is)
    (case a16 => k_is)
    (case l16 => k_is)
    (case c16 => k_is)
    (case k16 => k_is)
    (case a17 => k_is)
    (case l17 => k_is)
    (case c17 => k_is)
    (case k17 => k_is)
    (case a18 => k_is)
    (case l18 => k_is)
    (case c18 => k_is)
    (case k18 => k_is)
    (case a19 => k_is)
    (case l19 => k_is)
    (case c19 => k_is)
    (case k19 => k_is)
    (case a20 => k_is)
    (case l20 => k_is)
    (case c20 => k_is)
    (case k20 => k_is)
    (case a21 => k_is)
    (case l21 => k_is)
    (case c21 => k_is)
    (case k21 => k_is)
    (case a22 => k_is)
    (case l22 => k_is)
    (case c22 => k_is)
    (case k22 => k_is)
    (case a23 => k_is)
    (case l23 => k_is)
    (case c23 => k_is)
    (case k23 => k_is)
    (case a24 => k_is)
    (case l24 => k_is)
    (case c24 => k_is)
    (case k24 => k_is)
    (case a25 => k_is)
    (case l25 => k_is)
    (case c25 => k_is)
    (case k25 => k_is)
    (case a26 => k_is)
    (case l26 => k_is)
    (case c26 => k_is)
    (case k26 => k_is)
    (case a27 => k_is)
    (case l27 => k_is)
    (case c27 => k_is)
    (case k27 => k_is)
    (case a28 => k_is)
    (case l28 => k_is)
    (case c28 => k_is)
    (case k28 => k_is)
    (case a29 => k_is)
    (case l29 => k_is)
    (case c29 => k_is)
    (case k29 => k_is)
    (case a30 => k_is)
    (case l30 => k_is)
    (case c30 => k_is)
    (case k30 => k_is)
    (case a31 => k_is)
    (case l31 => k_is)
    (case c31 => k_is)
    (case k31 => k_is)
    (case z1 => k_is)
    (case z2 => k_is)
    (case z3 => k_is)
    (case z4 => k_is)
    (case z5 => k_is)
    (case z6 => k_is)
    (case z7 => k_is)
    (case z8 => k_is)
    (case z9 => k_is)
    (case z10 => k_is)
    (case z11 => k_is)
    (case z12 => k_is)
    (case z13 => k_is)
    (case g1 => k_is)
    (case g2 => k_is)
    (case g3 => k_is)
    (case g4 => k_is)
    (case g5 => k_is)
    (case g6 => k_is)
    (case g7 => k_is)
    (case g8 => k_is)
    (case g9 => k_is)
    (case g10 => k_is)
    (case g11 => k_is)
    (case g12 => k_is)
    (case g13 => k_is)
    (case g14 => k_is)
    (case tg1 => k_is)
    (case tl1 => k_is)

