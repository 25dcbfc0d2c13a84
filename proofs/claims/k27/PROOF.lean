import PyProof.Rows.All
import Wide.All
import OpenK.AllK
import Wide.FinOn
import Lean
import PyProof.EqAt
import PyProof.EqKinds
import PyProof.TupleCall
import PyProof.Rows.SumAny
import PyProof.Draws
import PyProof.ZipIter
import PyProof.EnumMake
import PyProof.Rows.ZipGen
import PyProof.FitsInt
import PyProof.ReprLen
import KE.IntBitsLaws
import PyProof.NeData
import PyProof.ConsumeWalk
import PyProof.WalkInts
import PyProof.Rows.SeqMore
import PyProof.ListMulRoad
import PyProof.DictUpdate
import KE.KRevSl
import PySem.Challenge.RW_dropsums_k27_what_shuts
-- CHANGE: your row's module here, as the last of these rows
set_option Elab.async false
set_option linter.all false
set_option maxRecDepth 100000
/-! THE HAND LAYER, for ints, bools, texts, own classes, LISTS and tuples (index, slices, in, append, pop ..), calls, loops. Paste it whole ahead of your own text; what your proof does not reach may be deleted. -/
namespace L2
open PySem PySem.Spec PyProof.Rows

/-- a key: an int or a str -/
abbrev Key := Sum Int Str
def keyIs : Key → Value → Bool
  | .inl k, v => Value.isInt k v
  | .inr x, v => Value.isStrOf x v
def keyH (w : World) : Key → Int
  | .inl k => hashInt k
  | .inr x => hashStr w x
theorem keyIs_shape : ∀ {k : Key} {v : Value}, keyIs k v = true → (∃ i t, k = Sum.inl i ∧ v = Value.int i t) ∨ (∃ x t, k = Sum.inr x ∧ v = Value.str x t)
  | .inl i, v, h => by
    obtain ⟨t, e⟩ := Value.isInt_shape (k := i) (v := v) h
    exact .inl ⟨i, t, rfl, e⟩
  | .inr x, v, h => by
    obtain ⟨t, e⟩ := Value.isStrOf_shape (x := x) (v := v) h
    exact .inr ⟨x, t, rfl, e⟩
theorem key_ll (a b : Int) : decide ((Sum.inl a : Key) = Sum.inl b) = (a == b) := by
  by_cases e : a = b
  · subst e; simp
  · have h : ¬ (Sum.inl a : Key) = Sum.inl b := fun q => e (Sum.inl.inj q)
    rw [decide_eq_false h]
    exact (beq_eq_false_iff_ne.mpr e).symm
theorem key_rr (a b : Str) : decide ((Sum.inr a : Key) = Sum.inr b) = decide (a = b) := by
  by_cases e : a = b
  · subst e; simp
  · have h : ¬ (Sum.inr a : Key) = Sum.inr b := fun q => e (Sum.inr.inj q)
    rw [decide_eq_false h, decide_eq_false e]
theorem key_lr (a : Int) (b : Str) : decide ((Sum.inl a : Key) = Sum.inr b) = false := decide_eq_false (fun q => nomatch q)
theorem key_rl (a : Str) (b : Int) : decide ((Sum.inr a : Key) = Sum.inl b) = false := decide_eq_false (fun q => nomatch q)

def mixKind (prog : Program) (w : World) : PySem.KeyKind prog w Key where
  is := keyIs
  hash := keyH w
  inj := fun v a b ha hb => by
    rcases keyIs_shape ha with ⟨i, t, rfl, rfl⟩ | ⟨x, t, rfl, rfl⟩
    · rcases keyIs_shape hb with ⟨j, u, rfl, e⟩ | ⟨y, u, rfl, e⟩
      · injection e with e1 _; rw [e1]
      · exact nomatch e
    · rcases keyIs_shape hb with ⟨j, u, rfl, e⟩ | ⟨y, u, rfl, e⟩
      · exact nomatch e
      · injection e with e1 _; rw [e1]
  byValue := fun k v h => by
    rcases keyIs_shape h with ⟨i, t, rfl, rfl⟩ | ⟨x, t, rfl, rfl⟩ <;> rfl
  pyHash := fun hv h => by
    rcases keyIs_shape hv with ⟨i, t, rfl, rfl⟩ | ⟨x, t, rfl, rfl⟩
    · exact wpAny_pyHash_int h
    · exact wpAny_pyHash_str h
  eqBool := fun hu hv h => by
    rcases keyIs_shape hu with ⟨i, t, rfl, rfl⟩ | ⟨x, t, rfl, rfl⟩
    · rcases keyIs_shape hv with ⟨j, u, rfl, rfl⟩ | ⟨y, u, rfl, rfl⟩
      · rw [key_ll] at h; exact wpAny_eqBool_int h
      · rw [key_lr] at h; exact SeqAt.EqAt.int_str i t y u _ _ _ _ h
    · rcases keyIs_shape hv with ⟨j, u, rfl, rfl⟩ | ⟨y, u, rfl, rfl⟩
      · rw [key_rl] at h; exact SeqAt.EqAt.str_int x t j u _ _ _ _ h
      · rw [key_rr] at h; exact wpAny_eqBool_str h
  «strs» := fun k x t v h => by
    rcases keyIs_shape h with ⟨i, u, rfl, e⟩ | ⟨y, u, rfl, e⟩
    · exact nomatch e
    · injection e with e1 _
      subst e1
      cases v <;> rfl

end L2

namespace L2
open PySem PySem.Spec PyProof.Rows

/-- a value, without the heap -/
inductive V where
  | non | bl (b : Bool) | int (i : Int) | str (x : Str) | byt (b : Array UInt8) | flt (b : UInt64) | ref (a : Addr) | ty (n : String)
  deriving DecidableEq

def RelV : V → Value → Prop
  | .non, u => u = Value.none
  | .bl b, u => u = Value.bool b
  | .int i, u => ∃ t, u = Value.int i t
  | .str x, u => ∃ t, u = Value.str x t
  | .byt b, u => ∃ t, u = Value.bytes b t
  | .flt b, u => ∃ t, u = Value.float b t
  | .ref a, u => u = Value.ref a
  | .ty n, u => u = Value.type n

abbrev Vals : List V → List Value → Prop := Paired RelV
theorem Vals.length {xs : List V} {us : List Value} (r : Vals xs us) : xs.length = us.length := Paired.length r
theorem Vals.get : ∀ {xs : List V} {us : List Value} {i : Nat} {x : V}, Vals xs us → xs[i]? = some x → ∃ u, us[i]? = some u ∧ RelV x u
  | _, _, _, _, .nil, e => by simp at e
  | _, _, 0, _, .cons r _, e => by simp at e; subst e; exact ⟨_, rfl, r⟩
  | _, _, i + 1, x, .cons _ t, e => by
    obtain ⟨u, h1, h2⟩ := Vals.get (i := i) (x := x) t (by simpa using e)
    exact ⟨u, by simpa using h1, h2⟩
theorem Vals.set {x : V} {u : Value} (r : RelV x u) : ∀ {xs : List V} {us : List Value} (i : Nat), Vals xs us → Vals (xs.set i x) (us.set i u)
  | _, _, _, .nil => .nil
  | _, _, 0, .cons _ t => .cons r t
  | _, _, i + 1, .cons q t => .cons q (Vals.set r i t)
theorem Vals.append : ∀ {xs ys : List V} {us ws : List Value}, Vals xs us → Vals ys ws → Vals (xs ++ ys) (us ++ ws)
  | _, _, _, _, .nil, s => s
  | _, _, _, _, .cons r t, s => .cons r (Vals.append t s)
theorem Vals.take : ∀ {xs : List V} {us : List Value} (n : Nat), Vals xs us → Vals (xs.take n) (us.take n)
  | _, _, 0, _ => .nil
  | _, _, _ + 1, .nil => .nil
  | _, _, n + 1, .cons r t => .cons r (Vals.take n t)
theorem Vals.drop : ∀ {xs : List V} {us : List Value} (n : Nat), Vals xs us → Vals (xs.drop n) (us.drop n)
  | _, _, 0, r => r
  | _, _, _ + 1, .nil => .nil
  | _, _, n + 1, .cons _ t => Vals.drop n t

def RelO : Option V → Option Value → Prop
  | some v, some u => RelV v u
  | none, none => True
  | _, _ => False
def KV {κ : Type} : List (κ × V) → List (κ × Value) → Prop := Paired fun (p : κ × V) (q : κ × Value) => p.1 = q.1 ∧ RelV p.2 q.2

/-- a key of a dict (00_mix): an int or a text -/
def kV : Key → V
  | .inl i => .int i
  | .inr x => .str x

/-- what stands at a tracked address -/
inductive HO where
  /-- a list -/
  | lst (xs : List V)
  /-- a tuple (never changes) -/
  | tup (xs : List V)
  /-- a dict whose keys are ints and texts; one whose keys are tuples of ints and texts (the empty one is both) -/
  | dK (kvs : List (Key × V)) | dT (kvs : List (List Key × V))
  /-- a set of ints: its members, its size -/
  | set (S : Int → Bool) (n : Nat)
  /-- an instance of the class at C, its dict at dx, its attributes -/
  | ins (C dx : Addr) (fs : List (Str × V))
  /-- the dict of the instance at x -/
  | own (x : Addr)
  /-- the dict of an exception -/
  | xd (fs : List (Str × V))
  /-- a bound method, f of x -/
  | met (f x : Addr)
  /-- a range object lo, lo + 1, .. below hi -/
  | rng (lo hi : Int)
  /-- a thing that is known to the object (the script; a dict while a loop walks it): read, never written while it is so -/
  | frz (o : Obj) (u : HO)
  /-- a code object's table -/
  | tbl (ps : Array Value)
  /-- any other thing, by what is true of its one object (a def of one's own: SetO a S n := HO.ext fun h => ..) -/
  | ext (φ : Heap → Prop)

abbrev Hp := Addr → Option HO
def upd (H : Hp) (a : Addr) (o : HO) : Hp := fun b => if b = a then some o else H b
theorem upd_same {H : Hp} {a : Addr} {o : HO} : upd H a o a = some o := by unfold upd; rw [if_pos rfl]
theorem upd_ne {H : Hp} {a b : Addr} {o : HO} (h : b ≠ a) : upd H a o b = H b := by unfold upd; rw [if_neg h]
theorem upd_upd {H : Hp} {a : Addr} {o u : HO} : upd (upd H a o) a u = upd H a u := by
  funext b; unfold upd; split <;> rfl
/-- two objects of different content stand apart -/
theorem ne_of {H : Hp} {a b : Addr} {o u : HO} (h : H a = some o) (h' : H b = some u) (d : o ≠ u) : a ≠ b := by
  intro e; subst e; rw [h] at h'; exact d (Option.some.inj h')
theorem ne_of_none {H : Hp} {a b : Addr} {o : HO} (h : H a = some o) (h' : H b = none) : a ≠ b := by
  intro e; subst e; rw [h] at h'; cases h'

section
variable (P : Program) (w : World)
def ObjOk (H : Hp) (h : Heap) (a : Addr) : HO → Prop
  | .lst xs => xs.length ≤ sizeLine ∧ ∃ (its : List Value) (n : Nat), Vals xs its ∧ h.get? a = some { cls := .type "list", data := .seq its.toArray n }
  | .tup xs => xs.length ≤ sizeLine ∧ ∃ its : List Value, Vals xs its ∧ IsTup h a its.toArray
  | .dK kvs => kvs.length ≤ sizeLine ∧ (a == sysModules) = false ∧ ∃ vs, KV kvs vs ∧ h.DictOf (mixKind P w) a vs
  | .dT kvs => kvs.length ≤ sizeLine ∧ (a == sysModules) = false ∧ ∃ xs : List (List Key × Addr × Value),
      Paired (fun (p : List Key × V) (q : List Key × Addr × Value) => p.1 = q.1 ∧ H q.2.1 = some (.tup (p.1.map kV)) ∧ RelV p.2 q.2.2) kvs xs ∧
      ∃ o es ep, h.get? a = some o ∧ o.ExactDict ∧ o.data = .dict es ep ∧ es.toList = xs.map (entryOfKey (tupleKind (mixKind P w))) ∧ (xs.map (·.1)).Nodup
  | .set S n => h.SetOf (intKind P w) a S n
  | .ins C dx fs => H dx = some (.own a) ∧ fs.length ≤ 1000 ∧ dx ≠ a ∧ h.get? a = some (PySem.W.instObj C dx) ∧
      ∃ mA, h.Ns1 dx mA ∧ (∀ f, RelO (fs.lookup f) (mA f)) ∧ PySem.Within mA (fs.map (·.1))
  | .own _ => ∃ o, h.get? a = some o
  | .xd fs => ∃ mA, h.Ns1 a mA ∧ ∀ f, RelO (fs.lookup f) (mA f)
  | .rng lo hi => ∃ t u v, h.get? a = some { cls := .type "range", data := .fields #[.int lo t, .int hi u, .int 1 v] }
  | .frz o u => h.get? a = some o ∧ ObjOk H h a u
  | .tbl ps => h.get? a = some { cls := .none, data := .fields ps }
  | .met f x => h.get? a = some (PySem.W.methodObj (.ref f) (.ref x))
  | .ext φ => φ h ∧ (∃ o, h.get? a = some o) ∧ ∀ h1 h2 : Heap, φ h1 → (∀ o, h1.get? a = some o → h2.get? a = some o) → φ h2
/-- the abstract heap is held -/
def HOk (H : Hp) (h : Heap) : Prop := ∀ a o, H a = some o → ObjOk P w H h a o
end

section
variable {P : Program} {w : World} {H H' : Hp} {h h' : Heap} {a : Addr} {o : HO}
theorem ObjOk.lt (x : ObjOk P w H h a o) : a < h.objs.size := by
  cases o with
  | lst xs => obtain ⟨_, _, _, _, e⟩ := x; exact Heap.lt_size e
  | tup xs => obtain ⟨_, _, _, p⟩ := x; exact p.lt
  | dK kvs => obtain ⟨_, _, _, _, o, _, _, e, _⟩ := x; exact Heap.lt_size e
  | dT kvs => obtain ⟨_, _, _, _, o, _, _, e, _⟩ := x; exact Heap.lt_size e
  | set S n => obtain ⟨o, _, _, _, e, _⟩ := x; exact Heap.lt_size e
  | ins C dx fs => obtain ⟨_, _, _, e, _⟩ := x; exact Heap.lt_size e
  | own y => obtain ⟨_, e⟩ := x; exact Heap.lt_size e
  | xd fs => obtain ⟨_, ⟨_, _, _, e, _⟩, _⟩ := x; exact Heap.lt_size e
  | rng lo hi => obtain ⟨_, _, _, e⟩ := x; exact Heap.lt_size e
  | frz ob u => obtain ⟨e, _⟩ := x; exact Heap.lt_size e
  | tbl ps => exact Heap.lt_size (show h.get? a = some _ from x)
  | met f y => exact Heap.lt_size (show h.get? a = some _ from x)
  | ext φ => obtain ⟨_, ⟨_, e⟩, _⟩ := x; exact Heap.lt_size e
theorem Paired.mapP {α β : Type} {F G : α → β → Prop} : ∀ {l₁ : List α} {l₂ : List β}, Paired F l₁ l₂ → (∀ a b, F a b → G a b) → Paired G l₁ l₂
  | _, _, .nil, _ => .nil
  | _, _, .cons r t, f => .cons (f _ _ r) (Paired.mapP t f)
/-- what an object's description leans on: its own object, its own dict, the tuples -/
theorem ObjOk.stay (x : ObjOk P w H h a o) (k : ∀ b u, (b = a ∨ H b = some (.own a)) → h.get? b = some u → h'.get? b = some u)
    (ho : ∀ b, H b = some (.own a) → H' b = some (.own a)) (ht : ∀ b xs, H b = some (.tup xs) → H' b = some (.tup xs)) : ObjOk P w H' h' a o := by
  induction o with
  | lst xs => obtain ⟨z, its, n, r, e⟩ := x; exact ⟨z, its, n, r, k _ _ (.inl rfl) e⟩
  | tup xs => obtain ⟨z, its, r, ob, e, c⟩ := x; exact ⟨z, its, r, ob, k _ _ (.inl rfl) e, c⟩
  | dK kvs => obtain ⟨z, y, vs, r, ob, es, ep, e, c⟩ := x; exact ⟨z, y, vs, r, ob, es, ep, k _ _ (.inl rfl) e, c⟩
  | dT kvs =>
    obtain ⟨z, y, xs, r, ob, es, ep, e, c⟩ := x
    exact ⟨z, y, xs, Paired.mapP r fun p q z => ⟨z.1, ht _ _ z.2.1, z.2.2⟩, ob, es, ep, k _ _ (.inl rfl) e, c⟩
  | set S n => obtain ⟨ob, es, ep, t, e, c⟩ := x; exact ⟨ob, es, ep, t, k _ _ (.inl rfl) e, c⟩
  | ins C dx fs =>
    obtain ⟨d, z, ne, e, mA, ⟨od, es, ep, e2, c⟩, r⟩ := x
    exact ⟨ho _ d, z, ne, k _ _ (.inl rfl) e, mA, ⟨od, es, ep, k _ _ (.inr d) e2, c⟩, r⟩
  | own y => obtain ⟨ob, e⟩ := x; exact ⟨ob, k _ _ (.inl rfl) e⟩
  | xd fs => obtain ⟨mA, ⟨od, es, ep, e, c⟩, r⟩ := x; exact ⟨mA, ⟨od, es, ep, k _ _ (.inl rfl) e, c⟩, r⟩
  | rng lo hi => obtain ⟨t, u, v, e⟩ := x; exact ⟨t, u, v, k _ _ (.inl rfl) e⟩
  | frz ob u ih => obtain ⟨e, q⟩ := x; exact ⟨k _ _ (.inl rfl) e, ih q⟩
  | tbl ps =>
    have e : h.get? a = some { cls := .none, data := .fields ps } := x
    show h'.get? a = some { cls := .none, data := .fields ps }
    exact k a _ (.inl rfl) e
  | met f y =>
    have e : h.get? a = some (PySem.W.methodObj (.ref f) (.ref y)) := x
    show h'.get? a = some (PySem.W.methodObj (.ref f) (.ref y))
    exact k a _ (.inl rfl) e
  | ext φ => obtain ⟨p, ⟨o, e⟩, st⟩ := x; exact ⟨st _ _ p fun o q => k _ _ (.inl rfl) q, ⟨o, k _ _ (.inl rfl) e⟩, st⟩
theorem HOk.lt (x : HOk P w H h) (e : H a = some o) : a < h.objs.size := (x a o e).lt
theorem HOk.fresh (x : HOk P w H h) (e : h.objs.size ≤ a) : H a = none := by
  cases q : H a with
  | none => rfl
  | some u => exact absurd (Nat.lt_of_lt_of_le (x.lt q) e) (Nat.lt_irrefl _)
/-- every object of the heap is kept -/
theorem HOk.kept (x : HOk P w H h) (k : ∀ b u, h.get? b = some u → h'.get? b = some u) : HOk P w H h' := fun a o e =>
  (x a o e).stay (fun b u _ q => k b u q) (fun _ q => q) fun _ _ q => q
/-- a new object is laid and tracked -/
theorem HOk.laid (x : HOk P w H h) (k : ∀ b u, h.get? b = some u → h'.get? b = some u) (hp : h.objs.size ≤ a) (new : ObjOk P w (upd H a o) h' a o) : HOk P w (upd H a o) h' := fun b u e => by
  have hn := x.fresh hp
  by_cases hb : b = a
  · subst hb; rw [upd_same] at e; cases e; exact new
  · rw [upd_ne hb] at e
    exact (x b u e).stay (fun c v _ q => k c v q) (fun c q => by rw [upd_ne (ne_of_none q hn)]; exact q) fun c xs q => by rw [upd_ne (ne_of_none q hn)]; exact q
end

/-- what may be read as u: it is u, or a known u -/
def Rd (H : Hp) (a : Addr) (u : HO) : Prop := H a = some u ∨ ∃ o, H a = some (.frz o u)
theorem Rd.of {H : Hp} {a : Addr} {u : HO} (h : H a = some u) : Rd H a u := .inl h
theorem Rd.ok {P : Program} {w : World} {H : Hp} {h : Heap} {a : Addr} {u : HO} (r : Rd H a u) (x : HOk P w H h) : ObjOk P w H h a u := by
  rcases r with r | ⟨o, r⟩
  · exact x a u r
  · obtain ⟨_, q⟩ := x a _ r
    exact q
/-- what may be written -/
def Mut : Option HO → Prop
  | some (.lst _) => True
  | some (.dK _) => True
  | some (.dT _) => True
  | some (.set _ _) => True
  | some (.ins _ _ _) => True
  | some (.ext _) => True
  | _ => False
section
variable {P : Program} {w : World} {H : Hp} {h h' : Heap} {x e : Addr} {o' : HO}
/-- the object at e is changed: x itself, or the dict of the instance x -/
theorem HOk.write (ok : HOk P w H h) (mu : Mut (H x)) (he : e = x ∨ H e = some (.own x)) (k : ∀ b u, b ≠ e → h.get? b = some u → h'.get? b = some u) (heo : ∃ u, h'.get? e = some u)
    (new : ObjOk P w (upd H x o') h' x o') : HOk P w (upd H x o') h' := fun b u q => by
  have nown : ∀ c y, H c = some (.own y) → c ≠ x := fun c y r z => by subst z; rw [r] at mu; exact mu
  have ntup : ∀ c xs, H c = some (.tup xs) → c ≠ x := fun c xs r z => by subst z; rw [r] at mu; exact mu
  by_cases hb : b = x
  · subst hb; rw [upd_same] at q; cases q; exact new
  · rw [upd_ne hb] at q
    by_cases hbe : b = e
    · have q' : H b = some (.own x) := by
        rcases he with z | z
        · exact absurd (hbe.trans z) hb
        · rw [hbe]; exact z
      rw [q] at q'; cases q'
      obtain ⟨v, hv⟩ := heo
      exact ⟨v, by rw [hbe]; exact hv⟩
    · refine (ok b u q).stay (fun c v hc r => k c v ?_ r) (fun c r => by rw [upd_ne (nown c b r)]; exact r) fun c xs r => by rw [upd_ne (ntup c xs r)]; exact r
      rcases hc with rfl | hc
      · exact hbe
      · rintro rfl
        rcases he with z | z
        · exact nown c b hc z
        · rw [hc] at z; cases z; exact hb rfl
end

/-! ### kept unless tracked; of the frames at fs (the callers') the slots may change (an exception that passes writes there); of the records at ex (iterators) nothing is said -/
structure Un (fs ex : List Addr) (H H' : Hp) (h h' : Heap) : Prop where
  keep : ∀ b o, h.get? b = some o → H b = none → b ∉ fs → b ∉ ex → h'.get? b = some o
  slot : ∀ b o, h.get? b = some o → H b = none → b ∈ fs → b ∉ ex → ∃ sl, h'.get? b = some { o with slots := sl }
  free : ∀ b o, h.get? b = some o → H b = none → b ∉ ex → H' b = none
  there : ∀ b o, h.get? b = some o → b ∉ ex → ∃ o', h'.get? b = some o'
  tups : ∀ b xs, H b = some (.tup xs) → H' b = some (.tup xs)
  frzs : ∀ b o u, H b = some (.frz o u) → H' b = some (.frz o u)
  tbls : ∀ b ps, H b = some (.tbl ps) → ∃ more, H' b = some (.tbl (ps ++ more))
section
variable {fs fs' ex ex' : List Addr} {H H1 H2 : Hp} {h h1 h2 h' : Heap} {a x e : Addr} {o : HO}
theorem Un.any (u : Un fs ex H H1 h h1) {b : Addr} {ob : Obj} (q : h.get? b = some ob) (n : H b = none) (hx : b ∉ ex) : ∃ sl, h1.get? b = some { ob with slots := sl } := by
  by_cases hb : b ∈ fs
  · exact u.slot b ob q n hb hx
  · exact ⟨ob.slots, u.keep b ob q n hb hx⟩
theorem Un.trans (a : Un fs ex H H1 h h1) (b : Un fs ex H1 H2 h1 h2) : Un fs ex H H2 h h2 where
  keep := fun c ob q n hc hx => b.keep c ob (a.keep c ob q n hc hx) (a.free c ob q n hx) hc hx
  slot := fun c ob q n hc hx => by
    obtain ⟨sl, e1⟩ := a.slot c ob q n hc hx
    obtain ⟨sl', e2⟩ := b.slot c _ e1 (a.free c ob q n hx) hc hx
    exact ⟨sl', e2⟩
  free := fun c ob q n hx => by
    obtain ⟨o', e1⟩ := a.there c ob q hx
    exact b.free c o' e1 (a.free c ob q n hx) hx
  there := fun c ob q hx => by
    obtain ⟨o', e1⟩ := a.there c ob q hx
    exact b.there c o' e1 hx
  tups := fun c xs q => b.tups c xs (a.tups c xs q)
  frzs := fun c ob xs q => b.frzs c ob xs (a.frzs c ob xs q)
  tbls := fun c ps q => by
    obtain ⟨m1, e1⟩ := a.tbls c ps q
    obtain ⟨m2, e2⟩ := b.tbls c _ e1
    exact ⟨m1 ++ m2, by rw [e2, Array.append_assoc]⟩
theorem Un.kept (k : ∀ b u, h.get? b = some u → h'.get? b = some u) : Un fs ex H H h h' :=
  ⟨fun b ob q _ _ _ => k b ob q, fun b ob q _ _ _ => ⟨ob.slots, k b ob q⟩, fun _ _ _ n _ => n, fun b ob q _ => ⟨ob, k b ob q⟩, fun _ _ q => q, fun _ _ _ q => q, fun _ ps q => ⟨#[], by rw [q]; simp⟩⟩
theorem Un.refl : Un fs ex H H h h := Un.kept fun _ _ q => q
theorem Un.laid (k : ∀ b u, h.get? b = some u → h'.get? b = some u) (hp : h.objs.size ≤ a) (hn : H a = none) : Un fs ex H (upd H a o) h h' where
  keep := fun b u q _ _ _ => k b u q
  slot := fun b u q _ _ _ => ⟨u.slots, k b u q⟩
  free := fun b u q n _ => by rw [upd_ne (Nat.ne_of_lt (Nat.lt_of_lt_of_le (Heap.lt_size q) hp))]; exact n
  there := fun b u q _ => ⟨u, k b u q⟩
  tups := fun b xs q => by rw [upd_ne (ne_of_none q hn)]; exact q
  frzs := fun b u xs q => by rw [upd_ne (ne_of_none q hn)]; exact q
  tbls := fun b ps q => ⟨#[], by rw [upd_ne (ne_of_none q hn), q]; simp⟩
theorem Un.write (mu : Mut (H x)) (he : e = x ∨ H e = some (.own x)) (k : ∀ b u, b ≠ e → h.get? b = some u → h'.get? b = some u) (heo : ∃ u, h'.get? e = some u) : Un fs ex H (upd H x o) h h' := by
  have hx : ∀ b, H b = none → b ≠ x := fun b n z => by subst z; rw [n] at mu; exact mu
  have hb : ∀ b, H b = none → b ≠ e := fun b n z => by
    subst z
    rcases he with r | r
    · exact hx b n r
    · rw [n] at r; cases r
  have hm : ∀ b u, H b = some u → ¬ Mut (some u) → b ≠ x := fun b u q nm z => by subst z; rw [q] at mu; exact nm mu
  refine ⟨fun b u q n _ _ => k b u (hb b n) q, fun b u q n _ _ => ⟨u.slots, k b u (hb b n) q⟩, fun b u q n _ => by rw [upd_ne (hx b n)]; exact n, fun b u q _ => ?_,
    fun b xs q => by rw [upd_ne (hm b _ q fun z => z)]; exact q, fun b u xs q => by rw [upd_ne (hm b _ q fun z => z)]; exact q, fun b ps q => ⟨#[], by rw [upd_ne (hm b _ q fun z => z), q]; simp⟩⟩
  by_cases hbe : b = e
  · subst hbe; exact heo
  · exact ⟨u, k b u hbe q⟩
theorem Un.mono (u : Un fs ex H H1 h h1) (hs : ∀ b ∈ fs, b ∈ fs') (hx : ∀ b ∈ ex, b ∈ ex') : Un fs' ex' H H1 h h1 :=
  ⟨fun b ob q n hb he => u.keep b ob q n (fun z => hb (hs b z)) fun z => he (hx b z), fun _ _ q n _ he => u.any q n fun z => he (hx _ z), fun b ob q n he => u.free b ob q n fun z => he (hx b z), fun b ob q he => u.there b ob q fun z => he (hx b z), u.tups, u.frzs, u.tbls⟩
end

/-! ### the heap without what is tracked -/
def trk (h : Heap) (H : Hp) : List Addr := (List.range h.objs.size).filter fun a => (H a).isSome
def hidT (h : Heap) (H : Hp) : Heap := PySem.W.hideAll h (trk h H)
theorem hidT_size (h : Heap) (H : Hp) : (hidT h H).objs.size = h.objs.size := PySem.W.hideAll_size _ _
theorem hidT_get {h : Heap} {H : Hp} {b : Addr} {o : Obj} (e : h.get? b = some o) (n : H b = none) : (hidT h H).get? b = some o :=
  PySem.W.hideAll_get _ e fun hm => by
    have q : (H b).isSome = true := (List.mem_filter.mp hm).2
    rw [n] at q; simp at q
theorem of_hidT {h : Heap} {H : Hp} {b : Addr} {o : Obj} (e : (hidT h H).get? b = some o) : h.get? b = some o ∧ H b = none := by
  have e' : h.get? b = some o := PySem.W.of_hideAll (trk h H) e
  refine ⟨e', ?_⟩
  cases q : H b with
  | none => rfl
  | some x =>
    have hm : b ∈ trk h H := List.mem_filter.mpr ⟨List.mem_range.mpr (Heap.lt_size e'), by simp [q]⟩
    have z : (hidT h H).get? b = none := PySem.W.hideAll_none (trk h H) hm
    rw [z] at e; cases e

/-! ### OpenK's ledger, filled with every new object but one -/
def allNews (g h : Heap) (L : Addr) : List (Addr × Obj) := (List.range h.objs.size).filterMap fun a => if a = L ∨ (g.get? a).isSome = true then none else (h.get? a).map fun o => (a, o)
def rest (g h : Heap) (L d : Addr) : List (Addr × Obj) := (allNews g h L).filter fun p => decide (p.1 ≠ d)
end L2

namespace L2
open PySem PySem.Spec PyProof.Rows

/-- the module's facts, over the base: the heap at the law's entry without what is tracked there -/
structure Mod (K : PySem.W.Frag) (mg : Str → Option Value) (base : Heap) : Prop where
  kin : K.In base
  glob : base.Ns mainGlobals mg
  blt : ∃ mb, base.Ns builtinsNs mb ∧ ∀ x : Str, x ≠ "__name__" → mb x = bootBuiltins x
  nolimit : base.NoLimit

/-- the context: a def's body (or a comprehension's block) running. base: fixed through the whole law; s₀, H₀: the entry; outer: the frames whose slots others may change (a def's callers); stack: all frames that run;
   ex: iterators that were made ahead of the entry and are walked here (a comprehension's); fn: the names whose cells were made at the entry (a def: all; a comprehension's block: its own); calm: not within an except suite; pn: pins that every state bears; xe: what is wanted of an exception that leaves the code -/
structure Cx where
  prog : Program
  w : World
  K : PySem.W.Frag
  mg : Str → Option Value
  base : Heap
  A : Around
  N : List Str
  s₀ : Shared
  H₀ : Hp
  env : Env
  outer : List Env
  stack : List Env
  ex : List Addr
  fn : Str → Bool
  calm : Bool
  pn : List (Addr × Obj)
  xe : Value → Shared → Prop
/-- the callers' frames -/
def frs (l : List Env) : List Addr := l.filterMap (·.frame)
abbrev Cx.fs (X : Cx) : List Addr := frs X.outer

def Vis (sc : Scope) (x : Str) : Prop := sc.names.lookup x = some .local ∨ sc.names.lookup x = some .cell ∨ sc.names.lookup x = some .free
def Loc (sc : Scope) (x : Str) : Prop := sc.names.lookup x = some .local ∨ sc.names.lookup x = some .cell
def Look (env : Env) (h : Heap) (m : Str → Option Value) (x : Str) (u : Value) : Prop :=
  (env.kindOf x = some .local ∧ m x = some u) ∨ ((env.kindOf x = some .cell ∨ env.kindOf x = some .free) ∧ ∃ c, env.cells.lookup x = some c ∧ h.IsCell c (some u))

structure Cx.Ok (X : Cx) : Prop where
  mod : Mod X.K X.mg X.base
  kind : X.env.scope.kind = .function
  glob : X.env.globals = mainGlobals
  blt : X.env.builtins = builtinsNs
  above : X.s₀.heap.objs.size ≤ X.env.locals
  inj : ∀ x y c, X.env.cells.lookup x = some c → X.env.cells.lookup y = some c → x = y
  has : ∀ x, (X.env.kindOf x = some .cell ∨ X.env.kindOf x = some .free) → ∃ c, X.env.cells.lookup x = some c
  cab : ∀ x c, X.fn x = true → X.env.cells.lookup x = some c → X.s₀.heap.objs.size ≤ c
  hd : X.calm = true → X.A.handled = none
  frames : X.A.frames = some X.stack
  stk : X.stack = X.outer ∨ (X.stack = X.env :: X.outer ∧ X.env.frame = some X.env.locals)
  exf : ∀ b ∈ X.ex, b ≠ X.env.locals ∧ ∀ x c, X.env.cells.lookup x = some c → c ≠ b
  bs : ∀ b o, X.base.get? b = some o → X.s₀.heap.get? b = some o ∧ X.H₀ b = none
  bsz : X.base.objs.size ≤ X.s₀.heap.objs.size
  noex : ∀ b o, X.base.get? b = some o → b ∉ X.ex
  exfs : ∀ b ∈ X.ex, b ∉ X.fs
  funs : X.s₀.heap.FunFrames X.base X.outer
  frf : ∀ b ∈ X.fs, X.H₀ b = none

structure Inv (X : Cx) (pins : List (Addr × Obj)) (σ : List (Option V)) (H : Hp) (s : Shared) : Prop where
  ok : X.Ok
  os : s.os = X.s₀.os
  bare : AllBare s.gens
  base : Un X.fs X.ex X.H₀ H X.s₀.heap s.heap
  loc : ∃ m, s.heap.Ns X.env.locals m ∧ ∀ (i : Nat) (x : Str) (v : V), X.N[i]? = some x → σ[i]? = some (some v) → Vis X.env.scope x → ∃ u, RelV v u ∧ Look X.env s.heap m x u
  cell : ∀ x c, X.env.cells.lookup x = some c → ∃ v, s.heap.IsCell c v
  free : H X.env.locals = none
  freeC : ∀ x c, X.env.cells.lookup x = some c → H c = none
  pin : ∀ p ∈ X.pn ++ pins, s.heap.get? p.1 = some p.2 ∧ H p.1 = none ∧ p.1 ≠ X.env.locals ∧ p.1 ∉ X.fs ∧ ∀ v, p.2.data ≠ .cell v
  hok : HOk X.prog X.w H s.heap
  len : σ.length = X.N.length

section
variable {X : Cx} {pins : List (Addr × Obj)} {σ : List (Option V)} {H H' : Hp} {s : Shared} {h' : Heap}

theorem Cx.Ok.nofr (ok : X.Ok) {b : Addr} {o : Obj} (e : X.base.get? b = some o) : b ∉ X.fs := fun hb => by
  have := (ok.funs.mem hb).1
  rw [e] at this; cases this
theorem Inv.bs (I : Inv X pins σ H s) : ∀ b o, X.base.get? b = some o → s.heap.get? b = some o ∧ H b = none := fun b o e =>
  ⟨I.base.keep b o (I.ok.bs b o e).1 (I.ok.bs b o e).2 (I.ok.nofr e) (I.ok.noex b o e), I.base.free b o (I.ok.bs b o e).1 (I.ok.bs b o e).2 (I.ok.noex b o e)⟩
theorem Inv.bk (I : Inv X pins σ H s) : ∀ b o, X.base.get? b = some o → s.heap.get? b = some o := fun b o e => (I.bs b o e).1
theorem Inv.mod (I : Inv X pins σ H s) : Mod X.K X.mg X.base := I.ok.mod
theorem Inv.kIn (I : Inv X pins σ H s) : X.K.In s.heap := I.ok.mod.kin.keeps I.bk
theorem Inv.nolimit (I : Inv X pins σ H s) : s.heap.NoLimit := I.ok.mod.nolimit.keeps I.bk
/-- the frame over the base: for OpenK's rules (K.In X.base is I.mod.kin) -/
theorem Inv.fr (I : Inv X pins σ H s) : ∃ m, Fr X.base X.env.locals s.heap m :=
  let ⟨m, hn, _⟩ := I.loc
  ⟨m, hn, I.bk, Nat.le_trans I.ok.bsz I.ok.above⟩
theorem Inv.lt (I : Inv X pins σ H s) : X.env.locals < s.heap.objs.size := let ⟨_, hn, _⟩ := I.loc; hn.lt
theorem Inv.sz (I : Inv X pins σ H s) : X.s₀.heap.objs.size ≤ s.heap.objs.size := Nat.le_trans I.ok.above (Nat.le_of_lt I.lt)
theorem Inv.nofs (I : Inv X pins σ H s) {a : Addr} (h : s.heap.objs.size ≤ a) : a ∉ X.fs := fun hb => by
  obtain ⟨_, o, ho, _⟩ := I.ok.funs.mem hb
  exact absurd (Nat.lt_of_lt_of_le (Heap.lt_size ho) (Nat.le_trans I.sz h)) (Nat.lt_irrefl _)
theorem Inv.cne (I : Inv X pins σ H s) : ∀ x c, X.env.cells.lookup x = some c → c ≠ X.env.locals := fun x c e z => by
  obtain ⟨v, o, ho, hd⟩ := I.cell x c e
  obtain ⟨m, ⟨o', es, ep, ho', hd', _⟩, _⟩ := I.loc
  rw [z, ho'] at ho; cases ho; rw [hd'] at hd; cases hd
theorem Inv.funs (I : Inv X pins σ H s) : s.heap.FunFrames X.base X.outer := by
  have all : ∀ (l : List Env), (∀ b ∈ frs l, b ∈ X.fs) → X.s₀.heap.FunFrames X.base l → s.heap.FunFrames X.base l := by
    intro l
    induction l with
    | nil => intro _ _; trivial
    | cons env r ih =>
      intro hs hl
      obtain ⟨hk, ⟨L, o, hf, hn, ho, hd⟩, hr⟩ := hl
      have hL : L ∈ X.fs := hs L (by unfold frs; rw [List.filterMap_cons, hf]; exact List.mem_cons_self)
      obtain ⟨sl, e⟩ := I.base.slot L o ho (I.ok.frf L hL) hL fun z => I.ok.exfs L z hL
      exact ⟨hk, ⟨L, _, hf, hn, e, hd⟩, ih (fun b hb => hs b (by unfold frs; rw [List.filterMap_cons, hf]; exact List.mem_cons_of_mem _ hb)) hr⟩
  exact all X.outer (fun _ hb => hb) I.ok.funs

/-- the frames that run, for a call -/
theorem Inv.stack (I : Inv X pins σ H s) : s.heap.FunFrames X.base X.stack := by
  rcases I.ok.stk with e | ⟨e, hf⟩
  · rw [e]; exact I.funs
  · rw [e]
    obtain ⟨m, hn, _⟩ := I.loc
    refine .cons (by rw [I.ok.kind]; decide) hf hn ?_ I.funs
    exact Heap.get?_none_of_le (Nat.le_trans I.ok.bsz I.ok.above)
theorem Inv.stkSub (I : Inv X pins σ H s) : ∀ b ∈ frs X.stack, b ∈ X.env.locals :: X.fs := fun b hb => by
  rcases I.ok.stk with e | ⟨e, hf⟩
  · rw [e] at hb; exact List.mem_cons_of_mem _ hb
  · rw [e] at hb
    unfold frs at hb
    rw [List.filterMap_cons, hf] at hb
    exact hb
theorem Inv.stkFree (I : Inv X pins σ H s) : ∀ b ∈ frs X.stack, H b = none := fun b hb => by
  rcases List.mem_cons.mp (I.stkSub b hb) with e | hb
  · rw [e]; exact I.free
  · obtain ⟨_, o, ho, _⟩ := I.ok.funs.mem hb
    exact I.base.free b o ho (I.ok.frf b hb) fun z => I.ok.exfs b z hb

/-- THE STEP: the untracked objects but the frame and the records at ch are kept (the callers' frames up to slots), the frame's map is kept, the new abstract heap is held -/
theorem Inv.step {g' : Array GenState} {t' : Nat} {d' : Drawn} {ch : List Addr} (I : Inv X pins σ H s)
    (hch : ∀ b ∈ ch, (b ∈ X.ex ∨ X.s₀.heap.objs.size ≤ b) ∧ b ≠ X.env.locals ∧ (∀ x c, X.env.cells.lookup x = some c → c ≠ b) ∧ ∀ p ∈ X.pn ++ pins, p.1 ≠ b)
    (keep : ∀ b o, b ≠ X.env.locals → b ∉ X.fs → b ∉ ch → s.heap.get? b = some o → H b = none → h'.get? b = some o)
    (slot : ∀ b o, b ≠ X.env.locals → b ∈ X.fs → b ∉ ch → s.heap.get? b = some o → H b = none → ∃ sl, h'.get? b = some { o with slots := sl }) (free : ∀ b o, b ∉ ch → s.heap.get? b = some o → H b = none → H' b = none)
    (there : ∀ b o, b ∉ ch → s.heap.get? b = some o → ∃ o', h'.get? b = some o')
    (tups : ∀ b xs, H b = some (.tup xs) → H' b = some (.tup xs)) (frzs : ∀ b o u, H b = some (.frz o u) → H' b = some (.frz o u)) (tbls : ∀ b ps, H b = some (.tbl ps) → ∃ more, H' b = some (.tbl (ps ++ more)))
    (ns : ∀ m, s.heap.Ns X.env.locals m → h'.Ns X.env.locals m) (hok : HOk X.prog X.w H' h') (hg : AllBare g') :
    Inv X pins σ H' { s with heap := h', gens := g', drawn := d', toks := t' } := by
  have neL : ∀ b o, X.s₀.heap.get? b = some o → b ≠ X.env.locals := fun b o e => Nat.ne_of_lt (Nat.lt_of_lt_of_le (Heap.lt_size e) I.ok.above)
  have neC : ∀ b o, X.s₀.heap.get? b = some o → b ∉ X.ex → b ∉ ch := fun b o e hx hb => by
    rcases (hch b hb).1 with z | z
    · exact hx z
    · exact absurd (Nat.lt_of_lt_of_le (Heap.lt_size e) z) (Nat.lt_irrefl _)
  have cellK : ∀ x c, X.env.cells.lookup x = some c → ∀ v, s.heap.IsCell c v → h'.IsCell c v := fun x c e v ⟨o, ho, hd⟩ => by
    have nch : c ∉ ch := fun z => (hch c z).2.2.1 x c e rfl
    by_cases hc : c ∈ X.fs
    · obtain ⟨sl, q⟩ := slot c o (I.cne x c e) hc nch ho (I.freeC x c e)
      exact ⟨_, q, hd⟩
    · exact ⟨o, keep c o (I.cne x c e) hc nch ho (I.freeC x c e), hd⟩
  refine ⟨I.ok, I.os, hg, ⟨fun b o e n hb hx => ?_, fun b o e n hb hx => ?_, fun b o e n hx => ?_, fun b o e hx => ?_, fun b xs e => tups b xs (I.base.tups b xs e), fun b o xs e => frzs b o xs (I.base.frzs b o xs e), fun b ps e => ?_⟩, ?_, fun x c e => ?_, ?_, fun x c e => ?_, fun p hp => ?_, hok, I.len⟩
  · exact keep b o (neL b o e) hb (neC b o e hx) (I.base.keep b o e n hb hx) (I.base.free b o e n hx)
  · obtain ⟨sl, e1⟩ := I.base.slot b o e n hb hx
    obtain ⟨sl', e2⟩ := slot b _ (neL b o e) hb (neC b o e hx) e1 (I.base.free b o e n hx)
    exact ⟨sl', e2⟩
  · obtain ⟨o', e1⟩ := I.base.there b o e hx
    exact free b o' (neC b o e hx) e1 (I.base.free b o e n hx)
  · obtain ⟨o', e1⟩ := I.base.there b o e hx
    exact there b o' (neC b o e hx) e1
  · obtain ⟨m1, e1⟩ := I.base.tbls b ps e
    obtain ⟨m2, e2⟩ := tbls b _ e1
    exact ⟨m1 ++ m2, by rw [e2, Array.append_assoc]⟩
  · obtain ⟨m, hn, hl⟩ := I.loc
    refine ⟨m, ns m hn, fun i x v e1 e2 e3 => ?_⟩
    obtain ⟨u, r, l⟩ := hl i x v e1 e2 e3
    refine ⟨u, r, ?_⟩
    rcases l with l | ⟨k, c, e, z⟩
    · exact .inl l
    · exact .inr ⟨k, c, e, cellK x c e _ z⟩
  · obtain ⟨v, z⟩ := I.cell x c e
    exact ⟨v, cellK x c e v z⟩
  · obtain ⟨m, ⟨o, _, _, ho, _⟩, _⟩ := I.loc
    exact free _ o (fun z => (hch _ z).2.1 rfl) ho I.free
  · obtain ⟨v, o, ho, hd⟩ := I.cell x c e
    exact free c o (fun z => (hch c z).2.2.1 x c e rfl) ho (I.freeC x c e)
  · obtain ⟨e, n, ne, nf, d⟩ := I.pin p hp
    have nch : p.1 ∉ ch := fun z => (hch p.1 z).2.2.2 p hp rfl
    exact ⟨keep p.1 p.2 ne nf nch e n, free p.1 p.2 nch e n, ne, nf, d⟩
/-- .. where the frame's own object is kept too -/
theorem Inv.un {t' : Nat} (I : Inv X pins σ H s) (u : Un X.fs [] H H' s.heap h') (hok : HOk X.prog X.w H' h') : Inv X pins σ H' { s with heap := h', toks := t' } := by
  obtain ⟨m, ⟨o, es, ep, ho, r⟩, _⟩ := id I.loc
  obtain ⟨sl, hL⟩ := u.any ho I.free (by simp)
  exact I.step (g' := s.gens) (d' := s.drawn) (ch := []) (fun _ z => nomatch z) (fun b o _ hb _ e n => u.keep b o e n hb (by simp)) (fun b o _ hb _ e n => u.slot b o e n hb (by simp)) (fun b o _ e n => u.free b o e n (by simp)) (fun b o _ e => u.there b o e (by simp)) u.tups u.frzs u.tbls (fun m' hm => by
    obtain ⟨o', es', ep', ho', r'⟩ := hm
    rw [ho] at ho'; cases ho'
    exact ⟨_, es', ep', hL, r'⟩) hok I.bare
/-- behind a call (or a comprehension's block): the slots of this frame may have changed too, the records at ch may have turned -/
theorem Inv.call {g' : Array GenState} {t' : Nat} {d' : Drawn} {ch : List Addr} (I : Inv X pins σ H s) (u : Un (frs X.stack) ch H H' s.heap h') (hok : HOk X.prog X.w H' h') (hg : AllBare g')
    (hch : ∀ b ∈ ch, (b ∈ X.ex ∨ X.s₀.heap.objs.size ≤ b) ∧ b ≠ X.env.locals ∧ (∀ x c, X.env.cells.lookup x = some c → c ≠ b) ∧ ∀ p ∈ X.pn ++ pins, p.1 ≠ b) :
    Inv X pins σ H' { s with heap := h', gens := g', drawn := d', toks := t' } := by
  obtain ⟨m, ⟨o, es, ep, ho, r⟩, _⟩ := id I.loc
  obtain ⟨sl, hL⟩ := u.any ho I.free fun z => (hch _ z).2.1 rfl
  exact I.step (ch := ch) hch (fun b o hL hb hc e n => u.keep b o e n (fun z => (List.mem_cons.mp (I.stkSub b z)).elim hL hb) hc) (fun b o _ _ hc e n => u.any e n hc) (fun b o hc e n => u.free b o e n hc) (fun b o hc e => u.there b o e hc) u.tups u.frzs u.tbls (fun m' hm => by
    obtain ⟨o', es', ep', ho', r'⟩ := hm
    rw [ho] at ho'; cases ho'
    exact ⟨_, es', ep', hL, r'⟩) hok hg
/-- an untracked record of ours (an iterator) has turned -/
theorem Inv.turned {t' : Nat} {it : Addr} (I : Inv X pins σ H s) (k : ∀ b o, b ≠ it → s.heap.get? b = some o → h'.get? b = some o) (hn : H it = none) (hL : it ≠ X.env.locals)
    (h1 : it ∈ X.ex ∨ X.s₀.heap.objs.size ≤ it) (h2 : ∀ x c, X.env.cells.lookup x = some c → c ≠ it) (h3 : ∀ p ∈ X.pn ++ pins, p.1 ≠ it) : Inv X pins σ H { s with heap := h', toks := t' } := by
  have nit : ∀ b u, H b = some u → b ≠ it := fun b u e z => by rw [z, hn] at e; cases e
  refine I.step (g' := s.gens) (d' := s.drawn) (ch := [it]) (fun b hb => ?_) (fun b o _ _ hc e _ => k b o (fun z => hc (by simp [z])) e) (fun b o _ _ hc e _ => ⟨o.slots, k b o (fun z => hc (by simp [z])) e⟩) (fun _ _ _ _ n => n)
    (fun b o hc e => ⟨o, k b o (fun z => hc (by simp [z])) e⟩) (fun _ _ e => e) (fun _ _ _ e => e) (fun b ps e => ⟨#[], by rw [e]; simp⟩) (fun m hm => ?_) (fun b u e => ?_) I.bare
  · have e : b = it := by simpa using hb
    subst e
    exact ⟨h1, hL, h2, h3⟩
  · obtain ⟨o, es, ep, ho, r⟩ := hm
    exact ⟨o, es, ep, k _ o (Ne.symm hL) ho, r⟩
  · refine (I.hok b u e).stay (fun c v hc q => k c v ?_ q) (fun _ q => q) fun _ _ q => q
    rcases hc with z | z
    · rw [z]; exact nit b u e
    · exact nit c _ z
theorem Inv.tok (I : Inv X pins σ H s) (t : Nat) : Inv X pins σ H { s with toks := t } := I.un (h' := s.heap) (t' := t) Un.refl I.hok
/-- all objects kept -/
theorem Inv.kept {t' : Nat} (I : Inv X pins σ H s) (k : ∀ b u, s.heap.get? b = some u → h'.get? b = some u) : Inv X pins σ H { s with heap := h', toks := t' } := I.un (Un.kept k) (I.hok.kept k)
/-- a new object laid and tracked -/
theorem Inv.laid {a : Addr} {o : HO} {t' : Nat} (I : Inv X pins σ H s) (k : ∀ b u, s.heap.get? b = some u → h'.get? b = some u) (hp : s.heap.objs.size ≤ a) (new : ObjOk X.prog X.w (upd H a o) h' a o) :
    Inv X pins σ (upd H a o) { s with heap := h', toks := t' } := I.un (Un.laid k hp (I.hok.fresh hp)) (I.hok.laid k hp new)
/-- an object written -/
theorem Inv.write {x e : Addr} {o : HO} {t' : Nat} (I : Inv X pins σ H s) (mu : Mut (H x)) (he : e = x ∨ H e = some (.own x)) (k : ∀ b u, b ≠ e → s.heap.get? b = some u → h'.get? b = some u) (heo : ∃ u, h'.get? e = some u)
    (new : ObjOk X.prog X.w (upd H x o) h' x o) : Inv X pins σ (upd H x o) { s with heap := h', toks := t' } := I.un (Un.write mu he k heo) (I.hok.write mu he k heo new)
theorem Inv.pins_of {pins' : List (Addr × Obj)} (I : Inv X pins σ H s) (h : ∀ p ∈ pins', s.heap.get? p.1 = some p.2 ∧ H p.1 = none ∧ p.1 ≠ X.env.locals ∧ p.1 ∉ X.fs ∧ ∀ v, p.2.data ≠ .cell v) : Inv X pins' σ H s :=
  ⟨I.ok, I.os, I.bare, I.base, I.loc, I.cell, I.free, I.freeC, fun p hp => (List.mem_append.mp hp).elim (fun z => I.pin p (List.mem_append_left _ z)) (h p), I.hok, I.len⟩

theorem nodup_ix {N : List Str} (hN : N.Nodup) {i j : Nat} {x : Str} (a : N[i]? = some x) (b : N[j]? = some x) : i = j := by
  obtain ⟨h1, e1⟩ := List.getElem?_eq_some_iff.mp a
  obtain ⟨h2, e2⟩ := List.getElem?_eq_some_iff.mp b
  exact (List.getElem_inj hN).mp (e1.trans e2.symm)

/-- a name is stored; what changed -/
theorem store_ok2 {M : Model} {A : Around} {E : Value → Shared → Prop} {i : Nat} {x : Str} {v : V} {u : Value} {Q : Unit → Shared → Prop} (I : Inv X pins σ H s) (hN : X.N.Nodup) (hi : X.N[i]? = some x) (hx : Loc X.env.scope x) (r : RelV v u)
    (h : ∀ s', Inv X pins (σ.set i (some v)) H s' → (∃ a, Heap.SameBut a s.heap s'.heap ∧ (a = X.env.locals ∨ X.env.cells.lookup x = some a)) → Q () s') (hf : X.fn x = true ∨ X.env.scope.names.lookup x = some .local := by first | exact .inl rfl | exact .inr rfl | assumption) : wpAny M A (storeName X.env x u) Q E s := by
  obtain ⟨m, hn, hl⟩ := id I.loc
  have hcls : (X.env.scope.kind == .class || (X.env.scope.kind == .module && X.env.locals != X.env.globals)) = false := by rw [I.ok.kind]; rfl
  have hiσ : i < σ.length := by rw [I.len]; exact (List.getElem?_eq_some_iff.mp hi).1
  have cne := I.cne
  have tracked : ∀ {a : Addr} {h' : Heap}, (∃ o, s.heap.get? a = some o ∧ H a = none) → Heap.SameBut a s.heap h' → HOk X.prog X.w H h' := fun {a h'} ha hs b ob e => by
    obtain ⟨_, _, hfree⟩ := ha
    refine (I.hok b ob e).stay (fun c w' hc q => (hs.2 c ?_).trans q) (fun _ q => q) fun _ _ q => q
    rintro rfl
    rcases hc with rfl | hc
    · rw [hfree] at e; cases e
    · rw [hfree] at hc; cases hc
  rcases hx with hk | hk
  · refine wpAny_storeName_local hk hn (fun h' hn' hs => ?_) hcls
    obtain ⟨oL, _, _, hoL, _⟩ := id hn
    refine h _ ⟨I.ok, I.os, I.bare, ⟨fun b o e n hb hx => ?_, fun b o e n hb hx => ?_, I.base.free, fun b o e hx => ?_, I.base.tups, I.base.frzs, I.base.tbls⟩, ⟨_, hn', fun j y v' e1 e2 e3 => ?_⟩, fun y c e => ?_, I.free, I.freeC, fun p hp => ?_, tracked ⟨oL, hoL, I.free⟩ hs, by simpa using I.len⟩ ⟨_, hs, .inl rfl⟩
    · exact (hs.2 b (Nat.ne_of_lt (Nat.lt_of_lt_of_le (Heap.lt_size e) I.ok.above))).trans (I.base.keep b o e n hb hx)
    · obtain ⟨sl, e1⟩ := I.base.slot b o e n hb hx
      exact ⟨sl, (hs.2 b (Nat.ne_of_lt (Nat.lt_of_lt_of_le (Heap.lt_size e) I.ok.above))).trans e1⟩
    · obtain ⟨o', e1⟩ := I.base.there b o e hx
      exact ⟨o', (hs.2 b (Nat.ne_of_lt (Nat.lt_of_lt_of_le (Heap.lt_size e) I.ok.above))).trans e1⟩
    · by_cases hj : j = i
      · subst hj
        rw [hi] at e1; cases e1
        rw [List.getElem?_set_self hiσ] at e2
        cases e2
        exact ⟨u, r, .inl ⟨hk, by simp⟩⟩
      · rw [List.getElem?_set_ne (Ne.symm hj)] at e2
        obtain ⟨u', r', q⟩ := hl j y v' e1 e2 e3
        refine ⟨u', r', ?_⟩
        rcases q with ⟨k, e⟩ | ⟨k, c, e, z⟩
        · refine .inl ⟨k, ?_⟩
          have : y ≠ x := fun e => hj (nodup_ix hN e1 (e ▸ hi))
          simp [this, e]
        · exact .inr ⟨k, c, e, z.sameBut hs (cne y c e)⟩
    · obtain ⟨w', z⟩ := I.cell y c e
      exact ⟨w', z.sameBut hs (cne y c e)⟩
    · obtain ⟨e, n, ne, nf, d⟩ := I.pin p hp
      exact ⟨(hs.2 p.1 ne).trans e, n, ne, nf, d⟩
  · have hfn : X.fn x = true := by
      rcases hf with z | z
      · exact z
      · rw [z] at hk; cases hk
    obtain ⟨c, hc⟩ := I.ok.has x (.inl hk)
    obtain ⟨w', z⟩ := I.cell x c hc
    refine wpAny_storeName_cell I.ok.kind hk hc z (fun h' hc' hs => ?_)
    obtain ⟨oc, hoc, hocd⟩ := id z
    refine h { s with heap := h' } ⟨I.ok, I.os, I.bare, ⟨fun b o e n hb hx => ?_, fun b o e n hb hx => ?_, I.base.free, fun b o e hx => ?_, I.base.tups, I.base.frzs, I.base.tbls⟩, ⟨m, hn.sameBut hs (Ne.symm (cne x c hc)), fun j y v' e1 e2 e3 => ?_⟩, fun y c' e => ?_, I.free, I.freeC, fun p hp => ?_, tracked ⟨oc, hoc, I.freeC x c hc⟩ hs, by simpa using I.len⟩ ⟨c, hs, .inr hc⟩
    · exact (hs.2 b (Nat.ne_of_lt (Nat.lt_of_lt_of_le (Heap.lt_size e) (I.ok.cab x c hfn hc)))).trans (I.base.keep b o e n hb hx)
    · obtain ⟨sl, e1⟩ := I.base.slot b o e n hb hx
      exact ⟨sl, (hs.2 b (Nat.ne_of_lt (Nat.lt_of_lt_of_le (Heap.lt_size e) (I.ok.cab x c hfn hc)))).trans e1⟩
    · obtain ⟨o', e1⟩ := I.base.there b o e hx
      exact ⟨o', (hs.2 b (Nat.ne_of_lt (Nat.lt_of_lt_of_le (Heap.lt_size e) (I.ok.cab x c hfn hc)))).trans e1⟩
    · by_cases hj : j = i
      · subst hj
        rw [hi] at e1; cases e1
        rw [List.getElem?_set_self hiσ] at e2
        cases e2
        exact ⟨u, r, .inr ⟨.inl hk, c, hc, hc'⟩⟩
      · rw [List.getElem?_set_ne (Ne.symm hj)] at e2
        obtain ⟨u', r', q⟩ := hl j y v' e1 e2 e3
        refine ⟨u', r', ?_⟩
        rcases q with q | ⟨k, c', e, z'⟩
        · exact .inl q
        · refine .inr ⟨k, c', e, z'.sameBut hs ?_⟩
          rintro rfl
          exact hj (nodup_ix hN e1 (I.ok.inj _ _ _ e hc ▸ hi))
    · by_cases hcc : c' = c
      · subst hcc; exact ⟨_, hc'⟩
      · obtain ⟨w2, z2⟩ := I.cell y c' e
        exact ⟨w2, z2.sameBut hs hcc⟩
    · obtain ⟨e, n, ne, nf, d⟩ := I.pin p hp
      refine ⟨(hs.2 p.1 ?_).trans e, n, ne, nf, d⟩
      intro q
      rw [q, hoc] at e
      have q' : oc = p.2 := Option.some.inj e
      exact d w' (by rw [← q']; exact hocd)
theorem store_ok {M : Model} {A : Around} {E : Value → Shared → Prop} {i : Nat} {x : Str} {v : V} {u : Value} {Q : Unit → Shared → Prop} (I : Inv X pins σ H s) (hN : X.N.Nodup) (hi : X.N[i]? = some x) (hx : Loc X.env.scope x) (r : RelV v u)
    (h : ∀ s', Inv X pins (σ.set i (some v)) H s' → Q () s') (hf : X.fn x = true ∨ X.env.scope.names.lookup x = some .local := by first | exact .inl rfl | exact .inr rfl | assumption) : wpAny M A (storeName X.env x u) Q E s :=
  store_ok2 I hN hi hx r (fun s' I' _ => h s' I') hf
/-- behind a call or a block, the state as it is -/
theorem Inv.call' {s' : Shared} {ch : List Addr} (I : Inv X pins σ H s) (ho : s'.os = s.os) (u : Un (frs X.stack) ch H H' s.heap s'.heap) (hok : HOk X.prog X.w H' s'.heap) (hg : AllBare s'.gens)
    (hch : ∀ b ∈ ch, (b ∈ X.ex ∨ X.s₀.heap.objs.size ≤ b) ∧ b ≠ X.env.locals ∧ (∀ x c, X.env.cells.lookup x = some c → c ≠ b) ∧ ∀ p ∈ X.pn ++ pins, p.1 ≠ b) : Inv X pins σ H' s' := by
  obtain ⟨h', g', d', t', o'⟩ := s'
  have e : o' = s.os := ho
  subst e
  exact I.call (g' := g') (t' := t') (d' := d') u hok hg hch
end

/-! ### the judgements -/
/-- an exception: its class, its own dict's address (where it has one), the abstract heap behind it -/
abbrev XK := Value → Option Addr → Hp → Prop
abbrev St := List (Option V)
abbrev VK := V → Hp → Prop
/-- an expression's reading; a test's; an argument list's -/
abbrev TE := St → Hp → VK → Prop
abbrev TT := St → Hp → (Bool → Hp → Prop) → Prop
abbrev TA := St → Hp → (List V → Hp → Prop) → Prop
/-- what is wanted behind a statement -/
structure Ends where
  nx : St → Hp → Prop
  rt : VK
  bk : St → Hp → Prop := fun _ _ => False
  ct : St → Hp → Prop := fun _ _ => False
abbrev TS := Ends → St → Hp → Prop

def EP (X : Cx) (pins : List (Addr × Obj)) (σ : St) (Q : VK) (u : Value) (s' : Shared) : Prop := ∃ v H', Inv X pins σ H' s' ∧ RelV v u ∧ Q v H'
def TP (X : Cx) (pins : List (Addr × Obj)) (σ : St) (Q : Bool → Hp → Prop) (b : Bool) (s' : Shared) : Prop := ∃ H', Inv X pins σ H' s' ∧ Q b H'
def AP (X : Cx) (pins : List (Addr × Obj)) (σ : St) (Q : List V → Hp → Prop) (us : List Value) (s' : Shared) : Prop := ∃ vs H', Inv X pins σ H' s' ∧ Vals vs us ∧ Q vs H'
def SP (X : Cx) (pins : List (Addr × Obj)) (D : Ends) (f : Flow) (s' : Shared) : Prop :=
  match f with
  | .next => ∃ σ' H', Inv X pins σ' H' s' ∧ D.nx σ' H'
  | .brk => ∃ σ' H', Inv X pins σ' H' s' ∧ D.bk σ' H'
  | .cont => ∃ σ' H', Inv X pins σ' H' s' ∧ D.ct σ' H'
  | .ret u => ∃ v σ' H', Inv X pins σ' H' s' ∧ RelV v u ∧ D.rt v H'

def PE (X : Cx) (e : Expr) (t : TE) : Prop :=
  ∀ (pins : List (Addr × Obj)) (s : Shared) (σ : St) (H : Hp) (Q : VK), Inv X pins σ H s → t σ H Q → wpAny (model X.prog X.w) X.A (eval e X.env) (EP X pins σ Q) X.xe s
def PT (X : Cx) (e : Expr) (t : TT) : Prop :=
  ∀ (pins : List (Addr × Obj)) (s : Shared) (σ : St) (H : Hp) (Q : Bool → Hp → Prop), Inv X pins σ H s → t σ H Q → wpAny (model X.prog X.w) X.A (isTrue e X.env (eval e X.env)) (TP X pins σ Q) X.xe s
/-- a test whatever its 'whole' is (and, or) -/
def PW (X : Cx) (e : Expr) (t : TT) : Prop :=
  ∀ (whole : Sem Value) (pins : List (Addr × Obj)) (s : Shared) (σ : St) (H : Hp) (Q : Bool → Hp → Prop), Inv X pins σ H s → t σ H Q → wpAny (model X.prog X.w) X.A (isTrue e X.env whole) (TP X pins σ Q) X.xe s
theorem PW.pt {X : Cx} {e : Expr} {t : TT} (h : PW X e t) : PT X e t := h _
/-- an argument list (no star), from the left -/
def PA (X : Cx) (es : List Expr) (t : TA) : Prop :=
  ∀ (pos : Pos) (pins : List (Addr × Obj)) (s : Shared) (σ : St) (H : Hp) (Q : List V → Hp → Prop), Inv X pins σ H s → t σ H Q → wpAny (model X.prog X.w) X.A (spliced (backTo pos (starEach es X.env))) (AP X pins σ Q) X.xe s
def PS (X : Cx) (st : Stmt) (t : TS) : Prop :=
  ∀ (pins : List (Addr × Obj)) (s : Shared) (σ : St) (H : Hp) (D : Ends), Inv X pins σ H s → t D σ H → wpAny (model X.prog X.w) X.A (exec st X.env) (SP X pins D) X.xe s
def PSs (X : Cx) (st : List Stmt) (t : TS) : Prop :=
  ∀ (pins : List (Addr × Obj)) (s : Shared) (σ : St) (H : Hp) (D : Ends), Inv X pins σ H s → t D σ H → wpAny (model X.prog X.w) X.A (execs st X.env) (SP X pins D) X.xe s
/-- weaken the end -/
theorem thn {α : Type} {t : Sem α} {Q Q' : α → Shared → Prop} {M : Model} {A : Around} {E : Value → Shared → Prop} {s : Shared} (h : wpAny M A t Q E s) (hQ : ∀ a s, Q a s → Q' a s) : wpAny M A t Q' E s := wpAny_mono h hQ fun _ _ x => x
end L2

namespace L2
open PySem PySem.Spec PyProof.Rows
section
variable {X : Cx}


/-! ### names and constants -/
def tVar (i : Nat) : TE := fun σ H Q => ∃ v, σ[i]? = some (some v) ∧ Q v H
def tC (v : V) : TE := fun _ H Q => Q v H
theorem pe_var {i : Nat} {x : Str} {pos : Pos} (hN : X.N[i]? = some x) (hv : Vis X.env.scope x) (hd : (x == ("__debug__" : Str)) = false := by decide) (hcd : (x == ("__classdict__" : Str)) = false := by decide) : PE X (.Name x pos) (tVar i) := by
  intro pins s σ H Q I h
  obtain ⟨v, e, h⟩ := h
  obtain ⟨m, hn, hl⟩ := I.loc
  obtain ⟨u, r, l⟩ := hl i x v hN e hv
  have fin : EP X pins σ Q u s := ⟨v, H, I, r, h⟩
  rcases l with ⟨hk, hm⟩ | ⟨hk, c, hc, hcell⟩
  · exact wpAny_Name (wpAny_loadName_local I.ok.kind hk hn hm fin) hd
  · rcases hk with hk | hk
    · exact wpAny_Name (wpAny_loadName_cell I.ok.kind hk hc hcell fin) hd
    · exact wpAny_Name (wpAny_loadName_free I.ok.kind hk hc hcell fin hcd) hd
theorem pe_int {i j pos} : PE X (.Constant (.int i) j pos) (tC (.int i)) := fun _ _ _ H _ I h => wpAny_Constant_int ⟨.int i, H, I.tok _, ⟨_, rfl⟩, h⟩
theorem pe_bl {b j pos} : PE X (.Constant (.bool b) j pos) (tC (.bl b)) := fun _ _ _ H _ I h => Constant_bool ⟨.bl b, H, I, rfl, h⟩
theorem pe_non {j pos} : PE X (.Constant .none j pos) (tC .non) := fun _ _ _ H _ I h => Constant_none ⟨.non, H, I, rfl, h⟩
theorem pe_str {x j pos} : PE X (.Constant (.str x) j pos) (tC (.str x)) := fun _ _ _ H _ I h => Calls.Constant_str ⟨.str x, H, I.tok _, ⟨_, rfl⟩, h⟩

/-- a global name of the def -/
def Gl (X : Cx) (x : Str) : Prop := X.env.kindOf x = some .globalImplicit
theorem ld_glob {E : Value → Shared → Prop} {pins : List (Addr × Obj)} {s : Shared} {σ : St} {H : Hp} {x : Str} {u : Value} {pos : Pos} {Q : Value → Shared → Prop} (I : Inv X pins σ H s) (hg : Gl X x) (hm : X.mg x = some u) (h : Q u s)
    (hd : (x == ("__debug__" : Str)) = false := by decide) : wpAny (model X.prog X.w) X.A (eval (.Name x pos) X.env) Q E s :=
  Calls.Name_function_global I.ok.kind hg (Calls.loadGlobal_global (by rw [I.ok.glob]; exact I.mod.glob.keeps I.bk) hm h) hd
theorem ld_blt {E : Value → Shared → Prop} {pins : List (Addr × Obj)} {s : Shared} {σ : St} {H : Hp} {x : Str} {u : Value} {pos : Pos} {Q : Value → Shared → Prop} (I : Inv X pins σ H s) (hg : Gl X x) (hm : X.mg x = none) (hv : bootBuiltins x = some u) (h : Q u s)
    (hn : x ≠ "__name__" := by decide) (hd : (x == ("__debug__" : Str)) = false := by decide) : wpAny (model X.prog X.w) X.A (eval (.Name x pos) X.env) Q E s := by
  obtain ⟨mb, h1, h2⟩ := I.mod.blt
  exact Calls.Name_function_global I.ok.kind hg (Calls.loadGlobal_builtin (by rw [I.ok.glob]; exact I.mod.glob.keeps I.bk) hm (by rw [I.ok.blt]; exact h1.keeps I.bk) ((h2 x hn).trans hv) h) hd
/-- a module's constant, a class, a function, as a value -/
theorem pe_glob {x : Str} {v : V} {u : Value} {pos : Pos} (hg : Gl X x) (hm : X.mg x = some u) (r : RelV v u) (hd : (x == ("__debug__" : Str)) = false := by decide) : PE X (.Name x pos) (tC v) :=
  fun _ _ _ H _ I h => ld_glob I hg hm ⟨v, H, I, r, h⟩ hd
theorem pe_bltn {x : Str} {v : V} {u : Value} {pos : Pos} (hg : Gl X x) (hm : X.mg x = none) (hv : bootBuiltins x = some u) (r : RelV v u) (hn : x ≠ "__name__" := by decide) (hd : (x == ("__debug__" : Str)) = false := by decide) : PE X (.Name x pos) (tC v) :=
  fun _ _ _ H _ I h => ld_blt I hg hm hv ⟨v, H, I, r, h⟩ hn hd

/-! ### arithmetic -/
/-- two ints -/
def t2I (ta tb : TE) (k : Int → Int → Hp → Prop) : St → Hp → Prop := fun σ H => ta σ H fun x H1 => tb σ H1 fun y H2 => ∃ i j, x = .int i ∧ y = .int j ∧ k i j H2
def tAdd (ta tb : TE) : TE := fun σ H Q => t2I ta tb (fun i j H2 => Q (.int (i + j)) H2) σ H
def tSub (ta tb : TE) : TE := fun σ H Q => t2I ta tb (fun i j H2 => Q (.int (i - j)) H2) σ H
/-- the left factor below 2^64 -/
def tMul (ta tb : TE) : TE := fun σ H Q => t2I ta tb (fun i j H2 => (-(2 ^ 64) < i ∧ i < 2 ^ 64) ∧ Q (.int (i * j)) H2) σ H
variable {a b : Expr} {ta tb : TE} {pos : Pos}

/-! ### comparisons -/
def PC (X : Cx) (op : CmpOp) (a b : Expr) (t : TE) : Prop :=
  ∀ (pins : List (Addr × Obj)) (s : Shared) (σ : St) (H : Hp) (Q : VK), Inv X pins σ H s → t σ H Q →
    wpAny (model X.prog X.w) X.A (eval a X.env) (fun v s₁ => wpAny (model X.prog X.w) X.A (eval b X.env) (fun u s₂ => wpAny (model X.prog X.w) X.A (compareOp op v u) (EP X pins σ Q) X.xe s₂) X.xe s₁) X.xe s
def tCmp (p : Int → Int → Bool) (ta tb : TE) : TE := fun σ H Q => t2I ta tb (fun i j H2 => Q (.bl (p i j)) H2) σ H
abbrev tLt : TE → TE → TE := tCmp fun i j => decide (i < j)
abbrev tLe : TE → TE → TE := tCmp fun i j => decide (i ≤ j)
abbrev tGt : TE → TE → TE := tCmp fun i j => decide (j < i)
abbrev tGe : TE → TE → TE := tCmp fun i j => decide (j ≤ i)
abbrev tEqI : TE → TE → TE := tCmp fun i j => decide (i = j)
abbrev tNeI : TE → TE → TE := tCmp fun i j => !decide (i = j)
/-- is None -/
def tIsN (ta : TE) : TE := fun σ H Q => ta σ H fun x H1 => Q (.bl (decide (x = .non))) H1
def tNotN (ta : TE) : TE := fun σ H Q => ta σ H fun x H1 => Q (.bl (!decide (x = .non))) H1
/-- a comparison as a value, as a test -/
def tB (t : TE) : TT := fun σ H Q => t σ H fun x H1 => ∃ c, x = .bl c ∧ Q c H1
/-- an expression whose value is a bool, as a test -/
theorem pt_val {e : Expr} {t : TE} (h : PE X e t) (he : ∀ whole, isTrue e X.env whole = (do let v ← whole; standAt e.pos; holding [v] (truthy v)) := by intro _; rfl) : PT X e (tB t) := by
  intro pins s σ H Q I hw
  refine isTrue_plain (thn (h pins s σ H _ I hw) fun v s1 ⟨x, H1, I1, r1, q1⟩ => ?_) (he _)
  obtain ⟨d, rfl, q⟩ := q1
  cases r1
  exact wpAny_truthy_bool ⟨H1, I1, q⟩

/-! ### and, or, not -/
variable {tA tB' : TT} {rest : List Expr}
def tAnd (t u : TT) : TT := fun σ H Q => t σ H fun c H1 => if c = true then u σ H1 Q else Q false H1
def tOr (t u : TT) : TT := fun σ H Q => t σ H fun c H1 => if c = true then Q true H1 else u σ H1 Q
def tNot (t : TT) : TT := fun σ H Q => t σ H fun c H1 => Q (!c) H1
theorem pw_and1 (ha : PT X a tA) : PW X (.BoolOp .And [a] pos) tA := by
  intro wh pins s σ H Q I h
  refine isTrue_and (thn (ha pins s σ H Q I h) fun c s1 e => ?_)
  cases c with
  | true => exact isTrue_and_nil e
  | false => exact e
theorem pw_or1 (ha : PT X a tA) : PW X (.BoolOp .Or [a] pos) tA := by
  intro wh pins s σ H Q I h
  refine isTrue_or (thn (ha pins s σ H Q I h) fun c s1 e => ?_)
  cases c with
  | false => exact isTrue_or_nil e
  | true => exact e
theorem pw_and (ha : PT X a tA) (hb : PW X (.BoolOp .And (b :: rest) pos) tB') : PW X (.BoolOp .And (a :: b :: rest) pos) (tAnd tA tB') := by
  intro wh pins s σ H Q I h
  refine isTrue_and (thn (ha pins s σ H _ I h) fun c s1 ⟨H1, I1, q1⟩ => ?_)
  cases c with
  | true => exact hb wh pins s1 σ H1 Q I1 q1
  | false => exact ⟨H1, I1, q1⟩
theorem pw_or (ha : PT X a tA) (hb : PW X (.BoolOp .Or (b :: rest) pos) tB') : PW X (.BoolOp .Or (a :: b :: rest) pos) (tOr tA tB') := by
  intro wh pins s σ H Q I h
  refine isTrue_or (thn (ha pins s σ H _ I h) fun c s1 ⟨H1, I1, q1⟩ => ?_)
  cases c with
  | true => exact ⟨H1, I1, q1⟩
  | false => exact hb wh pins s1 σ H1 Q I1 q1
theorem pt_not (ha : PT X a tA) : PT X (.UnaryOp .Not a pos) (tNot tA) := by
  intro pins s σ H Q I h
  exact isTrue_not (ha pins s σ H (fun c H1 => Q (!c) H1) I h)
/-- .. as values (bools) -/
def tAndV (ta tb : TE) : TE := fun σ H Q => ta σ H fun x H1 => ∃ c, x = .bl c ∧ if c = true then tb σ H1 Q else Q (.bl false) H1
def tOrV (ta tb : TE) : TE := fun σ H Q => ta σ H fun x H1 => ∃ c, x = .bl c ∧ if c = true then Q (.bl true) H1 else tb σ H1 Q
def tNotV (ta : TE) : TE := fun σ H Q => ta σ H fun x H1 => ∃ c, x = .bl c ∧ Q (.bl (!c)) H1
theorem pe_one {op} {t : TE} (h : PE X a t) : PE X (.BoolOp op [a] pos) t := fun pins s σ H Q I hw => BoolOp_one (h pins s σ H Q I hw)
theorem pe_and (ha : PE X a ta) (hb : PE X (.BoolOp .And (b :: rest) pos) tb) : PE X (.BoolOp .And (a :: b :: rest) pos) (tAndV ta tb) := by
  intro pins s σ H Q I h
  refine BoolOp_and (thn (ha pins s σ H _ I h) fun v s1 ⟨x, H1, I1, r1, q1⟩ => ?_)
  obtain ⟨c, rfl, q1⟩ := q1
  cases r1
  refine wpAny_truthy_bool ?_
  cases c with
  | true => exact hb pins s1 σ H1 Q I1 q1
  | false => exact ⟨.bl false, H1, I1, rfl, q1⟩
theorem pe_not (ha : PE X a ta) : PE X (.UnaryOp .Not a pos) (tNotV ta) := by
  intro pins s σ H Q I h
  refine UnaryOp_ (thn (ha pins s σ H _ I h) fun v s1 ⟨x, H1, I1, r1, q1⟩ => ?_)
  obtain ⟨c, rfl, q1⟩ := q1
  cases r1
  exact not_of (wpAny_truthy_bool ⟨.bl (!c), H1, I1, rfl, q1⟩)
/-- a if t else b -/
def tIf (t : TT) (ta tb : TE) : TE := fun σ H Q => t σ H fun c H1 => if c = true then ta σ H1 Q else tb σ H1 Q
end
end L2

namespace L2
open PySem PySem.Spec PyProof.Rows

/-! ### a list, a tuple that is read: tracked, frozen, or an object of the module -/
def SqL (K : PySem.W.Frag) (H : Hp) (a : Addr) (xs : List V) : Prop :=
  Rd H a (.lst xs) ∨
    ∃ (o : Obj) (its : Array Value) (n : Nat), K.lookup a = some o ∧ o.cls = .type "list" ∧ o.dict = none ∧ o.data = .seq its n ∧ its.size ≤ sizeLine ∧ Vals xs its.toList
def SqT (K : PySem.W.Frag) (H : Hp) (a : Addr) (xs : List V) : Prop :=
  Rd H a (.tup xs) ∨
    ∃ (o : Obj) (its : Array Value) (n : Nat), K.lookup a = some o ∧ o.cls = .type "tuple" ∧ o.data = .seq its n ∧ its.size ≤ sizeLine ∧ Vals xs its.toList
def absV : Value → Option V
  | .none => some .non
  | .bool b => some (.bl b)
  | .int i _ => some (.int i)
  | .str x _ => some (.str x)
  | .bytes b _ => some (.byt b)
  | .float b _ => some (.flt b)
  | .ref a => some (.ref a)
  | .type n => some (.ty n)
  | _ => none
theorem RelV.abs {x : V} {u : Value} (r : RelV x u) : absV u = some x := by
  cases x with
  | non => cases r; rfl
  | bl _ => cases r; rfl
  | int _ => obtain ⟨t, rfl⟩ := r; rfl
  | str _ => obtain ⟨t, rfl⟩ := r; rfl
  | byt _ => obtain ⟨t, rfl⟩ := r; rfl
  | flt _ => obtain ⟨t, rfl⟩ := r; rfl
  | ref _ => cases r; rfl
  | ty _ => cases r; rfl
theorem RelV.inj {x y : V} {u : Value} (r : RelV x u) (q : RelV y u) : x = y := Option.some.inj (r.abs.symm.trans q.abs)
theorem Vals.inj : ∀ {xs ys : List V} {us : List Value}, Vals xs us → Vals ys us → xs = ys
  | _, _, _, .nil, .nil => rfl
  | _, _, _, .cons r t, .cons r' t' => by rw [r.inj r', Vals.inj t t']
section
variable {X : Cx} {pins : List (Addr × Obj)} {σ : St} {H : Hp} {s : Shared} {a : Addr} {xs ys : List V}
theorem SqL.of {K : PySem.W.Frag} (h : H a = some (.lst xs)) : SqL K H a xs := .inl (.inl h)
theorem SqT.of {K : PySem.W.Frag} (h : H a = some (.tup xs)) : SqT K H a xs := .inl (.inl h)
theorem Inv.list (I : Inv X pins σ H s) (h : SqL X.K H a xs) : ∃ its : List Value, Vals xs its ∧ PlainL s.heap a its.toArray ∧ xs.length ≤ sizeLine := by
  rcases h with h | ⟨o, its, n, hk, hc, hd, hs, hz, r⟩
  · obtain ⟨z, its, n, r, e⟩ := h.ok I.hok
    exact ⟨its, r, ⟨_, n, e, rfl, rfl, rfl⟩, z⟩
  · refine ⟨its.toList, r, ⟨o, n, I.kIn a o hk, hc, hd, by simpa using hs⟩, ?_⟩
    have e := r.length
    simp only [Array.length_toList] at e
    omega
theorem Inv.tuple (I : Inv X pins σ H s) (h : SqT X.K H a xs) : ∃ its : List Value, Vals xs its ∧ IsTup s.heap a its.toArray ∧ xs.length ≤ sizeLine := by
  rcases h with h | ⟨o, its, n, hk, hc, hs, hz, r⟩
  · obtain ⟨z, its, r, p⟩ := h.ok I.hok
    exact ⟨its, r, p, z⟩
  · refine ⟨its.toList, r, ⟨o, I.kIn a o hk, hc, n, by simpa using hs⟩, ?_⟩
    have e := r.length
    simp only [Array.length_toList] at e
    omega
theorem Inv.list_inj (I : Inv X pins σ H s) (h : SqL X.K H a xs) (h' : SqL X.K H a ys) : xs = ys := by
  obtain ⟨its, r, ⟨o, n, e, _, _, d⟩, _⟩ := I.list h
  obtain ⟨its', r', ⟨o', n', e', _, _, d'⟩, _⟩ := I.list h'
  rw [e] at e'; cases e'
  rw [d] at d'
  injection d' with d1 _
  have : its = its' := by simpa using congrArg Array.toList d1
  subst this
  exact r.inj r'
theorem Inv.tuple_inj (I : Inv X pins σ H s) (h : SqT X.K H a xs) (h' : SqT X.K H a ys) : xs = ys := by
  obtain ⟨its, r, ⟨o, e, _, n, d⟩, _⟩ := I.tuple h
  obtain ⟨its', r', ⟨o', e', _, n', d'⟩, _⟩ := I.tuple h'
  rw [e] at e'; cases e'
  rw [d] at d'
  injection d' with d1 _
  have : its = its' := by simpa using congrArg Array.toList d1
  subst this
  exact r.inj r'
end

/-! ### another wish about exceptions -/
abbrev Cx.wish (X : Cx) (E : Value → Shared → Prop) : Cx := { X with xe := E }
/-- no exception leaves -/
abbrev Cx.nox (X : Cx) : Cx := X.wish fun _ _ => False
theorem Cx.Ok.wish {X : Cx} (ok : X.Ok) (E : Value → Shared → Prop) : (X.wish E).Ok :=
  ⟨ok.mod, ok.kind, ok.glob, ok.blt, ok.above, ok.inj, ok.has, ok.cab, ok.hd, ok.frames, ok.stk, ok.exf, ok.bs, ok.bsz, ok.noex, ok.exfs, ok.funs, ok.frf⟩
theorem Cx.Ok.unwish {X : Cx} {E : Value → Shared → Prop} (ok : (X.wish E).Ok) : X.Ok :=
  ⟨ok.mod, ok.kind, ok.glob, ok.blt, ok.above, ok.inj, ok.has, ok.cab, ok.hd, ok.frames, ok.stk, ok.exf, ok.bs, ok.bsz, ok.noex, ok.exfs, ok.funs, ok.frf⟩
section
variable {X : Cx} {pins : List (Addr × Obj)} {σ : St} {H : Hp} {s : Shared} {E : Value → Shared → Prop}
theorem Inv.wish (I : Inv X pins σ H s) (E : Value → Shared → Prop) : Inv (X.wish E) pins σ H s := ⟨I.ok.wish E, I.os, I.bare, I.base, I.loc, I.cell, I.free, I.freeC, I.pin, I.hok, I.len⟩
theorem Inv.unwish (I : Inv (X.wish E) pins σ H s) : Inv X pins σ H s := ⟨I.ok.unwish, I.os, I.bare, I.base, I.loc, I.cell, I.free, I.freeC, I.pin, I.hok, I.len⟩
theorem SP.unwish {D : Ends} {f : Flow} {s' : Shared} (h : SP (X.wish E) pins D f s') : SP X pins D f s' := by
  cases f with
  | next => obtain ⟨σ', H', I, q⟩ := h; exact ⟨σ', H', I.unwish, q⟩
  | brk => obtain ⟨σ', H', I, q⟩ := h; exact ⟨σ', H', I.unwish, q⟩
  | cont => obtain ⟨σ', H', I, q⟩ := h; exact ⟨σ', H', I.unwish, q⟩
  | ret u => obtain ⟨v, σ', H', I, r, q⟩ := h; exact ⟨v, σ', H', I.unwish, r, q⟩
theorem PE.nox {e : Expr} {t : TE} (h : PE X.nox e t) : PE X e t := fun pins s σ H Q I hw =>
  wpAny_mono (h pins s σ H Q (I.wish _) hw) (fun _ _ ⟨v, H', I', r, q⟩ => ⟨v, H', I'.unwish, r, q⟩) fun _ _ z => False.elim z
theorem PT.nox {e : Expr} {t : TT} (h : PT X.nox e t) : PT X e t := fun pins s σ H Q I hw =>
  wpAny_mono (h pins s σ H Q (I.wish _) hw) (fun _ _ ⟨H', I', q⟩ => ⟨H', I'.unwish, q⟩) fun _ _ z => False.elim z
theorem PSs.nox {st : List Stmt} {t : TS} (h : PSs X.nox st t) : PSs X st t := fun pins s σ H D I hw =>
  wpAny_mono (h pins s σ H D (I.wish _) hw) (fun _ _ q => q.unwish) fun _ _ z => False.elim z
end

/-! ### blocks and small statements -/
section
variable {X : Cx} {st : Stmt} {rest : List Stmt} {t u : TS} {e : Expr} {te : TE} {pos : Pos}
def tNext : TS := fun D σ H => D.nx σ H
def tSeq (t u : TS) : TS := fun D σ H => t { D with nx := u D } σ H
theorem pss_nil : PSs X [] tNext := fun _ _ σ H _ I h => wpAny_execs_nil ⟨σ, H, I, h⟩
theorem pss_cons (h1 : PS X st t) (h2 : PSs X rest u) : PSs X (st :: rest) (tSeq t u) := by
  intro pins s σ H D I h
  refine wpAny_execs_cons (thn (h1 pins s σ H { D with nx := u D } I h) fun f s1 q => ?_)
  cases f with
  | next =>
    obtain ⟨σ', H', I', q⟩ := q
    exact h2 pins s1 σ' H' D I' q
  | ret v => exact q
  | brk => exact q
  | cont => exact q
theorem pss_one (h1 : PS X st t) : PSs X [st] t := by
  intro pins s σ H D I h
  refine wpAny_execs_cons (thn (h1 pins s σ H D I h) fun f s1 q => ?_)
  cases f with
  | next => exact wpAny_execs_nil q
  | ret v => exact q
  | brk => exact q
  | cont => exact q
def tBreak : TS := fun D σ H => D.bk σ H
def tCont : TS := fun D σ H => D.ct σ H
/-- in a def's body nothing is shown -/
theorem Inv.quiet {pins : List (Addr × Obj)} {σ : St} {H : Hp} {s : Shared} (I : Inv X pins σ H s) : interactive X.env = false := by simp [interactive, I.ok.kind]
/-- an expression whose value is dropped -/
def tDrop (te : TE) : TS := fun D σ H => te σ H fun _ H1 => D.nx σ H1
theorem ps_expr (he : PE X e te) (hs : swapsWith e none pos.line X.env = pure false := by rfl) : PS X (.Expr e pos) (tDrop te) := by
  intro pins s σ H D I h
  exact wpAny_Expr_any (thn (he pins s σ H _ I h) fun v s1 ⟨x, H1, I1, r1, q1⟩ => ⟨σ, H1, I1, q1⟩) I.quiet hs
def tRet (te : TE) : TS := fun D σ H => te σ H D.rt
theorem ps_ret (he : PE X e te) : PS X (.Return (some e) pos) (tRet te) := by
  intro pins s σ H D I h
  exact wpAny_Return_some (thn (he pins s σ H _ I h) fun v s1 ⟨x, H1, I1, r1, q1⟩ => ⟨x, σ, H1, I1, r1, q1⟩)
def tRetN : TS := fun D _ H => D.rt .non H
def tIfS (c : TT) (t u : TS) : TS := fun D σ H => c σ H fun b H1 => if b = true then t D σ H1 else u D σ H1
theorem ps_if {c : Expr} {a b : List Stmt} {tc : TT} (hc : PT X c tc) (ha : PSs X a t) (hb : PSs X b u) : PS X (.If c a b pos) (tIfS tc t u) := by
  intro pins s σ H D I h
  refine wpAny_If (thn (hc pins s σ H _ I h) fun d s1 ⟨H1, I1, q1⟩ => ?_)
  cases d with
  | true => exact ha pins s1 σ H1 D I1 q1
  | false => exact hb pins s1 σ H1 D I1 q1
/-- code that the proof never comes to -/
def tNever : TS := fun _ _ _ => False
end

/-! ### targets -/
abbrev TG := V → St → Hp → (St → Hp → Prop) → Prop
abbrev TGs := List V → St → Hp → (St → Hp → Prop) → Prop
def PG (X : Cx) (target : Expr) (t : TG) : Prop :=
  ∀ (pins : List (Addr × Obj)) (s : Shared) (σ : St) (H : Hp) (v : V) (u : Value) (Q : St → Hp → Prop), Inv X pins σ H s → RelV v u → t v σ H Q →
    wpAny (model X.prog X.w) X.A (assign target X.env u) (fun _ s' => ∃ σ' H', Inv X pins σ' H' s' ∧ Q σ' H') X.xe s
/-- several targets, one after another -/
def PGs (X : Cx) (ts : List Expr) (t : TGs) : Prop :=
  ∀ (pins : List (Addr × Obj)) (s : Shared) (σ : St) (H : Hp) (vs : List V) (us : List Value) (Q : St → Hp → Prop), Inv X pins σ H s → Vals vs us → t vs σ H Q →
    wpAny (model X.prog X.w) X.A (assignInOrder ((assignEach ts X.env).map (·.2)) us) (fun _ s' => ∃ σ' H', Inv X pins σ' H' s' ∧ Q σ' H') X.xe s
/-- o[i] = v, by values -/
abbrev TSet := V → V → V → Hp → (Hp → Prop) → Prop
def PSet (X : Cx) (t : TSet) : Prop :=
  ∀ (pins : List (Addr × Obj)) (s : Shared) (σ : St) (H : Hp) (o i v : V) (ov iv u : Value) (Q : Hp → Prop), Inv X pins σ H s → RelV o ov → RelV i iv → RelV v u → t o i v H Q →
    wpAny (model X.prog X.w) X.A (setItem ov iv u) (fun _ s' => ∃ H', Inv X pins σ H' s' ∧ Q H') X.xe s
/-- a op= b, by values -/
abbrev TIp := V → V → Hp → VK → Prop
def PIp (X : Cx) (op : Operator) (t : TIp) : Prop :=
  ∀ (pins : List (Addr × Obj)) (s : Shared) (σ : St) (H : Hp) (x y : V) (v u : Value) (Q : VK), Inv X pins σ H s → RelV x v → RelV y u → t x y H Q →
    wpAny (model X.prog X.w) X.A (inplaceOp op v u) (EP X pins σ Q) X.xe s
section
variable {X : Cx} {pos : Pos}
def gName (i : Nat) : TG := fun v σ H Q => Q (σ.set i (some v)) H
theorem pg_name {i : Nat} {x : Str} (hN : X.N.Nodup) (hi : X.N[i]? = some x) (hx : Loc X.env.scope x) (hf : X.fn x = true ∨ X.env.scope.names.lookup x = some .local := by first | exact .inl rfl | exact .inr rfl | assumption) : PG X (.Name x pos) (gName i) := by
  intro pins s σ H v u Q I r h
  exact wpAny_assign_Name (store_ok I hN hi hx r (fun s' I' => ⟨_, H, I', h⟩) hf)
def gNil : TGs := fun vs σ H Q => vs = [] ∧ Q σ H
def gCons (t : TG) (u : TGs) : TGs := fun vs σ H Q => ∃ v r, vs = v :: r ∧ t v σ H fun σ' H' => u r σ' H' Q
theorem pgs_nil : PGs X [] gNil := by
  intro pins s σ H vs us Q I r h
  obtain ⟨e, h⟩ := h
  subst e
  cases r
  exact assignInOrder_nil ⟨σ, H, I, h⟩
theorem pgs_cons {e : Expr} {es : List Expr} {t : TG} {u : TGs} (h1 : PG X e t) (h2 : PGs X es u)
    (hs : (assignEach (e :: es) X.env).map (·.2) = assign e X.env :: (assignEach es X.env).map (·.2) := by rfl) : PGs X (e :: es) (gCons t u) := by
  intro pins s σ H vs us Q I r h
  obtain ⟨v, vr, e1, h⟩ := h
  subst e1
  cases r with
  | cons r rr =>
    rw [hs]
    refine assignInOrder_cons (thn (h1 pins s σ H _ _ _ I r h) fun _ s1 ⟨σ1, H1, I1, q1⟩ => ?_)
    exact h2 pins s1 σ1 H1 _ _ Q I1 rr q1
/-- (a, b, ..) = a tuple of that length -/
def gTup (K : PySem.W.Frag) (n : Nat) (t : TGs) : TG := fun v σ H Q => ∃ a xs, v = .ref a ∧ SqT K H a xs ∧ xs.length = n ∧ t xs σ H Q
theorem pg_tup {es : List Expr} {k : Nat} {t : TGs} {n : Nat} (hc : X.calm = true) (h : PGs X es t)
    (hn : (assignEach es X.env).length = n := by rfl) (hst : (assignEach es X.env).findIdx? (·.1) = none := by rfl) : PG X (.Tuple es k pos) (gTup X.K n t) := by
  intro pins s σ H v u Q I r hw
  obtain ⟨a, xs, e1, hq, hl, hw⟩ := hw
  subst e1
  cases r
  obtain ⟨its, rv, ht, hz⟩ := I.tuple hq
  refine assign_Tuple_tuple (I.ok.hd hc) ht (by simp [hn, ← hl, rv.length]) hst fun h' hx => ?_
  have I1 : Inv X pins σ H { s with heap := h' } := I.kept (t' := s.toks) fun b o e => hx b o (Nat.ne_of_lt (Heap.lt_size e)) e
  exact h pins _ σ H xs _ Q I1 (by simpa using rv) hw
/-- o[i] = .. -/
def gSub (to ti : TE) (t : TSet) : TG := fun v σ H Q => to σ H fun o H1 => ti σ H1 fun i H2 => t o i v H2 fun H3 => Q σ H3
theorem pg_sub {o i : Expr} {to ti : TE} {t : TSet} (ho : PE X o to) (hi : PE X i ti) (hs : PSet X t)
    (ha : ∀ v, assign (.Subscript o i pos) X.env v = (do
      let ov ← holding [v] (eval o X.env)
      let iv ← holding [v, ov] (eval i X.env)
      standAt pos
      holding [v, ov, iv] (setItem ov iv v)
      release [v, ov, iv] []) := by intro _; rfl) : PG X (.Subscript o i pos) (gSub to ti t) := by
  intro pins s σ H v u Q I r h
  rw [ha]
  refine wpAny_bind (wpAny_holding (thn (ho pins s σ H _ I h) fun ov s1 ⟨x, H1, I1, r1, q1⟩ => ?_))
  refine wpAny_bind (wpAny_holding (thn (hi pins s1 σ H1 _ I1 q1) fun iv s2 ⟨y, H2, I2, r2, q2⟩ => ?_))
  refine wpAny_bind (wpAny_standAt (wpAny_bind (wpAny_holding (thn (hs pins s2 σ H2 x y v ov iv u _ I2 r1 r2 r q2) fun _ s3 ⟨H3, I3, q3⟩ => ?_))))
  exact wpAny_release ⟨σ, H3, I3, q3⟩
/-- target = value -/
def tAsg (te : TE) (g : TG) : TS := fun D σ H => te σ H fun x H1 => g x σ H1 D.nx
theorem ps_asg {tg e : Expr} {te : TE} {g : TG} (he : PE X e te) (hg : PG X tg g) (hs : swapsWithSole [tg] e pos.line X.env = pure false := by rfl) (hw : swappedStores [tg] e X.env = pure none := by rfl)
    (h1 : (assignEach [tg] X.env).map (·.2) = [assign tg X.env] := by rfl) : PS X (.Assign [tg] e pos) (tAsg te g) := by
  intro pins s σ H D I h
  refine wpAny_Assign_stores (thn (he pins s σ H _ I h) fun v s1 ⟨x, H1, I1, r1, q1⟩ => ?_) hs hw
  rw [h1]
  exact thn (hg pins s1 σ H1 x v _ I1 r1 q1) fun _ s2 q => q
/-- name = value -/
theorem ps_set {i : Nat} {x : Str} {e : Expr} {te : TE} {pos' : Pos} (hN : X.N.Nodup) (hi : X.N[i]? = some x) (hx : Loc X.env.scope x) (he : PE X e te) (hs : swapsWith e (some (.Name x pos')) pos.line X.env = pure false := by rfl) (hf : X.fn x = true ∨ X.env.scope.names.lookup x = some .local := by first | exact .inl rfl | exact .inr rfl | assumption) :
    PS X (.Assign [.Name x pos'] e pos) (tAsg te (gName i)) := by
  intro pins s σ H D I h
  refine wpAny_Assign_Name (thn (he pins s σ H _ I h) fun v s1 ⟨y, H1, I1, r1, q1⟩ => ?_) hs
  exact store_ok I1 hN hi hx r1 (fun s2 I2 => ⟨_, H1, I2, q1⟩) hf
/-- a, b = x, y with plain local names: stored from the right; the pair itself is not tracked (the opening rows as in PyProof/Rows/TupAssign.lean:23) -/
def tPar (i j : Nat) (ta : TA) : TS := fun D σ H => ta σ H fun vs H1 => ∃ v w, vs = [v, w] ∧ D.nx ((σ.set i (some v)).set j (some w)) H1
/-- name op= e -/
def tAug (i : Nat) (te : TE) (ti : TIp) : TS := fun D σ H => ∃ x, σ[i]? = some (some x) ∧ te σ H fun y H1 => ti x y H1 fun z H2 => D.nx (σ.set i (some z)) H2
/-- o[i] op= e -/
def tAugS (to ti te : TE) (tget : V → V → Hp → VK → Prop) (tip : TIp) (tset : TSet) : TS := fun D σ H => to σ H fun o H1 => ti σ H1 fun i H2 => tget o i H2 fun x H3 => te σ H3 fun y H4 => tip x y H4 fun z H5 => tset o i z H5 fun H6 => D.nx σ H6
/-- o[i], by values -/
def PGet (X : Cx) (t : V → V → Hp → VK → Prop) : Prop :=
  ∀ (pins : List (Addr × Obj)) (s : Shared) (σ : St) (H : Hp) (o i : V) (ov iv : Value) (Q : VK), Inv X pins σ H s → RelV o ov → RelV i iv → t o i H Q →
    wpAny (model X.prog X.w) X.A (getItem ov iv) (EP X pins σ Q) X.xe s
/-- ints -/
def ipI (f : Int → Int → Int) : TIp := fun x y H Q => ∃ i j, x = .int i ∧ y = .int j ∧ Q (.int (f i j)) H
end

/-! ### while -/
section
variable {X : Cx} {pos : Pos}
/-- the invariant W with its measure -/
def tWhile (c : TT) (tb : TS) : TS := fun D σ H => ∃ W : Nat → St → Hp → Prop, (∃ m, W m σ H) ∧ ∀ m σ H, W m σ H →
  c σ H fun b H1 => if b = true then ∃ N : St → Hp → Prop, (∀ σ' H', N σ' H' → ∃ m', m' < m ∧ W m' σ' H') ∧ tb { D with nx := N, ct := N, bk := D.nx } σ H1 else D.nx σ H1
end

/-! ### what a loop or a comprehension walks -/
/-- at turn i: it yields x (the heap may grow), or it stops -/
structure It where
  go : Nat → Hp → Prop
  yld : Nat → Hp → V → Hp → Prop
  stop : Nat → Hp → Prop
/-- the iterator's own objects may turn: they are not the frame's, not pinned, younger than the entry (or a comprehension's own) -/
def FpOk (X : Cx) (pins : List (Addr × Obj)) (H : Hp) (b : Addr) : Prop :=
  H b = none ∧ b ≠ X.env.locals ∧ b ∉ X.fs ∧ (b ∈ X.ex ∨ X.s₀.heap.objs.size ≤ b) ∧ (∀ x c, X.env.cells.lookup x = some c → c ≠ b) ∧ ∀ p ∈ X.pn ++ pins, p.1 ≠ b
theorem Inv.fpOk {X : Cx} {pins : List (Addr × Obj)} {σ : St} {H H' : Hp} {s : Shared} {b : Addr} (I : Inv X pins σ H s) (hb : s.heap.objs.size ≤ b) (hn : H' b = none) : FpOk X pins H' b := by
  refine ⟨hn, Nat.ne_of_gt (Nat.lt_of_lt_of_le I.lt hb), I.nofs hb, .inr (Nat.le_trans I.sz hb), fun x c e z => ?_, fun p hp z => ?_⟩
  · obtain ⟨v, q⟩ := I.cell x c e
    exact absurd (Nat.lt_of_lt_of_le q.lt (by rw [z]; exact hb)) (Nat.lt_irrefl _)
  · exact absurd (Nat.lt_of_lt_of_le (Heap.lt_size (I.pin p hp).1) (by rw [z]; exact hb)) (Nat.lt_irrefl _)
structure Turn (P : Program) (w : World) (K : PySem.W.Frag) (tg : Expr) (J : It) (fp : List Addr) (it : Addr) (tn : Nat → Heap → Prop) : Prop where
  mem : it ∈ fp
  obj : ∀ i h, tn i h → ∀ b ∈ fp, ∃ o, h.get? b = some o ∧ ∀ v, o.data ≠ .cell v
  keep : ∀ i h h', tn i h → (∀ b ∈ fp, ∀ o, h.get? b = some o → h'.get? b = some o) → tn i h'
  item : ∀ (X : Cx), X.prog = P → X.w = w → X.K = K → X.calm = true → ∀ (i : Nat) (pins : List (Addr × Obj)) (s : Shared) (σ : St) (H : Hp) (E : Value → Shared → Prop), Inv X pins σ H s → (∀ b ∈ fp, FpOk X pins H b) → tn i s.heap → J.go i H →
    wpAny (model P w) X.A (pyNext (.ref it)) (fun r s1 => ∃ u, r = some u ∧
      wpAny (model P w) X.A (letOwnedTupleGo tg (.ref it) u) (fun _ s2 => ∃ x H', Inv X pins σ H' s2 ∧ RelV x u ∧ J.yld i H x H' ∧ tn (i + 1) s2.heap ∧ ∀ b ∈ fp, H' b = none) E s1) E s
  done : ∀ (X : Cx), X.prog = P → X.w = w → X.K = K → X.calm = true → ∀ (i : Nat) (pins : List (Addr × Obj)) (s : Shared) (σ : St) (H : Hp) (E : Value → Shared → Prop), Inv X pins σ H s → (∀ b ∈ fp, FpOk X pins H b) → tn i s.heap → J.stop i H →
    wpAny (model P w) X.A (pyNext (.ref it)) (fun r s1 => r = none ∧ Inv X pins σ H s1) E s
  self : ∀ (A : Around) (i : Nat) (s : Shared) (Q : Value → Shared → Prop) (E : Value → Shared → Prop), tn i s.heap → Q (.ref it) s → wpAny (model P w) A (pyIter (.ref it)) Q E s
abbrev TI := St → Hp → (It → Hp → Prop) → Prop
/-- an iterator has come -/
def PIE (X : Cx) (pins : List (Addr × Obj)) (σ : St) (tg : Expr) (R : It → Hp → Prop) (itv : Value) (s2 : Shared) : Prop :=
  ∃ (it : Addr) (fp : List Addr) (tn : Nat → Heap → Prop) (J : It) (H' : Hp), itv = .ref it ∧ Inv X pins σ H' s2 ∧ Turn X.prog X.w X.K tg J fp it tn ∧ tn 0 s2.heap ∧ (∀ b ∈ fp, FpOk X pins H' b) ∧ R J H'
def PI (X : Cx) (tg iter : Expr) (wi : TI) : Prop :=
  ∀ (pins : List (Addr × Obj)) (s : Shared) (σ : St) (H : Hp) (R : It → Hp → Prop), Inv X pins σ H s → wi σ H R →
    wpAny (model X.prog X.w) X.A (eval iter X.env) (fun v s1 => wpAny (model X.prog X.w) X.A (pyIter v) (PIE X pins σ tg R) X.xe s1) X.xe s

/-- the step ahead of the store is nothing for an iterator that keeps no tuple -/
theorem go_of {M : Model} {A : Around} {E : Value → Shared → Prop} {s : Shared} {tg : Expr} {it : Addr} {u : Value} {o : Obj} {n : String} {vs : Array Value} {Q : Unit → Shared → Prop} (ho : s.heap.get? it = some o) (hc : o.cls = .type n) (hd : o.data = .fields vs)
    (hn : ["enumerate", "zip", "dict_itemiterator", "dict_reverseitemiterator", "odict_iterator", "itertools.zip_longest", "itertools.pairwise"].contains n = false) (hQ : Q () s) : wpAny M A (letOwnedTupleGo tg (.ref it) u) Q E s := by
  unfold letOwnedTupleGo
  cases tg <;> first
    | exact wpAny_pure hQ
    | (cases u <;> first
        | exact wpAny_pure hQ
        | (refine wpAny_bind (wpAny_load ho ?_)
           rw [hc, hd]
           show wpAny M A (if (["enumerate", "zip", "dict_itemiterator", "dict_reverseitemiterator", "odict_iterator", "itertools.zip_longest", "itertools.pairwise"].contains n && vs[0]? == some (rawInt _)) = true then _ else _) Q E s
           rw [if_neg (by intro h; rw [hn, Bool.false_and] at h; cases h)]
           exact wpAny_pure hQ))

/-- the list at a, as it stands at each turn (a loop may append to it) -/
def Itl (K : PySem.W.Frag) (a : Addr) : It :=
  ⟨fun i H => ∃ xs x, SqL K H a xs ∧ xs[i]? = some x, fun i H x H' => H' = H ∧ ∀ xs, SqL K H a xs → xs[i]? = some x, fun i H => ∃ xs, SqL K H a xs ∧ xs.length ≤ i⟩
def Itt (K : PySem.W.Frag) (a : Addr) : It :=
  ⟨fun i H => ∃ xs x, SqT K H a xs ∧ xs[i]? = some x, fun i H x H' => H' = H ∧ ∀ xs, SqT K H a xs → xs[i]? = some x, fun i H => ∃ xs, SqT K H a xs ∧ xs.length ≤ i⟩
/-- lo, lo + 1, .. (n of them) -/
def Itr (lo : Int) (n : Nat) : It := ⟨fun i _ => i < n, fun i H x H' => H' = H ∧ x = .int (lo + i), fun i _ => n ≤ i⟩
theorem turn_list {P : Program} {w : World} {K : PySem.W.Frag} {tg : Expr} (a it : Addr) : Turn P w K tg (Itl K a) [it] it (fun i h => h.IsListIter it a i) where
  mem := by simp
  obj := fun i h st b hb => by
    have e : b = it := by simpa using hb
    subst e
    obtain ⟨o, e, c, d⟩ := st
    exact ⟨o, e, fun v z => by rw [d] at z; cases z⟩
  keep := fun i h h' st k => st.at fun o e => k it (by simp) o e
  item := by
    intro X hP hw hK hc i pins s σ H E I hf st hg
    subst hP hw hK
    obtain ⟨xs, x, hq, hx⟩ := hg
    obtain ⟨its, rv, p, hz⟩ := I.list hq
    obtain ⟨u, hu, ru⟩ := rv.get hx
    obtain ⟨f0, f1, f2, f3, f4, f5⟩ := hf it (by simp)
    refine wpAny_pyNext_list_item st p.isList (x := u) (by simpa using hu) fun h' st' sb => ?_
    have I1 : Inv X pins σ H { s with heap := h' } := I.turned (t' := s.toks) (fun b o hb e => (sb.2 b hb).trans e) f0 f1 f3 f4 f5
    obtain ⟨o, e, c, d⟩ := id st'
    exact ⟨u, rfl, go_of (s := { s with heap := h' }) e c d (by decide) ⟨x, H, I1, ru, ⟨rfl, fun ys hy => by rw [I.list_inj hy hq]; exact hx⟩, st', fun b hb => (hf b hb).1⟩⟩
  done := by
    intro X hP hw hK hc i pins s σ H E I hf st hg
    subst hP hw hK
    obtain ⟨xs, hq, hx⟩ := hg
    obtain ⟨its, rv, p, hz⟩ := I.list hq
    obtain ⟨f0, f1, f2, f3, f4, f5⟩ := hf it (by simp)
    have hl := rv.length
    exact wpAny_pyNext_list_end (I.ok.hd hc) st p.isList (by simp; omega) fun h' eb => ⟨rfl, I.turned (t' := s.toks) (fun b o hb e => eb b o hb e) f0 f1 f3 f4 f5⟩
  self := fun _ _ _ _ _ st h => wpAny_pyIter_listiter st h
theorem turn_tuple {P : Program} {w : World} {K : PySem.W.Frag} {tg : Expr} (a it : Addr) : Turn P w K tg (Itt K a) [it] it (fun i h => h.IsTupleIter it a i) where
  mem := by simp
  obj := fun i h st b hb => by
    have e : b = it := by simpa using hb
    subst e
    obtain ⟨o, e, c, d⟩ := st
    exact ⟨o, e, fun v z => by rw [d] at z; cases z⟩
  keep := fun i h h' st k => st.at fun o e => k it (by simp) o e
  item := by
    intro X hP hw hK hc i pins s σ H E I hf st hg
    subst hP hw hK
    obtain ⟨xs, x, hq, hx⟩ := hg
    obtain ⟨its, rv, p, hz⟩ := I.tuple hq
    obtain ⟨u, hu, ru⟩ := rv.get hx
    obtain ⟨f0, f1, f2, f3, f4, f5⟩ := hf it (by simp)
    refine wpAny_pyNext_tuple_item st (show s.heap.IsTuple a its.toArray from p) (x := u) (by simpa using hu) fun h' st' sb => ?_
    have I1 : Inv X pins σ H { s with heap := h' } := I.turned (t' := s.toks) (fun b o hb e => (sb.2 b hb).trans e) f0 f1 f3 f4 f5
    obtain ⟨o, e, c, d⟩ := id st'
    exact ⟨u, rfl, go_of (s := { s with heap := h' }) e c d (by decide) ⟨x, H, I1, ru, ⟨rfl, fun ys hy => by rw [I.tuple_inj hy hq]; exact hx⟩, st', fun b hb => (hf b hb).1⟩⟩
  done := by
    intro X hP hw hK hc i pins s σ H E I hf st hg
    subst hP hw hK
    obtain ⟨xs, hq, hx⟩ := hg
    obtain ⟨its, rv, p, hz⟩ := I.tuple hq
    obtain ⟨f0, f1, f2, f3, f4, f5⟩ := hf it (by simp)
    have hl := rv.length
    exact wpAny_pyNext_tuple_end (I.ok.hd hc) st (show s.heap.IsTuple a its.toArray from p) (by simp; omega) fun h' eb => ⟨rfl, I.turned (t' := s.toks) (fun b o hb e => eb b o hb e) f0 f1 f3 f4 f5⟩
  self := fun _ _ _ _ _ st h => wpAny_pyIter_tupleiter st h
theorem turn_range {P : Program} {w : World} {K : PySem.W.Frag} {tg : Expr} (it : Addr) (lo : Int) (n : Nat) : Turn P w K tg (Itr lo n) [it] it (fun i h => IsRangeIter h it (lo + (i : Nat) * 1) ((n : Int) - (i : Nat)) 1) where
  mem := by simp
  obj := fun i h st b hb => by
    have e : b = it := by simpa using hb
    subst e
    exact ⟨_, st, fun v z => by
      have z' : Data.fields _ = Data.cell v := z
      cases z'⟩
  keep := fun i h h' st k => k it (by simp) _ st
  item := by
    intro X hP hw hK hc i pins s σ H E I hf st hg
    subst hP hw hK
    obtain ⟨f0, f1, f2, f3, f4, f5⟩ := hf it (by simp)
    have W := Walks.range (prog := X.prog) (w := X.w) (I.ok.hd hc) it lo 1 n
    refine W.item i s _ _ hg st fun v h' tk hv st' kk => ?_
    obtain ⟨t, rfl⟩ := hv
    have I1 : Inv X pins σ H { s with heap := h', toks := tk } := I.turned (fun b o hb e => kk b o (by simpa using hb) e) f0 f1 f3 f4 f5
    refine ⟨_, rfl, go_of (s := { s with heap := h', toks := tk }) (n := "range_iterator") st' rfl rfl (by decide) ⟨.int (lo + i), H, I1, ⟨t, ?_⟩, ⟨rfl, rfl⟩, st', fun b hb => (hf b hb).1⟩⟩
    rw [Int.mul_one]
  done := by
    intro X hP hw hK hc i pins s σ H E I hf st hg
    subst hP hw hK
    obtain ⟨f0, f1, f2, f3, f4, f5⟩ := hf it (by simp)
    exact wpAny_pyNext_range_end (I.ok.hd hc) st (by have : n ≤ i := hg; omega) fun h' eb => ⟨rfl, I.turned (t' := s.toks) (fun b o hb e => eb b o hb e) f0 f1 f3 f4 f5⟩
  self := fun _ _ _ _ _ st h => wpAny_pyIter_rangeiter st h
end L2

namespace L2
open PySem PySem.Spec PyProof.Rows
section
variable {X : Cx} {tg : Expr}
def iList (K : PySem.W.Frag) (tl : TE) : TI := fun σ H R => tl σ H fun x H1 => ∃ a, x = .ref a ∧ (∃ xs, SqL K H1 a xs) ∧ R (Itl K a) H1
def iTup (K : PySem.W.Frag) (tl : TE) : TI := fun σ H R => tl σ H fun x H1 => ∃ a, x = .ref a ∧ (∃ xs, SqT K H1 a xs) ∧ R (Itt K a) H1
theorem pi_list {l : Expr} {tl : TE} (hl : PE X l tl) : PI X tg l (iList X.K tl) := by
  intro pins s σ H R I h
  refine thn (hl pins s σ H _ I h) fun v s1 ⟨x, H1, I1, r1, q1⟩ => ?_
  obtain ⟨a, e, ⟨xs, hq⟩, q⟩ := q1
  subst e
  cases r1
  obtain ⟨its, rv, p, hz⟩ := I1.list hq
  refine wpAny_pyIter_list p.isList ?_
  refine ⟨s1.heap.objs.size, [s1.heap.objs.size], _, _, H1, rfl, I1.kept (t' := s1.toks) fun b o e => Heap.get?_push_of_some _ e, turn_list a _, ⟨_, Heap.get?_push_size _ rfl, rfl, rfl⟩, fun b hb => ?_, q⟩
  have e : b = s1.heap.objs.size := by simpa using hb
  subst e
  exact I1.fpOk (Nat.le_refl _) (I1.hok.fresh (Nat.le_refl _))
theorem pi_tup {l : Expr} {tl : TE} (hl : PE X l tl) : PI X tg l (iTup X.K tl) := by
  intro pins s σ H R I h
  refine thn (hl pins s σ H _ I h) fun v s1 ⟨x, H1, I1, r1, q1⟩ => ?_
  obtain ⟨a, e, ⟨xs, hq⟩, q⟩ := q1
  subst e
  cases r1
  obtain ⟨its, rv, p, hz⟩ := I1.tuple hq
  refine wpAny_pyIter_tuple (show s1.heap.IsTuple a its.toArray from p) ?_
  refine ⟨s1.heap.objs.size, [s1.heap.objs.size], _, _, H1, rfl, I1.kept (t' := s1.toks) fun b o e => Heap.get?_push_of_some _ e, turn_tuple a _, ⟨_, Heap.get?_push_size _ rfl, rfl, rfl⟩, fun b hb => ?_, q⟩
  have e : b = s1.heap.objs.size := by simpa using hb
  subst e
  exact I1.fpOk (Nat.le_refl _) (I1.hok.fresh (Nat.le_refl _))
/-- a range object just made, walked -/
theorem range_it {pins : List (Addr × Obj)} {σ : St} {H : Hp} {s : Shared} {R : It → Hp → Prop} {E : Value → Shared → Prop} {lo hi : Int} {t u v : Tok} {tk : Nat} (I : Inv X pins σ H s) (h1 : -(2 ^ 62) ≤ lo) (h2 : lo < 2 ^ 62) (h3 : -(2 ^ 62) ≤ hi) (h4 : hi < 2 ^ 62)
    (q : R (Itr lo (hi - lo).toNat) H) : wpAny (model X.prog X.w) X.A (pyIter (.ref s.heap.objs.size)) (PIE X pins σ tg R) E { s with heap := s.heap.push { cls := .type "range", data := .fields #[.int lo t, .int hi u, .int 1 v] }, toks := tk } := by
  refine wpAny_pyIter_range (IsRange.new ..) (small_one h1 h2 h3 h4) ?_
  have I1 : Inv X pins σ H { s with heap := s.heap.push { cls := .type "range", data := .fields #[.int lo t, .int hi u, .int 1 v] }, toks := tk } := I.kept fun b o e => Heap.get?_push_of_some _ e
  refine ⟨(s.heap.push { cls := .type "range", data := .fields #[.int lo t, .int hi u, .int 1 v] }).objs.size, [(s.heap.push { cls := .type "range", data := .fields #[.int lo t, .int hi u, .int 1 v] }).objs.size], _, _, H, rfl,
    I1.kept (t' := tk) fun b o e => Heap.get?_push_of_some _ e, turn_range _ lo (hi - lo).toNat, ?_, fun b hb => ?_, q⟩
  · have e1 : lo + ((0 : Nat) : Int) * 1 = lo := by simp
    have e2 : (((hi - lo).toNat : Nat) : Int) - ((0 : Nat) : Int) = Builtin.Range.rangeSize lo hi 1 := by rw [rangeSize_one]; split <;> omega
    show IsRangeIter _ _ (lo + ((0 : Nat) : Int) * 1) ((((hi - lo).toNat : Nat) : Int) - ((0 : Nat) : Int)) 1
    rw [e1, e2]
    exact Heap.get?_push_size _ rfl
  · have e : b = (s.heap.push { cls := .type "range", data := .fields #[.int lo t, .int hi u, .int 1 v] }).objs.size := by simpa using hb
    subst e
    exact I1.fpOk (Nat.le_refl _) (I1.hok.fresh (Nat.le_refl _))
def iRng1 (ta : TA) : TI := fun σ H R => ta σ H fun vs H1 => ∃ j : Int, vs = [.int j] ∧ -(2 ^ 62) ≤ j ∧ j < 2 ^ 62 ∧ R (Itr 0 j.toNat) H1
def iRng2 (ta : TA) : TI := fun σ H R => ta σ H fun vs H1 => ∃ i j : Int, vs = [.int i, .int j] ∧ (-(2 ^ 62) ≤ i ∧ i < 2 ^ 62 ∧ -(2 ^ 62) ≤ j ∧ j < 2 ^ 62) ∧ R (Itr i (j - i).toNat) H1
theorem pi_range1 {a : Expr} {ta : TA} {p pos : Pos} (hg : Gl X "range") (hm : X.mg "range" = none) (ha : PA X [a] ta) (hs : starEach [a] X.env = [(false, eval a X.env)] := by rfl) : PI X tg (.Call (.Name "range" p) [a] [] pos) (iRng1 ta) := by
  intro pins s σ H R I h
  refine Call_ (ld_blt I hg hm boot_range (PyProof.Rows.callWith_type1 (thn (ha pos pins s σ H _ I h) fun us s1 ⟨vs, H1, I1, r1, q1⟩ => ?_) hs rfl))
  obtain ⟨j, e, q1, q2, q⟩ := q1
  subst e
  cases r1 with
  | cons r rr =>
    cases rr
    obtain ⟨t, rfl⟩ := r
    exact call_range_1 (range_it I1 (by omega) (by omega) q1 q2 (by simpa using q))

/-! ### for -/
/-- W: the invariant by the turn and a measure; N: what the body is to reach -/
def tFor (wi : TI) (g : TG) (tb : TS) : TS := fun D σ H => wi σ H fun J H1 => ∃ W : Nat → Nat → St → Hp → Prop, (∃ m, W 0 m σ H1) ∧ ∀ i m σ H, W i m σ H →
  (J.stop i H ∧ D.nx σ H) ∨ (J.go i H ∧ ∃ N : St → Hp → Prop, (∀ σ' H', N σ' H' → ∃ m', m' < m ∧ W (i + 1) m' σ' H') ∧ ∀ x H', J.yld i H x H' → g x σ H' fun σ2 H2 => tb { D with nx := N, ct := N, bk := D.nx } σ2 H2)
/-- the records at fp as they stand -/
def pinsAt (fp : List Addr) (h : Heap) : List (Addr × Obj) := fp.filterMap fun b => (h.get? b).map fun o => (b, o)
theorem mem_pinsAt {fp : List Addr} {h : Heap} {b : Addr} {o : Obj} (hb : b ∈ fp) (e : h.get? b = some o) : (b, o) ∈ pinsAt fp h := List.mem_filterMap.mpr ⟨b, hb, by rw [e]; rfl⟩
theorem of_pinsAt {fp : List Addr} {h : Heap} {p : Addr × Obj} (hp : p ∈ pinsAt fp h) : p.1 ∈ fp ∧ h.get? p.1 = some p.2 := by
  obtain ⟨b, hb, e⟩ := List.mem_filterMap.mp hp
  cases q : h.get? b with
  | none => rw [q] at e; cases e
  | some o =>
    rw [q] at e
    have e' : (b, o) = p := Option.some.inj e
    subst e'
    exact ⟨hb, q⟩
theorem Inv.pinned {pins : List (Addr × Obj)} {σ : St} {H : Hp} {s : Shared} {fp : List Addr} (I : Inv X pins σ H s) (hf : ∀ b ∈ fp, FpOk X pins H b) (ho : ∀ b ∈ fp, ∃ o, s.heap.get? b = some o ∧ ∀ v, o.data ≠ .cell v) : Inv X (pins ++ pinsAt fp s.heap) σ H s :=
  I.pins_of fun p hp => (List.mem_append.mp hp).elim (fun z => I.pin p (List.mem_append_right _ z)) fun z => by
    obtain ⟨hb, e⟩ := of_pinsAt z
    obtain ⟨f0, f1, f2, _⟩ := hf p.1 hb
    obtain ⟨o, e', d⟩ := ho p.1 hb
    rw [e] at e'; cases e'
    exact ⟨e, f0, f1, f2, d⟩
theorem Inv.unpinned {pins pl : List (Addr × Obj)} {σ : St} {H : Hp} {s : Shared} (I : Inv X (pins ++ pl) σ H s) : Inv X pins σ H s := I.pins_of fun p hp => I.pin p (List.mem_append_right _ (List.mem_append_left _ hp))
theorem ps_for {iter : Expr} {body : List Stmt} {wi : TI} {g : TG} {tb : TS} {pos : Pos} (hp : PassesOwn (model X.prog X.w) X.A X.env X.xe) (hc : X.calm = true) (hi : PI X tg iter wi) (hg : PG X tg g) (hb : PSs X body tb)
    (hs : ∀ x, foldedSetIterable iter X.env x = pure x := by intro _; rfl) : PS X (.For tg iter body [] pos) (tFor wi g tb) := by
  intro pins s σ H D I h
  refine wpAny_For (thn (hi pins s σ H _ I h) fun v s1 h1 => thn h1 fun itv s2 h2 => ?_) hs
  obtain ⟨it, fp, tn, J, H2, e, I2, T, st2, f2, W, ⟨m0, w0⟩, turn⟩ := h2
  subst e
  -- what stays true of the iterator's objects through the loop
  have stat : ∀ {H' : Hp}, (∀ b ∈ fp, H' b = none) → ∀ b ∈ fp, FpOk X pins H' b := fun hn b hb => ⟨hn b hb, (f2 b hb).2⟩
  refine codeAny_forLoop_any (fun n s' => ∃ i σ' H', Inv X pins σ' H' s' ∧ tn i s'.heap ∧ (∀ b ∈ fp, H' b = none) ∧ W i n σ' H') ?_ m0 ⟨0, σ, H2, I2, st2, fun b hb => (f2 b hb).1, w0⟩
  rintro n s3 ⟨i, σ3, H3, I3, st3, fr3, w3⟩
  rcases turn i n σ3 H3 w3 with ⟨stop, qn⟩ | ⟨go, N, hN, step⟩
  · refine wpAny_passesOwn hp (thn (T.done X rfl rfl rfl hc i pins s3 σ3 H3 X.xe I3 (stat fr3) st3 stop) fun r s4 ⟨hr, I4⟩ => ?_)
    subst hr
    exact wpAny_execs_nil ⟨σ3, H3, I4, qn⟩
  · refine wpAny_passesOwn hp (thn (T.item X rfl rfl rfl hc i pins s3 σ3 H3 X.xe I3 (stat fr3) st3 go) fun r s4 ⟨u, hr, h4⟩ => ?_)
    subst hr
    refine wpAny_passesOwn hp (thn h4 fun _ s5 ⟨x, H5, I5, r5, y5, st5, fr5⟩ => ?_)
    have I5' := I5.pinned (stat fr5) (T.obj _ _ st5)
    refine wpAny_passesOwn hp (thn (hg _ s5 σ3 H5 x u _ I5' r5 (step x H5 y5)) fun _ s6 ⟨σ6, H6, I6, q6⟩ => ?_)
    refine wpAny_passesOwn hp (thn (hb _ s6 σ6 H6 _ I6 q6) fun f s7 q7 => ?_)
    have again : ∀ {σ7 : St} {H7 : Hp}, Inv X (pins ++ pinsAt fp s5.heap) σ7 H7 s7 → N σ7 H7 → ∃ m, m < n ∧ ∃ i σ' H', Inv X pins σ' H' s7 ∧ tn i s7.heap ∧ (∀ b ∈ fp, H' b = none) ∧ W i m σ' H' := fun {σ7 H7} I7 n7 => by
      obtain ⟨m', hm, w7⟩ := hN σ7 H7 n7
      refine ⟨m', hm, i + 1, σ7, H7, I7.unpinned, T.keep _ _ _ st5 fun b hb o e => (I7.pin (b, o) (List.mem_append_right _ (List.mem_append_right _ (mem_pinsAt hb e)))).1, fun b hb => ?_, w7⟩
      obtain ⟨o, e, d⟩ := T.obj _ _ st5 b hb
      exact (I7.pin (b, o) (List.mem_append_right _ (List.mem_append_right _ (mem_pinsAt hb e)))).2.1
    cases f with
    | next => obtain ⟨σ7, H7, I7, n7⟩ := q7; exact again I7 n7
    | cont => obtain ⟨σ7, H7, I7, n7⟩ := q7; exact again I7 n7
    | brk => obtain ⟨σ7, H7, I7, q7⟩ := q7; exact ⟨σ7, H7, I7.unpinned, q7⟩
    | ret v => obtain ⟨x7, σ7, H7, I7, r7, q7⟩ := q7; exact ⟨x7, σ7, H7, I7.unpinned, r7, q7⟩
end

/-! ### the forms one uses -/
/-- over a list that the body leaves as it is -/
theorem for_list {K : PySem.W.Frag} {a : Addr} {xs : List V} {g : TG} {tb : TS} {D : Ends} {σ : St} {H : Hp} (Pv : Nat → St → Hp → Prop) (h0 : Pv 0 σ H) (hl : ∀ i σ H, i ≤ xs.length → Pv i σ H → SqL K H a xs)
    (hs : ∀ i x σ H, xs[i]? = some x → Pv i σ H → g x σ H fun σ2 H2 => tb { D with nx := Pv (i + 1), ct := Pv (i + 1), bk := D.nx } σ2 H2) (hd : ∀ σ H, Pv xs.length σ H → D.nx σ H) :
    ∃ W : Nat → Nat → St → Hp → Prop, (∃ m, W 0 m σ H) ∧ ∀ i m σ H, W i m σ H →
      ((Itl K a).stop i H ∧ D.nx σ H) ∨ ((Itl K a).go i H ∧ ∃ N : St → Hp → Prop, (∀ σ' H', N σ' H' → ∃ m', m' < m ∧ W (i + 1) m' σ' H') ∧ ∀ x H', (Itl K a).yld i H x H' → g x σ H' fun σ2 H2 => tb { D with nx := N, ct := N, bk := D.nx } σ2 H2) := by
  refine ⟨fun i m σ H => m = xs.length - i ∧ i ≤ xs.length ∧ Pv i σ H, ⟨xs.length, by simp, Nat.zero_le _, h0⟩, ?_⟩
  rintro i m σ H ⟨rfl, hi, p⟩
  have q := hl i σ H hi p
  by_cases hlt : i < xs.length
  · refine .inr ⟨⟨xs, xs[i], q, by simp [hlt]⟩, Pv (i + 1), fun σ' H' p' => ⟨xs.length - (i + 1), by omega, rfl, hlt, p'⟩, fun x H' y => ?_⟩
    obtain ⟨e, y⟩ := y
    subst e
    exact hs i x σ _ (y xs q) p
  · have e : i = xs.length := by omega
    subst e
    exact .inl ⟨⟨xs, q, Nat.le_refl _⟩, hd σ H p⟩
theorem for_tup {K : PySem.W.Frag} {a : Addr} {xs : List V} {g : TG} {tb : TS} {D : Ends} {σ : St} {H : Hp} (Pv : Nat → St → Hp → Prop) (h0 : Pv 0 σ H) (hl : ∀ i σ H, i ≤ xs.length → Pv i σ H → SqT K H a xs)
    (hs : ∀ i x σ H, xs[i]? = some x → Pv i σ H → g x σ H fun σ2 H2 => tb { D with nx := Pv (i + 1), ct := Pv (i + 1), bk := D.nx } σ2 H2) (hd : ∀ σ H, Pv xs.length σ H → D.nx σ H) :
    ∃ W : Nat → Nat → St → Hp → Prop, (∃ m, W 0 m σ H) ∧ ∀ i m σ H, W i m σ H →
      ((Itt K a).stop i H ∧ D.nx σ H) ∨ ((Itt K a).go i H ∧ ∃ N : St → Hp → Prop, (∀ σ' H', N σ' H' → ∃ m', m' < m ∧ W (i + 1) m' σ' H') ∧ ∀ x H', (Itt K a).yld i H x H' → g x σ H' fun σ2 H2 => tb { D with nx := N, ct := N, bk := D.nx } σ2 H2) := by
  refine ⟨fun i m σ H => m = xs.length - i ∧ i ≤ xs.length ∧ Pv i σ H, ⟨xs.length, by simp, Nat.zero_le _, h0⟩, ?_⟩
  rintro i m σ H ⟨rfl, hi, p⟩
  have q := hl i σ H hi p
  by_cases hlt : i < xs.length
  · refine .inr ⟨⟨xs, xs[i], q, by simp [hlt]⟩, Pv (i + 1), fun σ' H' p' => ⟨xs.length - (i + 1), by omega, rfl, hlt, p'⟩, fun x H' y => ?_⟩
    obtain ⟨e, y⟩ := y
    subst e
    exact hs i x σ _ (y xs q) p
  · have e : i = xs.length := by omega
    subst e
    exact .inl ⟨⟨xs, q, Nat.le_refl _⟩, hd σ H p⟩
theorem for_range {lo : Int} {n : Nat} {g : TG} {tb : TS} {D : Ends} {σ : St} {H : Hp} (Pv : Nat → St → Hp → Prop) (h0 : Pv 0 σ H)
    (hs : ∀ i σ H, i < n → Pv i σ H → g (.int (lo + i)) σ H fun σ2 H2 => tb { D with nx := Pv (i + 1), ct := Pv (i + 1), bk := D.nx } σ2 H2) (hd : ∀ σ H, Pv n σ H → D.nx σ H) :
    ∃ W : Nat → Nat → St → Hp → Prop, (∃ m, W 0 m σ H) ∧ ∀ i m σ H, W i m σ H →
      ((Itr lo n).stop i H ∧ D.nx σ H) ∨ ((Itr lo n).go i H ∧ ∃ N : St → Hp → Prop, (∀ σ' H', N σ' H' → ∃ m', m' < m ∧ W (i + 1) m' σ' H') ∧ ∀ x H', (Itr lo n).yld i H x H' → g x σ H' fun σ2 H2 => tb { D with nx := N, ct := N, bk := D.nx } σ2 H2) := by
  refine ⟨fun i m σ H => m = n - i ∧ i ≤ n ∧ Pv i σ H, ⟨n, by simp, Nat.zero_le _, h0⟩, ?_⟩
  rintro i m σ H ⟨rfl, hi, p⟩
  by_cases hlt : i < n
  · refine .inr ⟨hlt, Pv (i + 1), fun σ' H' p' => ⟨n - (i + 1), by omega, rfl, hlt, p'⟩, fun x H' y => ?_⟩
    obtain ⟨e, y⟩ := y
    subst e y
    exact hs i σ _ hlt p
  · have e : i = n := by omega
    subst e
    exact .inl ⟨Nat.le_refl _, hd σ H p⟩
end L2

namespace L2
open PySem PySem.Spec PyProof.Rows

abbrev R2 := V → V → Hp → VK → Prop
/-- a two-place operation on values: f is binaryOp op, inplaceOp op or compareOp op -/
def OpR (X : Cx) (f : Value → Value → Sem Value) (r : R2) : Prop :=
  ∀ (pins : List (Addr × Obj)) (s : Shared) (σ : St) (H : Hp) (x y : V) (v u : Value) (Q : VK), Inv X pins σ H s → RelV x v → RelV y u → r x y H Q →
    wpAny (model X.prog X.w) X.A (f v u) (EP X pins σ Q) X.xe s
/-- a one-place operation -/
def UnR (X : Cx) (f : Value → Sem Value) (r : V → Hp → VK → Prop) : Prop :=
  ∀ (pins : List (Addr × Obj)) (s : Shared) (σ : St) (H : Hp) (x : V) (v : Value) (Q : VK), Inv X pins σ H s → RelV x v → r x H Q →
    wpAny (model X.prog X.w) X.A (f v) (EP X pins σ Q) X.xe s
/-- a call of a value that is known (a builtin, a type) with values -/
def CallR (X : Cx) (f : Value) (r : List V → Hp → VK → Prop) : Prop :=
  ∀ (pins : List (Addr × Obj)) (s : Shared) (σ : St) (H : Hp) (xs : List V) (us : List Value) (Q : VK), Inv X pins σ H s → Vals xs us → r xs H Q →
    wpAny (model X.prog X.w) X.A (call f us) (EP X pins σ Q) X.xe s
/-- a value's truth -/
def TruR (X : Cx) (r : V → Hp → (Bool → Hp → Prop) → Prop) : Prop :=
  ∀ (pins : List (Addr × Obj)) (s : Shared) (σ : St) (H : Hp) (x : V) (v : Value) (Q : Bool → Hp → Prop), Inv X pins σ H s → RelV x v → r x H Q →
    wpAny (model X.prog X.w) X.A (truthy v) (TP X pins σ Q) X.xe s

def tOp (r : R2) (ta tb : TE) : TE := fun σ H Q => ta σ H fun x H1 => tb σ H1 fun y H2 => r x y H2 Q
def tUn (r : V → Hp → VK → Prop) (ta : TE) : TE := fun σ H Q => ta σ H fun x H1 => r x H1 Q
/-- ints in, under C, and a value out -/
def rI (C : Int → Int → Prop) (g : Int → Int → V) : R2 := fun x y H Q => ∃ i j, x = .int i ∧ y = .int j ∧ C i j ∧ Q (g i j) H
def rI0 (g : Int → Int → V) : R2 := fun x y H Q => ∃ i j, x = .int i ∧ y = .int j ∧ Q (g i j) H
def rU (g : Int → V) : V → Hp → VK → Prop := fun x H Q => ∃ i, x = .int i ∧ Q (g i) H

section
variable {X : Cx} {a b c : Expr} {ta tb tc : TE} {pos : Pos}

theorem binT (ha : PE X a ta) (hb : PE X b tb) {pins : List (Addr × Obj)} {s : Shared} {σ : St} {H : Hp} {R : V → V → Hp → Prop} (I : Inv X pins σ H s)
    (h : ta σ H fun x H1 => tb σ H1 fun y H2 => R x y H2) {Q : Value → Shared → Prop} {f : Value → Value → Sem Value}
    (hf : ∀ v u s2 x y H2, Inv X pins σ H2 s2 → RelV x v → RelV y u → R x y H2 → wpAny (model X.prog X.w) X.A (f v u) Q X.xe s2) :
    wpAny (model X.prog X.w) X.A (eval a X.env) (fun v s₁ => wpAny (model X.prog X.w) X.A (eval b X.env) (fun u s₂ => wpAny (model X.prog X.w) X.A (f v u) Q X.xe s₂) X.xe s₁) X.xe s := by
  refine thn (ha pins s σ H _ I h) fun v s1 ⟨x, H1, I1, r1, q1⟩ => ?_
  refine thn (hb pins s1 σ H1 _ I1 q1) fun u s2 ⟨y, H2, I2, r2, q2⟩ => ?_
  exact hf v u s2 x y H2 I2 r1 r2 q2

theorem pe_op {op : Operator} {r : R2} (ho : OpR X (binaryOp op) r) (ha : PE X a ta) (hb : PE X b tb) : PE X (.BinOp a op b pos) (tOp r ta tb) := by
  intro pins s σ H Q I h
  exact wpAny_BinOp (binT ha hb I h fun v u s2 x y H2 I2 rx ry q => ho pins s2 σ H2 x y v u Q I2 rx ry q)
theorem pe_un {op : UnaryOp} {r : V → Hp → VK → Prop} (ho : UnR X (unaryOp op) r) (ha : PE X a ta) : PE X (.UnaryOp op a pos) (tUn r ta) := by
  intro pins s σ H Q I h
  exact UnaryOp_ (thn (ha pins s σ H _ I h) fun v s1 ⟨x, H1, I1, r1, q1⟩ => ho pins s1 σ H1 x v Q I1 r1 q1)

/-! ### ints -/
theorem opI {f : Value → Value → Sem Value} {C : Int → Int → Prop} {g : Int → Int → Int}
    (rule : ∀ (i j : Int) (t u : Tok) (s : Shared) (Q : Value → Shared → Prop) (E : Value → Shared → Prop), C i j → Q (.int (g i j) s.toks) { s with toks := s.toks + 1 } → wpAny (model X.prog X.w) X.A (f (.int i t) (.int j u)) Q E s) :
    OpR X f (rI C fun i j => .int (g i j)) := by
  intro pins s σ H x y v u Q I rx ry h
  obtain ⟨i, j, rfl, rfl, hc, q⟩ := h
  obtain ⟨t, rfl⟩ := rx
  obtain ⟨t', rfl⟩ := ry
  exact rule i j t t' s _ _ hc ⟨.int (g i j), H, I.tok _, ⟨_, rfl⟩, q⟩
theorem opI0 {f : Value → Value → Sem Value} {g : Int → Int → Int}
    (rule : ∀ (i j : Int) (t u : Tok) (s : Shared) (Q : Value → Shared → Prop) (E : Value → Shared → Prop), Q (.int (g i j) s.toks) { s with toks := s.toks + 1 } → wpAny (model X.prog X.w) X.A (f (.int i t) (.int j u)) Q E s) :
    OpR X f (rI0 fun i j => .int (g i j)) := by
  intro pins s σ H x y v u Q I rx ry h
  obtain ⟨i, j, rfl, rfl, q⟩ := h
  obtain ⟨t, rfl⟩ := rx
  obtain ⟨t', rfl⟩ := ry
  exact rule i j t t' s _ _ ⟨.int (g i j), H, I.tok _, ⟨_, rfl⟩, q⟩
theorem opB0 {f : Value → Value → Sem Value} {g : Int → Int → Bool}
    (rule : ∀ (i j : Int) (t u : Tok) (s : Shared) (Q : Value → Shared → Prop) (E : Value → Shared → Prop), Q (.bool (g i j)) s → wpAny (model X.prog X.w) X.A (f (.int i t) (.int j u)) Q E s) :
    OpR X f (rI0 fun i j => .bl (g i j)) := by
  intro pins s σ H x y v u Q I rx ry h
  obtain ⟨i, j, rfl, rfl, q⟩ := h
  obtain ⟨t, rfl⟩ := rx
  obtain ⟨t', rfl⟩ := ry
  exact rule i j t t' s _ _ ⟨.bl (g i j), H, I, rfl, q⟩

def CDiv (i j : Int) : Prop := 0 < j ∧ j < 1073741824
def CDivN (i j : Int) : Prop := j ≠ 0 ∧ j.natAbs < 1073741824
def CPow (i j : Int) : Prop := 0 ≤ j ∧ j ≤ 1000000 ∧ i.natAbs < 2 ^ 64
def CMul (i j : Int) : Prop := (-(2 ^ 64) < i ∧ i < 2 ^ 64) ∨ (-(2 ^ 64) < j ∧ j < 2 ^ 64)
theorem CMul.ok {i j : Int} (h : CMul i j) : IntMulOk i j := by
  rcases h with ⟨h1, h2⟩ | ⟨h1, h2⟩
  · exact .of_left (intBits_le_64 h1 h2)
  · exact .of_right (intBits_le_64 h1 h2)

theorem op_add : OpR X (binaryOp .Add) (rI0 fun i j => .int (i + j)) := opI0 fun _ _ _ _ _ _ _ q => add_int q
theorem op_sub : OpR X (binaryOp .Sub) (rI0 fun i j => .int (i - j)) := opI0 fun _ _ _ _ _ _ _ q => sub_int q
theorem op_mul : OpR X (binaryOp .Mult) (rI CMul fun i j => .int (i * j)) := opI fun _ _ _ _ _ _ _ hc q => mul_int q hc.ok
/-- // by a positive divisor -/
theorem op_fdiv : OpR X (binaryOp .FloorDiv) (rI CDiv fun i j => .int (i / j)) := opI fun i j _ _ _ _ _ hc q => by
  have h1 : (0 : Int) < j := hc.1
  have h2 : j < 1073741824 := hc.2
  exact floordiv_int (by omega) (by rw [Int.fdiv_eq_ediv_of_nonneg i (by omega)]; exact q) (.inl (PyProof.noPylong_small (by omega)))
/-- % by a positive divisor of any size -/
theorem op_mod : OpR X (binaryOp .Mod) (rI (fun _ j => 0 < j) fun i j => .int (i % j)) := opI fun i j _ _ _ _ _ hc q => by
  have h1 : (0 : Int) < j := hc
  exact mod_int' (by omega) (by rw [Int.fmod_eq_emod_of_nonneg i (by omega)]; exact q)
theorem op_pow : OpR X (binaryOp .Pow) (rI CPow fun i j => .int (i ^ j.toNat)) := opI fun _ _ _ _ _ _ _ hc q => pow_int_small hc.1 hc.2.1 hc.2.2 q


theorem unI {f : Value → Sem Value} {g : Int → Int}
    (rule : ∀ (i : Int) (t : Tok) (s : Shared) (Q : Value → Shared → Prop) (E : Value → Shared → Prop), Q (.int (g i) s.toks) { s with toks := s.toks + 1 } → wpAny (model X.prog X.w) X.A (f (.int i t)) Q E s) :
    UnR X f (rU fun i => .int (g i)) := by
  intro pins s σ H x v Q I rx h
  obtain ⟨i, rfl, q⟩ := h
  obtain ⟨t, rfl⟩ := rx
  exact rule i t s _ _ ⟨.int (g i), H, I.tok _, ⟨_, rfl⟩, q⟩
theorem un_neg : UnR X (unaryOp .USub) (rU fun i => .int (-i)) := unI fun _ _ _ _ _ q => neg_int q

/-! ### bools among ints: n += (a < b) -/
end

/-! ### comparisons -/
/-- the scalars that == tells apart as data does -/
def scal : V → V → Bool
  | .non, .non => true | .non, .int _ => true | .int _, .non => true | .non, .bl _ => true | .bl _, .non => true | .non, .str _ => true | .str _, .non => true
  | .int _, .int _ => true | .bl _, .bl _ => true | .str _, .str _ => true | .byt _, .byt _ => true
  | .int _, .str _ => true | .str _, .int _ => true | .bl _, .str _ => true | .str _, .bl _ => true
  | _, _ => false
def rEq : R2 := fun x y H Q => scal x y = true ∧ Q (.bl (decide (x = y))) H
def rNe : R2 := fun x y H Q => scal x y = true ∧ Q (.bl (!decide (x = y))) H

theorem dec_int {i j : Int} : decide (V.int i = V.int j) = (i == j) := by
  rw [Bool.eq_iff_iff]
  simp
theorem dec_bl {i j : Bool} : decide (V.bl i = V.bl j) = (i == j) := by
  rw [Bool.eq_iff_iff]
  simp
theorem dec_str {i j : Str} : decide (V.str i = V.str j) = (i == j) := by
  rw [Bool.eq_iff_iff]
  simp
theorem dec_byt {i j : Array UInt8} : decide (V.byt i = V.byt j) = (i.toList == j.toList) := by
  rw [Bool.eq_iff_iff]
  cases i
  cases j
  simp

section
variable {X : Cx} {a b c : Expr} {ta tb tc : TE} {pos : Pos}
theorem fin_bl {pins : List (Addr × Obj)} {σ : St} {H : Hp} {s : Shared} {Q : VK} {k k' : Bool} (I : Inv X pins σ H s) (q : Q (.bl k) H) (e : k = k') : EP X pins σ Q (.bool k') s := by
  subst e
  exact ⟨.bl k, H, I, rfl, q⟩
theorem op_eq : OpR X (compareOp .Eq) rEq := by
  intro pins s σ H x y v u Q I rx ry h
  obtain ⟨hs, q⟩ := h
  cases x with
  | non =>
    cases rx
    cases y with
    | non => cases ry; exact PySem.EqNone.eq_none_none (fin_bl I q (by simp))
    | bl j => cases ry; exact PySem.EqNone.eq_none_bool (fin_bl I q (by simp))
    | int j => obtain ⟨t', rfl⟩ := ry; exact PySem.EqNone.eq_none_int (fin_bl I q (by simp))
    | str j => obtain ⟨t', rfl⟩ := ry; exact PySem.EqNone.eq_none_str (fin_bl I q (by simp))
    | _ => exact absurd (show false = true from hs) Bool.false_ne_true
  | bl i =>
    cases rx
    cases y with
    | non => cases ry; exact PySem.EqNone.eq_bool_none (fin_bl I q (by simp))
    | bl j => cases ry; exact eq_bool (fin_bl I q dec_bl)
    | str j => obtain ⟨t', rfl⟩ := ry; exact PySem.EqMixed.eq_bool_str (fin_bl I q (by simp))
    | _ => exact absurd (show false = true from hs) Bool.false_ne_true
  | int i =>
    obtain ⟨t, rfl⟩ := rx
    cases y with
    | non => cases ry; exact PySem.EqNone.eq_int_none (fin_bl I q (by simp))
    | int j => obtain ⟨t', rfl⟩ := ry; exact eq_int (fin_bl I q dec_int)
    | str j => obtain ⟨t', rfl⟩ := ry; exact PySem.EqMixed.eq_int_str (fin_bl I q (by simp))
    | _ => exact absurd (show false = true from hs) Bool.false_ne_true
  | str i =>
    obtain ⟨t, rfl⟩ := rx
    cases y with
    | non => cases ry; exact PySem.EqNone.eq_str_none (fin_bl I q (by simp))
    | bl j => cases ry; exact PySem.EqMixed.eq_str_bool (fin_bl I q (by simp))
    | int j => obtain ⟨t', rfl⟩ := ry; exact PySem.EqMixed.eq_str_int (fin_bl I q (by simp))
    | str j => obtain ⟨t', rfl⟩ := ry; exact eq_str (fin_bl I q dec_str)
    | _ => exact absurd (show false = true from hs) Bool.false_ne_true
  | byt i =>
    obtain ⟨t, rfl⟩ := rx
    cases y with
    | byt j => obtain ⟨t', rfl⟩ := ry; exact PySem.W.eq_bytes (fin_bl I q dec_byt)
    | _ => exact absurd (show false = true from hs) Bool.false_ne_true
  | _ => cases y <;> exact absurd (show false = true from hs) Bool.false_ne_true
theorem op_ne : OpR X (compareOp .NotEq) rNe := by
  intro pins s σ H x y v u Q I rx ry h
  obtain ⟨hs, q⟩ := h
  cases x with
  | non =>
    cases rx
    cases y with
    | non => cases ry; exact PySem.EqNone.ne_none_none (fin_bl I q (by simp))
    | bl j => cases ry; exact PySem.EqNone.ne_none_bool (fin_bl I q (by simp))
    | int j => obtain ⟨t', rfl⟩ := ry; exact PySem.EqNone.ne_none_int (fin_bl I q (by simp))
    | str j => obtain ⟨t', rfl⟩ := ry; exact PySem.EqNone.ne_none_str (fin_bl I q (by simp))
    | _ => exact absurd (show false = true from hs) Bool.false_ne_true
  | bl i =>
    cases rx
    cases y with
    | non => cases ry; exact PySem.EqNone.ne_bool_none (fin_bl I q (by simp))
    | bl j => cases ry; exact ne_bool (fin_bl I q (congrArg not dec_bl))
    | str j => obtain ⟨t', rfl⟩ := ry; exact PySem.EqMixed.ne_bool_str (fin_bl I q (by simp))
    | _ => exact absurd (show false = true from hs) Bool.false_ne_true
  | int i =>
    obtain ⟨t, rfl⟩ := rx
    cases y with
    | non => cases ry; exact PySem.EqNone.ne_int_none (fin_bl I q (by simp))
    | int j => obtain ⟨t', rfl⟩ := ry; exact ne_int (fin_bl I q (congrArg not dec_int))
    | str j => obtain ⟨t', rfl⟩ := ry; exact PySem.EqMixed.ne_int_str (fin_bl I q (by simp))
    | _ => exact absurd (show false = true from hs) Bool.false_ne_true
  | str i =>
    obtain ⟨t, rfl⟩ := rx
    cases y with
    | non => cases ry; exact PySem.EqNone.ne_str_none (fin_bl I q (by simp))
    | bl j => cases ry; exact PySem.EqMixed.ne_str_bool (fin_bl I q (by simp))
    | int j => obtain ⟨t', rfl⟩ := ry; exact PySem.EqMixed.ne_str_int (fin_bl I q (by simp))
    | str j => obtain ⟨t', rfl⟩ := ry; exact ne_str (fin_bl I q (congrArg not dec_str))
    | _ => exact absurd (show false = true from hs) Bool.false_ne_true
  | byt i =>
    obtain ⟨t, rfl⟩ := rx
    cases y with
    | byt j => obtain ⟨t', rfl⟩ := ry; exact PySem.W.ne_bytes (fin_bl I q (congrArg not dec_byt))
    | _ => exact absurd (show false = true from hs) Bool.false_ne_true
  | _ => cases y <;> exact absurd (show false = true from hs) Bool.false_ne_true

theorem op_lt : OpR X (compareOp .Lt) (rI0 fun i j => .bl (decide (i < j))) := opB0 fun _ _ _ _ _ _ _ q => lt_int q
theorem op_le : OpR X (compareOp .LtE) (rI0 fun i j => .bl (decide (i ≤ j))) := opB0 fun _ _ _ _ _ _ _ q => le_int q
theorem op_gt : OpR X (compareOp .Gt) (rI0 fun i j => .bl (decide (j < i))) := opB0 fun _ _ _ _ _ _ _ q => gt_int q
theorem op_ge : OpR X (compareOp .GtE) (rI0 fun i j => .bl (decide (j ≤ i))) := opB0 fun _ _ _ _ _ _ _ q => ge_int q


/-- is, is not of two objects that are tracked lists or instances -/
def isObj : HO → Bool
  | .lst _ => true
  | .ins _ _ _ => true
  | _ => false

/-- two rules for one operation: by cases -/
theorem OpR.or {f : Value → Value → Sem Value} {r r' : R2} (h : OpR X f r) (h' : OpR X f r') : OpR X f (fun x y H Q => r x y H Q ∨ r' x y H Q) := by
  intro pins s σ H x y v u Q I rx ry q
  rcases q with q | q
  · exact h pins s σ H x y v u Q I rx ry q
  · exact h' pins s σ H x y v u Q I rx ry q

theorem nomark (b : Expr) {op : CmpOp} (h : op ≠ .In := by decide) (h2 : op ≠ .NotIn := by decide) : behindInMarks op b = false := by
  have e1 : (op == CmpOp.In) = false := by cases op <;> first | rfl | exact absurd rfl h
  have e2 : (op == CmpOp.NotIn) = false := by cases op <;> first | rfl | exact absurd rfl h2
  cases b <;> simp [behindInMarks, e1, e2]
/-- a comparison as a value; hm: nomark b, or (for in, not in) by with_unfolding_all rfl -/
theorem pe_cmpR {op : CmpOp} {r : R2} (ho : OpR X (compareOp op) r) (ha : PE X a ta) (hb : PE X b tb) (hm : behindInMarks op b = false) : PE X (.Compare a [op] [b] pos) (tOp r ta tb) := by
  intro pins s σ H Q I h
  exact wpAny_Compare1 (binT ha hb I h fun v u s2 x y H2 I2 rx ry q => ho pins s2 σ H2 x y v u Q I2 rx ry q) hm
/-- a reading of a value as a test -/
def tTest (t : TE) : TT := fun σ H Q => t σ H fun x H' => ∃ k, x = .bl k ∧ Q k H'
theorem pt_cmpR {op : CmpOp} {r : R2} (ho : OpR X (compareOp op) r) (ha : PE X a ta) (hb : PE X b tb) (hm : behindInMarks op b = false) : PT X (.Compare a [op] [b] pos) (tTest (tOp r ta tb)) := by
  intro pins s σ H Q I h
  refine wpAny_isTrue_Compare1 (thn (ha pins s σ H _ I h) fun v s1 ⟨x, H1, I1, r1, q1⟩ => thn (hb pins s1 σ H1 _ I1 q1) fun u s2 ⟨y, H2, I2, r2, q2⟩ =>
    thn (ho pins s2 σ H2 x y v u _ I2 r1 r2 q2) fun c s3 ⟨z, H3, I3, r3, k, e, q3⟩ => ?_) hm
  subst e
  cases r3
  exact wpAny_truthy_bool ⟨H3, I3, q3⟩
/-- a op1 b op2 c -/
def tChain (r r' : R2) (ta tb tc : TE) : TE := fun σ H Q => ta σ H fun x H1 => tb σ H1 fun y H2 => r x y H2 fun z H3 => ∃ k, z = .bl k ∧
  (if k = true then tc σ H3 fun w' H4 => r' y w' H4 Q else Q (.bl false) H3)

/-! ### truth -/
/-- a value's truth by the abstract heap -/
def TruV (K : PySem.W.Frag) (x : V) (H : Hp) (k : Bool) : Prop :=
  match x with
  | .non => k = false
  | .bl b => k = b
  | .int i => k = (i != 0)
  | .str y => y.length ≤ sizeLine ∧ k = ((y.length : Int) != 0)
  | .byt y => y.size ≤ sizeLine ∧ k = ((y.size : Int) != 0)
  | .ref p => (∃ xs, SqL K H p xs ∧ k = !xs.isEmpty) ∨ (∃ xs, SqT K H p xs ∧ k = !xs.isEmpty) ∨ ∃ kvs, H p = some (.dK kvs) ∧ k = !kvs.isEmpty
  | _ => False
theorem line63 : (sizeLine : Nat) < 2 ^ 63 := by rw [sizeLine_eq]; decide

/-! ### strs and bytes -/

def PlainIxT (b : Expr) : Prop := ∀ o i, subscripted b false o i = operate [o, i] (getItem o i)

/-! ### scalar builtins, by CallR -/
theorem vals1 {x : V} {us : List Value} (r : Vals [x] us) : ∃ u, us = [u] ∧ RelV x u := by
  cases r with
  | cons r1 r2 => cases r2; exact ⟨_, rfl, r1⟩
theorem call_str_int : CallR X (.type "str") (fun xs H Q => ∃ i, xs = [.int i] ∧ i.natAbs.log2 < 1920 ∧ Q (.str (toString i)) H) := by
  intro pins s σ H xs us Q I r h
  obtain ⟨i, rfl, hz, q⟩ := h
  obtain ⟨u, rfl, t, rfl⟩ := vals1 r
  exact PySem.P.str_of_int hz ⟨.str _, H, I.tok _, ⟨_, rfl⟩, q⟩
/-- len of a str, a bytes, a list, a tuple -/
def LenV (K : PySem.W.Frag) (x : V) (H : Hp) (n : Nat) : Prop :=
  match x with
  | .str y => y.length ≤ sizeLine ∧ n = y.length
  | .byt y => y.size ≤ sizeLine ∧ n = y.size
  | .ref p => (∃ xs, SqL K H p xs ∧ n = xs.length) ∨ ∃ xs, SqT K H p xs ∧ n = xs.length
  | _ => False
end
end L2

namespace L2
open PySem PySem.Spec PyProof.Rows

/-! ### an instance, its attributes a map -/
structure ObjM (h : Heap) (x dx C : Addr) (mA : Str → Option Value) : Prop where
  obj : h.get? x = some (PySem.W.instObj C dx)
  ns : h.Ns1 dx mA
  ne : dx ≠ x

theorem lookIn_ns {h : Heap} {dx : Addr} {mA : Str → Option Value} (n : h.Ns1 dx mA) : ∃ od, h.get? dx = some od ∧ ∀ name, PySem.W.lookIn name od = some (mA name) := by
  obtain ⟨o, es, ep, ho, hd, hk, _, hm⟩ := n
  refine ⟨o, ho, fun name => ?_⟩
  have e := hm name
  unfold nsFind findBy at e
  rw [← Array.find?_toList] at e
  unfold PySem.W.lookIn
  rw [hd]
  dsimp only
  split
  · rename_i y q
    rw [q] at e
    exact congrArg some e
  · rename_i q
    rw [q] at e
    have a : es.toList.any (·.refKey) = false := by
      rw [List.any_eq_false]
      intro y hy
      obtain ⟨z, t, hkey⟩ := hk y (Array.mem_toList_iff.mp hy)
      simp [DictEntry.refKey, hkey]
    have a' : ¬ es.toList.any (·.refKey) = true := by rw [a]; exact Bool.false_ne_true
    rw [if_neg a']
    exact congrArg some e

theorem ObjM.look {h : Heap} {x dx C : Addr} {mA : Str → Option Value} (I : ObjM h x dx C mA) : ∃ od, PySem.W.InstAt h x (PySem.W.instObj C dx) C (some od) ∧ ∀ name, PySem.W.lookIn name od = some (mA name) :=
  let ⟨od, ho, hl⟩ := lookIn_ns I.ns
  ⟨od, ⟨I.obj, rfl, rfl, ho⟩, hl⟩

section
variable {prog : Program} {w : World} {A : Around} {E : Value → Shared → Prop} {s : Shared} {K : PySem.W.Frag} {x dx C f : Addr} {mA : Str → Option Value} {name : Str} {v : Value}





end

/-! ### the attributes as a list of pairs -/
def putF (f : Str) (v : V) : List (Str × V) → List (Str × V)
  | [] => [(f, v)]
  | (g, x) :: r => if g = f then (g, v) :: r else (g, x) :: putF f v r


section
variable {P : Program} {w : World} {H H' : Hp} {h h' : Heap} {a C dx : Addr} {fs fs' : List (Str × V)}
theorem ins_get (hok : HOk P w H h) (e : H a = some (.ins C dx fs)) : ∃ mA, ObjM h a dx C mA ∧ (∀ f, RelO (fs.lookup f) (mA f)) ∧ PySem.Within mA (fs.map (·.1)) ∧ fs.length ≤ 1000 ∧ H dx = some (.own a) := by
  obtain ⟨d, z, ne, ob, mA, n, r, q⟩ := (show ObjOk P w H h a (.ins C dx fs) from hok a _ e)
  exact ⟨mA, ⟨ob, n, ne⟩, r, q, z, d⟩
end

/-! ### what of the text a class must have -/
structure Cls (K : PySem.W.Frag) (C : Addr) : Prop where
  pg : PySem.W.plainGet K C Str.empty = true
  hd : PySem.W.hasDictIn K C = true
  po : PySem.W.plainOver K C = true
  sa : PySem.W.findIn K (.ref C) "__setattr__" = some (some (.builtin "object.__setattr__"))
theorem Cls.get {K : PySem.W.Frag} {C : Addr} (c : Cls K C) (f : Str) : PySem.W.plainGet K C f = true := c.pg
/-- no class of it has the name -/
def NoAttr (K : PySem.W.Frag) (C : Addr) (f : Str) : Prop := PySem.W.findIn K (.ref C) f = some none
/-- a constant of the class -/
structure Con (K : PySem.W.Frag) (C : Addr) (f : Str) (v : V) (u : Value) : Prop where
  at_ : PySem.W.findIn K (.ref C) f = some (some u)
  rel : RelV v u
  get : PySem.W.specialIn K u "__get__" = some none
  cp : PySem.W.copiedNames.contains f = false
/-- a method: a plain def of the class or of one above it -/
structure Meth (K : PySem.W.Frag) (C : Addr) (m : Str) (f : Addr) : Prop where
  at_ : PySem.W.findIn K (.ref C) m = some (some (.ref f))
  fn : PySem.W.isFn K (.ref f) = true
  kp : PySem.W.keepIn K (.ref f) = true

section
variable {X : Cx} {pins : List (Addr × Obj)} {σ : St} {H : Hp} {s : Shared} {a C dx : Addr} {fs : List (Str × V)} {f : Str} {v : V} {A : Around} {E : Value → Shared → Prop}





/-- a new instance, tracked, without attributes -/
theorem Inv.made (I : Inv X pins σ H s) : Inv X pins σ (upd (upd H s.heap.objs.size (.own (s.heap.objs.size + 1))) (s.heap.objs.size + 1) (.ins C s.heap.objs.size []))
    { s with heap := (s.heap.push PySem.W.emptyDict).push (PySem.W.instObj C s.heap.objs.size) } := by
  have e1 : (s.heap.push PySem.W.emptyDict).get? s.heap.objs.size = some PySem.W.emptyDict := Heap.get?_push_size s.heap rfl
  have e2 : ((s.heap.push PySem.W.emptyDict).push (PySem.W.instObj C s.heap.objs.size)).get? (s.heap.objs.size + 1) = some (PySem.W.instObj C s.heap.objs.size) := by
    have := Heap.get?_push_size (s.heap.push PySem.W.emptyDict) (o := PySem.W.instObj C s.heap.objs.size) rfl
    rwa [Heap.size_push] at this
  have e3 : (s.heap.push PySem.W.emptyDict).Ns s.heap.objs.size (fun _ => none) := ⟨PySem.W.emptyDict, #[], _, e1, rfl, (fun e he => absurd he (by simp)), fun _ => rfl⟩
  have I1 := I.laid (a := s.heap.objs.size) (o := .own (s.heap.objs.size + 1)) (h' := s.heap.push PySem.W.emptyDict) (t' := s.toks) (fun b u q => Heap.get?_push_of_some _ q) (Nat.le_refl _) ⟨_, e1⟩
  refine I1.laid (a := s.heap.objs.size + 1) (o := .ins C s.heap.objs.size []) (t' := s.toks) (fun b u q => Heap.get?_push_of_some _ q) (Nat.le_of_eq (Heap.size_push _ _)) ?_
  have ne : s.heap.objs.size ≠ s.heap.objs.size + 1 := Nat.ne_of_lt (Nat.lt_succ_self _)
  refine ⟨by rw [upd_ne ne, upd_same], Nat.zero_le _, ne, e2, fun _ => none, (Heap.Ns1.of_empty e3).at fun o q => Heap.get?_push_of_some _ q, fun _ => True.intro, fun y hy => absurd rfl hy⟩

end

/-! ### readings and rules -/
/-- e.f, an attribute of the instance -/
def tFld (K : PySem.W.Frag) (ta : TE) (f : Str) : TE := fun σ H Q => ta σ H fun x H1 => ∃ a C dx fs v, x = .ref a ∧ H1 a = some (.ins C dx fs) ∧ Cls K C ∧ NoAttr K C f ∧ fs.lookup f = some v ∧ Q v H1
/-- e.f, a constant of the class -/
def tCon (K : PySem.W.Frag) (ta : TE) (f : Str) : TE := fun σ H Q => ta σ H fun x H1 => ∃ a C dx fs v u, x = .ref a ∧ H1 a = some (.ins C dx fs) ∧ Cls K C ∧ Con K C f v u ∧ fs.lookup f = none ∧ Q v H1
/-- e.f = value -/
def sFld (K : PySem.W.Frag) (ta tv : TE) (f : Str) : TS := fun D σ H => tv σ H fun y H1 => ta σ H1 fun x H2 => ∃ a C dx fs, x = .ref a ∧ H2 a = some (.ins C dx fs) ∧ Cls K C ∧ NoAttr K C f ∧ fs.length < 1000 ∧
  D.nx σ (upd H2 a (.ins C dx (putF f y fs)))
/-- an augmented operator on two values -/
def InOp (X : Cx) (op : Operator) (rd : V → V → Hp → VK → Prop) : Prop :=
  ∀ (pins : List (Addr × Obj)) (s : Shared) (σ : St) (H : Hp) (x y : V) (u v : Value) (Q : VK), Inv X pins σ H s → RelV x u → RelV y v → rd x y H Q → wpAny (model X.prog X.w) X.A (inplaceOp op u v) (EP X pins σ Q) X.xe s
/-- e.f op= value -/
def sFldAug (K : PySem.W.Frag) (ta tv : TE) (rd : V → V → Hp → VK → Prop) (f : Str) : TS := fun D σ H => ta σ H fun x H1 => ∃ a C dx fs v, x = .ref a ∧ H1 a = some (.ins C dx fs) ∧ Cls K C ∧ NoAttr K C f ∧ fs.lookup f = some v ∧
  tv σ H1 fun y H2 => rd v y H2 fun z H3 => ∃ dx' fs', H3 a = some (.ins C dx' fs') ∧ fs'.length < 1000 ∧ D.nx σ (upd H3 a (.ins C dx' (putF f z fs')))

section
variable {X : Cx} {o e value : Expr} {f : Str} {pos pos' tpos : Pos} {ta tv : TE}
def rAdd : V → V → Hp → VK → Prop := fun x y H Q => ∃ i j, x = .int i ∧ y = .int j ∧ Q (.int (i + j)) H
def rSub : V → V → Hp → VK → Prop := fun x y H Q => ∃ i j, x = .int i ∧ y = .int j ∧ Q (.int (i - j)) H

end

/-! ### isinstance -/
section
variable {X : Cx} {pins : List (Addr × Obj)} {σ : St} {H : Hp} {s : Shared} {A : Around} {E : Value → Shared → Prop} {Q : Value → Shared → Prop} {c : Value} {b : Bool}
/-- the type of a value, as the fragment's deciders take it; for an instance its class -/
inductive TyOf (K : PySem.W.Frag) (H : Hp) : V → Value → Prop where
  | non : TyOf K H .non (.type "NoneType")
  | bl (x : Bool) : TyOf K H (.bl x) (.type "bool")
  | int (i : Int) : TyOf K H (.int i) (.type "int")
  | str (x : Str) : TyOf K H (.str x) (.type "str")
  | flt (x : UInt64) : TyOf K H (.flt x) (.type "float")
  | lst {a : Addr} {xs : List V} (e : H a = some (.lst xs)) : TyOf K H (.ref a) (.type "list")
  | frz {a : Addr} {o : Obj} {xs : List V} (e : H a = some (.frz o (.lst xs))) : TyOf K H (.ref a) (.type "list")
  | tup {a : Addr} {xs : List V} (e : H a = some (.tup xs)) : TyOf K H (.ref a) (.type "tuple")
  | dK {a : Addr} {kvs : List (Key × V)} (e : H a = some (.dK kvs)) : TyOf K H (.ref a) (.type "dict")
  | dT {a : Addr} {kvs : List (List Key × V)} (e : H a = some (.dT kvs)) : TyOf K H (.ref a) (.type "dict")
  | ins {a C dx : Addr} {fs : List (Str × V)} (e : H a = some (.ins C dx fs)) (cl : Cls K C) (ha : PySem.W.findIn K (.ref C) "__class__" = some (some (.builtin "object.__class__")))
      (hn : PySem.W.specialIn K (.builtin "object.__class__") "__get__" = some (some (.builtin "getset_descriptor.__get__"))) (htk : PySem.W.takesIn K (.builtin "object.__class__") = some true)
      (hm : PySem.W.mroIn K C (.type "object") = some true) : TyOf K H (.ref a) (.ref C)
/-- isinstance(x, c) for one class c, a built-in or an own one: kitOne's answer -/
theorem isinst_ok {x : V} {u t : Value} (I : Inv X pins σ H s) (rx : RelV x u) (ty : TyOf X.K H x t) (e : PySem.W.kitOne X.K t c = some b) (h : ∀ tk, Q (.bool b) { s with toks := tk }) :
    wpAny (model X.prog X.w) A (call (.builtin "isinstance") [u, c]) Q E s := by
  cases ty with
  | non => cases (show u = Value.none from rx); exact PySem.W.kia_one PySem.W.kitx_none I.kIn True.intro e (fun z => nomatch z) h
  | bl y => cases (show u = Value.bool y from rx); exact PySem.W.kia_one PySem.W.kitx_bool I.kIn True.intro e (fun z => nomatch z) h
  | int i => obtain ⟨t, q⟩ := (show ∃ t, u = Value.int i t from rx); cases q; exact PySem.W.kia_one PySem.W.kitx_int I.kIn True.intro e (fun z => nomatch z) h
  | str y => obtain ⟨t, q⟩ := (show ∃ t, u = Value.str y t from rx); cases q; exact PySem.W.kia_one PySem.W.kitx_str I.kIn True.intro e (fun z => nomatch z) h
  | flt y => obtain ⟨t, q⟩ := (show ∃ t, u = Value.float y t from rx); cases q; exact PySem.W.kia_one PySem.W.kitx_float I.kIn True.intro e (fun z => nomatch z) h
  | @lst a xs ea =>
    cases (show u = Value.ref a from rx)
    obtain ⟨_, _, n, _, h1⟩ := (show ObjOk X.prog X.w H s.heap a (.lst xs) from I.hok a _ ea)
    exact PySem.W.kia_one PySem.W.kitx_list I.kIn ⟨_, h1, rfl⟩ e (fun z => nomatch z) h
  | @frz a ob xs ea =>
    cases (show u = Value.ref a from rx)
    obtain ⟨_, _, _, n, _, h1⟩ := (show ObjOk X.prog X.w H s.heap a (.frz ob (.lst xs)) from I.hok a _ ea)
    exact PySem.W.kia_one PySem.W.kitx_list I.kIn ⟨_, h1, rfl⟩ e (fun z => nomatch z) h
  | @tup a xs ea =>
    cases (show u = Value.ref a from rx)
    obtain ⟨_, _, _, p⟩ := (show ObjOk X.prog X.w H s.heap a (.tup xs) from I.hok a _ ea)
    obtain ⟨o, h1, h2, _⟩ := p
    exact PySem.W.kia_one PySem.W.kitx_tuple I.kIn ⟨o, h1, h2⟩ e (fun z => nomatch z) h
  | @dK a kvs ea =>
    cases (show u = Value.ref a from rx)
    obtain ⟨_, _, vs, _, p⟩ := (show ObjOk X.prog X.w H s.heap a (.dK kvs) from I.hok a _ ea)
    obtain ⟨o, es, ep, h1, h2, _⟩ := p
    exact PySem.W.kia_one PySem.W.kitx_dict I.kIn ⟨o, h1, h2.1⟩ e (fun z => nomatch z) h
  | @dT a kvs ea =>
    cases (show u = Value.ref a from rx)
    obtain ⟨_, _, xs, _, o, es, ep, h1, h2, _⟩ := (show ObjOk X.prog X.w H s.heap a (.dT kvs) from I.hok a _ ea)
    exact PySem.W.kia_one PySem.W.kitx_dict I.kIn ⟨o, h1, h2.1⟩ e (fun z => nomatch z) h
  | @ins a C dx fs ea cl ha hn htk hm =>
    cases (show u = Value.ref a from rx)
    obtain ⟨mA, O, _⟩ := ins_get I.hok ea
    obtain ⟨od, J, _⟩ := O.look
    exact PySem.W.kia_one (PySem.W.kitx_own (cl.get _) cl.hd ha hn htk hm) I.kIn J e (fun z => nomatch z) h
end
end L2

namespace L2
open PySem PySem.Spec PyProof.Rows

/-! ### room -/
structure Room (k : Nat) (A : Around) : Prop where
  hd : A.handled = none
  dp : A.depth + 3 * k + 5 < recursionLimit
  un : A.units + 16 * k + 200 < cLine
  gd : A.guards = some []
theorem Room.mono {j k : Nat} {A : Around} (r : Room k A) (h : j ≤ k) : Room j A := ⟨r.hd, by have := r.dp; omega, by have := r.un; omega, r.gd⟩
theorem Room.deeper {k : Nat} {A : Around} (r : Room (k + 1) A) (env : Env) : Room k (A.deeper env) :=
  ⟨r.hd, by have := r.dp; show A.depth + 1 + 3 * k + 5 < _; omega, by have := r.un; show A.units + 3 + 16 * k + 200 < _; omega, r.gd⟩
theorem Room.in1 {k : Nat} {A : Around} (r : Room (k + 1) A) : Room k A.in1 :=
  ⟨r.hd, by have := r.dp; show A.depth + 3 * k + 5 < _; omega, by have := r.un; show A.units + 1 + 16 * k + 200 < _; omega, r.gd⟩
theorem Room.depth {k : Nat} {A : Around} (r : Room k A) : A.depth < recursionLimit := by have := r.dp; omega
theorem Room.units {k : Nat} {A : Around} (r : Room k A) : A.units + 64 < cLine := by have := r.un; omega

/-! ### argument lists and displays -/
def tNil : TA := fun _ H Q => Q [] H
def tCons (ta : TE) (tr : TA) : TA := fun σ H Q => ta σ H fun x H1 => tr σ H1 fun xs H2 => Q (x :: xs) H2
section
variable {X : Cx} {e : Expr} {es : List Expr} {te : TE} {t : TA} {pos : Pos}
theorem pa_nil : PA X [] tNil := fun _ _ _ _ H Q I h => Calls.spliced_nil ⟨[], H, I, .nil, h⟩
theorem pa_cons (ha : PE X e te) (hr : PA X es t) (hs : starEach (e :: es) X.env = (false, eval e X.env) :: starEach es X.env := by rfl) : PA X (e :: es) (tCons te t) := by
  intro pos pins s σ H Q I h
  rw [hs]
  show wpAny _ _ (spliced ((false, eval e X.env) :: backTo pos (starEach es X.env))) _ _ s
  refine Calls.spliced_cons (thn (ha pins s σ H _ I h) fun u s1 ⟨x, H1, I1, r1, q1⟩ => ?_)
  exact thn (hr pos pins s1 σ H1 _ I1 q1) fun us s2 ⟨xs, H2, I2, r2, q2⟩ => ⟨x :: xs, H2, I2, .cons r1 r2, q2⟩

/-- a tuple, a list of written items -/
def tTup (t : TA) : TE := fun σ H Q => t σ H fun xs H1 => xs.length ≤ sizeLine ∧ ∀ p, H1 p = none → Q (.ref p) (upd H1 p (.tup xs))
def tLst (t : TA) : TE := fun σ H Q => t σ H fun xs H1 => xs.length ≤ sizeLine ∧ ∀ p, H1 p = none → Q (.ref p) (upd H1 p (.lst xs))
theorem pe_tup {x1} (h : PA X es t) : PE X (.Tuple es x1 pos) (tTup t) := by
  intro pins s σ H Q I hq
  refine wpAny_Tuple_spliced (thn (h pos pins s σ H _ I hq) fun us s1 ⟨xs, H1, I1, r, z, q⟩ => ⟨by rw [← r.length]; exact z, ?_⟩)
  have hf : H1 s1.heap.objs.size = none := I1.hok.fresh (Nat.le_refl _)
  refine ⟨.ref s1.heap.objs.size, upd H1 s1.heap.objs.size (.tup xs), I1.laid (t' := s1.toks) (fun b u e => Heap.get?_push_of_some _ e) (Nat.le_refl _) ?_, rfl, q _ hf⟩
  exact ⟨z, us, r, ⟨_, Heap.get?_push_size _ rfl, rfl, _, rfl⟩⟩
theorem pe_lst (h : PA X es t) : PE X (.List es pos) (tLst t) := by
  intro pins s σ H Q I hq
  refine wpAny_List_spliced (thn (h pos pins s σ H _ I hq) fun us s1 ⟨xs, H1, I1, r, z, q⟩ => ⟨by rw [← r.length]; exact z, ?_⟩)
  have hf : H1 s1.heap.objs.size = none := I1.hok.fresh (Nat.le_refl _)
  refine ⟨.ref s1.heap.objs.size, upd H1 s1.heap.objs.size (.lst xs), I1.laid (t' := s1.toks) (fun b u e => Heap.get?_push_of_some _ e) (Nat.le_refl _) ?_, rfl, q _ hf⟩
  exact ⟨z, us, 0, r, Heap.get?_push_size _ rfl⟩
end

/-! ### what a def promises -/
/-- a def's promise: the bound arguments in the parameters' order, the heap, the wanted end, the wanted exception -/
abbrev Sp := List V → Hp → VK → XK → Prop
/-- how an exception lies behind a call (file 08 gives it): the callers' frames, abstract heap and state ahead of the call, the wish, the exception, the state -/
abbrev CXT := List Env → Hp → Shared → XK → Value → Shared → Prop

/-- the state at a call -/
structure Env0 (P : Program) (w : World) (K : PySem.W.Frag) (mg : Str → Option Value) (base : Heap) (A : Around) (outer : List Env) (s : Shared) (H : Hp) : Prop where
  frames : A.frames = some outer
  mod : Mod K mg base
  bs : ∀ b o, base.get? b = some o → s.heap.get? b = some o ∧ H b = none
  bsz : base.objs.size ≤ s.heap.objs.size
  funs : s.heap.FunFrames base outer
  frf : ∀ b ∈ frs outer, H b = none
  hok : HOk P w H s.heap
  bare : AllBare s.gens
/-- a call's end -/
def CE (outer : List Env) (P : Program) (w : World) (H : Hp) (s : Shared) (Q : VK) (u : Value) (s' : Shared) : Prop :=
  ∃ v H', s'.os = s.os ∧ AllBare s'.gens ∧ Un (frs outer) [] H H' s.heap s'.heap ∧ HOk P w H' s'.heap ∧ RelV v u ∧ Q v H'
def CR (CX : CXT) (outer : List Env) (P : Program) (w : World) (H : Hp) (s : Shared) (Q : VK) (E : XK) (r : Result) (s' : Shared) : Prop :=
  match r with
  | .ok (.ret u) => CE outer P w H s Q u s'
  | .ok _ => False
  | .error e => CX outer H s E e s'
structure FnOk (P : Program) (w : World) (K : PySem.W.Frag) (mg : Str → Option Value) (base : Heap) (CX : CXT) (k : Nat) (f : Addr) (fd : FuncData) (ps : List Str) (sp : Sp) : Prop where
  len : ∀ vs H Q E, sp vs H Q E → vs.length = ps.length
  run : ∀ (A : Around) (outer : List Env) (s : Shared) (H : Hp) (args : Args) (us : List Value) (vs : List V) (Q : VK) (E : XK), Room k A → Env0 P w K mg base A outer s H → BindsTo s fd args (ps.zip us) → Vals vs us → sp vs H Q E →
    codeAny (model P w) A (.call (.ref f) args) (CR CX outer P w H s Q E) s
theorem FnOk.mono {P : Program} {w : World} {K : PySem.W.Frag} {mg : Str → Option Value} {base : Heap} {CX : CXT} {j k : Nat} {f : Addr} {fd : FuncData} {ps : List Str} {sp : Sp} (F : FnOk P w K mg base CX j f fd ps sp) (h : j ≤ k) :
    FnOk P w K mg base CX k f fd ps sp := ⟨F.len, fun A outer s H args us vs Q E hr => F.run A outer s H args us vs Q E (hr.mono h)⟩

theorem Env0.in1 {P : Program} {w : World} {K : PySem.W.Frag} {mg : Str → Option Value} {base : Heap} {A : Around} {outer : List Env} {s : Shared} {H : Hp} (e : Env0 P w K mg base A outer s H) :
    Env0 P w K mg base A.in1 outer s H := ⟨e.frames, e.mod, e.bs, e.bsz, e.funs, e.frf, e.hok, e.bare⟩

section
variable {X : Cx} {pins : List (Addr × Obj)} {σ : St} {H : Hp} {s s' : Shared}
/-- from a body: what a callee wants -/
theorem Inv.env0 (I : Inv X pins σ H s) : Env0 X.prog X.w X.K X.mg X.base X.A X.stack s H :=
  ⟨I.ok.frames, I.ok.mod, I.bs, Nat.le_trans I.ok.bsz I.sz, I.stack, I.stkFree, I.hok, I.bare⟩
/-- behind a call -/
theorem Inv.after {Q : VK} {u : Value} (I : Inv X pins σ H s) (h : CE X.stack X.prog X.w H s Q u s') : EP X pins σ Q u s' := by
  obtain ⟨v, H', os, bare, un, hok, r, q⟩ := h
  obtain ⟨hh, g, d, t, os'⟩ := s'
  obtain rfl : os' = s.os := os
  exact ⟨v, H', I.call (h' := hh) (g' := g) (d' := d) (t' := t) (ch := []) un hok bare (fun b z => absurd z (by simp)), r, q⟩
end

/-! ### calls -/
/-- f(..): the written arguments, then the defaults dvs; E: what is wanted of an exception -/
def tCall (sp : Sp) (dvs : List V) (E : XK) (t : TA) : TE := fun σ H Q => t σ H fun vs H1 => sp (vs ++ dvs) H1 Q E
/-- o.m(..) of an instance of the class at C -/
def tMeth (C : Addr) (m : Str) (sp : Sp) (dvs : List V) (E : XK) (ta : TE) (t : TA) : TE := fun σ H Q => ta σ H fun x H1 => ∃ a dx fs, x = .ref a ∧ H1 a = some (.ins C dx fs) ∧ fs.lookup m = none ∧
  t σ H1 fun vs H2 => sp (x :: (vs ++ dvs)) H2 Q E
/-- C(..): a new instance and its dict, then __init__ -/
def tMake (C : Addr) (sp : Sp) (dvs : List V) (E : XK) (t : TA) : TE := fun σ H Q => t σ H fun vs H1 => ∀ x dx, H1 x = none → H1 dx = none → dx ≠ x →
  sp (.ref x :: (vs ++ dvs)) (upd (upd H1 dx (.own x)) x (.ins C dx [])) (fun v H2 => v = .non ∧ Q (.ref x) H2) E

/-- how the parameters are bound: us the positional arguments, kw the keywords' values by name, ds the defaults that fill up -/
def Binds (K : PySem.W.Frag) (fd : FuncData) (ps : List Str) (ds : List Value) : Prop :=
  ∀ (s : Shared) (us : List Value), K.In s.heap → (us ++ ds).length = ps.length → BindsTo s fd ⟨us, []⟩ (ps.zip (us ++ ds))
/-- every parameter is given -/
theorem Binds.all {K : PySem.W.Frag} {fd : FuncData} {ps : List Str} (h : ∀ us : List Value, us.length = ps.length → bindArgs fd ⟨us, []⟩ = pure (ps.zip us)) : Binds K fd ps [] := fun s us _ hl => by
  rw [List.append_nil] at hl ⊢
  exact .of_eq (h us hl)

/-- an exception of a callee reaches what this body wants of exceptions -/
def Passes (CX : CXT) (X : Cx) (E : XK) : Prop := ∀ (pins : List (Addr × Obj)) (σ : St) (H : Hp) (s : Shared) (e : Value) (s' : Shared), Inv X pins σ H s → CX X.stack H s E e s' → X.xe e s'

section
variable {X : Cx} {CX : CXT} {k : Nat} {f C : Addr} {fd : FuncData} {ps : List Str} {sp : Sp} {dvs : List V} {ds : List Value} {E : XK} {x m : Str} {p pos apos : Pos} {e o : Expr} {es : List Expr} {ta : TE} {t : TA}

/-- the callee runs -/
theorem run_fn {pins : List (Addr × Obj)} {σ : St} {H : Hp} {s : Shared} {Q : VK} {us : List Value} {vs : List V} (F : FnOk X.prog X.w X.K X.mg X.base CX k f fd ps sp) (hr : Room k X.A) (hb : Binds X.K fd ps ds) (hd : Vals dvs ds) (hx : Passes CX X E)
    (I : Inv X pins σ H s) (r : Vals vs us) (h : sp (vs ++ dvs) H Q E) : wpAny (model X.prog X.w) X.A (call (.ref f) us) (EP X pins σ Q) X.xe s := by
  have r2 : Vals (vs ++ dvs) (us ++ ds) := r.append hd
  have hl : (us ++ ds).length = ps.length := by rw [← r2.length]; exact F.len _ _ _ _ h
  refine wpAny_call (codeAny_mono (F.run X.A X.stack s H ⟨us, []⟩ (us ++ ds) (vs ++ dvs) Q E hr I.env0 (hb s us I.kIn hl) r2 h) fun r s' hq => ?_)
  cases r with
  | error e => exact hx pins σ H s e s' I hq
  | ok fl =>
    cases fl with
    | ret u => exact I.after hq
    | next => exact False.elim hq
    | brk => exact False.elim hq
    | cont => exact False.elim hq

theorem pe_call (F : FnOk X.prog X.w X.K X.mg X.base CX k f fd ps sp) (hr : Room k X.A) (hg : Gl X x) (hm : X.mg x = some (.ref f)) (hk : PySem.W.keepIn X.K (.ref f) = true) (hb : Binds X.K fd ps ds) (hd : Vals dvs ds) (hx : Passes CX X E)
    (ha : PA X (e :: es) t) (hdb : (x == ("__debug__" : Str)) = false := by decide) (he : starEach (e :: es) X.env = (false, eval e X.env) :: starEach es X.env := by rfl) (hpl : (backTo pos (starEach es X.env)).any (·.1) = false := by rfl) :
    PE X (.Call (.Name x p) (e :: es) [] pos) (tCall sp dvs E t) := by
  intro pins s σ H Q I h
  refine wpAny_Call_Name_kw (ld_glob I hg hm ?_ hdb)
  refine PySem.W.callWith_K (h₀ := X.base) I.ok.mod.kin hk (thn (ha pos pins s σ H _ I h) fun us s1 ⟨vs, H1, I1, r, q⟩ => ⟨I1.kIn, ?_⟩) he hpl
  exact run_fn F hr hb hd hx I1 r q


/-- what a class must have to be made -/
structure Mk (K : PySem.W.Frag) (C f : Addr) : Prop where
  makes : PySem.W.makesIn K C = true
  init : PySem.W.findIn K (.ref C) "__init__" = some (some (.ref f))
  fn : PySem.W.isFn K (.ref f) = true
  kp : PySem.W.keepIn K (.ref C) = true

end

/-! ### keywords -/
/-- the values of the keywords, from the left -/
def PK (X : Cx) (kws : List Keyword) (t : TA) : Prop :=
  ∀ (pos : Pos) (pins : List (Addr × Obj)) (s : Shared) (σ : St) (H : Hp) (Q : List V → Hp → Prop), Inv X pins σ H s → t σ H Q → wpAny (model X.prog X.w) X.A (evalAll ((backToKw pos (keywordEach kws X.env)).map (·.2))) (AP X pins σ Q) X.xe s
section
variable {X : Cx} {CX : CXT} {k : Nat} {f C : Addr} {fd : FuncData} {ps ks : List Str} {sp : Sp} {E : XK} {x m : Str} {p pos apos kpos : Pos} {e o : Expr} {es : List Expr} {kws : List Keyword} {te ta : TE} {t tk : TA} {nm : Option Str}

/-- how a call with keywords binds: g puts the positional values us and the keywords' values ws (names ks) in the parameters' order, defaults among them -/
structure KBinds (K : PySem.W.Frag) (fd : FuncData) (ps ks : List Str) (g : List Value → List Value → List Value) (gV : List V → List V → List V) : Prop where
  to : ∀ (s : Shared) (us ws : List Value), K.In s.heap → (g us ws).length = ps.length → BindsTo s fd ⟨us, ks.zip ws⟩ (ps.zip (g us ws))
  rel : ∀ {vs : List V} {us : List Value} {zs : List V} {ws : List Value}, Vals vs us → Vals zs ws → Vals (gV vs zs) (g us ws)
def tCallK (sp : Sp) (gV : List V → List V → List V) (E : XK) (t tk : TA) : TE := fun σ H Q => t σ H fun vs H1 => tk σ H1 fun zs H2 => sp (gV vs zs) H2 Q E
variable {g : List Value → List Value → List Value} {gV : List V → List V → List V}
end

/-! ### a def's body keeps its promise -/
/-- names: the parameters first -/
structure FnScope (N P : List Str) (sc : Scope) : Prop where
  kind : sc.kind = .function
  co : sc.isCoroutine = false
  gen : sc.isGenerator = false
  nd : N.Nodup
  pre : N.take P.length = P
  par : ∀ x ∈ P, sc.names.lookup x = some .local ∨ sc.names.lookup x = some .cell
  nofree : ∀ y ∈ sc.names, y.2 ≠ .free

theorem bindL_out {kindOf : Str → Option NameKind} {x : Str} : ∀ {binds : List (Str × Value)} {m : Str → Option Value}, (∀ v, (x, v) ∉ binds) → bindL kindOf binds m x = m x
  | [], _, _ => rfl
  | (n, v) :: r, m, h => by
    unfold bindL
    rw [bindL_out fun w hw => h w (List.mem_cons_of_mem _ hw)]
    split
    · have : x ≠ n := by rintro rfl; exact h v List.mem_cons_self
      simp [this]
    · rfl
theorem bindC_out {kindOf : Str → Option NameKind} {x : Str} : ∀ {binds : List (Str × Value)} {m : Str → Option Value}, (∀ v, (x, v) ∉ binds) → bindC kindOf binds m x = m x
  | [], _, _ => rfl
  | (n, v) :: r, m, h => by
    unfold bindC
    rw [bindC_out fun w hw => h w (List.mem_cons_of_mem _ hw)]
    split
    · rfl
    · have : x ≠ n := by rintro rfl; exact h v List.mem_cons_self
      simp [this]
theorem bindL_get {kindOf : Str → Option NameKind} {x : Str} {v : Value} : ∀ {P : List Str} {vs : List Value} {i : Nat} {m : Str → Option Value}, P.Nodup → P[i]? = some x → vs[i]? = some v → kindOf x = some .local →
    bindL kindOf (P.zip vs) m x = some v
  | [], _, _, _, _, h, _, _ => by simp at h
  | _ :: _, [], _, _, _, _, h, _ => by simp at h
  | p :: P, w :: vs, 0, m, nd, h1, h2, hk => by
    simp at h1 h2; subst h1; subst h2
    show bindL kindOf ((p, w) :: P.zip vs) m p = _
    unfold bindL
    rw [bindL_out fun v hv => (List.nodup_cons.mp nd).1 (List.of_mem_zip hv).1, if_pos hk]
    simp
  | p :: P, w :: vs, i + 1, m, nd, h1, h2, hk => by
    show bindL kindOf ((p, w) :: P.zip vs) m x = _
    unfold bindL
    exact bindL_get (i := i) (List.nodup_cons.mp nd).2 (by simpa using h1) (by simpa using h2) hk
theorem bindC_get {kindOf : Str → Option NameKind} {x : Str} {v : Value} : ∀ {P : List Str} {vs : List Value} {i : Nat} {m : Str → Option Value}, P.Nodup → P[i]? = some x → vs[i]? = some v → kindOf x ≠ some .local →
    bindC kindOf (P.zip vs) m x = some v
  | [], _, _, _, _, h, _, _ => by simp at h
  | _ :: _, [], _, _, _, _, h, _ => by simp at h
  | p :: P, w :: vs, 0, m, nd, h1, h2, hk => by
    simp at h1 h2; subst h1; subst h2
    show bindC kindOf ((p, w) :: P.zip vs) m p = _
    unfold bindC
    rw [bindC_out fun v hv => (List.nodup_cons.mp nd).1 (List.of_mem_zip hv).1, if_neg hk]
    simp
  | p :: P, w :: vs, i + 1, m, nd, h1, h2, hk => by
    show bindC kindOf ((p, w) :: P.zip vs) m x = _
    unfold bindC
    exact bindC_get (i := i) (List.nodup_cons.mp nd).2 (by simpa using h1) (by simpa using h2) hk

/-- the names' values at the entry -/
def start (N : List Str) (vs : List V) : St := vs.map some ++ List.replicate (N.length - vs.length) none

/-- the context of a def's body, at its entry; an exception leaves the frame, then lies as CX says -/
def cxOf (CX : CXT) (P : Program) (w : World) (K : PySem.W.Frag) (mg : Str → Option Value) (base : Heap) (N : List Str) (qual : Str) (scope : Scope) (f : Addr) (cd : Value) (A : Around) (outer : List Env) (s : Shared) (H : Hp) (E : XK) : Cx where
  prog := P
  w := w
  K := K
  mg := mg
  base := base
  A := A.deeper (envOfC qual scope s.heap.objs.size f cd)
  N := N
  s₀ := s
  H₀ := H
  env := envOfC qual scope s.heap.objs.size f cd
  outer := outer
  stack := envOfC qual scope s.heap.objs.size f cd :: outer
  ex := []
  calm := true
  fn := fun _ => true
  pn := []
  xe := fun e s' => wpAny (model P w) (A.deeper (envOfC qual scope s.heap.objs.size f cd)) (leaving (envOfC qual scope s.heap.objs.size f cd) e) (fun _ s'' => CX outer H s E e s'') (fun e' s'' => CX outer H s E e' s'') s'

theorem cell_has {sc : Scope} {n : Nat} {x : Str} (h : sc.names.lookup x = some .cell) : ∃ c, (cellsFrom n sc.names []).lookup x = some c := by
  have q := PySem.W.cellsFrom_some sc.names n [] (.inl h)
  exact Option.isSome_iff_exists.mp q

theorem inv_start {CX : CXT} {P : Program} {w : World} {K : PySem.W.Frag} {mg : Str → Option Value} {base : Heap} {N ps : List Str} {qual : Str} {scope : Scope} {f : Addr} {cd : Value} {A : Around} {outer : List Env} {s s1 : Shared} {H : Hp} {E : XK} {us : List Value} {vs : List V}
    (S : FnScope N ps scope) (hd : A.handled = none) (e0 : Env0 P w K mg base A outer s H) (hl : vs.length = ps.length) (r : Vals vs us)
    (x : InCallC s s.heap.objs.size (bindL (envOfC qual scope s.heap.objs.size f cd).kindOf (ps.zip us) fun _ => none) (cellsFrom (s.heap.objs.size + 1) scope.names []) (bindC (envOfC qual scope s.heap.objs.size f cd).kindOf (ps.zip us) fun _ => none) s1) :
    Inv (cxOf CX P w K mg base N qual scope f cd A outer s H E) [] (start N vs) H s1 := by
  have hpl : ps.length ≤ N.length := by have := congrArg List.length S.pre; rw [List.length_take] at this; omega
  obtain ⟨h1, tk, rfl, hk⟩ := x.done
  have noA : ∀ b : Addr, b ∉ (cxOf CX P w K mg base N qual scope f cd A outer s H E).ex := fun b z => absurd (show b ∈ ([] : List Addr) from z) (by simp)
  refine ⟨⟨e0.mod, S.kind, rfl, rfl, Nat.le_refl _, fun y z c h1 h2 => ?_, fun y hy => ?_, fun y c _ h => ?_, fun _ => hd, Around.frames_deeper e0.frames, .inr ⟨rfl, rfl⟩, fun b z => absurd z (noA b), e0.bs, e0.bsz, fun b _ _ => noA b, fun b z => absurd z (noA b), e0.funs, e0.frf⟩,
    rfl, e0.bare, Un.kept hk, ⟨_, x.toInCall.ns, fun i y v h1 h2 h3 => ?_⟩, fun y c h => ⟨_, x.cell y c h⟩, e0.hok.fresh (Nat.le_refl _), fun y c h => ?_, fun p hp => absurd (show p ∈ ([] : List (Addr × Obj)) from hp) (by simp), e0.hok.kept hk, ?_⟩
  · exact name_of_addr x.apart (PySem.mem_of_lookup h1) (PySem.mem_of_lookup h2)
  · have hy : scope.names.lookup y = some .cell ∨ scope.names.lookup y = some .free := hy
    rcases hy with hy | hy
    · exact cell_has hy
    · exact absurd rfl (S.nofree _ (PySem.mem_of_lookup hy))
  · exact Nat.le_of_lt (x.above y c (PySem.mem_of_lookup h))
  · have hi : i < vs.length := by
      unfold start at h2
      by_cases hi : i < vs.length
      · exact hi
      · rw [List.getElem?_append_right (by simpa using hi)] at h2
        rw [List.getElem?_replicate] at h2
        split at h2 <;> cases h2
    have ha : vs[i]? = some v := by
      unfold start at h2
      rw [List.getElem?_append_left (by simpa using hi), List.getElem?_map] at h2
      cases e : vs[i]? with
      | none => rw [e] at h2; cases h2
      | some a => rw [e] at h2; cases h2; rfl
    obtain ⟨u, hu, rv⟩ := r.get ha
    have hp : ps[i]? = some y := by
      rw [← S.pre, List.getElem?_take_of_lt (by omega)]; exact h1
    have ndP : ps.Nodup := by rw [← S.pre]; exact S.nd.sublist (List.take_sublist _ _)
    refine ⟨u, rv, ?_⟩
    rcases S.par y (List.mem_of_getElem? hp) with k | k
    · exact .inl ⟨k, bindL_get ndP hp hu k⟩
    · obtain ⟨c, e⟩ := cell_has (n := s.heap.objs.size + 1) k
      refine .inr ⟨.inl k, c, e, ?_⟩
      have q := x.cell y c e
      rw [bindC_get ndP hp hu (by show scope.names.lookup y ≠ _; rw [k]; decide)] at q
      exact q
  · exact e0.hok.fresh (Nat.le_of_lt (x.above y c (PySem.mem_of_lookup h)))
  · unfold start
    show _ = N.length
    rw [List.length_append, List.length_map, List.length_replicate]
    omega

/-- THE RULE: a def (or a method) of the text, by its body. The body's reading t is chosen for each entry; it is run at the parameters' values -/
theorem fn_of {CX : CXT} {P : Program} {w : World} {K : PySem.W.Frag} {mg : Str → Option Value} {base : Heap} {k : Nat} {f : Addr} {name qual : Str} {params : Arguments} {body : List Stmt} {scope : Scope} {dV kV doc pm cdv ct oc : Value} {an od : Option Addr}
    {osl : Array (Option Value)} {N ps : List Str} {sp : Sp} (lk : K.lookup f = some ⟨oc, od, .func (PySem.W.fnOf name qual params body scope dV kV doc pm an cdv ct), osl⟩) (hcd : PySem.W.codeIn K cdv qual = true) (S : FnScope N ps scope)
    (len : ∀ vs H Q E, sp vs H Q E → vs.length = ps.length)
    (hbody : ∀ (A : Around) (outer : List Env) (s : Shared) (H : Hp) (vs : List V) (Q : VK) (E : XK), Room k (A.deeper (envOfC qual scope s.heap.objs.size f cdv)) → sp vs H Q E →
      ∃ t, PSs (cxOf CX P w K mg base N qual scope f cdv A outer s H E) body t ∧ t { nx := fun _ H' => Q .non H', rt := Q } (start N vs) H) :
    FnOk P w K mg base CX (k + 1) f (PySem.W.fnOf name qual params body scope dV kV doc pm an cdv ct) ps sp := by
  refine ⟨len, fun A outer s H args us vs Q E hr e0 hb r hsp => ?_⟩
  have hl := len _ _ _ _ hsp
  have KX : K.In s.heap := e0.mod.kin.keeps fun b o e => (e0.bs b o e).1
  have lim : s.heap.NoLimit := e0.mod.nolimit.keeps fun b o e => (e0.bs b o e).1
  have hkind : ∀ y ∈ ps.zip us, scope.names.lookup y.1 = some .local ∨ (scope.names.lookup y.1 = some .cell ∧ ((cellsFrom (s.heap.objs.size + 1) scope.names []).lookup y.1).isSome = true) := fun ⟨n, v⟩ hy => by
    rcases S.par n (List.of_mem_zip hy).1 with q | q
    · exact .inl q
    · exact .inr ⟨q, PySem.W.cellsFrom_some _ _ _ (.inl q)⟩
  refine codeAny_call_function hr.depth (KX _ _ lk) rfl S.co S.gen rfl (PySem.W.codeRec_of KX hcd) (hb _ _ _ _ ?_)
  refine wpAny_newFunctionEnv_cells S.kind hkind fun env he s1 x => ?_
  subst he
  refine ⟨lim.keeps x.toInCall.keep, codeAny_func ?_⟩
  obtain ⟨t, ht, hq⟩ := hbody A outer s H vs Q E (hr.deeper _) hsp
  have I : Inv (cxOf CX P w K mg base N qual scope f cdv A outer s H E) [] (start N vs) H s1 := inv_start S hr.hd e0 hl r x
  refine wpAny_mono (ht [] s1 (start N vs) H _ I hq) (fun fl s' hs => ?_) fun e s' hs => hs
  have fin : ∀ {σ' : St} {H' : Hp} {v : V} {u : Value}, Inv (cxOf CX P w K mg base N qual scope f cdv A outer s H E) [] σ' H' s' → RelV v u → Q v H' → CE outer P w H s Q u s' :=
    fun {σ' H' v u} J rv q => ⟨v, H', J.os, J.bare, J.base, J.hok, rv, q⟩
  cases fl with
  | ret u =>
    obtain ⟨v, σ', H', J, rv, q⟩ := hs
    exact fin J rv q
  | next =>
    obtain ⟨σ', H', J, q⟩ := hs
    exact fin (v := V.non) (u := Value.none) J rfl q
  | brk =>
    obtain ⟨_, _, _, q⟩ := hs
    exact False.elim q
  | cont =>
    obtain ⟨_, _, _, q⟩ := hs
    exact False.elim q
end L2

namespace L2
open PySem PySem.Spec PyProof.Rows
section
variable {X : Cx} {x : Str} {p pos : Pos} {e : Expr} {es : List Expr} {t : TA} {id T : String} {r : List V → Hp → VK → Prop}

def tCB (r : List V → Hp → VK → Prop) (t : TA) : TE := fun σ H Q => t σ H fun vs H1 => r vs H1 Q
/-- f(e, ..), f a built-in function -/
theorem pe_callB (hc : CallR X (.builtin id) r) (hg : Gl X x) (hm : X.mg x = none) (hv : bootBuiltins x = some (.builtin id)) (ha : PA X (e :: es) t) (hn : x ≠ "__name__" := by decide) (hdb : (x == ("__debug__" : Str)) = false := by decide)
    (he : starEach (e :: es) X.env = (false, eval e X.env) :: starEach es X.env := by rfl) (hpl : (backTo pos (starEach es X.env)).any (·.1) = false := by rfl) : PE X (.Call (.Name x p) (e :: es) [] pos) (tCB r t) := by
  intro pins s σ H Q I h
  refine wpAny_Call_Name_kw (ld_blt I hg hm hv ?_ hn hdb)
  exact PyProof.Rows.callWith_builtin1 (thn (ha pos pins s σ H _ I h) fun us s1 ⟨vs, H1, I1, r1, q1⟩ => hc pins s1 σ H1 vs us Q I1 r1 q1) he hpl
/-- T(e, ..), T a built-in type -/
theorem pe_callTy (hc : CallR X (.type T) r) (hg : Gl X x) (hm : X.mg x = none) (hv : bootBuiltins x = some (.type T)) (ha : PA X (e :: es) t) (hn : x ≠ "__name__" := by decide) (hdb : (x == ("__debug__" : Str)) = false := by decide)
    (he : starEach (e :: es) X.env = (false, eval e X.env) :: starEach es X.env := by rfl) (hpl : (backTo pos (starEach es X.env)).any (·.1) = false := by rfl) : PE X (.Call (.Name x p) (e :: es) [] pos) (tCB r t) := by
  intro pins s σ H Q I h
  refine wpAny_Call_Name_kw (ld_blt I hg hm hv ?_ hn hdb)
  exact PyProof.Rows.callWith_type1 (thn (ha pos pins s σ H _ I h) fun us s1 ⟨vs, H1, I1, r1, q1⟩ => hc pins s1 σ H1 vs us Q I1 r1 q1) he hpl
end
end L2

namespace HT
open PySem PyProof.Rows

/-- t < u of tuples of ints -/
def lexLt : List Int → List Int → Bool
  | [], [] => false
  | [], _ :: _ => true
  | _ :: _, [] => false
  | x :: xs, y :: ys => if x = y then lexLt xs ys else decide (x < y)


section
open PySem.SeqAt
open PySem.AutoSeq1 (wpAny_loadPart')
open PySem.MeetsSeq PySem.MeetsSeq2 PySem.MeetsSeq3

end

section
variable {prog : Program} {w : World} {A : Around} {E : Value → Shared → Prop} {s : Shared}


/-- t + u, t not empty -/
theorem cat_tup {t b : Addr} {vs ws : List Value} {Q : Value → Shared → Prop} (ht : IsTup s.heap t vs.toArray) (hb : IsTup s.heap b ws.toArray) (hv : vs ≠ [])
    (h1 : ws = [] → Q (.ref t) s) (h2 : ws ≠ [] → Q (.ref s.heap.objs.size) { s with heap := s.heap.push { cls := .type "tuple", data := .seq (vs ++ ws).toArray } })
    (hsz : vs.length + ws.length ≤ sizeLine) : wpAny (model prog w) A (binaryOp .Add (.ref t) (.ref b)) Q E s := by
  obtain ⟨⟨cls, dd, data, sl⟩, ho, hc, n, hd⟩ := id ht
  obtain ⟨⟨cls2, dd2, data2, sl2⟩, ho2, hc2, n2, hd2⟩ := id hb
  simp only at hc hd hc2 hd2
  subst hc hd hc2 hd2
  have e : vs.toArray ++ ws.toArray = (vs ++ ws).toArray := by simp
  by_cases hw : ws = []
  · exact concat_meets ⟨_, ho, rfl⟩ ⟨_, ho2, rfl⟩ noFill_tuple_add seq_tuple_add PySem.F.slot_tuple_add PySem.F.entry_tuple_add (PySem.F.args_tuple_add_2 _ _)
      (tuple_addW1 t b vs.toArray ws.toArray n n2 dd dd2 sl sl2 (by simpa using hv) (by simp [hw])) ⟨ho, ho2, h1 hw⟩
  · refine concat_meets ⟨_, ho, rfl⟩ ⟨_, ho2, rfl⟩ noFill_tuple_add seq_tuple_add PySem.F.slot_tuple_add PySem.F.entry_tuple_add (PySem.F.args_tuple_add_2 _ _)
      (tuple_addW2 t b vs.toArray ws.toArray n n2 dd dd2 sl sl2 (by simpa using hv) (by simpa using hw) (by rw [List.size_toArray, List.size_toArray]; exact hsz)) ⟨ho, ho2, ?_⟩
    rw [e]
    exact h2 hw

/-! ### t[a:b], not the whole -/
/-- a slice's bound as a place among n (d where it is left out) -/
def sIx (n d : Nat) : Option Int → Nat
  | none => d
  | some v => if v < 0 then (v + (n : Int)).toNat else min v.toNat n
theorem sIx_le (n d : Nat) (hd : d ≤ n) (o : Option Int) : sIx n d o ≤ n := by
  cases o with
  | none => exact hd
  | some v =>
    show (if v < 0 then (v + (n : Int)).toNat else min v.toNat n) ≤ n
    by_cases hv : v < 0
    · rw [if_pos hv]; omega
    · rw [if_neg hv]; exact Nat.min_le_right _ _
theorem clip_eq (v : Int) (n d : Nat) : (if v < 0 then max (v + (n : Int)) 0 else min v (n : Int)) = ((sIx n d (some v) : Nat) : Int) := by
  show (if v < 0 then max (v + (n : Int)) 0 else min v (n : Int)) = (((if v < 0 then (v + (n : Int)).toNat else min v.toNat n) : Nat) : Int)
  by_cases hv : v < 0
  · simp only [if_pos hv]; omega
  · simp only [if_neg hv]; omega
theorem adjust_gen (lo hi : Option Int) (n : Nat) : Builtin.Slice.sliceAdjust lo hi 1 (n : Int) = (((sIx n 0 lo : Nat) : Int), ((sIx n n hi : Nat) : Int)) := by
  have h1 : ¬ ((1 : Int) < 0) := by omega
  unfold Builtin.Slice.sliceAdjust
  simp only [h1, if_false]
  refine Prod.ext ?_ ?_
  · cases lo with
    | none => rfl
    | some v => exact clip_eq v n 0
  · cases hi with
    | none => rfl
    | some v => exact clip_eq v n n
theorem places_gen (i j : Nat) : Builtin.Slice.slicePlaces (i : Int) (j : Int) 1 = j - i := by
  unfold Builtin.Slice.slicePlaces
  have h1 : (1 : Int) > 0 := by omega
  simp only [h1, if_true, Int.ediv_one]
  split <;> omega
theorem slicePart_ {v : Value} {o : Option Int} {Q : Option Int → Shared → Prop} (p : IsPart v o) (h : Q o s) : wpAny (model prog w) A (Builtin.Slice.slicePartIndex v) Q E s := by
  cases p with
  | none => exact slicePart_none h
  | int i t => exact slicePart_int h
theorem sliceApplied_gen {sl : Addr} {vl vu : Value} {lo hi : Option Int} {n : Nat} {Q : Int × Int × Nat → Shared → Prop} (hs : s.heap.IsSliceOf sl vl vu .none) (pl : IsPart vl lo) (pu : IsPart vu hi)
    (h : Q (((sIx n 0 lo : Nat) : Int), 1, sIx n n hi - sIx n 0 lo) s) : wpAny (model prog w) A (Builtin.Slice.sliceApplied (.ref sl) (pure (n : Int))) Q E s := by
  obtain ⟨os, hos, hcs, hds⟩ := id hs
  unfold Builtin.Slice.sliceApplied Builtin.Slice.sliceFields
  refine wpAny_bind (wpAny_bind (wpAny_field hos hds (x := vl) rfl (wpAny_bind (wpAny_field hos hds (x := vu) rfl (wpAny_bind (wpAny_field hos hds (x := .none) rfl (wpAny_pure ?_)))))))
  refine wpAny_bind (slicePart_none ?_)
  show wpAny _ _ (if ((1 : Int) == 0) = true then _ else _) _ _ s
  rw [if_neg (by decide)]
  refine wpAny_bind (slicePart_ pl (wpAny_bind (slicePart_ pu (wpAny_bind (wpAny_pure ?_)))))
  show wpAny _ _ (match Builtin.Slice.sliceAdjust lo hi 1 (n : Int) with | (lo, hi) => pure (lo, (1 : Int), Builtin.Slice.slicePlaces lo hi 1)) _ _ s
  rw [adjust_gen lo hi n]
  show wpAny _ _ (pure (((sIx n 0 lo : Nat) : Int), (1 : Int), Builtin.Slice.slicePlaces ((sIx n 0 lo : Nat) : Int) ((sIx n n hi : Nat) : Int) 1)) _ _ s
  rw [places_gen]
  exact wpAny_pure h
theorem pick_gen (xs : Array Value) (i k : Nat) : ((List.range k).filterMap fun (m : Nat) => xs[((i : Int) + (m : Int) * 1).toNat]?).toArray = ((xs.toList.drop i).take k).toArray := by
  have e : (fun (m : Nat) => xs[((i : Int) + (m : Int) * 1).toNat]?) = fun m => xs[i + m]? := by
    funext m
    have : ((i : Int) + (m : Int) * 1).toNat = i + m := by omega
    rw [this]
  rw [e]
  have := pick_run xs i k
  rw [List.filterMap_map] at this
  have e2 : ((fun x => xs[x]?) ∘ fun x => i + x) = fun m => xs[i + m]? := rfl
  rw [e2] at this
  rw [this]

theorem getItem_tuple_cut {t sl : Addr} {items : Array Value} {vl vu : Value} {lo hi : Option Int} {Q : Value → Shared → Prop} (ht : IsTup s.heap t items) (hs : s.heap.IsSliceOf sl vl vu .none) (pl : IsPart vl lo) (pu : IsPart vu hi)
    (hw : ¬ (sIx items.size 0 lo = 0 ∧ sIx items.size items.size hi = items.size))
    (h : Q (.ref s.heap.objs.size) { s with heap := s.heap.push { cls := .type "tuple", data := .seq ((items.toList.drop (sIx items.size 0 lo)).take (sIx items.size items.size hi - sIx items.size 0 lo)).toArray } })
    (hsz : items.size ≤ sizeLine) : wpAny (model prog w) A (getItem (.ref t) (.ref sl)) Q E s := by
  have htake : sizeOk (.seq ((items.toList.drop (sIx items.size 0 lo)).take (sIx items.size items.size hi - sIx items.size 0 lo)).toArray) := by
    show ((items.toList.drop (sIx items.size 0 lo)).take (sIx items.size items.size hi - sIx items.size 0 lo)).toArray.size ≤ sizeLine
    rw [List.size_toArray, List.length_take, List.length_drop, Array.length_toList]
    omega
  have hj : sIx items.size items.size hi ≤ items.size := sIx_le _ _ (Nat.le_refl _) hi
  obtain ⟨os, hos, hcs, hds⟩ := id hs
  have hTs : s.TypeIs (.ref sl) "slice" := ⟨os, hos, hcs⟩
  unfold getItem
  try with_reducible refine wpAny_holding ?_
  first | refine wpAny_bind (wpAny_pure ?_) | skip
  refine wpAny_bind (wpAny_sequenceKey ht.typeIs (by decide) ?_)
  refine wpAny_bind (wpAny_callSpecial?_slot (name := Str.ofString "__getitem__") ht.typeIs PyProof.Rows.slot_tuple_getitem
    (wpAny_call_entry PyProof.Rows.slot_tuple_getitem ht.typeIs entry_tuple_getitem ?_ (args_tuple_getitem _ _)))
  show wpAny _ _ (Builtin.Tuple.tupleItemsOf (.ref t) >>= _) _ _ s
  refine wpAny_bind (tupleItemsOf_ ht ?_)
  refine wpAny_bind (wpAny_typeOf hTs ?_)
  rw [if_pos (by decide)]
  refine wpAny_bind (sliceApplied_gen hs pl pu ?_)
  have hno : ¬ ((((sIx items.size 0 lo : Nat) : Int) == 0 && (1 : Int) == 1 && (sIx items.size items.size hi - sIx items.size 0 lo) == items.size) = true) := by
    intro q
    rw [Bool.and_eq_true, Bool.and_eq_true] at q
    have q1 : ((sIx items.size 0 lo : Nat) : Int) = 0 := eq_of_beq q.1.1
    have q2 : sIx items.size items.size hi - sIx items.size 0 lo = items.size := eq_of_beq q.2
    exact hw ⟨by omega, by omega⟩
  show wpAny _ _ (if (((sIx items.size 0 lo : Nat) : Int) == 0 && (1 : Int) == 1 && (sIx items.size items.size hi - sIx items.size 0 lo) == items.size) = true then _ else _) _ _ s
  rw [if_neg hno, pick_gen]
  first
    | exact wpAny_bind (m := Builtin.Tuple.tupleExact _) (wpAny_newObj_type (wpAny_pure ⟨_, rfl, wpAny_pure h⟩) htake)
    | exact wpAny_bind (m := Builtin.Tuple.tupleExact _) (wpAny_newObj_type (wpAny_bind (wpAny_pure (wpAny_pure ⟨_, rfl, wpAny_pure h⟩))) htake)
    | exact wpAny_bind (wpAny_bind (m := Builtin.Tuple.tupleExact _) (wpAny_newObj_type (wpAny_pure (wpAny_pure ⟨_, rfl, wpAny_pure h⟩)) htake))
    | exact wpAny_bind (wpAny_bind (m := Builtin.Tuple.tupleExact _) (wpAny_newObj_type (wpAny_pure ⟨_, rfl, wpAny_pure h⟩) htake))
end
end HT

namespace L2
open PySem PySem.Spec PyProof.Rows

/-! ### the parts of a slice -/
abbrev TO := St → Hp → (Option Int → Hp → Prop) → Prop
/-- a slice's part (left out, or an int) -/
def PO (X : Cx) (e : Option Expr) (t : TO) : Prop :=
  ∀ (pins : List (Addr × Obj)) (s : Shared) (σ : St) (H : Hp) (Q : Option Int → Hp → Prop), Inv X pins σ H s → t σ H Q →
    wpAny (model X.prog X.w) X.A (evalPart e X.env) (fun u s' => ∃ o H', Inv X pins σ H' s' ∧ IsPart u o ∧ Q o H') X.xe s
def tNoPart : TO := fun _ H Q => Q none H
def tPart (t : TE) : TO := fun σ H Q => t σ H fun x H1 => ∃ i, x = .int i ∧ Q (some i) H1


section
variable {X : Cx} {e : Expr} {te : TE} {lo hi : Option Expr} {tl th : TO} {pos p2 : Pos}

theorem po_none : PO X none tNoPart := by
  intro pins s σ H Q I h
  rw [evalPart_none]
  exact wpAny_pure ⟨none, H, I, .none, h⟩
theorem po_some (h : PE X e te) : PO X (some e) (tPart te) := by
  intro pins s σ H Q I hw
  rw [evalPart_some]
  refine thn (h pins s σ H _ I hw) fun u s1 ⟨x, H1, I1, r1, q1⟩ => ?_
  obtain ⟨i, rfl, q⟩ := q1
  obtain ⟨t, rfl⟩ := r1
  exact ⟨some i, H1, I1, .int i t, q⟩

/-- what a slice of a value is, by values: the slice object stands at sl -/
def SlR (X : Cx) (r : V → Option Int → Option Int → Hp → VK → Prop) : Prop :=
  ∀ (pins : List (Addr × Obj)) (s : Shared) (σ : St) (H : Hp) (x : V) (v vl vu : Value) (lo hi : Option Int) (sl : Addr) (Q : VK), Inv X pins σ H s → RelV x v → s.heap.IsSliceOf sl vl vu .none → IsPart vl lo → IsPart vu hi → r x lo hi H Q →
    ∃ T id, typeLookup (.type T) "__getitem__" = pure (some (.builtin id)) ∧ s.TypeIs v T ∧ wpAny (model X.prog X.w) X.A (getItem v (.ref sl)) (EP X pins σ Q) X.xe s
theorem SlR.or {r r' : V → Option Int → Option Int → Hp → VK → Prop} (h : SlR X r) (h' : SlR X r') : SlR X (fun x lo hi H Q => r x lo hi H Q ∨ r' x lo hi H Q) := by
  intro pins s σ H x v vl vu lo hi sl Q I rx hs pl pu q
  rcases q with q | q
  · exact h pins s σ H x v vl vu lo hi sl Q I rx hs pl pu q
  · exact h' pins s σ H x v vl vu lo hi sl Q I rx hs pl pu q
def tSl (r : V → Option Int → Option Int → Hp → VK → Prop) (te : TE) (tl th : TO) : TE := fun σ H Q => te σ H fun x H1 => tl σ H1 fun l H2 => th σ H2 fun u H3 => r x l u H3 Q
/-- a[lo:hi], any a -/
theorem pe_slice {r : V → Option Int → Option Int → Hp → VK → Prop} (hr : SlR X r) (he : PE X e te) (hl : PO X lo tl) (hu : PO X hi th) : PE X (.Subscript e (.Slice lo hi none p2) pos) (tSl r te tl th) := by
  intro pins s σ H Q I h
  refine Subscript_ (thn (he pins s σ H _ I h) fun v s1 ⟨x, H1, I1, r1, q1⟩ => ?_)
  refine wpAny_Slice (thn (hl pins s1 σ H1 _ I1 q1) fun vl s2 ⟨l, H2, I2, pl, q2⟩ => thn (hu pins s2 σ H2 _ I2 q2) fun vu s3 ⟨u, H3, I3, pu, q3⟩ => ?_)
  rw [evalPart_none]
  refine wpAny_pure ?_
  have I4 : Inv X pins σ H3 { s3 with heap := s3.heap.push { cls := .type "slice", data := .fields #[vl, vu, .none] } } := I3.kept (t' := s3.toks) fun b ob q => Heap.get?_push_of_some _ q
  obtain ⟨T, id, hT, ht, hg⟩ := hr pins { s3 with heap := s3.heap.push { cls := .type "slice", data := .fields #[vl, vu, .none] } } σ H3 x v vl vu l u s3.heap.objs.size Q I4 r1 (Heap.IsSliceOf.new ..) pl pu q3
  show wpAny (model X.prog X.w) X.A (subscriptTail e (.Slice lo hi none p2) v (.ref s3.heap.objs.size)) (EP X pins σ Q) X.xe { s3 with heap := s3.heap.push { cls := .type "slice", data := .fields #[vl, vu, .none] } }
  exact tail_any (ops := [.ref s3.heap.objs.size, v]) ht hT hg (by with_unfolding_all rfl)

/-- the items of xs[lo:hi] -/
def cutV (xs : List V) (lo hi : Option Int) : List V := (xs.drop (HT.sIx xs.length 0 lo)).take (HT.sIx xs.length xs.length hi - HT.sIx xs.length 0 lo)
theorem cutV_length (xs : List V) (lo hi : Option Int) : (cutV xs lo hi).length ≤ xs.length := by
  unfold cutV
  rw [List.length_take, List.length_drop]
  omega
/-- t[lo:hi], not the whole of it (the whole would be t itself) -/
def rSlT (K : PySem.W.Frag) : V → Option Int → Option Int → Hp → VK → Prop := fun x lo hi H Q => ∃ a xs, x = .ref a ∧ SqT K H a xs ∧
  ¬ (HT.sIx xs.length 0 lo = 0 ∧ HT.sIx xs.length xs.length hi = xs.length) ∧ ∀ p, H p = none → Q (.ref p) (upd H p (.tup (cutV xs lo hi)))
theorem sl_tup : SlR X (rSlT X.K) := by
  intro pins s σ H x v vl vu lo hi sl Q I rx hs pl pu h
  obtain ⟨a, xs, rfl, hx, hw, q⟩ := h
  cases rx
  obtain ⟨its, r, ht, hz⟩ := I.tuple hx
  have hlen : its.toArray.size = xs.length := by rw [List.size_toArray]; exact r.length.symm
  refine ⟨"tuple", _, PyProof.Rows.slot_tuple_getitem.lookup, ht.typeIs, ?_⟩
  refine HT.getItem_tuple_cut ht hs pl pu (by rw [hlen]; exact hw) ?_ (by rw [hlen]; exact hz)
  rw [hlen]
  refine ⟨.ref s.heap.objs.size, _, I.laid (t' := s.toks) (o := .tup (cutV xs lo hi)) (fun b ob q => Heap.get?_push_of_some _ q) (Nat.le_refl _) ?_, rfl, q _ (I.hok.fresh (Nat.le_refl _))⟩
  exact ⟨Nat.le_trans (cutV_length xs lo hi) hz, _, (r.drop (HT.sIx xs.length 0 lo)).take (HT.sIx xs.length xs.length hi - HT.sIx xs.length 0 lo), IsTup.new _ _⟩

/-! ### t < u, t + u -/
def rLtT (K : PySem.W.Frag) : R2 := fun x y H Q => ∃ a b ns ms, x = .ref a ∧ y = .ref b ∧ SqT K H a (ns.map V.int) ∧ SqT K H b (ms.map V.int) ∧ Q (.bl (HT.lexLt ns ms)) H
/-- t + u, t not empty: u empty gives t itself -/
def rCatT (K : PySem.W.Frag) : R2 := fun x y H Q => ∃ a b xs ys, x = .ref a ∧ y = .ref b ∧ SqT K H a xs ∧ SqT K H b ys ∧ xs ≠ [] ∧ xs.length + ys.length ≤ sizeLine ∧
  (ys = [] → Q (.ref a) H) ∧ (ys ≠ [] → ∀ p, H p = none → Q (.ref p) (upd H p (.tup (xs ++ ys))))
theorem Vals.nil_iff {xs : List V} {us : List Value} (r : Vals xs us) : us = [] ↔ xs = [] := by
  cases r with
  | nil => simp
  | cons _ _ => simp
theorem op_catT : OpR X (binaryOp .Add) (rCatT X.K) := by
  intro pins s σ H x y v u Q I rx ry h
  obtain ⟨a, b, xs, ys, rfl, rfl, ha, hb, hx, hz, q1, q2⟩ := h
  cases rx
  cases ry
  obtain ⟨its, r1, p1, _⟩ := I.tuple ha
  obtain ⟨its2, r2, p2, _⟩ := I.tuple hb
  refine HT.cat_tup p1 p2 (fun z => hx (r1.nil_iff.mp z)) (fun z => ⟨.ref a, H, I, rfl, q1 (r2.nil_iff.mp z)⟩) (fun z => ?_) (by rw [← r1.length, ← r2.length]; exact hz)
  refine ⟨.ref s.heap.objs.size, _, I.laid (t' := s.toks) (o := .tup (xs ++ ys)) (fun b ob q => Heap.get?_push_of_some _ q) (Nat.le_refl _) ?_, rfl, q2 (fun w => z (r2.nil_iff.mpr w)) _ (I.hok.fresh (Nat.le_refl _))⟩
  exact ⟨by rw [List.length_append]; exact hz, _, r1.append r2, IsTup.new _ _⟩
end
end L2

namespace L2
open PySem PySem.Spec PyProof.Rows

/-! ### places -/
/-- the place that an index of any sign means -/
def ixN (n : Nat) (i : Int) : Option Nat := if 0 ≤ i then (if i < n then some i.toNat else none) else if -(n : Int) ≤ i then some (i + n).toNat else none
def atI {α : Type} (xs : List α) (i : Int) : Option α := (ixN xs.length i).bind fun j => xs[j]?
theorem ixN_seq {n : Nat} {i : Int} {j : Nat} (h : ixN n i = some j) : seqIndex? i n = some j ∧ j < n ∧ -(n : Int) ≤ i ∧ i < n := by
  unfold ixN at h
  by_cases h0 : 0 ≤ i
  · rw [if_pos h0] at h
    by_cases h1 : i < n
    · rw [if_pos h1] at h
      have e : i.toNat = j := Option.some.inj h
      exact ⟨by rw [seqIndex_of h0 h1, e], by omega, by omega, h1⟩
    · rw [if_neg h1] at h; cases h
  · rw [if_neg h0] at h
    by_cases h1 : -(n : Int) ≤ i
    · rw [if_pos h1] at h
      have e : (i + n).toNat = j := Option.some.inj h
      exact ⟨by rw [seqIndex_neg (by omega) h1, e], by omega, h1, by omega⟩
    · rw [if_neg h1] at h; cases h
theorem atI_get {α : Type} {xs : List α} {i : Int} {v : α} (h : atI xs i = some v) : ∃ j, seqIndex? i xs.length = some j ∧ xs[j]? = some v ∧ j < xs.length ∧ -(xs.length : Int) ≤ i ∧ i < xs.length := by
  unfold atI at h
  cases e : ixN xs.length i with
  | none => rw [e] at h; cases h
  | some j =>
    rw [e] at h
    obtain ⟨h1, h2, h3, h4⟩ := ixN_seq e
    exact ⟨j, h1, h, h2, h3, h4⟩
theorem atI_nat {α : Type} {xs : List α} {j : Nat} {v : α} (h : xs[j]? = some v) : atI xs (j : Int) = some v := by
  have hj : j < xs.length := (List.getElem?_eq_some_iff.mp h).1
  have e : ixN xs.length (j : Int) = some j := by
    unfold ixN
    rw [if_pos (by omega), if_pos (by omega)]; simp
  unfold atI; rw [e]; exact h

/-! ### what may be subscripted -/
/-- what stands as an index of a plain subscript -/
def PlainIx (b : Expr) : Prop := ∀ o i, subscripted b false o i = operate [o, i] (getItem o i)
/-- a subscript by values -/
def IxR (X : Cx) (r : R2) : Prop :=
  ∀ (value slice : Expr) (pins : List (Addr × Obj)) (s : Shared) (σ : St) (H : Hp) (x y : V) (v u : Value) (Q : VK), Inv X pins σ H s → RelV x v → RelV y u → r x y H Q →
    subscripted slice false v u = operate [v, u] (getItem v u) → wpAny (model X.prog X.w) X.A (subscriptTail value slice v u) (EP X pins σ Q) X.xe s
/-- a call of a builtin's method by values: the receiver, the arguments -/
def MtR (X : Cx) (id : String) (r : V → List V → Hp → VK → Prop) : Prop :=
  ∀ (pins : List (Addr × Obj)) (s : Shared) (σ : St) (H : Hp) (x : V) (xs : List V) (v : Value) (us : List Value) (Q : VK), Inv X pins σ H s → RelV x v → Vals xs us → r x xs H Q →
    wpAny (model X.prog X.w) X.A (call (.builtin id) (v :: us)) (EP X pins σ Q) X.xe s
section
variable {X : Cx} {a b : Expr} {ta tb : TE} {pos : Pos}
theorem IxR.or {r r' : R2} (h : IxR X r) (h' : IxR X r') : IxR X (fun x y H Q => r x y H Q ∨ r' x y H Q) := by
  intro value slice pins s σ H x y v u Q I rx ry q hs
  rcases q with q | q
  · exact h value slice pins s σ H x y v u Q I rx ry q hs
  · exact h' value slice pins s σ H x y v u Q I rx ry q hs
theorem MtR.or {id : String} {r r' : V → List V → Hp → VK → Prop} (h : MtR X id r) (h' : MtR X id r') : MtR X id (fun x xs H Q => r x xs H Q ∨ r' x xs H Q) := by
  intro pins s σ H x xs v us Q I rx rs q
  rcases q with q | q
  · exact h pins s σ H x xs v us Q I rx rs q
  · exact h' pins s σ H x xs v us Q I rx rs q
/-- a[b] -/
theorem pe_ix {r : R2} (hr : IxR X r) (ha : PE X a ta) (hb : PE X b tb) (hs : PlainIx b) : PE X (.Subscript a b pos) (tOp r ta tb) := by
  intro pins s σ H Q I h
  exact Subscript_ (binT ha hb I h fun v u s2 x y H2 I2 rx ry q => hr a b pins s2 σ H2 x y v u Q I2 rx ry q (hs _ _))

def rIxL (K : PySem.W.Frag) : R2 := fun x y H Q => ∃ p xs i v, x = .ref p ∧ y = .int i ∧ SqL K H p xs ∧ atI xs i = some v ∧ Q v H
def rIxT (K : PySem.W.Frag) : R2 := fun x y H Q => ∃ p xs i v, x = .ref p ∧ y = .int i ∧ SqT K H p xs ∧ atI xs i = some v ∧ Q v H
def rIxS : R2 := fun x y H Q => ∃ z i c, x = .str z ∧ y = .int i ∧ z.length ≤ sizeLine ∧ atI z.cps.toList i = some c ∧ Q (.str ⟨#[c]⟩) H
theorem ix_list : IxR X (rIxL X.K) := by
  intro value slice pins s σ H x y v u Q I rx ry h hs
  obtain ⟨p, xs, i, z, rfl, rfl, hq, he, q⟩ := h
  cases rx
  obtain ⟨t, rfl⟩ := ry
  obtain ⟨its, r, pl, hz⟩ := I.list hq
  obtain ⟨j, h1, h2, h3, h4, h5⟩ := atI_get he
  obtain ⟨w, ew, rw'⟩ := r.get h2
  have hl := r.length
  have hn := line63
  have fin : EP X pins σ Q w s := ⟨z, H, I, rw', q⟩
  by_cases h0 : 0 ≤ i
  · have hj : i.toNat = j := by
      rw [seqIndex_of h0 h5] at h1
      exact Option.some.inj h1
    exact item_listR pl.isList h0 (by omega) (by rw [hj]; simpa using ew) fin hs
  · have hj : (i + (its.toArray.size : Int)).toNat = j := by
      rw [seqIndex_neg (by omega) h4] at h1
      rw [List.size_toArray, ← hl]
      exact Option.some.inj h1
    exact subscriptTail_builtinR (x := w) pl.isList.typeIs slot_list_getitem.lookup
      (wpAny_getItem_list_neg (Q := fun r s' => r = w ∧ EP X pins σ Q r s') pl.isList (by omega) (by rw [List.size_toArray] <;> omega) (by omega) (by rw [hj]; simpa using ew) ⟨rfl, fin⟩) hs
theorem ix_tup : IxR X (rIxT X.K) := by
  intro value slice pins s σ H x y v u Q I rx ry h hs
  obtain ⟨p, xs, i, z, rfl, rfl, hq, he, q⟩ := h
  cases rx
  obtain ⟨t, rfl⟩ := ry
  obtain ⟨its, r, pl, hz⟩ := I.tuple hq
  obtain ⟨j, h1, h2, h3, h4, h5⟩ := atI_get he
  obtain ⟨w, ew, rw'⟩ := r.get h2
  have hl := r.length
  have hn := line63
  have fin : EP X pins σ Q w s := ⟨z, H, I, rw', q⟩
  exact subscriptTail_builtinR (x := w) pl.typeIs slot_tuple_getitem.lookup
    (getItem_tuple (j := j) (Q := fun r s' => r = w ∧ EP X pins σ Q r s') pl (by omega) (by omega) (by rw [List.size_toArray, ← hl]; exact h1) (by simpa using ew) ⟨rfl, fin⟩) hs
theorem ix_str : IxR X rIxS := by
  intro value slice pins s σ H x y v u Q I rx ry h hs
  obtain ⟨z, i, c, rfl, rfl, hz, he, q⟩ := h
  obtain ⟨t, rfl⟩ := rx
  obtain ⟨t', rfl⟩ := ry
  obtain ⟨j, h1, h2, h3, h4, h5⟩ := atI_get he
  have hl : z.cps.toList.length = z.length := by simp [Str.length]
  rw [hl] at h1 h4 h5
  have hn := line63
  exact tail_any (typeIs_str s z t) slot_str_getitem.lookup (getItem_str (c := c) (by
    have e1 : decide (i < -(2 ^ 63 : Int)) = false := decide_eq_false (by omega)
    have e2 : decide (i ≥ 2 ^ 63) = false := decide_eq_false (by omega)
    rw [e1, e2, Bool.or_false]) (by rw [h1]; simpa using h2) ⟨.str ⟨#[c]⟩, H, I.tok _, ⟨_, rfl⟩, q⟩) hs
/-- list, tuple or str -/
def rIx (K : PySem.W.Frag) : R2 := fun x y H Q => rIxL K x y H Q ∨ rIxT K x y H Q ∨ rIxS x y H Q
theorem ix_seq : IxR X (rIx X.K) := ix_list.or (ix_tup.or ix_str)

/-! ### xs[i] = v, any sign -/
/-- the list's object behind a store -/
theorem mapSeq_set (its : List Value) (n j : Nat) (u : Value) : Obj.mapSeq (·.setIfInBounds j u) { cls := .type "list", data := .seq its.toArray n } = { cls := .type "list", data := .seq (its.set j u).toArray n } := by
  simp [Obj.mapSeq]
theorem Inv.lst {pins : List (Addr × Obj)} {σ : St} {H : Hp} {s : Shared} {p : Addr} {xs : List V} (I : Inv X pins σ H s) (h : H p = some (.lst xs)) :
    ∃ (its : List Value) (n : Nat), Vals xs its ∧ s.heap.get? p = some { cls := .type "list", data := .seq its.toArray n } ∧ xs.length ≤ sizeLine := by
  obtain ⟨z, its, n, r, e⟩ := I.hok p _ h
  exact ⟨its, n, r, e, z⟩
/-- the list at p is written by an update of its object -/
theorem Inv.lstUpd {pins : List (Addr × Obj)} {σ : St} {H : Hp} {s : Shared} {p : Addr} {xs ys : List V} {its its' : List Value} {n n' : Nat} {f : Obj → Obj} (I : Inv X pins σ H s) (h : H p = some (.lst xs))
    (ho : s.heap.get? p = some { cls := .type "list", data := .seq its.toArray n }) (hf : f { cls := .type "list", data := .seq its.toArray n } = { cls := .type "list", data := .seq its'.toArray n' }) (r : Vals ys its') (hz : ys.length ≤ sizeLine) (t : Nat) :
    Inv X pins σ (upd H p (.lst ys)) { s with heap := s.heap.update p f, toks := t } := by
  have e : (s.heap.update p f).get? p = some { cls := .type "list", data := .seq its'.toArray n' } := by
    rw [Heap.get?_update_self f ho (by rw [hf] <;> rfl), hf]
  refine I.write (x := p) (e := p) (by rw [h]; trivial) (.inl rfl) (fun b u hb q => (Heap.get?_update_other _ _ (Ne.symm hb)).trans q) ⟨_, e⟩ ?_
  exact ⟨hz, its', n', r, e⟩
def rSetL : V → V → V → Hp → (Hp → Prop) → Prop := fun o i v H Q => ∃ p xs k j, o = .ref p ∧ i = .int k ∧ H p = some (.lst xs) ∧ ixN xs.length k = some j ∧ Q (upd H p (.lst (xs.set j v)))
theorem set_list : PSet X rSetL := by
  intro pins s σ H o i v ov iv u Q I ro ri rv h
  obtain ⟨p, xs, k, j, rfl, rfl, hp, hj, q⟩ := h
  cases ro
  obtain ⟨t, rfl⟩ := ri
  obtain ⟨its, n, r, ho, hz⟩ := I.lst hp
  obtain ⟨h1, h2, h3, h4⟩ := ixN_seq hj
  have hl := r.length
  have hn := line63
  have I' : Inv X pins σ (upd H p (.lst (xs.set j v))) { s with heap := s.heap.update p (Obj.mapSeq (·.setIfInBounds j u)) } :=
    I.lstUpd hp ho (mapSeq_set its n j u) (r.set rv j) (by rw [List.length_set]; exact hz) s.toks
  by_cases h0 : 0 ≤ k
  · have hk : k.toNat = j := by
      rw [seqIndex_of h0 h4] at h1
      exact Option.some.inj h1
    exact PySem.W.ki_setAt ho h0 (by omega) (by rw [List.size_toArray, ← hl]; exact h4) (by rw [hk]; exact ⟨_, I', q⟩)
  · have hk : (k + (its.toArray.size : Int)).toNat = j := by
      rw [seqIndex_neg (by omega) h3] at h1
      rw [List.size_toArray, ← hl]
      exact Option.some.inj h1
    exact PySem.W.ki_setBack ho (by omega) (by rw [List.size_toArray, ← hl]; exact h3) (by omega) (by rw [hk]; exact ⟨_, I', q⟩)

/-! ### slices -/
theorem slice_bounds (lo hi : Option Int) (n : Nat) : (sliceBounds lo hi none n).1 = ((HT.sIx n 0 lo : Nat) : Int) ∧ (sliceBounds lo hi none n).2.1 = ((HT.sIx n n hi : Nat) : Int) ∧ (sliceBounds lo hi none n).2.2 = 1 := by
  refine ⟨?_, ?_, rfl⟩
  · cases lo with
    | none => simp [sliceBounds, HT.sIx]
    | some i =>
      simp only [sliceBounds, HT.sIx, Option.getD_none, show (1 : Int) > 0 by decide, if_true]
      by_cases h : i < 0
      · simp only [h, if_true] <;> omega
      · simp only [h, if_false] <;> omega
  · cases hi with
    | none => simp [sliceBounds, HT.sIx]
    | some i =>
      simp only [sliceBounds, HT.sIx, Option.getD_none, show (1 : Int) > 0 by decide, if_true]
      by_cases h : i < 0
      · simp only [h, if_true] <;> omega
      · simp only [h, if_false] <;> omega
theorem slicePick_cut (its : List Value) (lo hi : Option Int) : slicePick its.toArray lo hi none = ((its.drop (HT.sIx its.length 0 lo)).take (HT.sIx its.length its.length hi - HT.sIx its.length 0 lo)).toArray := by
  obtain ⟨h1, h2, h3⟩ := slice_bounds lo hi its.toArray.size
  unfold slicePick
  rw [h1, h2, h3]
  simp only [sliceRange_one, pick_run, List.size_toArray] <;> rfl
/-- xs[lo:hi] of a list: a new list -/
def rSlL (K : PySem.W.Frag) : V → Option Int → Option Int → Hp → VK → Prop := fun x lo hi H Q => ∃ a xs, x = .ref a ∧ SqL K H a xs ∧ ∀ p, H p = none → Q (.ref p) (upd H p (.lst (cutV xs lo hi)))
theorem sl_list : SlR X (rSlL X.K) := by
  intro pins s σ H x v vl vu lo hi sl Q I rx hs pl pu h
  obtain ⟨a, xs, rfl, hx, q⟩ := h
  cases rx
  obtain ⟨its, r, ht, hz⟩ := I.list hx
  have hlen := r.length
  refine ⟨"list", _, slot_list_getitem.lookup, ht.isList.typeIs, ?_⟩
  refine wpAny_getItem_list_slice ht.isList hs pl pu .none (by simp) ?_ (by rw [List.size_toArray] <;> omega)
  rw [slicePick_cut, ← hlen]
  refine ⟨.ref s.heap.objs.size, _, I.laid (t' := s.toks) (o := .lst (cutV xs lo hi)) (fun b ob q => Heap.get?_push_of_some _ q) (Nat.le_refl _) ?_, rfl, q _ (I.hok.fresh (Nat.le_refl _))⟩
  exact ⟨Nat.le_trans (cutV_length xs lo hi) hz, _, 0, (r.drop (HT.sIx xs.length 0 lo)).take (HT.sIx xs.length xs.length hi - HT.sIx xs.length 0 lo), Heap.get?_push_size _ rfl⟩

/-! ### in, not in: flat items -/
def flatV : V → Bool
  | .non => true
  | .bl _ => true
  | .int _ => true
  | .str _ => true
  | _ => false
/-- == of flat values -/
def eqV : V → V → Bool
  | .non, .non => true
  | .bl a, .bl b => a == b
  | .bl a, .int b => (if a then 1 else 0) == b
  | .int a, .bl b => a == (if b then 1 else 0)
  | .int a, .int b => a == b
  | .str a, .str b => a == b
  | _, _ => false
/-- the items' answers, read off the values (a value's own answer does not lean on its token) -/
def eqU (x : V) (u : Value) : Bool := match u with
  | .none => eqV .non x
  | .bool b => eqV (.bl b) x
  | .int i _ => eqV (.int i) x
  | .str z _ => eqV (.str z) x
  | _ => false
def inV (x : V) (xs : List V) : Bool := xs.any fun y => eqV y x
/-- x in a list or tuple of flat items -/
def rIn (K : PySem.W.Frag) (neg : Bool) : R2 := fun x y H Q => ∃ p xs, y = .ref p ∧ (SqL K H p xs ∨ SqT K H p xs) ∧ flatV x = true ∧ xs.all flatV = true ∧ Q (.bl (if neg then !inV x xs else inV x xs)) H

/-! ### len, list(x), tuple(x) of any list or tuple that is read -/
theorem call_len_seq : CallR X (.builtin "len") (fun xs H Q => ∃ p ys, xs = [.ref p] ∧ (SqL X.K H p ys ∨ SqT X.K H p ys) ∧ Q (.int ys.length) H) := by
  intro pins s σ H xs us Q I r h
  obtain ⟨p, ys, rfl, hq, q⟩ := h
  obtain ⟨u, rfl, rx⟩ := vals1 r
  cases rx
  have hn := line63
  rcases hq with hq | hq
  · obtain ⟨its, r', pl, hz⟩ := I.list hq
    have hlen := r'.length
    exact Calls.call_len_list pl.isList (by simp only [List.size_toArray] <;> omega) ⟨.int ys.length, H, I.tok _, ⟨s.toks + 1, by rw [List.size_toArray, hlen]⟩, q⟩
  · obtain ⟨its, r', pl, hz⟩ := I.tuple hq
    have hlen := r'.length
    exact len_tuple pl (by simp only [List.size_toArray] <;> omega) ⟨.int ys.length, H, I.tok _, ⟨s.toks + 1, by rw [List.size_toArray, hlen]⟩, q⟩
theorem CallR.or {f : Value} {r r' : List V → Hp → VK → Prop} (h : CallR X f r) (h' : CallR X f r') : CallR X f (fun xs H Q => r xs H Q ∨ r' xs H Q) := by
  intro pins s σ H xs us Q I rs q
  rcases q with q | q
  · exact h pins s σ H xs us Q I rs q
  · exact h' pins s σ H xs us Q I rs q
theorem call_list_of : CallR X (.type "list") (fun xs H Q => ∃ p ys, xs = [.ref p] ∧ (SqL X.K H p ys ∨ SqT X.K H p ys) ∧ ∀ l, H l = none → Q (.ref l) (upd H l (.lst ys))) := by
  intro pins s σ H xs us Q I r h
  obtain ⟨p, ys, rfl, hq, q⟩ := h
  obtain ⟨u, rfl, rx⟩ := vals1 r
  cases rx
  have fin : ∀ (its : List Value), Vals ys its → ys.length ≤ sizeLine → ∀ (h' : Heap) (c' : Nat), (∀ b o', s.heap.get? b = some o' → h'.get? b = some o') →
      h'.get? s.heap.objs.size = some { cls := .type "list", dict := none, data := .seq its.toArray c', slots := #[] } → EP X pins σ Q (.ref s.heap.objs.size) { s with heap := h' } := fun its r' hz h' c' kp e =>
    ⟨.ref s.heap.objs.size, _, I.laid (t' := s.toks) kp (Nat.le_refl _) (show ObjOk X.prog X.w _ h' _ (.lst ys) from ⟨hz, its, c', r', e⟩), rfl, q _ (I.hok.fresh (Nat.le_refl _))⟩
  rcases hq with hq | hq
  · obtain ⟨its, r', pl, hz⟩ := I.list hq
    have hlen := r'.length
    obtain ⟨o, ho, hc, n, hd⟩ := pl.isList
    exact call_list_seq p (.inl rfl) ho hc hd (fun h' c' kp e => fin its r' hz h' c' kp e) (by simp only [List.size_toArray] <;> omega)
  · obtain ⟨its, r', pl, hz⟩ := I.tuple hq
    have hlen := r'.length
    obtain ⟨o, ho, hc, n, hd⟩ := pl
    exact call_list_seq p (.inr rfl) ho hc hd (fun h' c' kp e => fin its r' hz h' c' kp e) (by simp only [List.size_toArray] <;> omega)
theorem call_tuple_of : CallR X (.type "tuple") (fun xs H Q => ∃ p ys, xs = [.ref p] ∧ ((SqL X.K H p ys ∧ ∀ l, H l = none → Q (.ref l) (upd H l (.tup ys))) ∨ (SqT X.K H p ys ∧ Q (.ref p) H))) := by
  intro pins s σ H xs us Q I r h
  obtain ⟨p, ys, rfl, h⟩ := h
  obtain ⟨u, rfl, rx⟩ := vals1 r
  cases rx
  rcases h with ⟨hq, q⟩ | ⟨hq, q⟩
  · obtain ⟨its, r', pl, hz⟩ := I.list hq
    have hlen := r'.length
    refine call_tuple_list pl.isList (fun h' kp => ?_) (by simp only [List.size_toArray] <;> omega)
    have I1 : Inv X pins σ H { s with heap := h' } := I.kept (t' := s.toks) kp
    have I2 : Inv X pins σ (upd H h'.objs.size (.tup ys)) { s with heap := h'.push { cls := .type "tuple", data := .seq its.toArray } } :=
      I1.laid (t' := s.toks) (fun b o e => Heap.get?_push_of_some _ e) (Nat.le_refl _) (show ObjOk X.prog X.w _ _ _ (.tup ys) from ⟨hz, its, r', IsTup.new _ _⟩)
    exact ⟨.ref h'.objs.size, _, I2, rfl, q _ (I1.hok.fresh (Nat.le_refl _))⟩
  · obtain ⟨its, r', pl, hz⟩ := I.tuple hq
    exact call_tuple_same pl ⟨.ref p, H, I, rfl, q⟩

/-! ### the call of a builtin's method: o.m(..) -/
/-- the value is of that builtin type -/
def tyV (K : PySem.W.Frag) (T : String) (x : V) (H : Hp) : Prop := match x with
  | .str _ => T = "str"
  | .int _ => T = "int"
  | .ref p => (T = "list" ∧ ∃ xs, SqL K H p xs) ∨ (T = "tuple" ∧ ∃ o, K.lookup p = some o ∧ o.cls = .type "tuple" ∧ o.dict = none) ∨
      (T = "dict" ∧ ((∃ kvs, H p = some (.dK kvs)) ∨ ∃ kvs, H p = some (.dT kvs))) ∨ (T = "set" ∧ ∃ S n, H p = some (.set S n))
  | _ => False
theorem tyV_is {pins : List (Addr × Obj)} {σ : St} {H : Hp} {s : Shared} {T : String} {x : V} {v : Value} (I : Inv X pins σ H s) (r : RelV x v) (ty : tyV X.K T x H) :
    s.TypeIs v T ∧ ∀ a, v = .ref a → ∃ ob, s.heap.get? a = some ob ∧ ob.dict = none := by
  cases x with
  | str z =>
    obtain ⟨t, rfl⟩ := r
    cases (show T = "str" from ty)
    exact ⟨typeIs_str s z t, fun _ e => nomatch e⟩
  | int i =>
    obtain ⟨t, rfl⟩ := r
    cases (show T = "int" from ty)
    exact ⟨typeIs_int s i t, fun _ e => nomatch e⟩
  | ref p =>
    cases r
    rcases ty with ⟨rfl, xs, hq⟩ | ⟨rfl, o, hk, hc, hd⟩ | ⟨rfl, hk⟩ | ⟨rfl, S, n, hk⟩
    · obtain ⟨its, _, pl, _⟩ := I.list hq
      refine ⟨pl.isList.typeIs, fun a e => ?_⟩
      cases e
      obtain ⟨o, n, e, c, hd, _⟩ := pl
      exact ⟨o, e, hd⟩
    · refine ⟨⟨o, I.kIn p o hk, hc⟩, fun a e => ?_⟩
      cases e
      exact ⟨o, I.kIn _ o hk, hd⟩
    · have z : ∃ o, s.heap.get? p = some o ∧ o.ExactDict := by
        rcases hk with ⟨kvs, hk⟩ | ⟨kvs, hk⟩
        · obtain ⟨_, _, _, _, o, _, _, e, ex, _⟩ := I.hok p _ hk
          exact ⟨o, e, ex⟩
        · obtain ⟨_, _, _, _, o, _, _, e, ex, _⟩ := I.hok p _ hk
          exact ⟨o, e, ex⟩
      obtain ⟨o, e, ex⟩ := z
      refine ⟨⟨o, e, ex.1⟩, fun a e2 => ?_⟩
      cases e2
      exact ⟨o, e, ex.2.1⟩
    · obtain ⟨o, _, _, _, e, ex, _⟩ := I.hok p _ hk
      refine ⟨⟨o, e, ex.1⟩, fun a e2 => ?_⟩
      cases e2
      exact ⟨o, e, ex.2.1⟩
  | _ => exact False.elim ty
def tBM0 (K : PySem.W.Frag) (T : String) (r : V → List V → Hp → VK → Prop) (to : TE) : TE := fun σ H Q => to σ H fun x H1 => tyV K T x H1 ∧ r x [] H1 Q
def tBM (K : PySem.W.Frag) (T : String) (r : V → List V → Hp → VK → Prop) (to : TE) (t : TA) : TE := fun σ H Q => to σ H fun x H1 => tyV K T x H1 ∧ t σ H1 fun xs H2 => r x xs H2 Q
variable {o e : Expr} {es : List Expr} {to : TE} {t : TA} {name : Str} {apos cpos : Pos} {T id : String} {r : V → List V → Hp → VK → Prop}
theorem pe_bm (pa : PlainAttrs T) (slot : Slot T name id) (hty : typeOf (.builtin id) = pure (.type "method_descriptor")) (hm : MtR X id r) (ho : PE X o to) (ha : PA X (e :: es) t)
    (hbase : attributeBase o name X.env (eval o X.env) = eval o X.env := by rfl)
    (hfew : ((backTo cpos (starEach (e :: es) X.env)).all (fun x => !x.1) && (backToKw cpos (keywordEach [] X.env)).all (fun x => x.1.isSome)
      && decide ((e :: es).length + ([] : List Keyword).length + (if ([] : List Keyword).isEmpty then 0 else 1) < 30)) = true := by rfl)
    (hline : (apos.endLine == cpos.line) = true := by rfl) (hs : starEach (e :: es) X.env = (false, eval e X.env) :: starEach es X.env := by rfl) (hplain : (backTo cpos (starEach es X.env)).any (·.1) = false := by rfl) :
    PE X (.Call (.Attribute o name apos) (e :: es) [] cpos) (tBM X.K T r to t) := by
  intro pins s σ H Q I h
  refine wpAny_Call_method_late hbase hfew hline rfl (thn (ho pins s σ H _ I h) fun v s1 ⟨x, H1, I1, r1, ty, q1⟩ => ?_)
  obtain ⟨h1, h2⟩ := tyV_is I1 r1 ty
  refine ⟨T, id, pa, slot, hty, h1, h2, ?_⟩
  have hA := ha cpos pins s1 σ H1 _ I1 q1
  rw [hs] at hA ⊢
  refine Calls.callWith_builtin (by show (false || (backTo cpos (starEach es X.env)).any (·.1)) = false; rw [hplain] <;> rfl) (Calls.evalArgs_plain ?_)
  exact thn hA fun us s2 ⟨vs, H2, I2, r2, q2⟩ => hm pins s2 σ H2 x vs v us Q I2 r1 r2 q2
/- xs.append(e), list.index on a module's tuple .. are MtR facts of 06m -/
end
end L2

namespace L2
open PySem PySem.Spec PyProof.Rows

def MtM (X : Cx) (id : String) (r : V → List V → Hp → VK → Prop) : Prop :=
  ∀ (pins : List (Addr × Obj)) (s : Shared) (σ : St) (H : Hp) (x : V) (xs : List V) (v : Value) (us : List Value) (Q : VK), Inv X pins σ H s → RelV x v → Vals xs us → r x xs H Q →
    wpAny (model X.prog X.w) X.A (call (.builtin id) (v :: us)) (EP X pins σ Q) X.xe s

/-! ### lists of values -/
theorem Vals.one : ∀ {x : V} {us : List Value}, Vals [x] us → ∃ u, us = [u] ∧ RelV x u
  | _, _, .cons r .nil => ⟨_, rfl, r⟩
theorem Vals.two : ∀ {x y : V} {us : List Value}, Vals [x, y] us → ∃ u v, us = [u, v] ∧ RelV x u ∧ RelV y v
  | _, _, _, .cons r (.cons q .nil) => ⟨_, _, rfl, r, q⟩
theorem Vals.zero : ∀ {us : List Value}, Vals [] us → us = []
  | _, .nil => rfl
theorem Vals.dropLast {xs : List V} {us : List Value} (h : Vals xs us) : Vals xs.dropLast us.dropLast := by
  induction h with
  | nil => exact .nil
  | cons r t ih =>
    cases t with
    | nil => exact .nil
    | cons q t' => exact .cons r ih
theorem Vals.eraseIdx : ∀ {xs : List V} {us : List Value} (i : Nat), Vals xs us → Vals (xs.eraseIdx i) (us.eraseIdx i)
  | _, _, _, .nil => .nil
  | _, _, 0, .cons _ t => t
  | _, _, i + 1, .cons r t => .cons r (Vals.eraseIdx i t)
theorem Vals.reverse {xs : List V} {us : List Value} (h : Vals xs us) : Vals xs.reverse us.reverse := by
  induction h with
  | nil => exact .nil
  | cons r t ih => rw [List.reverse_cons, List.reverse_cons]; exact Vals.append ih (.cons r .nil)

section
variable {X : Cx} {pins : List (Addr × Obj)} {σ : St} {H : Hp} {s : Shared} {l b : Addr} {xs ys zs : List V}

/-! ### the two steps: a tracked list is rewritten, a new list is laid -/
theorem Inv.lset {its its' : List Value} {n : Nat} {f : Array Value → Array Value} {t' : Nat} (I : Inv X pins σ H s) (hH : H l = some (.lst xs))
    (e : s.heap.get? l = some { cls := .type "list", data := .seq its.toArray n }) (hf : f its.toArray = its'.toArray) (hv : Vals ys its') (hz : ys.length ≤ sizeLine) :
    Inv X pins σ (upd H l (.lst ys)) { s with heap := s.heap.update l (Obj.mapSeq f), toks := t' } := by
  have q := PySem.IsL.update e f
  rw [hf] at q
  refine I.write (x := l) (e := l) (by rw [hH]; exact trivial) (.inl rfl) (fun b' u hb hu => (Heap.get?_update_other s.heap (Obj.mapSeq f) (Ne.symm hb)).trans hu) ⟨_, q⟩ ?_
  exact ⟨hz, its', _, hv, q⟩
theorem Inv.lnew {its : List Value} {t' : Nat} (I : Inv X pins σ H s) (hv : Vals ys its) (hz : ys.length ≤ sizeLine) :
    Inv X pins σ (upd H s.heap.objs.size (.lst ys)) { s with heap := s.heap.push { cls := .type "list", data := .seq its.toArray }, toks := t' } :=
  I.laid (fun _ _ q => Heap.get?_push_of_some _ q) (Nat.le_refl _) ⟨hz, its, 0, hv, Heap.get?_push_size _ rfl⟩
theorem Inv.fresh (I : Inv X pins σ H s) : H s.heap.objs.size = none := I.hok.fresh (Nat.le_refl _)
theorem Inv.lstM (I : Inv X pins σ H s) (hH : H l = some (.lst xs)) : xs.length ≤ sizeLine ∧ ∃ (its : List Value) (n : Nat), Vals xs its ∧ xs.length = its.length ∧ s.heap.get? l = some { cls := .type "list", data := .seq its.toArray n } := by
  obtain ⟨z, its, n, r, e⟩ := I.hok l _ hH
  exact ⟨z, its, n, r, r.length, e⟩

end

section
variable {X : Cx}

/-! ### methods -/
def rAppend : V → List V → Hp → VK → Prop := fun x vs H Q => ∃ l xs y, x = .ref l ∧ vs = [y] ∧ H l = some (.lst xs) ∧ xs.length < sizeLine ∧ Q .non (upd H l (.lst (xs ++ [y])))
theorem mt_append : MtM X "list.append" rAppend := by
  intro pins s σ H x vs v us Q I rx rv h
  obtain ⟨l, xs, y, rfl, rfl, hH, hz, q⟩ := h
  cases rx
  obtain ⟨u, rfl, ru⟩ := rv.one
  obtain ⟨z, its, n, r, hl, e⟩ := I.lstM hH
  refine call_meets F.slot_list_append ⟨_, e, rfl⟩ F.entry_list_append (F.args_list_append_2 _ _) (PySem.list_append l its.toArray n u (by rw [List.size_toArray]; omega)) ⟨e, ?_⟩
  refine ⟨.non, _, I.lset (its' := its ++ [u]) hH e (by simp) (r.append (.cons ru .nil)) ?_, rfl, q⟩
  rw [List.length_append, List.length_singleton]
  omega

def rExtend : V → List V → Hp → VK → Prop := fun x vs H Q => ∃ l b xs zs, x = .ref l ∧ vs = [.ref b] ∧ H l = some (.lst xs) ∧ H b = some (.lst zs) ∧ xs.length + zs.length ≤ sizeLine ∧ Q .non (upd H l (.lst (xs ++ zs)))

def rPop : V → List V → Hp → VK → Prop := fun x vs H Q => ∃ l xs y, x = .ref l ∧ vs = [] ∧ H l = some (.lst xs) ∧ xs[xs.length - 1]? = some y ∧ Q y (upd H l (.lst xs.dropLast))

def rPopAt : V → List V → Hp → VK → Prop := fun x vs H Q => ∃ l xs i k y, x = .ref l ∧ vs = [.int i] ∧ H l = some (.lst xs) ∧ -(2 ^ 63) ≤ i ∧ i < 2 ^ 63 ∧ seqIndex? i xs.length = some k ∧ xs[k]? = some y ∧ Q y (upd H l (.lst (xs.eraseIdx k)))

def rReverse : V → List V → Hp → VK → Prop := fun x vs H Q => ∃ l xs, x = .ref l ∧ vs = [] ∧ H l = some (.lst xs) ∧ Q .non (upd H l (.lst xs.reverse))

def rClear : V → List V → Hp → VK → Prop := fun x vs H Q => ∃ l xs, x = .ref l ∧ vs = [] ∧ H l = some (.lst xs) ∧ Q .non (upd H l (.lst []))

/-! ### list + list, list += list, list * int -/
def rCat : R2 := fun x y H Q => ∃ l b xs zs, x = .ref l ∧ y = .ref b ∧ H l = some (.lst xs) ∧ H b = some (.lst zs) ∧ xs.length + zs.length ≤ sizeLine ∧ ∀ p, H p = none → Q (.ref p) (upd H p (.lst (xs ++ zs)))
theorem op_cat : OpR X (binaryOp .Add) rCat := by
  intro pins s σ H x y v u Q I rx ry h
  obtain ⟨l, b, xs, zs, rfl, rfl, hH, hB, hz, q⟩ := h
  cases rx
  cases ry
  obtain ⟨z, its, n, r, hl, e⟩ := I.lstM hH
  obtain ⟨z2, its2, n2, r2, hl2, e2⟩ := I.lstM hB
  refine PySem.P.add_list e e2 ?_ (by rw [List.size_toArray, List.size_toArray]; omega)
  have ea : its.toArray ++ its2.toArray = (its ++ its2).toArray := by simp
  rw [ea]
  exact ⟨.ref _, _, I.lnew (t' := s.toks) (r.append r2) (by rw [List.length_append]; omega), rfl, q _ I.fresh⟩
/-- a list times an int (a negative one is nothing) -/
def rRep : R2 := fun x y H Q => ∃ l k xs, x = .ref l ∧ y = .int k ∧ H l = some (.lst xs) ∧ -(2 ^ 63) ≤ k ∧ k < 2 ^ 63 ∧ xs.length * k.toNat ≤ sizeLine ∧
  ∀ p, H p = none → Q (.ref p) (upd H p (.lst (List.replicate k.toNat xs).flatten))

/-! ### del xs[i] -/
end

/-! ### xs[a:b] = ys -/
section
variable {prog : Program} {w : World} {A : Around} {E : Value → Shared → Prop} {s : Shared}
end

section
variable {X : Cx}
end
end L2

namespace Att
open PySem PySem.W PySem.Calls PyProof.Rows

/-! ### the script -/
theorem ints_of_wellAll {P : Params} {h : Heap} : ∀ (ns : List Int) (vs : List Value), WellAll P h vs (ns.map WData.int) → IntsAre vs ns := by
  intro ns
  induction ns with
  | nil =>
    intro vs w
    rw [List.map_nil] at w
    cases w
    exact .nil
  | cons n ns ih =>
    intro vs w
    rw [List.map_cons] at w
    cases w with
    | cons a b =>
      cases a
      exact .cons _ _ (ih _ b)

theorem script_of {l : OpenLaw} {n : Nat} (hn : l.most = some n) {P : Params} {h : Heap} {args : List WData} {vals : List Value}
    (hpre : l.row.toRowW.claim.pre args = true) (hwl : WellAll P h vals args) :
    ∃ a vs ns, vals = [Value.ref a] ∧ args = [WData.list (ns.map WData.int)] ∧ h.get? a = some { cls := .type "list", data := .seq vs.toArray } ∧ IntsAre vs ns ∧ ns.length ≤ n := by
  have hsh : WShape.hasAll [] args [.list .int] = true := (pre_splitW hpre).1
  have hc : l.pre.holds [] { args := args } = true := (pre_splitW hpre).2
  obtain ⟨d, r, rfl, h1, h2⟩ := hasAllW_cons hsh
  obtain rfl := hasAllW_nil h2
  obtain ⟨xs, rfl, h3⟩ := hasW_list h1
  obtain ⟨ns, rfl⟩ := items_int h3
  have hlen : ns.length ≤ n := by
    unfold OpenLaw.pre at hc
    have h4 : (WTm.not (.lt (.lit (.int (n : Int))) (.len (.arg 0)))).holds [] { args := [.list (ns.map .int)] } = true := by
      have h4 := (holds_andW hc).1
      rw [hn] at h4
      exact h4
    have h5 := condW_of h4 (w_not (w_lt w_lit (w_len_list (w_arg rfl))))
    rw [List.length_map] at h5
    refine Nat.le_of_not_lt fun q => ?_
    have q' : (n : Int) < ((ns.length : Nat) : Int) := by omega
    first
      | (rw [decide_eq_true q'] at h5; exact absurd h5 (by decide))
      | (simp at h5; omega)
  cases hwl with
  | cons w1 w2 =>
    cases w2
    cases w1 with
    | list ho hall => exact ⟨_, _, ns, rfl, rfl, ho, ints_of_wellAll ns _ hall, hlen⟩

theorem post_true (l : OpenLaw) (args : List WData) : l.row.toRowW.claim.post args (.bool true) args = true :=
  postW_of (r := l.row.toRowW) (X := (true == true))
    (show WShape.has [] (.bool true) .bool = true by first | rfl | decide | simp [WShape.has, WShape.arms, WShape.armsAll])
    (show (WTm.eq .res (.lit (.bool true))).value [] { args := args, res := some (.bool true), after := args } = some (.bool (true == true)) from w_eq_bool (w_res rfl) w_lit) rfl

/-! ### the attachment: holds_open's last premise (the goal 'hc' behind k_head) from a wpAny of the law's body -/

/-- the same from a codeAny of the CALL (for a layer whose function contracts speak of calls) -/
theorem attach_call {l : OpenLaw} {n : Nat} {q : Program} {loose : List Str} {XP : (Str → Option Value) → Heap → Prop} {YP : World → Heap → Prop} {d : DefRec}
    (hn : l.most = some n) (hdf : d.params.defaults = [])
    (call : ∀ (w : World) (s₀ s₁ : Shared) (mg mb : Str → Option Value) (fa : Addr) (o : Obj) (pm cd doc : Value) (a : Addr) (vs : List Value) (ns : List Int),
      Ground q loose [] XP w s₀ mg mb s₁.heap → YP w s₁.heap →
      s₁.heap.get? fa = some o → o.data = .func (docDef d.name d.params d.body d.scope pm cd doc) → s₁.heap.CodeRec cd d.name → mg d.name = some (.ref fa) →
      s₁.heap.get? a = some { cls := .type "list", data := .seq vs.toArray } → IntsAre vs ns → ns.length ≤ n → s₁.gens = #[] →
      codeAny (model l.prog w) callerA (.call (.ref fa) ⟨[.ref a], []⟩) (fun r s' => r = .ok (.ret (.bool true)) ∧ OldK s₁.heap s'.heap ∧ s'.os = s₁.os ∧ AllBare s'.gens) s₁) :
    WalkO q loose XP YP l.row.toRowW d [] (fun f vs => PySem.call f vs) := by
  intro w s₀ s₁ mg mb G Y fa o pm cd doc dV kV ho hd hcd hD hmg hg args vals as hpre hlay hrd hwl hlo
  obtain rfl : dV = .none := Dflts.none hD hdf
  obtain rfl : kV = .none := Dflts.noKw hD
  obtain ⟨a, vs, ns, rfl, rfl, hobj, hints, hlen⟩ := script_of hn hpre hwl
  refine enter_call (codeAny_mono (call w s₀ s₁ mg mb fa o pm cd doc a vs ns G Y ho (fd_plain hd) hcd hmg hobj hints hlen hg) fun r s' hq => ?_)
  obtain ⟨rfl, h2, h3, h4⟩ := hq
  exact ⟨.inl ⟨.bool true, .bool true, [], rfl, fun _ => rfl, .bool true, post_true l _, fun _ => ⟨List.Pairwise.nil, fun _ hm => (nomatch hm)⟩⟩, h2, h3, h4⟩


/-! ### rules over ANY heap (no ledger) from facts about the written part K: the library's own take a ledger (News) for what they write -/
section
variable {prog : Program} {w : World} {A : Around} {E : Value → Shared → Prop} {s : Shared} {K : Frag}





/-! the whole heap as the ledger: makes every rule that writes through a ledger a rule over any heap -/
def noObjs (h : Heap) : Heap := { h with objs := #[] }
def ledger (h : Heap) (L d : Addr) : List (Addr × Obj) := (List.range h.objs.size).filterMap fun a => if a = L ∨ a = d then none else (h.get? a).map fun o => (a, o)

end
end Att

namespace L2
open PySem PySem.Spec PyProof.Rows

theorem vals_ints : ∀ {vs : List Value} {ns : List Int}, IntsAre vs ns → Vals (ns.map V.int) vs
  | _, _, .nil => .nil
  | _, _, .cons n t h => .cons ⟨t, rfl⟩ (vals_ints h)

/-- nothing is tracked but the script, known to the object (or it is an object of the module) -/
def Only (H : Hp) : Prop := ∀ b, H b = none ∨ ∃ o xs, H b = some (.frz o (.lst xs))

/-- THE HEAD: the law's promise, at the heap behind the top. F, the promise of the law's def, may use that base is part of the heap (so K.In base, base.Ns mainGlobals mg stand in Mod) -/
theorem law_call {P : Program} {w : World} {K : PySem.W.Frag} {mg mb : Str → Option Value} {CX : CXT} {k : Nat} {fa a : Addr} {fd : FuncData} {x : Str} {sp : Sp} {s₁ : Shared} {vs : List Value} {ns : List Int}
    (KX : K.In s₁.heap) (hns : s₁.heap.Ns mainGlobals mg) (hb : s₁.heap.Ns builtinsNs mb) (hbb : ∀ x : Str, x ≠ "__name__" → mb x = bootBuiltins x) (hlim : s₁.heap.NoLimit) (hg : s₁.gens = #[])
    (ha : s₁.heap.get? a = some { cls := .type "list", data := .seq vs.toArray }) (hi : IntsAre vs ns) (hl : ns.length ≤ sizeLine) (hr : Room k callerA)
    (F : ∀ base : Heap, K.In base → base.Ns mainGlobals mg → FnOk P w K mg base CX k fa fd [x] sp) (hbind : ∀ (s : Shared) (u : Value), BindsTo s fd ⟨[u], []⟩ [(x, u)])
    (hsp : ∀ H : Hp, Only H → SqL K H a (ns.map V.int) → sp [.ref a] H (fun v _ => v = .bl true) fun _ _ _ => False)
    (hCX : ∀ H e s', CX [] H s₁ (fun _ _ _ => False) e s' → False) :
    codeAny (model P w) callerA (.call (.ref fa) ⟨[.ref a], []⟩) (fun r s' => r = .ok (.ret (.bool true)) ∧ OldK s₁.heap s'.heap ∧ s'.os = s₁.os ∧ AllBare s'.gens) s₁ := by
  have rv := vals_ints hi
  have lenV := hi.length
  -- from an abstract heap in which nothing but the script may be tracked
  have core : ∀ H : Hp, Only H → SqL K H a (ns.map V.int) → HOk P w H s₁.heap → (∀ b, H b ≠ none → b = a) → (H a ≠ none → K.lookup a = none) →
      codeAny (model P w) callerA (.call (.ref fa) ⟨[.ref a], []⟩) (fun r s' => r = .ok (.ret (.bool true)) ∧ OldK s₁.heap s'.heap ∧ s'.os = s₁.os ∧ AllBare s'.gens) s₁ := by
    intro H hO hS hok hA hK
    have base_of : ∀ {b : Addr} {o : Obj}, s₁.heap.get? b = some o → H b = none → (hidT s₁.heap H).get? b = some o := fun e n => hidT_get e n
    have noA : ∀ {b : Addr} {o : Obj} {es : Array DictEntry} {ep : Nat}, s₁.heap.get? b = some o → o.data = .dict es ep → H b = none := fun {b o es ep} e d => by
      cases q : H b with
      | none => rfl
      | some u =>
        have e' : b = a := hA b (by rw [q]; simp)
        subst e'
        rw [ha] at e; cases e
        have d' : Data.seq vs.toArray _ = Data.dict es ep := d
        cases d'
    have nsK : ∀ {b : Addr} {m : Str → Option Value}, s₁.heap.Ns b m → (hidT s₁.heap H).Ns b m := fun {b m} ⟨o, es, ep, e, d, r⟩ => ⟨o, es, ep, base_of e (noA e d), d, r⟩
    have hKb : K.In (hidT s₁.heap H) := fun b o e => base_of (KX b o e) (by
      cases q : H b with
      | none => rfl
      | some u =>
        have e' : b = a := hA b (by rw [q]; simp)
        subst e'
        rw [hK (by rw [q]; simp)] at e; cases e)
    have hM : Mod K mg (hidT s₁.heap H) := ⟨hKb, nsK hns, ⟨mb, nsK hb, hbb⟩, let ⟨mc, h1, h2⟩ := hlim; ⟨mc, nsK h1, h2⟩⟩
    have e0 : Env0 P w K mg (hidT s₁.heap H) callerA [] s₁ H := ⟨rfl, hM, fun b o e => of_hidT e, Nat.le_of_eq (hidT_size _ _), trivial, fun b hb => absurd (show b ∈ ([] : List Addr) from hb) (by simp), hok, .of_eq hg⟩
    refine codeAny_mono ((F _ hKb (nsK hns)).run callerA [] s₁ H ⟨[.ref a], []⟩ [.ref a] [.ref a] _ _ hr e0 (hbind s₁ (.ref a)) (.cons rfl .nil) (hsp H hO hS)) fun r s' h => ?_
    cases r with
    | error e => exact (hCX H e s' h).elim
    | ok fl =>
      cases fl with
      | next => exact False.elim h
      | brk => exact False.elim h
      | cont => exact False.elim h
      | ret u =>
        obtain ⟨v, H', os, bare, un, hok', r', q⟩ := h
        have q' : v = .bl true := q
        subst q'
        obtain rfl : u = Value.bool true := r'
        refine ⟨rfl, OldK.of_keep fun b o e => ?_, os, bare⟩
        cases q : H b with
        | none => exact un.keep b o e q (by intro z; exact absurd (show b ∈ ([] : List Addr) from z) (by simp)) (by simp)
        | some u =>
          rcases hO b with z | ⟨ob, xs, z⟩
          · rw [q] at z; cases z
          · have z2 := un.frzs b ob _ z
            obtain ⟨e1, _⟩ := hok b _ z
            obtain ⟨e2, _⟩ := hok' b _ z2
            rw [e] at e1; cases e1
            exact e2
  cases hk : K.lookup a with
  | some o =>
    -- the script is one of the module's own objects
    have e := KX a o hk
    rw [ha] at e
    cases e
    refine core (fun _ => none) (fun _ => .inl rfl) (.inr ⟨_, vs.toArray, _, hk, rfl, rfl, rfl, by rw [List.size_toArray, lenV]; exact hl, by simpa using rv⟩) (fun b u z => by have z' : (none : Option HO) = some u := z; cases z') (fun b z => absurd rfl z) fun z => absurd rfl z
  | none =>
    refine core (fun b => if b = a then some (.frz { cls := .type "list", data := .seq vs.toArray } (.lst (ns.map V.int))) else none) (fun b => ?_) (.inl (.inr ⟨{ cls := .type "list", data := .seq vs.toArray }, if_pos rfl⟩)) (fun b u z => ?_) (fun b z => ?_) fun _ => hk
    · by_cases hb : b = a
      · exact .inr ⟨_, _, if_pos hb⟩
      · exact .inl (if_neg hb)
    · by_cases hb : b = a
      · have z' := (if_pos hb).symm.trans z
        cases z'
        subst hb
        exact ⟨ha, by rw [List.length_map]; exact hl, vs, _, rv, ha⟩
      · have z' := (if_neg hb).symm.trans z
        cases z'
    · by_cases hb : b = a
      · exact hb
      · exact absurd (if_neg hb) z
end L2

namespace L2
open PySem PySem.Spec PyProof.Rows

abbrev KOf {K : PySem.W.Frag} {h : Heap} (_ : K.In h) : PySem.W.Frag := K

/-- the goal that k_head leaves (case hc), from the law's promise. F gives the function object fd (K's own) once, then the promise over every base -/
theorem walk_of {l : PySem.W.OpenLaw} {n k : Nat} {q : Program} {loose : List Str} {XP : (Str → Option Value) → Heap → Prop} {YP : World → Heap → Prop} {d : DefRec} {K : Params → PySem.W.Frag} {CX : World → CXT} {sp : World → Sp} {x : Str}
    (hn : l.most = some n) (hn2 : n ≤ sizeLine) (hdf : d.params.defaults = []) (hr : Room k callerA)
    (hY : ∀ (w : World) (h : Heap), YP w h → (K w.params).In h)
    (F : ∀ (w : World) (mg : Str → Option Value) (fa : Addr) (h : Heap), (K w.params).In h → h.Ns mainGlobals mg → mg d.name = some (.ref fa) →
      ∃ fd : FuncData, (∀ (s : Shared) (u : Value), BindsTo s fd ⟨[u], []⟩ [(x, u)]) ∧
        ∀ base : Heap, (K w.params).In base → base.Ns mainGlobals mg → FnOk l.prog w (K w.params) mg base (CX w) k fa fd [x] (sp w))
    (hsp : ∀ (w : World) (H : Hp) (a : Addr) (ns : List Int), ns.length ≤ n → Only H → SqL (K w.params) H a (ns.map V.int) → sp w [.ref a] H (fun v _ => v = .bl true) fun _ _ _ => False)
    (hCX : ∀ (w : World) (H : Hp) (s : Shared) (e : Value) (s' : Shared), CX w [] H s (fun _ _ _ => False) e s' → False) :
    PySem.W.WalkO q loose XP YP l.row.toRowW d [] (fun f vs => PySem.call f vs) := by
  refine Att.attach_call hn hdf fun w s₀ s₁ mg mb fa o pm cd doc a vs ns G Y ho hd hcd hmg hobj hints hlen hg => ?_
  have KX := hY w _ Y
  obtain ⟨fd, hb, hF⟩ := F w mg fa _ KX G.T.g hmg
  exact law_call KX G.T.g G.T.b G.T.builtins G.T.nolimit hg hobj hints (Nat.le_trans hlen hn2) hr hF hb (fun H hO hS => hsp w H a ns hlen hO hS) fun H e s' => hCX w H s₁ e s'
end L2

/- THE LAST THEOREM (shape; LID, My.* are yours):
   My.Adr: a structure of the addresses that your layer names (classes, functions); My.Txt K t: a structure (Prop) of the equations over K;
   My.txt_mk : {K} {implicit addresses ..} (e1 : nsIn K mainGlobals "law" = some (some (.ref f))) (e2 : K.lookup f = some ⟨oc, od, .func (fnOf "law" "law" params body scope dV kV doc pm an cdv ct), sl⟩) (e3 : codeIn K cdv "law" = true) .. : ∃ t, My.Txt K t

set_option maxRecDepth 100000 in
set_option maxHeartbeats 0 in
theorem PySem.Challenge.cw_LID_holds : PySem.Challenge.rw_LID.Holds := by
  w_on; o_law; k_head; (case hw => w_witness2)
  k_fill
  refine L2.walk_of (l := PySem.Challenge.rw_LID) (n := 63) (k := 40) (x := "script") (CX := fun w => ..) (sp := fun _ => My.sp_law) rfl (by decide) rfl ⟨rfl, by decide, by decide⟩ (fun w h Y => PySem.W.kIn_of Y) ?F ?S ?C
  case F =>
    intro w mg fa h KX G hmg
    have T : ∃ t, My.Txt (L2.KOf KX) t := by
      dsimp only [L2.KOf]                          -- K must stand as «<heap const> w.params» for k_is
      refine' My.txt_mk ?e1 ?e2 ?e3 ..
      (case e1 => PySem.W.k_is)                    -- in the order: a name -> its address -> its object -> its parts
      (case e2 => PySem.W.k_is)
      ..
    obtain ⟨t, T⟩ := T
    have e0 := hmg.symm.trans (PySem.W.mg_of KX G T.law)
    cases e0                                       -- fa is the law's own address
    exact ⟨_, fun s u => .of_eq rfl, fun base kb nb => My.law_fn T kb nb⟩     -- if «.of_eq rfl» comes too early: refine' ⟨_, ?b, fun base kb nb => My.law_fn T kb nb⟩; exact fun s u => .of_eq rfl
  case S => exact fun w H a ns hl hO hS => ..
  case C => exact ..
(the tactic k_is has no namespace: write k_is) -/

/-! SHORT WORDS over the layer: a def of the text, its body, what a loop and a test want. -/
namespace L2
open PySem PySem.Spec PyProof.Rows

/-! ### the text by places -/
/-- the j-th statement of a class's body -/
def inClass (s : Stmt) (j : Nat) : Stmt := match s with
  | .ClassDef _ _ _ body _ _ _ _ _ _ _ => body.getD j (.Pass ⟨0, 0, 0, 0⟩)
  | _ => .Pass ⟨0, 0, 0, 0⟩
def defArgs (s : Stmt) : Arguments := match s with
  | .FunctionDef _ a _ _ _ _ _ _ _ _ => a
  | _ => { posonlyargs := [], args := [], vararg := none, kwonlyargs := [], kw_defaults := [], kwarg := none, defaults := [] }
def defBody (s : Stmt) : List Stmt := match s with
  | .FunctionDef _ _ b _ _ _ _ _ _ _ => b
  | _ => []
def defScope (s : Stmt) : Scope := match s with
  | .FunctionDef _ _ _ _ _ _ sc _ _ _ => sc
  | _ => { kind := .function, names := [], isGenerator := false, isCoroutine := false }

/-! ### no exception leaves a def -/
abbrev CX0 : CXT := fun _ _ _ _ _ _ => False
abbrev E0 : XK := fun _ _ _ => False
theorem pass0 {X : Cx} : Passes CX0 X E0 := fun _ _ _ _ _ _ _ h => h.elim

/-! ### a def (or method) of the text as it stands behind the top -/
structure Fun (K : PySem.W.Frag) (x qual : Str) (st : Stmt) (f : Addr) (fd : FuncData) : Prop where
  ex : ∃ (oc : Value) (od : Option Addr) (kV doc pm : Value) (an : Option Addr) (cdv ct : Value) (osl : Array (Option Value)),
    fd = PySem.W.fnOf x qual (defArgs st) (defBody st) (defScope st) .none kV doc pm an cdv ct ∧ K.lookup f = some ⟨oc, od, .func fd, osl⟩ ∧ PySem.W.codeIn K cdv qual = true
  kp : PySem.W.keepIn K (.ref f) = true
section
variable {P : Program} {w : World} {K : PySem.W.Frag} {mg : Str → Option Value} {base : Heap}
/-- THE RULE for a def: its body as a term of rules, and the reading of that term -/
theorem Fun.ok {x qual : Str} {st : Stmt} {f : Addr} {fd : FuncData} {N ps : List Str} {k : Nat} {sp : Sp} (F : Fun K x qual st f fd) (S : FnScope N ps (defScope st)) (len : ∀ vs H Q E, sp vs H Q E → vs.length = ps.length)
    (hbody : ∀ (cdv : Value) (A : Around) (outer : List Env) (s : Shared) (H : Hp) (vs : List V) (Q : VK) (E : XK), Room k (A.deeper (envOfC qual (defScope st) s.heap.objs.size f cdv)) → sp vs H Q E →
      ∃ t, PSs (cxOf CX0 P w K mg base N qual (defScope st) f cdv A outer s H E).nox (defBody st) t ∧ t { nx := fun _ H' => Q .non H', rt := Q } (start N vs) H) : FnOk P w K mg base CX0 (k + 1) f fd ps sp := by
  obtain ⟨oc, od, kV, doc, pm, an, cdv, ct, osl, rfl, lk, hcd⟩ := F.ex
  refine fn_of lk hcd S len fun A outer s H vs Q E hr hsp => ?_
  obtain ⟨t, h, q⟩ := hbody cdv A outer s H vs Q E hr hsp
  exact ⟨t, h.nox, q⟩
/-- how its arguments bind (no defaults): h is «fun _ _ _ _ _ _ us hl => match us, hl with | [_, _], _ => rfl», one _ a parameter -/
theorem Fun.binds {x qual : Str} {st : Stmt} {f : Addr} {fd : FuncData} {ps : List Str} (F : Fun K x qual st f fd)
    (h : ∀ (kV doc pm : Value) (an : Option Addr) (cdv ct : Value) (us : List Value), us.length = ps.length → bindArgs (PySem.W.fnOf x qual (defArgs st) (defBody st) (defScope st) .none kV doc pm an cdv ct) ⟨us, []⟩ = pure (ps.zip us)) : Binds K fd ps [] := by
  obtain ⟨oc, od, kV, doc, pm, an, cdv, ct, osl, rfl, lk, hcd⟩ := F.ex
  exact .all (h kV doc pm an cdv ct)
theorem fun_mk {x qual : Str} {st : Stmt} {f : Addr} {oc : Value} {od an : Option Addr} {osl : Array (Option Value)} {kV doc pm cdv ct : Value} (l : K.lookup f = some ⟨oc, od, .func (PySem.W.fnOf x qual (defArgs st) (defBody st) (defScope st) .none kV doc pm an cdv ct), osl⟩)
    (c : PySem.W.codeIn K cdv qual = true) (k : PySem.W.keepIn K (.ref f) = true) : Fun K x qual st f (PySem.W.fnOf x qual (defArgs st) (defBody st) (defScope st) .none kV doc pm an cdv ct) := ⟨⟨oc, od, kV, doc, pm, an, cdv, ct, osl, rfl, l, c⟩, k⟩
end
theorem small1000 {n : Nat} (h : n ≤ 1000) : n < sizeLine := Nat.lt_of_le_of_lt h (by decide)

/-! ### expressions in short: the name that stands in the i-th slot -/
section
variable {X : Cx}
theorem pv (i : Nat) {x : Str} {pos : Pos} (hN : X.N[i]? = some x := by rfl) (hv : Vis X.env.scope x := by first | exact Or.inl rfl | exact Or.inr (Or.inl rfl) | exact Or.inr (Or.inr rfl)) (hd : (x == ("__debug__" : Str)) = false := by decide)
    (hcd : (x == ("__classdict__" : Str)) = false := by decide) : PE X (.Name x pos) (tVar i) := pe_var hN hv hd hcd
end

/-! ### tests -/
theorem iteF {A B : Prop} (h : B) : if false = true then A else B := by
  rw [if_neg Bool.false_ne_true]
  exact h
theorem iteT {A B : Prop} (h : A) : if true = true then A else B := by
  rw [if_pos rfl]
  exact h
theorem iteNS {c A B : Prop} [Decidable c] (hc : c) (h : B) : if (!decide c) = true then A else B := by
  rw [decide_eq_true hc]
  exact iteF h

/-! ### heaps -/
/-- all that was tracked is as it was -/
def Same (H H' : Hp) : Prop := ∀ b o, H b = some o → H' b = some o
theorem Same.refl (H : Hp) : Same H H := fun _ _ h => h
theorem Same.trans {H H1 H2 : Hp} (a : Same H H1) (b : Same H1 H2) : Same H H2 := fun c o h => b c o (a c o h)
theorem Same.free {H H' : Hp} (e : Same H H') {l : Addr} (h : H' l = Option.none) : H l = Option.none := by
  cases q : H l with
  | none => rfl
  | some o =>
    rw [e l o q] at h
    cases h
theorem Same.seq {K : PySem.W.Frag} {H H' : Hp} {a : Addr} {xs : List V} (e : Same H H') (h : SqL K H a xs) : SqL K H' a xs := by
  rcases h with (h | ⟨o, h⟩) | h
  · exact .inl (.inl (e _ _ h))
  · exact .inl (.inr ⟨o, e _ _ h⟩)
  · exact .inr h

end L2

set_option Elab.async false
set_option linter.all false
set_option maxRecDepth 100000
namespace L2
open PySem PySem.Spec PyProof.Rows

/-! ### comprehensions -/
section
variable {P : Program} {w : World} {A : Around} {R : Result → Shared → Prop} {s : Shared}
/-- the loop of a comprehension, the step ahead of the store with it -/
theorem comp_loop {elt tgt iter : Expr} {ifs : List Expr} {scope : Scope} {pos : Pos} {it acc : Value} {env : Env} (J : Nat → Shared → Prop)
    (turn : ∀ n s, J n s → wpAny (model P w) A (pyNext it) (fun r c₁ => match r with
      | none => R (.ok .next) c₁
      | some v => wpAny (model P w) A (letOwnedTupleGo tgt it v) (fun _ d₁ => wpAny (model P w) A (assign tgt env v) (fun _ c₂ =>
          wpAny (model P w) A (forIn ifs true fun c r => if r = true then do let ok ← isTrue c env (eval c env); pure (ForInStep.yield ok) else pure (ForInStep.yield r)) (fun ok c₃ =>
            if ok = true then wpAny (model P w) A (eval elt env) (fun x c₄ =>
              wpAny (model P w) A (call (.builtin "list.append") [acc, x]) (fun _ c₅ => ∃ m, m < n ∧ J m c₅) (notedBy (model P w) A env fun e s' => R (.error e) s') c₄) (notedBy (model P w) A env fun e s' => R (.error e) s') c₃
            else ∃ m, m < n ∧ J m c₃) (notedBy (model P w) A env fun e s' => R (.error e) s') c₂) (notedBy (model P w) A env fun e s' => R (.error e) s') d₁) (notedBy (model P w) A env fun e s' => R (.error e) s') c₁) (notedBy (model P w) A env fun e s' => R (.error e) s') s)
    (n : Nat) (hn : J n s) :
    codeAny (model P w) A (.compLoop (.ListComp elt [⟨tgt, iter, ifs, 0⟩] scope pos) 0 it acc env) R s := by
  refine codeAny_loop rfl J (fun n s hJ => ?_) n hn
  show wpAny _ A ((compTurn (.ListComp elt [⟨tgt, iter, ifs, 0⟩] scope pos) 0 it acc env).onRaise (fun x => do noteFrame x env; theTreesLotGoes x)) _ _ s
  refine wpAny_noted ?_
  rw [compTurn_list]
  refine wpAny_bind (wpAny_standAt (wpAny_bind (wpAny_mono (turn n s hJ) (fun r c₁ e₁ => ?_) fun _ _ z => z)))
  cases r with
  | none => exact wpAny_pure e₁
  | some v =>
    refine wpAny_bind (wpAny_mono e₁ (fun _ d₁ f₁ => ?_) fun _ _ z => z)
    refine wpAny_bind (wpAny_mono f₁ (fun _ c₂ e₂ => wpAny_bind (wpAny_mono e₂ (fun ok c₃ e₃ => ?_) fun _ _ z => z)) fun _ _ z => z)
    cases ok with
    | false => exact wpAny_pure ⟨rfl, e₃⟩
    | true =>
      exact wpAny_bind (wpAny_bind (wpAny_mono e₃ (fun x c₄ e₄ => wpAny_bind (wpAny_mono e₄ (fun _ c₅ e₅ => wpAny_pure (wpAny_pure ⟨rfl, e₅⟩)) fun _ _ z => z)) fun _ _ z => z))
end

/-- the cells that a block is given -/
def cloF (env : Env) : List (Str × NameKind) → List (Str × Addr) → List (Str × Addr)
  | [], acc => acc
  | (n, k) :: r, acc => if k = .free then cloF env r ((n, (env.cells.lookup n).getD 0) :: acc) else cloF env r acc
theorem closure_go {env : Env} : ∀ (names : List (Str × NameKind)) (acc : List (Str × Addr)), (∀ x ∈ names, x.2 = .free → ∃ c, env.cells.lookup x.1 = some c) →
    (forIn names acc (fun (x : Str × NameKind) (cs : List (Str × Addr)) => (if (x.2 == NameKind.free) = true then do let a ← cellOf env x.1; pure (ForInStep.yield ((x.1, a) :: cs)) else pure (ForInStep.yield cs) : Sem (ForInStep (List (Str × Addr))))) : Sem (List (Str × Addr))) = pure (cloF env names acc)
  | [], acc, _ => by simp [cloF]
  | (n, k) :: r, acc, h => by
    have ih := fun acc => closure_go (env := env) r acc fun x hx => h x (List.mem_cons_of_mem _ hx)
    rw [List.forIn_cons]
    by_cases hk : k = .free
    · subst hk
      obtain ⟨c, hc⟩ := h (n, .free) List.mem_cons_self rfl
      have hc' : env.cells.lookup n = some c := hc
      have e : cellOf env n = pure c := by unfold cellOf; rw [hc']
      simp only [cloF, if_true, hc', Option.getD_some, beq_self_eq_true, e, pure_bind]
      exact ih _
    · have hb : (k == NameKind.free) = false := by simpa using hk
      simp only [cloF, hk, if_false, hb, Bool.false_eq_true, pure_bind]
      exact ih _
theorem closure_eq {env : Env} {scope : Scope} (h : ∀ x ∈ scope.names, x.2 = .free → ∃ c, env.cells.lookup x.1 = some c) : closureFor scope env = pure (cloF env scope.names []) := by
  rw [← closure_go scope.names [] h]
  unfold closureFor
  simp only [bind_pure]
theorem cloF_lookup {env : Env} {y : Str} : ∀ (names : List (Str × NameKind)) (acc : List (Str × Addr)), (cloF env names acc).lookup y = if (y, NameKind.free) ∈ names then some ((env.cells.lookup y).getD 0) else acc.lookup y
  | [], acc => by simp [cloF]
  | (n, k) :: r, acc => by
    unfold cloF
    by_cases hk : k = .free
    · subst hk
      rw [if_pos rfl, cloF_lookup r]
      by_cases hy : y = n
      · subst hy
        simp [List.lookup_cons]
      · have hb : (y == n) = false := by simpa using hy
        simp [List.lookup_cons, hb, hy]
    · rw [if_neg hk, cloF_lookup r]
      have : ¬ ((y, NameKind.free) = (n, k)) := by
        intro e
        exact hk (Prod.mk.inj e).2.symm
      simp [this]

/-- what a block's scope is like: o the def's own scope, TN the targets' names, F the def's names that the block reads -/
structure CScope (o sc : Scope) (TN F : List Str) : Prop where
  okind : o.kind = .function
  kind : sc.kind = .function
  nocell : ∀ y ∈ sc.names, y.2 ≠ .cell
  names : ∀ y ∈ sc.names, y.2 = .local → sc.names.lookup y.1 = some .local
  fr : ∀ y ∈ sc.names, y.2 = .free → o.names.lookup y.1 = some .cell ∧ sc.names.lookup y.1 = some .free
  ff : ∀ y ∈ F, (y, NameKind.free) ∈ sc.names

theorem relabel_free {env : Env} {y : Str} (hk : env.scope.kind = .function) (hc : env.kindOf y = some .cell) : ∀ {names : List (Str × NameKind)}, names.lookup y = some .free →
    (names.map fun (n, k) => if (k == NameKind.free && env.scope.kind == .function && env.kindOf n == some .cell) then (n, NameKind.cell) else (n, k)).lookup y = some .cell
  | [], h => by simp at h
  | (n, k) :: r, h => by
    have ih := @relabel_free env y hk hc r
    show List.lookup y ((if (k == NameKind.free && env.scope.kind == .function && env.kindOf n == some .cell) = true then (n, NameKind.cell) else (n, k)) :: _) = _
    cases hx : y == n with
    | true =>
      rw [List.lookup_cons, hx] at h
      cases h
      have e : y = n := by simpa using hx
      subst e
      rw [if_pos (by simp [hk, hc])]
      simp [List.lookup_cons]
    | false =>
      rw [List.lookup_cons, hx] at h
      by_cases hc' : (k == NameKind.free && env.scope.kind == .function && env.kindOf n == some .cell) = true
      · rw [if_pos hc']; simp only [List.lookup_cons, hx]; exact ih h
      · rw [if_neg hc']; simp only [List.lookup_cons, hx]; exact ih h
theorem relabel_from {env : Env} {y : Str} : ∀ {names : List (Str × NameKind)}, (∀ z ∈ names, z.2 ≠ .cell) →
    ((names.map fun (n, k) => if (k == NameKind.free && env.scope.kind == .function && env.kindOf n == some .cell) then (n, NameKind.cell) else (n, k)).lookup y = some .cell ∨
     (names.map fun (n, k) => if (k == NameKind.free && env.scope.kind == .function && env.kindOf n == some .cell) then (n, NameKind.cell) else (n, k)).lookup y = some .free) → (y, NameKind.free) ∈ names
  | [], _, h => by simp at h
  | (n, k) :: r, hn, h => by
    have ih := @relabel_from env y r fun z hz => hn z (List.mem_cons_of_mem _ hz)
    have h' : List.lookup y ((if (k == NameKind.free && env.scope.kind == .function && env.kindOf n == some .cell) = true then (n, NameKind.cell) else (n, k)) :: (r.map fun (n, k) => if (k == NameKind.free && env.scope.kind == .function && env.kindOf n == some .cell) then (n, NameKind.cell) else (n, k))) = some .cell ∨
      List.lookup y ((if (k == NameKind.free && env.scope.kind == .function && env.kindOf n == some .cell) = true then (n, NameKind.cell) else (n, k)) :: (r.map fun (n, k) => if (k == NameKind.free && env.scope.kind == .function && env.kindOf n == some .cell) then (n, NameKind.cell) else (n, k))) = some .free := h
    clear h
    cases hx : y == n with
    | true =>
      have e : y = n := by simpa using hx
      subst e
      by_cases hc' : (k == NameKind.free && env.scope.kind == .function && env.kindOf y == some .cell) = true
      · have hk : k = .free := by
          have := (Bool.and_eq_true _ _ ▸ (Bool.and_eq_true _ _ ▸ hc').1).1
          simpa using this
        subst hk
        exact List.mem_cons_self
      · rw [if_neg hc'] at h'
        simp only [List.lookup_cons, beq_self_eq_true] at h'
        rcases h' with h' | h'
        · cases h'
          exact absurd rfl (hn _ List.mem_cons_self)
        · cases h'
          exact List.mem_cons_self
    | false =>
      by_cases hc' : (k == NameKind.free && env.scope.kind == .function && env.kindOf n == some .cell) = true
      · rw [if_pos hc'] at h'; simp only [List.lookup_cons, hx] at h'; exact List.mem_cons_of_mem _ (ih h')
      · rw [if_neg hc'] at h'; simp only [List.lookup_cons, hx] at h'; exact List.mem_cons_of_mem _ (ih h')

/-- the context of a comprehension's block -/
def cxC (X : Cx) (N : List Str) (sc : Scope) (cl : List (Str × Addr)) (C : Addr) (fp : List Addr) (s₃ : Shared) (H₃ : Hp) (xe : Value → Shared → Prop) : Cx :=
  { X with N := N, s₀ := s₃, H₀ := H₃, env := compEnvC sc cl C X.env, outer := X.stack, ex := fp, fn := fun _ => false, pn := [], xe := xe }
/-- the def's names that a block reads -/
def sub (ix : List Nat) (σ : St) : St := ix.map fun i => (σ[i]?).join

theorem inv_comp {X : Cx} {pins : List (Addr × Obj)} {σ : St} {H : Hp} {s : Shared} {sc : Scope} {TN F : List Str} {ix : List Nat} {fp : List Addr} {h4 : Heap} {tk : Nat} {m : Str → Option Value} {xe : Value → Shared → Prop}
    (S : CScope X.env.scope sc TN F) (hix : ix.map (fun i => X.N[i]?) = F.map some) (I : Inv X pins σ H s) (hf : ∀ b ∈ fp, FpOk X pins H b) (ho : ∀ b ∈ fp, ∃ o, s.heap.get? b = some o)
    (hk : ∀ b o, s.heap.get? b = some o → h4.get? b = some o) (hn : h4.Ns s.heap.objs.size m) :
    Inv (cxC X (TN ++ F) sc (cloF X.env sc.names []) s.heap.objs.size fp s H xe) [] (List.replicate TN.length none ++ sub ix σ) H { s with heap := h4, toks := tk } := by
  have cl : ∀ x c, (cloF X.env sc.names []).lookup x = some c → X.env.cells.lookup x = some c := fun x c e => by
    rw [cloF_lookup] at e
    by_cases hx : (x, NameKind.free) ∈ sc.names
    · rw [if_pos hx] at e
      obtain ⟨c', hc'⟩ := I.ok.has x (.inl (S.fr _ hx rfl).1)
      rw [hc'] at e ⊢
      exact e
    · rw [if_neg hx] at e
      cases e
  have cl' : ∀ x, (x, NameKind.free) ∈ sc.names → (cloF X.env sc.names []).lookup x = X.env.cells.lookup x := fun x hx => by
    rw [cloF_lookup, if_pos hx]
    obtain ⟨c', hc'⟩ := I.ok.has x (.inl (S.fr _ hx rfl).1)
    rw [hc']
    rfl
  have hlen : ix.length = F.length := by
    have := congrArg List.length hix
    simpa using this
  refine ⟨⟨I.ok.mod, S.kind, I.ok.glob, I.ok.blt, Nat.le_refl _, fun x y c h1 h2 => I.ok.inj x y c (cl x c h1) (cl y c h2), fun x hx => ?_, fun x c z => (nomatch z), I.ok.hd, I.ok.frames, .inl rfl, fun b hb => ⟨?_, fun x c e => (hf b hb).2.2.2.2.1 x c (cl x c e)⟩,
    I.bs, Nat.le_trans I.ok.bsz I.sz, fun b o e hb => ?_, fun b hb hfs => ?_, I.stack, I.stkFree⟩, rfl, I.bare, Un.kept hk, ⟨m, hn, fun i x v h1 h2 h3 => ?_⟩, fun x c e => ?_, I.hok.fresh (Nat.le_refl _), fun x c e => I.freeC x c (cl x c e), fun p hp => absurd (show p ∈ ([] : List (Addr × Obj)) from hp) (by simp), I.hok.kept hk, ?_⟩
  · have hx' : (x, NameKind.free) ∈ sc.names := relabel_from (env := X.env) S.nocell hx
    obtain ⟨c, hc⟩ := I.ok.has x (.inl (S.fr _ hx' rfl).1)
    exact ⟨c, (cl' x hx').trans hc⟩
  · obtain ⟨o, e⟩ := ho b hb
    exact Nat.ne_of_lt (Heap.lt_size e)
  · rcases (hf b hb).2.2.2.1 with z | z
    · exact I.ok.noex b o e z
    · exact absurd (Nat.lt_of_lt_of_le (Heap.lt_size e) (Nat.le_trans I.ok.bsz z)) (Nat.lt_irrefl _)
  · rcases List.mem_cons.mp (I.stkSub b hfs) with z | z
    · exact (hf b hb).2.1 z
    · exact (hf b hb).2.2.1 z
  · have hi : TN.length ≤ i := by
      apply Nat.le_of_not_lt
      intro hlt
      rw [List.getElem?_append_left (by simpa using hlt), List.getElem?_replicate] at h2
      split at h2 <;> cases h2
    rw [List.getElem?_append_right (by simpa using hi), List.length_replicate] at h2
    have h1' : F[i - TN.length]? = some x := by
      have : (TN ++ F)[i]? = some x := h1
      rw [List.getElem?_append_right hi] at this
      exact this
    have e3 := congrArg (fun l => l[i - TN.length]?) hix
    simp only [List.getElem?_map, h1', Option.map_some] at e3
    unfold sub at h2
    rw [List.getElem?_map] at h2
    cases ej : ix[i - TN.length]? with
    | none => rw [ej] at h2; cases h2
    | some k =>
      rw [ej] at h2 e3
      have h2' : (σ[k]?).join = some v := Option.some.inj h2
      have e3' : X.N[k]? = some x := Option.some.inj e3
      have hσ : σ[k]? = some (some v) := by
        cases e : σ[k]? with
        | none => rw [e] at h2'; cases h2'
        | some q =>
          rw [e] at h2'
          have : q = some v := h2'
          rw [this]
      have hfr := S.ff x (List.mem_of_getElem? h1')
      have hcell := (S.fr _ hfr rfl).1
      obtain ⟨m0, hn0, hl0⟩ := I.loc
      obtain ⟨u, r, l⟩ := hl0 k x v e3' hσ (.inr (.inl hcell))
      refine ⟨u, r, ?_⟩
      rcases l with ⟨l1, _⟩ | ⟨_, c, hc, o, ho', hd⟩
      · have l1' : X.env.scope.names.lookup x = some .local := l1
        rw [hcell] at l1'
        cases l1'
      · exact .inr ⟨.inl (relabel_free (env := X.env) S.okind hcell (S.fr _ hfr rfl).2), c, (cl' x hfr).trans hc, o, hk c o ho', hd⟩
  · obtain ⟨v, o, ho', hd⟩ := I.cell x c (cl x c e)
    exact ⟨v, o, hk c o ho', hd⟩
  · show _ = (TN ++ F).length
    rw [List.length_append, List.length_append, List.length_replicate]
    unfold sub
    rw [List.length_map, hlen]

/-- the tests of a comprehension -/
def PTs (X : Cx) (ifs : List Expr) (tc : TT) : Prop :=
  ∀ (pins : List (Addr × Obj)) (s : Shared) (σ : St) (H : Hp) (Q : Bool → Hp → Prop), Inv X pins σ H s → tc σ H Q →
    wpAny (model X.prog X.w) X.A (forIn ifs true fun c r => if r = true then do let ok ← isTrue c X.env (eval c X.env); pure (ForInStep.yield ok) else pure (ForInStep.yield r)) (TP X pins σ Q) X.xe s
def tAll : TT := fun _ H Q => Q true H
theorem pts_nil {X : Cx} : PTs X [] tAll := fun _ _ _ H _ I h => wpAny_tests_nil ⟨H, I, h⟩
theorem pts_one {X : Cx} {c : Expr} {tc : TT} (hc : PT X c tc) : PTs X [c] tc := fun pins s σ H Q I h => wpAny_tests_one (hc pins s σ H Q I h)

/-- how a block goes: W by the turn, a measure, the block's names, the items so far, the heap -/
def CGo (J : It) (D : Addr) (g : TG) (tc : TT) (te : TE) (Q : VK) (σ : St) (H : Hp) : Prop :=
  ∃ W : Nat → Nat → St → List V → Hp → Prop, (∃ m, W 0 m σ [] (upd H D (.lst []))) ∧ ∀ i m τ ys H, W i m τ ys H → H D = some (.lst ys) ∧
    ((J.stop i H ∧ Q (.ref D) H) ∨ (J.go i H ∧ ∀ v H', J.yld i H v H' → g v τ H' fun τ2 H2 => tc τ2 H2 fun b H3 =>
      if b = true then te τ2 H3 fun y H4 => H4 D = some (.lst ys) ∧ ys.length < sizeLine ∧ ∃ m', m' < m ∧ W (i + 1) m' τ2 (ys ++ [y]) (upd H4 D (.lst (ys ++ [y])))
      else ∃ m', m' < m ∧ W (i + 1) m' τ2 ys H3))
def tComp (wi : TI) (n : Nat) (ix : List Nat) (g : TG) (tc : TT) (te : TE) : TE := fun σ H Q => wi σ H fun J H1 => ∀ D, H1 D = none → CGo J D g tc te Q (List.replicate n none ++ sub ix σ) H1

theorem append_ok {X : Cx} {pins : List (Addr × Obj)} {σ : St} {H : Hp} {s : Shared} {D : Addr} {ys : List V} {y : V} {u : Value} {Q : Value → Shared → Prop} {E : Value → Shared → Prop} (I : Inv X pins σ H s) (hD : H D = some (.lst ys)) (hz : ys.length < sizeLine) (r : RelV y u)
    (h : ∀ s', Inv X pins σ (upd H D (.lst (ys ++ [y]))) s' → Q .none s') : wpAny (model X.prog X.w) X.A (call (.builtin "list.append") [.ref D, u]) Q E s := by
  obtain ⟨z, its, n, rr, hl, e⟩ := I.lstM hD
  refine call_meets F.slot_list_append ⟨_, e, rfl⟩ F.entry_list_append (F.args_list_append_2 _ _) (PySem.list_append D its.toArray n u (by rw [List.size_toArray]; omega)) ⟨e, ?_⟩
  refine h _ (I.lset (its' := its ++ [u]) hD e (by simp) (rr.append (.cons r .nil)) ?_)
  rw [List.length_append, List.length_singleton]
  omega

theorem comp_block {X : Cx} {pins : List (Addr × Obj)} {σ : St} {H : Hp} {s : Shared} {sc : Scope} {TN F : List Str} {ix : List Nat} {elt tg iter : Expr} {ifs : List Expr} {pos : Pos} {g : TG} {tc : TT} {te : TE} {J : It} {fp : List Addr} {it : Addr} {tn : Nat → Heap → Prop} {Q : VK}
    {RR : Value → Addr → Result → Shared → Prop} {E : Value → Shared → Prop}
    (S : CScope X.env.scope sc TN F) (hix : ix.map (fun i => X.N[i]?) = F.map some) (hc : X.calm = true) (I : Inv X pins σ H s) (T : Turn X.prog X.w X.K tg J fp it tn) (st : tn 0 s.heap) (hf : ∀ b ∈ fp, FpOk X pins H b)
    (hg : ∀ cl C fp s3 H3 xe, PG (cxC X (TN ++ F) sc cl C fp s3 H3 xe) tg g) (ht : ∀ cl C fp s3 H3 xe, PTs (cxC X (TN ++ F) sc cl C fp s3 H3 xe) ifs tc) (he : ∀ cl C fp s3 H3 xe, PE (cxC X (TN ++ F) sc cl C fp s3 H3 xe) elt te)
    (hW : ∀ D, H D = none → CGo J D g tc te Q (List.replicate TN.length none ++ sub ix σ) H)
    (fin : ∀ D C H' s', Inv X pins σ H' s' → (∃ m, s'.heap.Ns C m) → H' C = none → C ≠ X.env.locals → X.s₀.heap.objs.size ≤ C → (∀ x c, X.env.cells.lookup x = some c → c ≠ C) → (∀ p ∈ X.pn ++ pins, p.1 ≠ C) → Q (.ref D) H' → RR (.ref D) C (.ok .next) s') :
    wpAny (model X.prog X.w) X.A (newList []) (fun acc s₃ => wpAny (model X.prog X.w) X.A (newFunctionEnv sc X.env.globals (cloF X.env sc.names []) [] X.env.qual none .none (some X.env)) (fun cenv s₄ =>
      codeAny (model X.prog X.w) X.A (.compStart (.ListComp elt [⟨tg, iter, ifs, 0⟩] sc pos) 0 (.ref it) acc { cenv with scope := relabel sc X.env }) (RR acc cenv.locals) s₄) E s₃) E s := by
  have hfo : ∀ b ∈ fp, ∃ o, s.heap.get? b = some o := fun b hb => let ⟨o, e, _⟩ := T.obj 0 _ st b hb; ⟨o, e⟩
  refine wpAny_newObj_type ?_
  obtain ⟨W, ⟨m0, w0⟩, go⟩ := hW s.heap.objs.size I.fresh
  have I3 : Inv X pins σ (upd H s.heap.objs.size (.lst [])) { s with heap := s.heap.push { cls := .type "list", data := .seq ([] : List Value).toArray } } := I.lnew (its := []) (ys := []) (t' := s.toks) .nil (Nat.zero_le _)
  generalize hs3 : ({ s with heap := s.heap.push { cls := .type "list", data := .seq ([] : List Value).toArray } } : Shared) = s3 at I3
  have hk3 : ∀ b o, s.heap.get? b = some o → s3.heap.get? b = some o := fun b o e => by
    rw [← hs3]
    exact Heap.get?_push_of_some _ e
  have hf3 : ∀ b ∈ fp, FpOk X pins (upd H s.heap.objs.size (.lst [])) b := fun b hb => by
    obtain ⟨o, e⟩ := hfo b hb
    exact ⟨by rw [upd_ne (Nat.ne_of_lt (Heap.lt_size e))]; exact (hf b hb).1, (hf b hb).2⟩
  have st3 : tn 0 s3.heap := T.keep 0 _ _ st fun b hb o e => hk3 b o e
  show wpAny _ _ _ _ _ s3
  refine wpAny_newFunctionEnv S.nocell (by intro y hy; simp at hy) (fun h4 hn4 hsb => ?_) S.kind
  have hk4 : ∀ b o, s3.heap.get? b = some o → h4.get? b = some o := fun b o e => (hsb.2 b (Nat.ne_of_lt (Heap.lt_size e))).trans (Heap.get?_push_of_some _ e)
  generalize hR : RR (.ref s.heap.objs.size) s3.heap.objs.size = R
  have loop : ∀ s4 : Shared, s4 = { s3 with heap := h4, toks := s3.toks + ([] : List (Str × Value)).length } →
      codeAny (model X.prog X.w) X.A (.compLoop (.ListComp elt [⟨tg, iter, ifs, 0⟩] sc pos) 0 (.ref it) (.ref s.heap.objs.size) (compEnvC sc (cloF X.env sc.names []) s3.heap.objs.size X.env)) R s4 := by
    rintro s4 rfl
    let X' : Cx := cxC X (TN ++ F) sc (cloF X.env sc.names []) s3.heap.objs.size fp s3 (upd H s.heap.objs.size (.lst [])) (notedBy (model X.prog X.w) X.A (compEnvC sc (cloF X.env sc.names []) s3.heap.objs.size X.env) fun e s' => R (.error e) s')
    have I4 : Inv X' [] (List.replicate TN.length none ++ sub ix σ) (upd H s.heap.objs.size (.lst [])) { s3 with heap := h4, toks := s3.toks + ([] : List (Str × Value)).length } :=
      inv_comp S hix I3 hf3 (fun b hb => let ⟨o, e⟩ := hfo b hb; ⟨o, hk3 b o e⟩) hk4 hn4
    have fpx : ∀ {H' : Hp}, (∀ b ∈ fp, H' b = none) → ∀ b ∈ fp, FpOk X' [] H' b := fun {H'} hn b hb => by
      refine ⟨hn b hb, (I4.ok.exf b hb).1, fun z => I4.ok.exfs b hb z, .inl hb, fun x c e => (I4.ok.exf b hb).2 x c e, fun p hp => absurd (show p ∈ ([] : List (Addr × Obj)) from hp) (by simp)⟩
    refine comp_loop (fun n s' => ∃ i τ ys H', Inv X' [] τ H' s' ∧ tn i s'.heap ∧ (∀ b ∈ fp, H' b = none) ∧ W i n τ ys H') ?_ m0 ⟨0, _, [], _, I4, T.keep 0 _ _ st3 fun b hb o e => hk4 b o e, fun b hb => (hf3 b hb).1, w0⟩
    rintro n s5 ⟨i, τ, ys, H5, I5, st5, fr5, w5⟩
    obtain ⟨hD, hgo⟩ := go i n τ ys H5 w5
    rcases hgo with ⟨stop, q⟩ | ⟨hgo, step⟩
    · refine thn (T.done X' rfl rfl rfl hc i [] s5 τ H5 X'.xe I5 (fpx fr5) st5 stop) fun r s6 ⟨hr, I6⟩ => ?_
      subst hr
      show R (.ok .next) s6
      rw [← hR]
      have J6 : Inv X pins σ H5 s6 := I3.call' (ch := fp) I6.os I6.base I6.hok I6.bare fun b hb => ⟨(hf3 b hb).2.2.2.1, (hf3 b hb).2.1, (hf3 b hb).2.2.2.2.1, (hf3 b hb).2.2.2.2.2⟩
      refine fin s.heap.objs.size s3.heap.objs.size H5 s6 J6 (let ⟨m, hn, _⟩ := I6.loc; ⟨m, hn⟩) I6.free (Nat.ne_of_gt I3.lt) I3.sz (fun x c e z => ?_) (fun p hp z => ?_) q
      · obtain ⟨v, o, ho, _⟩ := I3.cell x c e
        exact absurd (Heap.lt_size ho) (by rw [z]; exact Nat.lt_irrefl _)
      · exact absurd (Heap.lt_size (I3.pin p hp).1) (by rw [z]; exact Nat.lt_irrefl _)
    · refine thn (T.item X' rfl rfl rfl hc i [] s5 τ H5 X'.xe I5 (fpx fr5) st5 hgo) fun r s6 ⟨u, hr, h6⟩ => ?_
      subst hr
      refine thn h6 fun _ s7 ⟨v, H7, I7, r7, y7, st7, fr7⟩ => ?_
      have I7' := I7.pinned (fpx fr7) (T.obj _ _ st7)
      refine thn (hg _ _ _ _ _ _ _ s7 τ H7 v u _ I7' r7 (step v H7 y7)) fun _ s8 ⟨τ8, H8, I8, q8⟩ => ?_
      refine thn (ht _ _ _ _ _ _ _ s8 τ8 H8 _ I8 q8) fun ok s9 ⟨H9, I9, q9⟩ => ?_
      have again : ∀ {ys' : List V} {H' : Hp} {s' : Shared}, Inv X' ([] ++ pinsAt fp s7.heap) τ8 H' s' → (∃ m', m' < n ∧ W (i + 1) m' τ8 ys' H') → ∃ m, m < n ∧ ∃ i τ ys H'', Inv X' [] τ H'' s' ∧ tn i s'.heap ∧ (∀ b ∈ fp, H'' b = none) ∧ W i m τ ys H'' := fun {ys' H' s'} I' ⟨m', hm, w'⟩ => by
        refine ⟨m', hm, i + 1, τ8, ys', H', I'.unpinned, T.keep _ _ _ st7 fun b hb o e => (I'.pin (b, o) (List.mem_append_right _ (List.mem_append_right _ (mem_pinsAt hb e)))).1, fun b hb => ?_, w'⟩
        obtain ⟨o, e, d⟩ := T.obj _ _ st7 b hb
        exact (I'.pin (b, o) (List.mem_append_right _ (List.mem_append_right _ (mem_pinsAt hb e)))).2.1
      cases ok with
      | false =>
        exact again I9 q9
      | true =>
        refine thn (he _ _ _ _ _ _ _ s9 τ8 H9 _ I9 q9) fun x s10 ⟨y, H10, I10, r10, hD10, hz10, q10⟩ => ?_
        exact append_ok (X := X') I10 hD10 hz10 r10 fun s11 I11 => again I11 q10
  subst hR
  exact codeAny_compStart_list (loop _ rfl) (T.self X.A 0 _ _ _ (T.keep 0 _ _ st3 fun b hb o e => hk4 b o e) (loop _ rfl))

section
variable {X : Cx} {sc : Scope} {TN F : List Str} {ix : List Nat} {elt tg iter : Expr} {ifs : List Expr} {pos : Pos} {g : TG} {tc : TT} {te : TE} {wi : TI}
theorem closure_of (S : CScope X.env.scope sc TN F) {pins : List (Addr × Obj)} {σ : St} {H : Hp} {s : Shared} (I : Inv X pins σ H s) : closureFor sc X.env = pure (cloF X.env sc.names []) :=
  closure_eq fun x hx hk => I.ok.has x.1 (.inl (S.fr x hx hk).1)
/-- [elt for tg in iter ..] -/
theorem pe_comp (S : CScope X.env.scope sc TN F) (hix : ix.map (fun i => X.N[i]?) = F.map some) (hc : X.calm = true) (hi : PI X tg iter wi)
    (hg : ∀ cl C fp s3 H3 xe, PG (cxC X (TN ++ F) sc cl C fp s3 H3 xe) tg g) (ht : ∀ cl C fp s3 H3 xe, PTs (cxC X (TN ++ F) sc cl C fp s3 H3 xe) ifs tc) (he : ∀ cl C fp s3 H3 xe, PE (cxC X (TN ++ F) sc cl C fp s3 H3 xe) elt te)
    (hs : ∀ x, foldedSetIterable iter X.env x = pure x := by intro _; rfl) : PE X (.ListComp elt [⟨tg, iter, ifs, 0⟩] sc pos) (tComp wi TN.length ix g tc te) := by
  intro pins s σ H Q I h
  rw [eval_ListComp]
  refine wpAny_comprehension_free (use := none) rfl hs (closure_of S I) S.kind S.names (thn (hi pins s σ H _ I h) fun v s1 h1 => thn h1 fun itv s2 h2 => ?_)
  obtain ⟨it, fp, tn, J, H2, e, I2, T, st2, f2, q2⟩ := h2
  subst e
  refine comp_block (RR := fun acc C => compPost (model X.prog X.w) X.A X.xe none (EP X pins σ Q) acc C) S hix hc I2 T st2 f2 hg ht he q2 fun D C H' s' I' hn hC1 hC2 hC3 hC4 hC5 q => ?_
  obtain ⟨m, hn⟩ := hn
  exact ⟨m, hn, fun h' hs' => ⟨.ref D, H', I'.turned (t' := s'.toks) (fun b o hb e => (hs'.2 b hb).trans e) hC1 hC2 (.inr hC3) hC4 hC5, rfl, q⟩⟩
/-- y = [elt for tg in iter ..], y a plain name of the def on the comprehension's own line -/
theorem ps_setC {i : Nat} {y : Str} {py spos : Pos} (hN : X.N.Nodup) (hiy : X.N[i]? = some y) (hy : X.env.scope.names.lookup y = some .local) (S : CScope X.env.scope sc TN F) (hix : ix.map (fun i => X.N[i]?) = F.map some) (hc : X.calm = true) (hi : PI X tg iter wi)
    (hg : ∀ cl C fp s3 H3 xe, PG (cxC X (TN ++ F) sc cl C fp s3 H3 xe) tg g) (ht : ∀ cl C fp s3 H3 xe, PTs (cxC X (TN ++ F) sc cl C fp s3 H3 xe) ifs tc) (he : ∀ cl C fp s3 H3 xe, PE (cxC X (TN ++ F) sc cl C fp s3 H3 xe) elt te)
    (hsw : swapsWith (.ListComp elt [⟨tg, iter, ifs, 0⟩] sc pos) (some (.Name y py)) spos.line X.env = pure true := by rfl)
    (hs : ∀ x, foldedSetIterable iter X.env x = pure x := by intro _; rfl) : PS X (.Assign [.Name y py] (.ListComp elt [⟨tg, iter, ifs, 0⟩] sc pos) spos) (tAsg (tComp wi TN.length ix g tc te) (gName i)) := by
  intro pins s σ H D I h
  rw [exec_Assign_Name_used _ _ _ _ hsw]; refine wpAny_bind (wpAny_standAt (wpAny_bind ?_))
  show wpAny _ X.A (do let _ ← comprehension (.ListComp elt [⟨tg, iter, ifs, 0⟩] sc pos) sc X.env _ (newList []) false (eval iter X.env) (some (assign (.Name y py) X.env))) _ _ s
  refine wpAny_bind (wpAny_mono (wpAny_comprehension_free (use := some (assign (.Name y py) X.env)) (Q := fun _ s' => SP X pins D .next s') rfl hs (closure_of S I) S.kind S.names
    (thn (hi pins s σ H _ I h) fun v s1 h1 => thn h1 fun itv s2 h2 => ?_)) (fun _ s' hq => wpAny_pure (wpAny_pure hq)) fun _ _ e => e)
  obtain ⟨it, fp, tn, J, H2, e, I2, T, st2, f2, q2⟩ := h2
  subst e
  refine comp_block (RR := fun acc C => compPost (model X.prog X.w) X.A X.xe (some (assign (.Name y py) X.env)) (fun _ s' => SP X pins D .next s') acc C) S hix hc I2 T st2 f2 hg ht he q2 fun Dl C H' s' I' hn hC1 hC2 hC3 hC4 hC5 q => ?_
  obtain ⟨m, hn⟩ := hn
  show wpAny _ X.A (assign (.Name y py) X.env (.ref Dl)) _ _ _
  refine wpAny_assign_Name (store_ok2 I' hN hiy (.inl hy) (show RelV (.ref Dl) (.ref Dl) from rfl) (fun s'' I'' ⟨a, hsb, ha⟩ => ?_) (.inr hy))
  have haC : C ≠ a := by
    rcases ha with z | z
    · rw [z]; exact hC2
    · exact fun z' => hC4 y a z z'.symm
  refine ⟨m, hn.sameBut hsb haC, fun h' hs' => ?_⟩
  exact ⟨_, H', I''.turned (t' := s''.toks) (fun b o hb e => (hs'.2 b hb).trans e) hC1 hC2 (.inr hC3) hC4 hC5, q⟩
end
end L2

set_option Elab.async false
set_option linter.all false
set_option maxRecDepth 100000
namespace L2
open PySem PySem.Spec PyProof.Rows
/-! ### readings that reckon -/
def seqAt (H : Hp) (p : Addr) : Option (List V) := match H p with
  | some (.lst xs) => some xs
  | some (.tup xs) => some xs
  | _ => none
def dAt (H : Hp) (x y : V) : Option V := match x, y with
  | .ref p, .int i => (seqAt H p).bind fun xs => atI xs i
  | _, _ => none
def rIxd : R2 := fun x y H Q => ∃ v, dAt H x y = some v ∧ Q v H
section
variable {X : Cx}
theorem ix_d : IxR X rIxd := by
  intro value slice pins s σ H x y v u Q I rx ry h hs
  refine ix_seq value slice pins s σ H x y v u Q I rx ry ?_ hs
  obtain ⟨z, e, q⟩ := h
  unfold dAt at e
  split at e
  case h_2 => cases e
  case h_1 p i =>
    unfold seqAt at e
    split at e
    case h_1 xs hp => exact .inl ⟨_, xs, _, z, rfl, rfl, SqL.of hp, e, q⟩
    case h_2 xs hp => exact .inr (.inl ⟨_, xs, _, z, rfl, rfl, SqT.of hp, e, q⟩)
    case h_3 => cases e
def dSet (H : Hp) (o i v : V) : Option Hp := match o, i with
  | .ref p, .int k => match H p with
    | some (.lst xs) => (ixN xs.length k).map fun j => upd H p (.lst (xs.set j v))
    | _ => none
  | _, _ => none
def rSetd : V → V → V → Hp → (Hp → Prop) → Prop := fun o i v H Q => ∃ H', dSet H o i v = some H' ∧ Q H'
theorem set_d : PSet X rSetd := by
  intro pins s σ H o i v ov iv u Q I ro ri rv h
  refine set_list pins s σ H o i v ov iv u Q I ro ri rv ?_
  obtain ⟨H', e, q⟩ := h
  unfold dSet at e
  split at e
  case h_2 => cases e
  case h_1 p k =>
    split at e
    case h_2 => cases e
    case h_1 xs hp =>
      cases ej : ixN xs.length k with
      | none => rw [ej] at e; cases e
      | some j =>
        rw [ej] at e
        cases e
        exact ⟨p, xs, k, j, rfl, rfl, hp, ej, q⟩
end
end L2
namespace L2
open PySem PySem.Spec PyProof.Rows
/-! ### steps of a reading -/
section
variable {σ : St} {H : Hp} {Q : VK} {D : Ends} {t u : TS} {te ta tb : TE} {tr : TA} {g : TG} {r : R2} {x y v : V} {c : TT} {QB : Bool → Hp → Prop} {QL : List V → Hp → Prop} {QG : St → Hp → Prop} {n : Nat}
theorem w_seq (h : t { D with nx := u D } σ H) : tSeq t u D σ H := h
theorem w_next (h : D.nx σ H) : tNext D σ H := h
theorem w_asg (h : te σ H fun x H1 => g x σ H1 D.nx) : tAsg te g D σ H := h
theorem w_gname {i : Nat} (h : QG (σ.set i (some v)) H) : gName i v σ H QG := h
theorem w_op (h : ta σ H fun x H1 => tb σ H1 fun y H2 => r x y H2 Q) : tOp r ta tb σ H Q := h
theorem w_var {i : Nat} (e : σ[i]? = some (some v)) (h : Q v H) : tVar i σ H Q := ⟨v, e, h⟩
theorem w_c (h : Q v H) : tC v σ H Q := h
theorem w_rI0 {k : Int → Int → V} {i j : Int} (h : Q (k i j) H) : rI0 k (.int i) (.int j) H Q := ⟨i, j, rfl, rfl, h⟩
theorem w_rI {C : Int → Int → Prop} {k : Int → Int → V} {i j : Int} (hc : C i j) (h : Q (k i j) H) : rI C k (.int i) (.int j) H Q := ⟨i, j, rfl, rfl, hc, h⟩
theorem w_ifs {b : TS} (h : c σ H fun b' H1 => if b' = true then t D σ H1 else b D σ H1) : tIfS c t b D σ H := h
theorem w_test (h : te σ H fun x H' => ∃ k, x = .bl k ∧ QB k H') : tTest te σ H QB := h
theorem w_tb (h : te σ H fun x H' => ∃ k, x = .bl k ∧ QB k H') : tB te σ H QB := h
theorem w_bl {b : Bool} {P : Bool → Prop} (h : P b) : ∃ k, V.bl b = .bl k ∧ P k := ⟨b, rfl, h⟩
theorem w_not (h : c σ H fun b H1 => QB (!b) H1) : tNot c σ H QB := h
theorem w_ret (h : te σ H D.rt) : tRet te D σ H := h
theorem w_nil (h : QL [] H) : tNil σ H QL := h
theorem w_cons (h : te σ H fun x H1 => tr σ H1 fun xs H2 => QL (x :: xs) H2) : tCons te tr σ H QL := h
theorem w_lst (h : tr σ H fun xs H1 => xs.length ≤ sizeLine ∧ ∀ p, H1 p = none → Q (.ref p) (upd H1 p (.lst xs))) : tLst tr σ H Q := h
theorem w_tup (h : tr σ H fun xs H1 => xs.length ≤ sizeLine ∧ ∀ p, H1 p = none → Q (.ref p) (upd H1 p (.tup xs))) : tTup tr σ H Q := h
theorem w_cb {r : List V → Hp → VK → Prop} (h : tr σ H fun vs H1 => r vs H1 Q) : tCB r tr σ H Q := h
theorem w_call {sp : Sp} {dvs : List V} {E : XK} (h : tr σ H fun vs H1 => sp (vs ++ dvs) H1 Q E) : tCall sp dvs E tr σ H Q := h
theorem w_gsub {to ti : TE} {ts : TSet} (h : to σ H fun o H1 => ti σ H1 fun i H2 => ts o i v H2 fun H3 => QG σ H3) : gSub to ti ts v σ H QG := h
theorem w_ixL {p : Addr} {xs : List V} {i : Int} (hp : H p = some (.lst xs)) (e : atI xs i = some v) (h : Q v H) : rIxd (.ref p) (.int i) H Q := ⟨v, by simp only [dAt, seqAt, hp, Option.bind_some, e], h⟩
theorem w_ixT {p : Addr} {xs : List V} {i : Int} (hp : H p = some (.tup xs)) (e : atI xs i = some v) (h : Q v H) : rIxd (.ref p) (.int i) H Q := ⟨v, by simp only [dAt, seqAt, hp, Option.bind_some, e], h⟩
theorem w_set {p : Addr} {xs : List V} {i : Int} {j : Nat} {QH : Hp → Prop} (hp : H p = some (.lst xs)) (e : ixN xs.length i = some j) (h : QH (upd H p (.lst (xs.set j v)))) : rSetd (.ref p) (.int i) v H QH :=
  ⟨_, by simp only [dSet, hp, e, Option.map_some], h⟩
theorem w_and {c d : TT} (h : c σ H fun b H1 => if b = true then d σ H1 QB else QB false H1) : tAnd c d σ H QB := h
theorem w_or {c d : TT} (h : c σ H fun b H1 => if b = true then QB true H1 else d σ H1 QB) : tOr c d σ H QB := h
theorem iteD {p A B : Prop} [Decidable p] (h1 : p → A) (h2 : ¬ p → B) : if decide p = true then A else B := by
  by_cases h : p
  · rw [decide_eq_true h, if_pos rfl]
    exact h1 h
  · rw [decide_eq_false h, if_neg Bool.false_ne_true]
    exact h2 h
end
end L2
namespace L2
open PySem PySem.Spec PyProof.Rows
/-- a def of the text that is there and keeps its promise -/
def Has (P : Program) (w : World) (K : PySem.W.Frag) (mg : Str → Option Value) (base : Heap) (k : Nat) (x : Str) (ps : List Str) (sp : Sp) : Prop :=
  ∃ f fd, FnOk P w K mg base CX0 k f fd ps sp ∧ mg x = some (.ref f) ∧ PySem.W.keepIn K (.ref f) = true ∧ Binds K fd ps []
theorem pe_fn {X : Cx} {k j : Nat} {x : Str} {ps : List Str} {sp : Sp} {e : Expr} {es : List Expr} {t : TA} {p pos : Pos} (h : Has X.prog X.w X.K X.mg X.base k x ps sp) (hr : Room j X.A) (hkj : k ≤ j) (ha : PA X (e :: es) t) (hg : Gl X x := by rfl)
    (hdb : (x == ("__debug__" : Str)) = false := by decide) (he : starEach (e :: es) X.env = (false, eval e X.env) :: starEach es X.env := by rfl) (hpl : (backTo pos (starEach es X.env)).any (·.1) = false := by rfl) :
    PE X (.Call (.Name x p) (e :: es) [] pos) (tCall sp [] E0 t) := by
  obtain ⟨f, fd, F, hm, hk, hb⟩ := h
  exact pe_call F (hr.mono hkj) hg hm hk hb .nil pass0 ha hdb he hpl
section
variable {lo : Int} {n : Nat} {D : Addr} {te : TE} {tc : TT} {Q : VK} {ρ : St} {H : Hp}
/-- a block over a range, one name -/
theorem cgo_range (Pv : Nat → List V → Hp → Prop) (h0 : Pv 0 [] (upd H D (.lst [])))
    (hs : ∀ i ys H', i < n → Pv i ys H' → H' D = some (.lst ys) → ∀ (R : V → Hp → Prop) (S : Hp → Prop), (∀ y H4, H4 D = some (.lst ys) → ys.length < sizeLine → Pv (i + 1) (ys ++ [y]) (upd H4 D (.lst (ys ++ [y]))) → R y H4) → (∀ H3, H3 D = some (.lst ys) → Pv (i + 1) ys H3 → S H3) →
      tc (some (.int (lo + i)) :: ρ) H' fun b H3 => if b = true then te (some (.int (lo + i)) :: ρ) H3 R else S H3)
    (hd : ∀ ys H', Pv n ys H' → H' D = some (.lst ys) → Q (.ref D) H') : CGo (Itr lo n) D (gName 0) tc te Q (none :: ρ) H := by
  refine ⟨fun i m τ ys H' => m = n - i ∧ i ≤ n ∧ (∃ tv, τ = tv :: ρ) ∧ Pv i ys H' ∧ H' D = some (.lst ys), ⟨n, by omega, Nat.zero_le _, ⟨_, rfl⟩, h0, upd_same⟩, ?_⟩
  rintro i m τ ys H' ⟨rfl, hi, ⟨tv, rfl⟩, hp, hD⟩
  refine ⟨hD, ?_⟩
  by_cases hlt : i < n
  · refine .inr ⟨hlt, ?_⟩
    rintro v H'' ⟨rfl, rfl⟩
    show tc (some (.int (lo + i)) :: ρ) _ _
    exact hs i ys _ hlt hp hD _ _ (fun y H4 a b c => ⟨a, b, n - (i + 1), by omega, rfl, hlt, ⟨_, rfl⟩, c, upd_same⟩) fun H3 a c => ⟨n - (i + 1), by omega, rfl, hlt, ⟨_, rfl⟩, c, a⟩
  · have e : i = n := by omega
    subst e
    exact .inl ⟨Nat.le_refl _, hd ys _ hp hD⟩
/-- a block over a tuple, one name -/
theorem cgo_tup {K : PySem.W.Frag} {a : Addr} {xs : List V} (Pv : Nat → List V → Hp → Prop) (h0 : Pv 0 [] (upd H D (.lst []))) (hl : ∀ i ys H', i ≤ xs.length → Pv i ys H' → SqT K H' a xs)
    (hs : ∀ i x ys H', xs[i]? = some x → Pv i ys H' → H' D = some (.lst ys) → ∀ (R : V → Hp → Prop) (S : Hp → Prop), (∀ y H4, H4 D = some (.lst ys) → ys.length < sizeLine → Pv (i + 1) (ys ++ [y]) (upd H4 D (.lst (ys ++ [y]))) → R y H4) → (∀ H3, H3 D = some (.lst ys) → Pv (i + 1) ys H3 → S H3) →
      tc (some x :: ρ) H' fun b H3 => if b = true then te (some x :: ρ) H3 R else S H3)
    (hd : ∀ ys H', Pv xs.length ys H' → H' D = some (.lst ys) → Q (.ref D) H') : CGo (Itt K a) D (gName 0) tc te Q (none :: ρ) H := by
  refine ⟨fun i m τ ys H' => m = xs.length - i ∧ i ≤ xs.length ∧ (∃ tv, τ = tv :: ρ) ∧ Pv i ys H' ∧ H' D = some (.lst ys), ⟨xs.length, by omega, Nat.zero_le _, ⟨_, rfl⟩, h0, upd_same⟩, ?_⟩
  rintro i m τ ys H' ⟨rfl, hi, ⟨tv, rfl⟩, hp, hD⟩
  refine ⟨hD, ?_⟩
  have sq := hl i ys H' hi hp
  by_cases hlt : i < xs.length
  · refine .inr ⟨⟨xs, xs[i], sq, by simp [hlt]⟩, ?_⟩
    rintro v H'' ⟨rfl, hv⟩
    have hv' := hv xs sq
    show tc (some v :: ρ) _ _
    exact hs i v ys _ hv' hp hD _ _ (fun y H4 a b c => ⟨a, b, xs.length - (i + 1), by omega, rfl, hlt, ⟨_, rfl⟩, c, upd_same⟩) fun H3 a c => ⟨xs.length - (i + 1), by omega, rfl, hlt, ⟨_, rfl⟩, c, a⟩
  · have e : i = xs.length := by omega
    subst e
    exact .inl ⟨⟨xs, sq, Nat.le_refl _⟩, hd ys _ hp hD⟩
end
theorem w_all {σ : St} {H : Hp} {Q : Bool → Hp → Prop} (h : Q true H) : tAll σ H Q := h
end L2
namespace L2
open PySem PySem.Spec PyProof.Rows
def relabelS (sc o : Scope) : Scope :=
  { sc with names := sc.names.map fun (n, k) => if (k == .free && o.kind == .function && o.names.lookup n == some .cell) then (n, .cell) else (n, k) }
instance {sc : Scope} {x : Str} : Decidable (Vis sc x) := by unfold Vis; infer_instance
/-- a block's scope, with all that its names want; G: the module's names that it reads -/
structure BScope (o sc : Scope) (TN F G : List Str) : Prop extends CScope o sc TN F where
  nd : (TN ++ F).Nodup
  vis : ∀ x ∈ TN ++ F, Vis (relabelS sc o) x
  loc : ∀ x ∈ TN, (relabelS sc o).names.lookup x = some .local
  gl : ∀ x ∈ G, (relabelS sc o).names.lookup x = some .globalImplicit
section
variable {X : Cx} {sc : Scope} {TN F G : List Str} {cl : List (Str × Addr)} {C : Addr} {fp : List Addr} {s3 : Shared} {H3 : Hp} {xe : Value → Shared → Prop} {x : Str} {pos : Pos}
theorem pvb (S : BScope X.env.scope sc TN F G) (i : Nat) (hN : (TN ++ F)[i]? = some x := by rfl) (hd : (x == ("__debug__" : Str)) = false := by decide) (hcd : (x == ("__classdict__" : Str)) = false := by decide) : PE (cxC X (TN ++ F) sc cl C fp s3 H3 xe) (.Name x pos) (tVar i) :=
  pe_var hN (S.vis x (List.mem_of_getElem? hN)) hd hcd
theorem pgb (S : BScope X.env.scope sc TN F G) (i : Nat) (hN : (TN ++ F)[i]? = some x := by rfl) (hT : TN[i]? = some x := by rfl) : PG (cxC X (TN ++ F) sc cl C fp s3 H3 xe) (.Name x pos) (gName i) :=
  pg_name S.nd hN (.inl (S.loc x (List.mem_of_getElem? hT))) (.inr (S.loc x (List.mem_of_getElem? hT)))
theorem BScope.g (S : BScope X.env.scope sc TN F G) (i : Nat) (hG : G[i]? = some x := by rfl) : Gl (cxC X (TN ++ F) sc cl C fp s3 H3 xe) x := S.gl x (List.mem_of_getElem? hG)
end
end L2
namespace L2
open PySem PySem.Spec PyProof.Rows
/-! ### rows of written constants -/
def constV : Expr → Option V
  | .Constant (.int n) _ _ => some (.int n)
  | .Constant (.str y) _ _ => some (.str y)
  | .Constant (.bool b) _ _ => some (.bl b)
  | .Constant .none _ _ => some .non
  | _ => none
def constsOf : List Expr → Option (List V)
  | [] => some []
  | e :: r => match constV e, constsOf r with
    | some v, some vs => some (v :: vs)
    | _, _ => none
def tVals (vs : List V) : TA := fun _ H Q => Q vs H
end L2
namespace L2
open PySem PySem.Spec PyProof.Rows
instance {sc : Scope} {x : Str} : Decidable (Loc sc x) := by unfold Loc; infer_instance
/-- a def's names -/
structure Nm (N : List Str) (sc : Scope) : Prop where
  nd : N.Nodup
  loc : ∀ x ∈ N, Loc sc x
section
variable {X : Cx} {x : Str} {pos : Pos}
theorem Loc.vis {sc : Scope} (h : Loc sc x) : Vis sc x := h.elim .inl fun z => .inr (.inl z)
theorem pvd (M : Nm X.N X.env.scope) (i : Nat) (hN : X.N[i]? = some x := by rfl) (hd : (x == ("__debug__" : Str)) = false := by decide) (hcd : (x == ("__classdict__" : Str)) = false := by decide) : PE X (.Name x pos) (tVar i) :=
  pe_var hN (M.loc x (List.mem_of_getElem? hN)).vis hd hcd
theorem ps_setD {e : Expr} {te : TE} {pos' : Pos} (M : Nm X.N X.env.scope) (i : Nat) (he : PE X e te) (hi : X.N[i]? = some x := by rfl) (hs : swapsWith e (some (.Name x pos')) pos.line X.env = pure false := by rfl) (hf : X.fn x = true := by rfl) :
    PS X (.Assign [.Name x pos'] e pos) (tAsg te (gName i)) := ps_set M.nd hi (M.loc x (List.mem_of_getElem? hi)) he hs (.inl hf)
theorem pgd (M : Nm X.N X.env.scope) (i : Nat) (hi : X.N[i]? = some x := by rfl) (hf : X.fn x = true := by rfl) : PG X (.Name x pos) (gName i) := pg_name M.nd hi (M.loc x (List.mem_of_getElem? hi)) (.inl hf)
end
end L2
namespace L2
open PySem PySem.Spec PyProof.Rows
section
variable {X : Cx} {l rest : List Stmt} {st : Stmt} {t u : TS} {e e' : Expr} {te : TE}
end
end L2
namespace L2
open PySem PySem.Spec PyProof.Rows
section
variable {ta : TA} {tl : TE} {n : Nat} {ix : List Nat} {g : TG} {tc : TT} {te : TE} {σ : St} {H : Hp} {Q : VK}
theorem w_compR (h : ta σ H fun vs H1 => ∃ j : Int, vs = [.int j] ∧ -(2 ^ 62) ≤ j ∧ j < 2 ^ 62 ∧ ∀ D, H1 D = none → CGo (Itr 0 j.toNat) D g tc te Q (List.replicate n none ++ sub ix σ) H1) : tComp (iRng1 ta) n ix g tc te σ H Q := h
theorem w_compT {K : PySem.W.Frag} (h : tl σ H fun x H1 => ∃ a, x = .ref a ∧ (∃ xs, SqT K H1 a xs) ∧ ∀ D, H1 D = none → CGo (Itt K a) D g tc te Q (List.replicate n none ++ sub ix σ) H1) : tComp (iTup K tl) n ix g tc te σ H Q := h
end
end L2
namespace L2
open PySem PySem.Spec PyProof.Rows
/-- a loop's reading, the iterator J at hand -/
def ForJ (J : It) (g : TG) (tb : TS) (D : Ends) (σ : St) (H1 : Hp) : Prop := ∃ W : Nat → Nat → St → Hp → Prop, (∃ m, W 0 m σ H1) ∧ ∀ i m σ H, W i m σ H →
  (J.stop i H ∧ D.nx σ H) ∨ (J.go i H ∧ ∃ N : St → Hp → Prop, (∀ σ' H', N σ' H' → ∃ m', m' < m ∧ W (i + 1) m' σ' H') ∧ ∀ x H', J.yld i H x H' → g x σ H' fun σ2 H2 => tb { D with nx := N, ct := N, bk := D.nx } σ2 H2)
theorem w_forR {ta : TA} {g : TG} {tb : TS} {D : Ends} {σ : St} {H : Hp} (h : ta σ H fun vs H1 => ∃ j : Int, vs = [.int j] ∧ -(2 ^ 62) ≤ j ∧ j < 2 ^ 62 ∧ ForJ (Itr 0 j.toNat) g tb D σ H1) : tFor (iRng1 ta) g tb D σ H := h
theorem w_forT {K : PySem.W.Frag} {tl : TE} {g : TG} {tb : TS} {D : Ends} {σ : St} {H : Hp} (h : tl σ H fun x H1 => ∃ a, x = .ref a ∧ (∃ xs, SqT K H1 a xs) ∧ ForJ (Itt K a) g tb D σ H1) : tFor (iTup K tl) g tb D σ H := h
theorem w_forL {K : PySem.W.Frag} {tl : TE} {g : TG} {tb : TS} {D : Ends} {σ : St} {H : Hp} (h : tl σ H fun x H1 => ∃ a, x = .ref a ∧ (∃ xs, SqL K H1 a xs) ∧ ForJ (Itl K a) g tb D σ H1) : tFor (iList K tl) g tb D σ H := h
end L2
namespace L2
open PySem PySem.Spec PyProof.Rows
/-! ### arguments, without running them -/
def isStar : Expr → Bool
  | .Starred .. => true
  | _ => false
theorem star1 {e : Expr} {es : List Expr} {env : Env} (h : isStar e = false) : starEach (e :: es) env = (false, eval e env) :: starEach es env := by
  cases e <;> first | rfl | cases h
theorem star_any {env : Env} {pos : Pos} : ∀ {es : List Expr}, es.all (fun e => !isStar e) = true → (backTo pos (starEach es env)).any (·.1) = false
  | [], _ => rfl
  | e :: es, h => by
    rw [List.all_cons, Bool.and_eq_true] at h; rw [star1 (by simpa using h.1)]
    cases es with
    | nil => rfl
    | cons a r =>
      have ih := star_any (env := env) (pos := pos) (es := a :: r) h.2
      rw [star1 (by simpa using (by simpa using h.2 : isStar a = false ∧ _).1)] at ih ⊢
      exact ih
end L2
namespace L2
open PySem PySem.Spec PyProof.Rows
section
variable {X : Cx} {e a : Expr} {es : List Expr} {te : TE} {t ta : TA} {x : Str} {p pos : Pos} {tg : Expr} {id T : String} {r : List V → Hp → VK → Prop}
theorem pa_c (ha : PE X e te) (hr : PA X es t) (h : isStar e = false := by rfl) : PA X (e :: es) (tCons te t) := pa_cons ha hr (star1 h)
theorem pi_r1 (hm : X.mg "range" = none) (ha : PA X [a] ta) (hg : Gl X "range" := by rfl) (h : isStar a = false := by rfl) : PI X tg (.Call (.Name "range" p) [a] [] pos) (iRng1 ta) := pi_range1 hg hm ha (star1 h)
theorem pe_cB (hc : CallR X (.builtin id) r) (hm : X.mg x = none) (hv : bootBuiltins x = some (.builtin id)) (ha : PA X (e :: es) t) (hg : Gl X x := by rfl) (h : isStar e = false := by rfl) (h2 : es.all (fun e => !isStar e) = true := by rfl) (hn : x ≠ "__name__" := by decide) (hdb : (x == ("__debug__" : Str)) = false := by decide) :
    PE X (.Call (.Name x p) (e :: es) [] pos) (tCB r t) := pe_callB hc hg hm hv ha hn hdb (star1 h) (star_any h2)
theorem pe_cT (hc : CallR X (.type T) r) (hm : X.mg x = none) (hv : bootBuiltins x = some (.type T)) (ha : PA X (e :: es) t) (hg : Gl X x := by rfl) (h : isStar e = false := by rfl) (h2 : es.all (fun e => !isStar e) = true := by rfl) (hn : x ≠ "__name__" := by decide) (hdb : (x == ("__debug__" : Str)) = false := by decide) :
    PE X (.Call (.Name x p) (e :: es) [] pos) (tCB r t) := pe_callTy hc hg hm hv ha hn hdb (star1 h) (star_any h2)
theorem pe_f {k j : Nat} {ps : List Str} {sp : Sp} (h : Has X.prog X.w X.K X.mg X.base k x ps sp) (hr : Room j X.A) (hkj : k ≤ j) (ha : PA X (e :: es) t) (hg : Gl X x := by rfl) (h1 : isStar e = false := by rfl) (h2 : es.all (fun e => !isStar e) = true := by rfl)
    (hdb : (x == ("__debug__" : Str)) = false := by decide) : PE X (.Call (.Name x p) (e :: es) [] pos) (tCall sp [] E0 t) := pe_fn h hr hkj ha hg hdb (star1 h1) (star_any h2)
end
end L2
namespace L2
theorem pa_1 {X : Cx} {e : PySem.Expr} {te : TE} (ha : PE X e te) (h : isStar e = false := by rfl) : PA X [e] (tCons te tNil) := pa_c ha pa_nil h
theorem pa_2 {X : Cx} {e e' : PySem.Expr} {te te' : TE} (ha : PE X e te) (hb : PE X e' te') (h : isStar e = false := by rfl) (h' : isStar e' = false := by rfl) : PA X [e, e'] (tCons te (tCons te' tNil)) := pa_c ha (pa_1 hb h') h
end L2
namespace L2
open PySem PySem.Spec PyProof.Rows
theorem w_drop {te : TE} {D : Ends} {σ : St} {H : Hp} (h : te σ H fun _ H1 => D.nx σ H1) : tDrop te D σ H := h
theorem w_bm {K : PySem.W.Frag} {T : String} {r : V → List V → Hp → VK → Prop} {to : TE} {t : TA} {σ : St} {H : Hp} {Q : VK} (h : to σ H fun x H1 => tyV K T x H1 ∧ t σ H1 fun xs H2 => r x xs H2 Q) : tBM K T r to t σ H Q := h
end L2

set_option Elab.async false
set_option linter.all false
set_option maxRecDepth 100000
namespace L2
open PySem PySem.Spec PyProof.Rows
/-! ### data: what a value reads as -/
mutual
inductive RdV (H : Hp) : V → PyData → Prop
  | non : RdV H .non .none
  | bl (b : Bool) : RdV H (.bl b) (.bool b)
  | int (i : Int) : RdV H (.int i) (.int i)
  | str (x : Str) : RdV H (.str x) (.str x)
  | lst {p : Addr} {xs : List V} {ds : List PyData} : H p = some (.lst xs) → RdVs H xs ds → RdV H (.ref p) (.list ds)
  | tup {p : Addr} {xs : List V} {ds : List PyData} : H p = some (.tup xs) → RdVs H xs ds → RdV H (.ref p) (.tuple ds)
inductive RdVs (H : Hp) : List V → List PyData → Prop
  | nil : RdVs H [] []
  | cons {v : V} {d : PyData} {vs : List V} {ds : List PyData} : RdV H v d → RdVs H vs ds → RdVs H (v :: vs) (d :: ds)
end
section
variable {X : Cx} {pins : List (Addr × Obj)} {σ : St} {H : Hp} {s : Shared}
mutual
theorem RdV.reads (I : Inv X pins σ H s) {v : V} {d : PyData} : RdV H v d → ∀ {u : Value}, RelV v u → ∃ as, Reads s.heap u d as
  | .non, u, r => by
    cases r
    exact ⟨[], .none⟩
  | .bl b, u, r => by
    cases r
    exact ⟨[], .bool b⟩
  | .int i, u, r => by
    obtain ⟨t, rfl⟩ := r
    exact ⟨[], .int i t⟩
  | .str x, u, r => by
    obtain ⟨t, rfl⟩ := r
    exact ⟨[], .str x t⟩
  | .lst (p := p) hp h, u, r => by
    cases r
    obtain ⟨its, n, rv, e, z⟩ := I.lst hp
    obtain ⟨as, q⟩ := RdVs.reads I h rv
    exact ⟨p :: as, .list e rfl rfl (by simpa using q)⟩
  | .tup (p := p) hp h, u, r => by
    cases r
    obtain ⟨z, its, rv, o, e, c, n, d⟩ := I.hok p _ hp
    obtain ⟨as, q⟩ := RdVs.reads I h rv
    exact ⟨as, .tuple e c d (by simpa using q)⟩
theorem RdVs.reads (I : Inv X pins σ H s) {vs : List V} {ds : List PyData} : RdVs H vs ds → ∀ {us : List Value}, Vals vs us → ∃ as, ReadsAll s.heap us ds as
  | .nil, us, r => by
    cases r
    exact ⟨[], .nil⟩
  | .cons h hs, us, r => by
    cases r with
    | cons r1 r2 =>
      obtain ⟨as, q⟩ := RdV.reads I h r1
      obtain ⟨bs, q2⟩ := RdVs.reads I hs r2
      exact ⟨as ++ bs, .cons q q2⟩
end
end
theorem rdInts {H : Hp} : ∀ (ns : List Int), RdVs H (ns.map V.int) (ns.map PyData.int)
  | [] => .nil
  | n :: ns => .cons (.int n) (rdInts ns)
end L2
namespace L2
open PySem PySem.Spec PyProof.Rows
section
variable {X : Cx} {k : Nat}
def rEqD : R2 := fun x y H Q => ∃ dx dy, RdV H x dx ∧ RdV H y dy ∧ dx.canLay0 = true ∧ dy.canLay0 = true ∧ dx.depth ≤ 60 ∧ Q (.bl (PyData.eqv dx dy)) H
def rRepr : List V → Hp → VK → Prop := fun xs H Q => ∃ v d, xs = [v] ∧ RdV H v d ∧ d.showable = true ∧ d.hasDict = false ∧ d.depth ≤ 50 ∧ d.shown.length ≤ sizeLine ∧ Q (.str d.shown) H
theorem call_repr (hr : Room k X.A) : CallR X (.builtin "repr") rRepr := by
  intro pins s σ H xs us Q I r h
  obtain ⟨v, d, rfl, hv, h1, h2, h3, h4, q⟩ := h
  obtain ⟨u, rfl, ru⟩ := r.one
  have hu := hr.units
  cases hv with
  | non =>
    cases ru
    exact PySem.P.repr_of_none ⟨.str _, H, I.tok _, ⟨_, rfl⟩, q⟩
  | bl b =>
    cases ru
    exact PySem.P.repr_of_bool ⟨.str _, H, I.tok _, ⟨_, rfl⟩, q⟩
  | int i =>
    obtain ⟨t, rfl⟩ := ru
    exact PySem.P.repr_of_int (by simpa [PyData.showable] using h1) ⟨.str _, H, I.tok _, ⟨_, rfl⟩, q⟩
  | str x =>
    obtain ⟨t, rfl⟩ := ru
    exact PySem.P.repr_of_str ⟨.str _, H, I.tok _, ⟨_, rfl⟩, q⟩ h4
  | lst hp hs =>
    obtain ⟨as, ra⟩ := RdV.reads I (.lst hp hs) ru
    cases ru
    exact repr_of_reads' ra h1 (fun z => by rw [h2] at z; cases z) hr.gd (by omega) (fun _ _ e => e) (fun h' u tk hk => ⟨.str _, H, I.kept hk, ⟨_, rfl⟩, q⟩) h4
  | tup hp hs =>
    obtain ⟨as, ra⟩ := RdV.reads I (.tup hp hs) ru
    cases ru
    exact repr_of_reads' ra h1 (fun z => by rw [h2] at z; cases z) hr.gd (by omega) (fun _ _ e => e) (fun h' u tk hk => ⟨.str _, H, I.kept hk, ⟨_, rfl⟩, q⟩) h4
end
end L2
namespace L2
open PySem PySem.Spec PyProof.Rows
theorem depth_ints : ∀ (ns : List Int), PyData.depthAll (ns.map PyData.int) = 0
  | [] => rfl
  | n :: ns => by simp [PyData.depthAll, PyData.depth, depth_ints ns]
end L2
namespace L2
open PySem PySem.Spec PyProof.Rows
section
variable {X : Cx}
/-- range(n), as a thing of its own -/
def rRange : List V → Hp → VK → Prop := fun xs H Q => ∃ j : Int, xs = [.int j] ∧ ∀ r, H r = none → Q (.ref r) (upd H r (.rng 0 j))
def rListR : List V → Hp → VK → Prop := fun xs H Q => ∃ (p : Addr) (n : Nat), xs = [.ref p] ∧ H p = some (.rng 0 (n : Int)) ∧ n ≤ 1000 ∧ ∀ l, H l = none → Q (.ref l) (upd H l (.lst ((List.range n).map fun (i : Nat) => V.int (i : Int))))
end
end L2

set_option Elab.async false
set_option linter.all false
set_option maxRecDepth 100000
namespace L2
open PySem PySem.Spec PyProof.Rows
section
variable {X : Cx}
/-- the ints of a row of values -/
theorem ints_of : ∀ {ns : List Int} {us : List Value}, Vals (ns.map V.int) us → ∃ xs : List (Int × Tok), us = xs.map (fun q => Value.int q.1 q.2) ∧ xs.map (·.1) = ns
  | [], us, r => by
    cases r
    exact ⟨[], rfl, rfl⟩
  | n :: ns, us, r => by
    cases r with
    | cons r1 r2 =>
      obtain ⟨t, rfl⟩ := r1
      obtain ⟨xs, rfl, e⟩ := ints_of r2
      exact ⟨(n, t) :: xs, rfl, by simp [e]⟩
def rSum : List V → Hp → VK → Prop := fun xs H Q => ∃ (p : Addr) (ns : List Int), xs = [.ref p] ∧ H p = some (.lst (ns.map V.int)) ∧ Q (.int ns.sum) H
theorem call_sum (hc : X.calm = true) : CallR X (.builtin "sum") rSum := by
  intro pins s σ H xs us Q I r h
  obtain ⟨p, ns, rfl, hp, q⟩ := h
  obtain ⟨u, rfl, ru⟩ := r.one
  cases ru
  obtain ⟨its, n, rv, e, z⟩ := I.lst hp
  obtain ⟨ys, rfl, hy⟩ := ints_of rv
  have hl : s.heap.IsList p (intItems ys.toArray) := ⟨_, e, rfl, n, by simp [intItems]⟩
  refine sum_intListG (I.ok.hd hc) hl fun h' tk t' hk => ⟨.int ns.sum, H, I.kept hk, ⟨t', ?_⟩, q⟩
  congr 1
  have hlen : ys.length = ns.length := by rw [← hy, List.length_map]
  rw [preSum_eq]
  simp [hy, hlen]
end
end L2

set_option Elab.async false
set_option linter.all false
set_option maxRecDepth 100000
namespace L2
open PySem PySem.Spec PyProof.Rows
section
variable {prog : Program} {w : World} {A : Around} {E : Value → Shared → Prop} {s : Shared}
/-- the next of a tuple's iterator, as another iterator draws it -/
theorem nextT_item {j t : Addr} {i : Nat} {its : Array Value} {v : Value} {Q : Value → Shared → Prop} (J : s.heap.IsTupleIter j t i) (T : s.heap.IsTuple t its) (e : its[i]? = some v)
    (k : ∀ h', h'.IsTupleIter j t (i + 1) → Heap.SameBut j s.heap h' → Q v { s with heap := h' }) : wpAny (model prog w) A (Builtin.SmallTypes.nextOf (.ref j)) Q E s := by
  obtain ⟨o, ho, hc, hd⟩ := id J; obtain ⟨ot, hot, _, n, hdt⟩ := T
  unfold Builtin.SmallTypes.nextOf; refine wpAny_bind (wpAny_callSpecial?_slot (name := Str.ofString "__next__") J.typeIs F.slot_tuple_iterator_next (wpAny_call_entry F.slot_tuple_iterator_next J.typeIs F.entry_tuple_iterator_next ?_ (F.args_tuple_iterator_next_1 _)))
  show wpAny _ _ (field (.ref j) 0 >>= _) _ _ s; refine wpAny_bind (wpAny_field ho hd (x := .ref t) rfl ?_)
  show wpAny _ _ (if (Value.ref t == Value.none) = true then _ else _) _ _ s; rw [if_neg (show ¬ ((Value.ref t == Value.none) = true) from Bool.false_ne_true)]
  show wpAny _ _ (field (.ref j) 1 >>= _) _ _ s; refine wpAny_bind (wpAny_field ho hd (x := .int i 0) rfl ?_)
  show wpAny _ _ (seqItems? (.ref t) >>= _) _ _ s; refine wpAny_bind (wpAny_seqItems hot hdt ?_)
  simp only [Int.toNat_natCast, e]
  refine wpAny_bind (wpAny_setField ho hd (by simp) (wpAny_pure ⟨v, rfl, wpAny_pure (k _ ?_ (Heap.SameBut.update ..))⟩))
  exact ⟨_, Heap.get?_update_self _ ho (Obj.isFreed_of_fields (Obj.data_mapFields hd _)), (Obj.cls_mapFields ..).trans hc, by rw [Obj.data_mapFields hd]; simp [rawInt]⟩
theorem nextT_end {j t : Addr} {i : Nat} {its : Array Value} {Q : Value → Shared → Prop} (hh : A.handled = none) (J : s.heap.IsTupleIter j t i) (T : s.heap.IsTuple t its) (e : its[i]? = none)
    (k : ∀ h' x, Heap.ExtBut j s.heap h' → (∃ o, h'.get? x = some o ∧ o.cls = .type "StopIteration") → E (.ref x) { s with heap := h' }) : wpAny (model prog w) A (Builtin.SmallTypes.nextOf (.ref j)) Q E s := by
  obtain ⟨o, ho, hc, hd⟩ := id J; obtain ⟨ot, hot, _, n, hdt⟩ := T
  unfold Builtin.SmallTypes.nextOf; refine wpAny_bind (wpAny_callSpecial?_slot (name := Str.ofString "__next__") J.typeIs F.slot_tuple_iterator_next (wpAny_call_entry F.slot_tuple_iterator_next J.typeIs F.entry_tuple_iterator_next ?_ (F.args_tuple_iterator_next_1 _)))
  show wpAny _ _ (field (.ref j) 0 >>= _) _ _ s; refine wpAny_bind (wpAny_field ho hd (x := .ref t) rfl ?_)
  show wpAny _ _ (if (Value.ref t == Value.none) = true then _ else _) _ _ s; rw [if_neg (show ¬ ((Value.ref t == Value.none) = true) from Bool.false_ne_true)]
  show wpAny _ _ (field (.ref j) 1 >>= _) _ _ s; refine wpAny_bind (wpAny_field ho hd (x := .int i 0) rfl ?_)
  show wpAny _ _ (seqItems? (.ref t) >>= _) _ _ s; refine wpAny_bind (wpAny_seqItems hot hdt ?_)
  simp only [Int.toNat_natCast, e]; refine wpAny_bind (wpAny_rule (wpAny_bind (wpAny_setField ho hd (by simp) ?_)))
  show wpAny _ _ (newExc (.type "StopIteration") [] >>= _) _ _ _; refine wpAny_bind ?_; simp only [newExc, newTuple]
  refine wpAny_bind (wpAny_newObj_type ?_ (by size_fits)); refine wpAny_bind (m := firstArgMember _ _) (wpAny_of_eq (a := Value.none) (by first | rfl | (simp only [firstArgMember]; rfl)) ?_)
  refine wpAny_newObj_type ?_ (by size_fits); simp only [raiseNew]; refine wpAny_bind (wpAny_handled ?_)
  (first | rw [show A.in1.handled = none from hh] | rw [hh]); refine wpAny_bind (wpAny_pure (wpAny_throw ?_)); exact k _ _ (((Heap.SameBut.update ..).extBut.push _).push _) ⟨_, Heap.get?_push_size _ rfl, rfl⟩
end
end L2

set_option Elab.async false
set_option linter.all false
set_option maxRecDepth 100000
namespace L2
open PySem PySem.Spec PyProof.Rows
abbrev enuH (h : Heap) (t : Addr) : Heap := h.push { cls := .type "tuple_iterator", data := .fields #[.ref t, .int 0 0] }
abbrev enuH2 (h : Heap) (t : Addr) : Heap := (enuH h t).push { cls := .type "enumerate", data := .fields #[.none, .bool false, .ref h.objs.size, rawInt 0, .none, .none] }
section
variable {prog : Program} {w : World} {A : Around} {E : Value → Shared → Prop} {s : Shared}
end
end L2
namespace L2
open PySem PySem.Spec PyProof.Rows
section
variable {X : Cx} {pins : List (Addr × Obj)} {σ : St} {H : Hp} {s : Shared}
/-- records of ours have turned, and a new tuple is laid -/
theorem Inv.turnNew {h' : Heap} {tk : Nat} {ch : List Addr} {T : Addr} {xs : List V} {vals : List Value} (I : Inv X pins σ H s) (hf : ∀ b ∈ ch, FpOk X pins H b) (k : ∀ b o, b ∉ ch → s.heap.get? b = some o → h'.get? b = some o) (ht : ∀ b ∈ ch, ∃ o, h'.get? b = some o)
    (hT : s.heap.objs.size ≤ T) (r : Vals xs vals) (hz : xs.length ≤ sizeLine) (hv : h'.IsTuple T vals.toArray) : Inv X pins σ (upd H T (.tup xs)) { s with heap := h', toks := tk } := by
  have hn : H T = none := I.hok.fresh hT
  have nT : ∀ b o, s.heap.get? b = some o → b ≠ T := fun b o e z => absurd (Nat.lt_of_lt_of_le (Heap.lt_size e) (z ▸ hT)) (Nat.lt_irrefl _)
  have nc : ∀ b u, H b = some u → b ∉ ch := fun b u e z => by rw [(hf b z).1] at e; cases e
  refine I.step (g' := s.gens) (d' := s.drawn) (ch := ch) (fun b hb => ⟨(hf b hb).2.2.2.1, (hf b hb).2.1, (hf b hb).2.2.2.2.1, (hf b hb).2.2.2.2.2⟩) (fun b o _ _ hc e _ => k b o hc e) (fun b o _ _ hc e _ => ⟨o.slots, k b o hc e⟩)
    (fun b o _ e n => by rw [upd_ne (nT b o e)]; exact n) (fun b o hc e => ⟨o, k b o hc e⟩) (fun b ys e => by rw [upd_ne (ne_of_none e hn)]; exact e) (fun b o u e => by rw [upd_ne (ne_of_none e hn)]; exact e)
    (fun b ps e => ⟨#[], by rw [upd_ne (ne_of_none e hn), e]; simp⟩) (fun m hm => ?_) (fun b u e => ?_) I.bare
  · obtain ⟨o, es, ep, ho, q⟩ := hm
    exact ⟨o, es, ep, k _ o (fun z => (hf _ z).2.1 rfl) ho, q⟩
  · by_cases hb : b = T
    · subst hb
      rw [upd_same] at e
      cases e
      exact ⟨hz, vals, r, hv⟩
    · rw [upd_ne hb] at e
      refine (I.hok b u e).stay (fun c v hc q => k c v ?_ q) (fun c q => by rw [upd_ne (ne_of_none q hn)]; exact q) fun c ys q => by rw [upd_ne (ne_of_none q hn)]; exact q
      rcases hc with z | z
      · rw [z]; exact nc b u e
      · exact nc c _ z
/-- records of ours have turned -/
theorem Inv.turnOnly {h' : Heap} {tk : Nat} {ch : List Addr} (I : Inv X pins σ H s) (hf : ∀ b ∈ ch, FpOk X pins H b) (k : ∀ b o, b ∉ ch → s.heap.get? b = some o → h'.get? b = some o) : Inv X pins σ H { s with heap := h', toks := tk } := by
  have nc : ∀ b u, H b = some u → b ∉ ch := fun b u e z => by rw [(hf b z).1] at e; cases e
  refine I.step (g' := s.gens) (d' := s.drawn) (ch := ch) (fun b hb => ⟨(hf b hb).2.2.2.1, (hf b hb).2.1, (hf b hb).2.2.2.2.1, (hf b hb).2.2.2.2.2⟩) (fun b o _ _ hc e _ => k b o hc e) (fun b o _ _ hc e _ => ⟨o.slots, k b o hc e⟩)
    (fun b o _ e n => n) (fun b o hc e => ⟨o, k b o hc e⟩) (fun b ys e => e) (fun b o u e => e) (fun b ps e => ⟨#[], by rw [e]; simp⟩) (fun m hm => ?_) (fun b u e => ?_) I.bare
  · obtain ⟨o, es, ep, ho, q⟩ := hm
    exact ⟨o, es, ep, k _ o (fun z => (hf _ z).2.1 rfl) ho, q⟩
  · refine (I.hok b u e).stay (fun c v hc q => k c v ?_ q) (fun c q => q) fun c ys q => q
    rcases hc with z | z
    · rw [z]; exact nc b u e
    · exact nc c _ z
end
/-- enumerate over the tuple at a -/
def Ite (K : PySem.W.Frag) (a : Addr) : It :=
  ⟨fun i H => ∃ xs x, SqT K H a xs ∧ xs[i]? = some x, fun i H v H' => ∃ p x, v = .ref p ∧ H p = none ∧ H' = upd H p (.tup [.int (i : Int), x]) ∧ ∀ xs, SqT K H a xs → xs[i]? = some x, fun i H => ∃ xs, SqT K H a xs ∧ xs.length = i⟩

section
variable {X : Cx} {es : List Expr} {kt : Nat} {pt : Pos}
def iEnu (K : PySem.W.Frag) (ta : TA) : TI := fun σ H R => ta σ H fun vs H1 => ∃ a, vs = [.ref a] ∧ (∃ xs, SqT K H1 a xs) ∧ R (Ite K a) H1
end
end L2

set_option Elab.async false
set_option linter.all false
set_option maxRecDepth 100000
namespace L2
open PySem PySem.Spec PyProof.Rows
section
variable {prog : Program} {w : World} {A : Around} {E : Value → Shared → Prop} {s : Shared}
theorem tupX {h h' : Heap} {t a : Addr} {its : Array Value} (T : h.IsTuple t its) (x : Heap.ExtBut a h h') (n : t ≠ a) : h'.IsTuple t its := let ⟨o, e, r⟩ := T; ⟨o, x t o n e, r⟩
theorem tupJ {h h' : Heap} {j t a : Addr} {i : Nat} (J : h.IsTupleIter j t i) (x : Heap.ExtBut a h h') (n : j ≠ a) : h'.IsTupleIter j t i := J.at fun o e => x j o n e
/-- a zip of two tuples yields -/
theorem zipT_item {z TI TO i1 i2 l1 l2 : Addr} {k1 k2 : Nat} {xs ys : Array Value} {x y a b : Value} {Q : Value → Shared → Prop} (D : ZipApart z TI TO i1 i2 l1 l2) (hz : IsZip s.heap z TI TO .none) (hTI : IsPair s.heap TI (.ref i1) (.ref i2)) (hTO : IsPair s.heap TO a b)
    (h1 : s.heap.IsTupleIter i1 l1 k1) (h2 : s.heap.IsTupleIter i2 l2 k2) (hl1 : s.heap.IsTuple l1 xs) (hl2 : s.heap.IsTuple l2 ys) (hx : xs[k1]? = some x) (hy : ys[k2]? = some y)
    (hQ : ∀ h', IsZip h' z TI TO (rawInt s.heap.objs.size) → IsPair h' TO x y → h'.IsTupleIter i1 l1 (k1 + 1) → h'.IsTupleIter i2 l2 (k2 + 1) → IsPair h' s.heap.objs.size x y →
      (∀ d o, d ≠ z → d ≠ TO → d ≠ i1 → d ≠ i2 → s.heap.get? d = some o → h'.get? d = some o) → Q (.ref s.heap.objs.size) { s with heap := h' }) :
    wpAny (model prog w) A (Builtin.«zip.__next__» ⟨[.ref z], []⟩) (fun f s' => ∃ v, f = .done (.ret v) ∧ Q v s') E s := by
  show wpAny _ _ (field (.ref z) 2 >>= _) _ _ _; refine wpAny_bind (wpAny_field hz rfl (x := .bool false) rfl ?_)
  show wpAny _ _ (field (.ref z) 3 >>= _) _ _ _; refine wpAny_bind (wpAny_field hz rfl (x := .ref TI) rfl ?_)
  refine wpAny_bind (wpAny_seqItems hTI rfl ?_); show wpAny _ _ (Builtin.SmallTypes.ownedTupleIsFree (.ref z) >>= _) _ _ _
  refine wpAny_bind ?_; unfold Builtin.SmallTypes.ownedTupleIsFree
  refine wpAny_bind (wpAny_field hz rfl (x := .none) rfl (wpAny_pure ?_)); simp only [if_true]
  refine wpAny_bind (wpAny_rule ?_); refine wpAny_bind (wpAny_field hz rfl (x := .ref TO) rfl ?_)
  refine wpAny_bind (wpAny_setField_rec hz (by simp) fun g1 zz1 s1 => ?_); replace zz1 : IsZip g1 z TI TO .ellipsis := zz1
  refine wpAny_bind ?_; simp only [List.zipIdx_cons, List.zipIdx_nil, List.forIn_cons, List.forIn_nil]
  refine wpAny_bind (wpAny_bind (wpAny_onRaise ?_)); show wpAny _ _ (Builtin.SmallTypes.nextOf (.ref i1) >>= _) _ _ _
  refine wpAny_bind (nextT_item (tupJ h1 s1.extBut D.i1z) (tupX hl1 s1.extBut D.l1z) hx fun g2 j2 s2 => wpAny_pure ?_)
  have o2 : IsPair g2 TO a b := s2.extBut _ _ D.TOi1 (s1.extBut _ _ D.TOz hTO)
  refine wpAny_bind (wpAny_seqItems o2 rfl ?_); refine wpAny_bind (wpAny_updateSeq_pair o2 fun g3 o3 s3 => ?_); replace o3 : IsPair g3 TO x b := o3
  refine wpAny_bind (wpAny_letGo (wpAny_pure ?_)); refine wpAny_bind (wpAny_bind (wpAny_onRaise ?_)); show wpAny _ _ (Builtin.SmallTypes.nextOf (.ref i2) >>= _) _ _ _
  refine wpAny_bind (nextT_item (tupJ (tupJ (tupJ h2 s1.extBut D.i2z) s2.extBut D.i12.symm) s3.extBut D.TOi2.symm) (tupX (tupX (tupX hl2 s1.extBut D.l2z) s2.extBut D.l2i1) s3.extBut D.l2TO) hy fun g4 j4 s4 => wpAny_pure ?_)
  have o4 : IsPair g4 TO x b := s4.extBut _ _ D.TOi2 o3
  refine wpAny_bind (wpAny_seqItems o4 rfl ?_); refine wpAny_bind (wpAny_updateSeq_pair o4 fun g5 o5 s5 => ?_); replace o5 : IsPair g5 TO x y := o5
  refine wpAny_bind (wpAny_letGo (wpAny_pure (wpAny_pure ?_))); refine wpAny_bind (wpAny_seqItems o5 rfl ?_); refine wpAny_bind (wpAny_newTuple ?_)
  have sz : g5.objs.size = s.heap.objs.size := by rw [s5.1, s4.1, s3.1, s2.1, s1.1]
  have z5 : IsZip g5 z TI TO .ellipsis := s5.extBut _ _ D.TOz.symm (s4.extBut _ _ D.i2z.symm (s3.extBut _ _ D.TOz.symm (s2.extBut _ _ D.i1z.symm zz1)))
  have k5 : ∀ c o, c ≠ z → c ≠ TO → c ≠ i1 → c ≠ i2 → s.heap.get? c = some o → g5.get? c = some o := fun c o c1 c2 c3 c4 q => s5.extBut _ _ c2 (s4.extBut _ _ c4 (s3.extBut _ _ c2 (s2.extBut _ _ c3 (s1.extBut _ _ c1 q))))
  have a5 : g5.IsTupleIter i1 l1 (k1 + 1) := tupJ (tupJ (tupJ j2 s3.extBut D.TOi1.symm) s4.extBut D.i12) s5.extBut D.TOi1.symm
  have b5 : g5.IsTupleIter i2 l2 (k2 + 1) := tupJ j4 s5.extBut D.TOi2.symm
  have zlt : z < g5.objs.size := Heap.lt_size z5
  show wpAny _ _ (Builtin.SmallTypes.ownedTupleHandOut (.ref z) (.ref g5.objs.size) >>= _) _ _ _; refine wpAny_bind ?_; unfold Builtin.SmallTypes.ownedTupleHandOut
  have z6 : IsZip (g5.push { cls := .type "tuple", data := .seq #[x, y] }) z TI TO .ellipsis := Heap.get?_push_of_some _ z5
  refine wpAny_bind (wpAny_setField_rec z6 (by simp) fun g7 z7 s7 => ?_); replace z7 : IsZip g7 z TI TO (rawInt g5.objs.size) := z7
  refine wpAny_setField_rec z7 (by simp) fun g8 z8 s8 => ?_; replace z8 : IsZip g8 z TI TO (rawInt g5.objs.size) := z8
  have up : ∀ c o, c ≠ z → g5.get? c = some o → g8.get? c = some o := fun c o c1 q => s8.extBut _ _ c1 (s7.extBut _ _ c1 (Heap.get?_push_of_some _ q))
  have t8 : IsPair g8 g5.objs.size x y := s8.extBut _ _ (Nat.ne_of_gt zlt) (s7.extBut _ _ (Nat.ne_of_gt zlt) (Heap.get?_push_size _ rfl))
  rw [sz] at z8 t8; refine wpAny_pure ⟨_, rfl, ?_⟩; show Q (.ref g5.objs.size) _; rw [sz]
  exact hQ g8 z8 (up _ _ D.TOz o5) (a5.at fun o q => up _ o D.i1z q) (b5.at fun o q => up _ o D.i2z q) t8 fun c o c1 c2 c3 c4 q => up c o c1 (k5 c o c1 c2 c3 c4 q)
/-- .. and ends -/
theorem zipT_end {z TI TO i1 i2 l1 l2 : Addr} {k1 k2 : Nat} {xs ys : Array Value} {a b : Value} {Q : Fin → Shared → Prop} (hh : A.handled = none) (D : ZipApart z TI TO i1 i2 l1 l2) (hz : IsZip s.heap z TI TO .none) (hTI : IsPair s.heap TI (.ref i1) (.ref i2)) (hTO : IsPair s.heap TO a b)
    (h1 : s.heap.IsTupleIter i1 l1 k1) (h2 : s.heap.IsTupleIter i2 l2 k2) (hl1 : s.heap.IsTuple l1 xs) (hl2 : s.heap.IsTuple l2 ys) (hend : xs[k1]? = none ∨ ys[k2]? = none)
    (hE : ∀ h' e, (∀ d o, d ≠ z → d ≠ TO → d ≠ i1 → d ≠ i2 → s.heap.get? d = some o → h'.get? d = some o) → (∃ o, h'.get? e = some o ∧ o.cls = .type "StopIteration") → E (.ref e) { s with heap := h' }) : wpAny (model prog w) A (Builtin.«zip.__next__» ⟨[.ref z], []⟩) Q E s := by
  show wpAny _ _ (field (.ref z) 2 >>= _) _ _ _; refine wpAny_bind (wpAny_field hz rfl (x := .bool false) rfl ?_)
  show wpAny _ _ (field (.ref z) 3 >>= _) _ _ _; refine wpAny_bind (wpAny_field hz rfl (x := .ref TI) rfl ?_)
  refine wpAny_bind (wpAny_seqItems hTI rfl ?_); show wpAny _ _ (Builtin.SmallTypes.ownedTupleIsFree (.ref z) >>= _) _ _ _
  refine wpAny_bind ?_; unfold Builtin.SmallTypes.ownedTupleIsFree
  refine wpAny_bind (wpAny_field hz rfl (x := .none) rfl (wpAny_pure ?_)); simp only [if_true]
  refine wpAny_bind (wpAny_rule ?_); refine wpAny_bind (wpAny_field hz rfl (x := .ref TO) rfl ?_)
  refine wpAny_bind (wpAny_setField_rec hz (by simp) fun g1 zz1 s1 => ?_); replace zz1 : IsZip g1 z TI TO .ellipsis := zz1
  refine wpAny_bind ?_; simp only [List.zipIdx_cons, List.zipIdx_nil, List.forIn_cons, List.forIn_nil]
  refine wpAny_bind (wpAny_bind (wpAny_onRaise ?_)); show wpAny _ _ (Builtin.SmallTypes.nextOf (.ref i1) >>= _) _ _ _
  cases hx : xs[k1]? with
  | none =>
    refine wpAny_bind (nextT_end hh (tupJ h1 s1.extBut D.i1z) (tupX hl1 s1.extBut D.l1z) hx fun g2 e s2 he => ?_)
    obtain ⟨oe, hoe, hce⟩ := he; have z2 : IsZip g2 z TI TO .ellipsis := s2 _ _ D.i1z.symm zz1
    have ez : e ≠ z := fun q => by subst q; rw [z2] at hoe; cases hoe; simp at hce
    refine wpAny_setField_rec z2 (by simp) fun g3 _ s3 => hE g3 e (fun c o c1 _ c3 _ q => s3.extBut _ _ c1 (s2 _ _ c3 (s1.extBut _ _ c1 q))) ⟨oe, s3.extBut _ _ ez hoe, hce⟩
  | some x =>
    have hy : ys[k2]? = none := by rcases hend with q | q; rw [hx] at q; cases q; exact q
    refine wpAny_bind (nextT_item (tupJ h1 s1.extBut D.i1z) (tupX hl1 s1.extBut D.l1z) hx fun g2 j2 s2 => wpAny_pure ?_)
    have o2 : IsPair g2 TO a b := s2.extBut _ _ D.TOi1 (s1.extBut _ _ D.TOz hTO)
    refine wpAny_bind (wpAny_seqItems o2 rfl ?_); refine wpAny_bind (wpAny_updateSeq_pair o2 fun g3 o3 s3 => ?_); refine wpAny_bind (wpAny_letGo (wpAny_pure ?_))
    refine wpAny_bind (wpAny_bind (wpAny_onRaise ?_)); show wpAny _ _ (Builtin.SmallTypes.nextOf (.ref i2) >>= _) _ _ _
    refine wpAny_bind (nextT_end hh (tupJ (tupJ (tupJ h2 s1.extBut D.i2z) s2.extBut D.i12.symm) s3.extBut D.TOi2.symm) (tupX (tupX (tupX hl2 s1.extBut D.l2z) s2.extBut D.l2i1) s3.extBut D.l2TO) hy fun g4 e s4 he => ?_)
    obtain ⟨oe, hoe, hce⟩ := he; have z4 : IsZip g4 z TI TO .ellipsis := s4 _ _ D.i2z.symm (s3.extBut _ _ D.TOz.symm (s2.extBut _ _ D.i1z.symm zz1))
    have ez : e ≠ z := fun q => by subst q; rw [z4] at hoe; cases hoe; simp at hce
    refine wpAny_setField_rec z4 (by simp) fun g5 _ s5 => hE g5 e (fun c o c1 c2 c3 c4 q => s5.extBut _ _ c1 (s4 _ _ c4 (s3.extBut _ _ c2 (s2.extBut _ _ c3 (s1.extBut _ _ c1 q))))) ⟨oe, s5.extBut _ _ ez hoe, hce⟩
end
end L2
namespace L2
open PySem PySem.Spec PyProof.Rows
abbrev zpH1 (h : Heap) (a : Addr) : Heap := h.push { cls := .type "tuple_iterator", data := .fields #[.ref a, .int 0 0] }
abbrev zpH2 (h : Heap) (a b : Addr) : Heap := (zpH1 h a).push { cls := .type "tuple_iterator", data := .fields #[.ref b, .int 0 0] }
abbrev zpH3 (h : Heap) (a b : Addr) : Heap := (zpH2 h a b).push { cls := .type "tuple", data := .seq #[.ref h.objs.size, .ref (zpH1 h a).objs.size] }
abbrev zpH4 (h : Heap) (a b : Addr) : Heap := (zpH3 h a b).push { cls := .type "tuple", data := .seq #[.none, .none] }
abbrev zpH5 (h : Heap) (a b : Addr) : Heap := (zpH4 h a b).push { cls := .type "zip", data := .fields #[.none, .bool false, .bool false, .ref (zpH2 h a b).objs.size, .ref (zpH3 h a b).objs.size] }
/-- zip(a, b), both tuples -/
theorem zp_new (a b : Addr) (xs ys : Array Value) : Meets (Builtin.«zip.__new__» ⟨[.type "zip", .ref a, .ref b], []⟩) (fun _ R s => s.heap.IsTuple a xs ∧ s.heap.IsTuple b ys ∧ R (.ok (.ret (.ref (zpH4 s.heap a b).objs.size))) { s with heap := zpH5 s.heap a b }) :=
  .of_wp fun prog w A R s h => by
    obtain ⟨hp, g, d, tk, os⟩ := s; obtain ⟨hA, hB, h⟩ := h; have hsub := sub_zip
    have tA : Heap.IsTuple (Shared.heap ⟨hp, g, d, tk, os⟩) a xs := hA
    have tB : Heap.IsTuple (Shared.heap ⟨hp.push { cls := .type "tuple_iterator", data := .fields #[.ref a, .int 0 0] }, g, d, tk, os⟩) b ys := let ⟨o, e, r⟩ := hB; ⟨o, Heap.get?_push_of_some _ e, r⟩
    wp_walk using wpAny_pyIter_tuple tA, wpAny_pyIter_tuple tB
    exact ⟨_, rfl, h⟩
section
variable {prog : Program} {w : World} {A : Around} {E : Value → Shared → Prop} {s : Shared}
theorem call_zp {a b : Addr} {xs ys : Array Value} {Q : Value → Shared → Prop} (hA : s.heap.IsTuple a xs) (hB : s.heap.IsTuple b ys)
    (k : ∀ h', IsZip h' (s.heap.objs.size + 4) (s.heap.objs.size + 2) (s.heap.objs.size + 3) .none → IsPair h' (s.heap.objs.size + 2) (.ref s.heap.objs.size) (.ref (s.heap.objs.size + 1)) → IsPair h' (s.heap.objs.size + 3) .none .none →
      h'.IsTupleIter s.heap.objs.size a 0 → h'.IsTupleIter (s.heap.objs.size + 1) b 0 → (∀ c o, s.heap.get? c = some o → h'.get? c = some o) → Q (.ref (s.heap.objs.size + 4)) { s with heap := h' }) :
    wpAny (model prog w) A (call (.type "zip") [.ref a, .ref b]) Q E s := by
  refine callType_new F.called_zip (by decide) (F.typeCall_zip_2 _ _) (F.newCall_zip_2 _ _) (fun obj => F.args_object_init_3 obj _ _) F.entry_zip_new (zp_new a b xs ys) ⟨hA, hB, ?_⟩
  have z1 : (zpH1 s.heap a).objs.size = s.heap.objs.size + 1 := Heap.size_push ..
  have z2 : (zpH2 s.heap a b).objs.size = s.heap.objs.size + 2 := by rw [Heap.size_push, z1]
  have z3 : (zpH3 s.heap a b).objs.size = s.heap.objs.size + 3 := by rw [Heap.size_push, z2]
  have z4 : (zpH4 s.heap a b).objs.size = s.heap.objs.size + 4 := by rw [Heap.size_push, z3]
  have g5 : (zpH5 s.heap a b).get? (zpH4 s.heap a b).objs.size = some _ := Heap.get?_push_size _ rfl
  have g4 : (zpH5 s.heap a b).get? (zpH3 s.heap a b).objs.size = some _ := Heap.get?_push_of_some _ (Heap.get?_push_size _ rfl)
  have g3 : (zpH5 s.heap a b).get? (zpH2 s.heap a b).objs.size = some _ := Heap.get?_push_of_some _ (Heap.get?_push_of_some _ (Heap.get?_push_size _ rfl))
  have g2 : (zpH5 s.heap a b).get? (zpH1 s.heap a).objs.size = some _ := Heap.get?_push_of_some _ (Heap.get?_push_of_some _ (Heap.get?_push_of_some _ (Heap.get?_push_size _ rfl)))
  have g1 : (zpH5 s.heap a b).get? s.heap.objs.size = some _ := Heap.get?_push_of_some _ (Heap.get?_push_of_some _ (Heap.get?_push_of_some _ (Heap.get?_push_of_some _ (Heap.get?_push_size _ rfl))))
  show _ ∧ _
  rw [z2, z3, z4] at g5; rw [z1, z2] at g3; rw [z3] at g4; rw [z1] at g2
  have kk : ∀ c o, s.heap.get? c = some o → (zpH5 s.heap a b).get? c = some o := fun c o q => Heap.get?_push_of_some _ (Heap.get?_push_of_some _ (Heap.get?_push_of_some _ (Heap.get?_push_of_some _ (Heap.get?_push_of_some _ q))))
  rw [z4]
  exact ⟨⟨_, g5, rfl⟩, k _ g5 g3 g4 ⟨_, g1, rfl, rfl⟩ ⟨_, g2, rfl, rfl⟩ kk⟩
end
end L2

set_option Elab.async false
set_option linter.all false
set_option maxRecDepth 100000
namespace L2
open PySem PySem.Spec PyProof.Rows
/-- zip over the tuples at a and b -/
def Itz (K : PySem.W.Frag) (a b : Addr) : It :=
  ⟨fun i H => ∃ xs ys x y, SqT K H a xs ∧ SqT K H b ys ∧ xs[i]? = some x ∧ ys[i]? = some y, fun i H v H' => ∃ p x y, v = .ref p ∧ H p = none ∧ H' = upd H p (.tup [x, y]) ∧ (∀ xs, SqT K H a xs → xs[i]? = some x) ∧ ∀ ys, SqT K H b ys → ys[i]? = some y,
    fun i H => ∃ xs ys, SqT K H a xs ∧ SqT K H b ys ∧ (xs.length ≤ i ∨ ys.length ≤ i)⟩
theorem turn_zp {P : Program} {w : World} {K : PySem.W.Frag} {es : List Expr} {kt : Nat} {pt : Pos} (a b z TI TO i1 i2 : Addr) (D : ZipApart z TI TO i1 i2 a b) :
    Turn P w K (.Tuple es kt pt) (Itz K a b) [z, TI, TO, i1, i2] z (fun i h => IsZip h z TI TO .none ∧ IsPair h TI (.ref i1) (.ref i2) ∧ (∃ u v, IsPair h TO u v) ∧ h.IsTupleIter i1 a i ∧ h.IsTupleIter i2 b i) where
  mem := by simp
  obj := fun i h st q hq => by
    obtain ⟨hz, hI, ⟨u, v, hO⟩, ⟨o1, e1, c1, d1⟩, ⟨o2, e2, c2, d2⟩⟩ := st
    simp only [List.mem_cons, List.not_mem_nil, or_false] at hq
    rcases hq with rfl | rfl | rfl | rfl | rfl
    · exact ⟨_, hz, fun v y => by have y' : Data.fields _ = Data.cell v := y; cases y'⟩
    · exact ⟨_, hI, fun v y => by have y' : Data.seq _ _ = Data.cell v := y; cases y'⟩
    · exact ⟨_, hO, fun v y => by have y' : Data.seq _ _ = Data.cell v := y; cases y'⟩
    · exact ⟨o1, e1, fun v y => by rw [d1] at y; cases y⟩
    · exact ⟨o2, e2, fun v y => by rw [d2] at y; cases y⟩
  keep := fun i h h' st k => ⟨k z (by simp) _ st.1, k TI (by simp) _ st.2.1, let ⟨u, v, q⟩ := st.2.2.1; ⟨u, v, k TO (by simp) _ q⟩, st.2.2.2.1.at fun o x => k i1 (by simp) o x, st.2.2.2.2.at fun o x => k i2 (by simp) o x⟩
  item := by
    intro X hP hw hK hc i pins s σ H E I hf st hg
    subst hP hw hK
    obtain ⟨xs, ys, x, y, hqa, hqb, hx, hy⟩ := hg
    obtain ⟨ia, rva, pa, za⟩ := I.tuple hqa
    obtain ⟨ib, rvb, pb, zb⟩ := I.tuple hqb
    obtain ⟨u, hu, ru⟩ := rva.get hx
    obtain ⟨v, hv, rv⟩ := rvb.get hy
    obtain ⟨hz, hI, ⟨ou, ov, hO⟩, h1, h2⟩ := st
    have hT : s.TypeIs (.ref z) "zip" := ⟨_, hz, rfl⟩; unfold pyNext
    refine wpAny_bind (wpAny_attempt (wpAny_callSpecial?_slot (name := Str.ofString "__next__") hT F.slot_zip_next (wpAny_call_entry F.slot_zip_next hT F.entry_zip_next
      (zipT_item D hz hI hO h1 h2 pa pb (x := u) (y := v) (by simpa using hu) (by simpa using hv) fun h' z' o' a' b' t' k' => wpAny_pure ?_) (F.args_zip_next_1 _))))
    refine ⟨_, rfl, wpAny_letOwnedTupleGo_zip z' fun h'' z'' sb => ?_⟩
    have nz : s.heap.objs.size ≠ z := Nat.ne_of_gt (Heap.lt_size hz)
    have nTO : s.heap.objs.size ≠ TO := Nat.ne_of_gt (Heap.lt_size hO)
    have nTI : s.heap.objs.size ≠ TI := Nat.ne_of_gt (Heap.lt_size hI)
    have n1 : s.heap.objs.size ≠ i1 := by obtain ⟨o, e, _⟩ := h1; exact Nat.ne_of_gt (Heap.lt_size e)
    have n2 : s.heap.objs.size ≠ i2 := by obtain ⟨o, e, _⟩ := h2; exact Nat.ne_of_gt (Heap.lt_size e)
    have up : ∀ q o, q ≠ z → h'.get? q = some o → h''.get? q = some o := fun q o hq e => (sb.2 q hq).trans e
    have hI'' : IsPair h'' TI (.ref i1) (.ref i2) := up _ _ D.TIz (k' TI _ D.TIz D.TITO D.TIi1 D.TIi2 hI)
    have I2 : Inv X pins σ (upd H s.heap.objs.size (.tup [x, y])) { s with heap := h'', toks := s.toks } := I.turnNew (ch := [z, TI, TO, i1, i2]) hf (fun q o hq e => by
      simp only [List.mem_cons, List.not_mem_nil, or_false, not_or] at hq
      exact up q o hq.1 (k' q o hq.1 hq.2.2.1 hq.2.2.2.1 hq.2.2.2.2 e)) (fun q hq => by
      simp only [List.mem_cons, List.not_mem_nil, or_false] at hq
      rcases hq with rfl | rfl | rfl | rfl | rfl
      · exact ⟨_, z''⟩
      · exact ⟨_, hI''⟩
      · exact ⟨_, up _ _ D.TOz o'⟩
      · obtain ⟨o, e, _⟩ := a'; exact ⟨o, up _ o D.i1z e⟩
      · obtain ⟨o, e, _⟩ := b'; exact ⟨o, up _ o D.i2z e⟩) (Nat.le_refl _) (vals := [u, v]) (.cons ru (.cons rv .nil)) (by show 2 ≤ sizeLine; decide) ⟨_, up _ _ nz t', rfl, _, rfl⟩
    refine ⟨.ref s.heap.objs.size, _, I2, rfl, ⟨_, x, y, rfl, I.fresh, rfl, fun zs hzs => by rw [I.tuple_inj hzs hqa]; exact hx, fun zs hzs => by rw [I.tuple_inj hzs hqb]; exact hy⟩,
      ⟨z'', hI'', ⟨_, _, up _ _ D.TOz o'⟩, a'.at fun o e => up _ o D.i1z e, b'.at fun o e => up _ o D.i2z e⟩, fun q hq => ?_⟩
    have hq0 := (hf q hq).1
    simp only [List.mem_cons, List.not_mem_nil, or_false] at hq
    rw [upd_ne]
    · exact hq0
    · rcases hq with rfl | rfl | rfl | rfl | rfl
      · exact Ne.symm nz
      · exact Ne.symm nTI
      · exact Ne.symm nTO
      · exact Ne.symm n1
      · exact Ne.symm n2
  done := by
    intro X hP hw hK hc i pins s σ H E I hf st hg
    subst hP hw hK
    obtain ⟨xs, ys, hqa, hqb, hx⟩ := hg
    obtain ⟨ia, rva, pa, za⟩ := I.tuple hqa
    obtain ⟨ib, rvb, pb, zb⟩ := I.tuple hqb
    obtain ⟨hz, hI, ⟨ou, ov, hO⟩, h1, h2⟩ := st
    have la := rva.length
    have lb := rvb.length
    have hT : s.TypeIs (.ref z) "zip" := ⟨_, hz, rfl⟩; unfold pyNext
    refine wpAny_bind (wpAny_attempt (wpAny_callSpecial?_slot (name := Str.ofString "__next__") hT F.slot_zip_next (wpAny_call_entry F.slot_zip_next hT F.entry_zip_next
      (zipT_end (I.ok.hd hc) D hz hI hO h1 h2 pa pb (hx.elim (fun q => .inl (by simp; omega)) fun q => .inr (by simp; omega)) fun h' e k' he => ?_) (F.args_zip_next_1 _))))
    obtain ⟨o, ho, hcl⟩ := he
    refine wpAny_bind (wpAny_isInstance (T := "StopIteration") (b := true) ⟨o, ho, hcl⟩ isSubtype_stop ?_)
    refine wpAny_pure ⟨rfl, I.turnOnly (tk := s.toks) hf fun q o hq e => ?_⟩
    simp only [List.mem_cons, List.not_mem_nil, or_false, not_or] at hq
    exact k' q o hq.1 hq.2.2.1 hq.2.2.2.1 hq.2.2.2.2 e
  self := fun _ _ s _ _ st h => wpAny_pyIter_zip st.1 h
section
variable {X : Cx} {es : List Expr} {kt : Nat} {pt : Pos}
def iZp (K : PySem.W.Frag) (ta : TA) : TI := fun σ H R => ta σ H fun vs H1 => ∃ a b, vs = [.ref a, .ref b] ∧ (∃ xs, SqT K H1 a xs) ∧ (∃ ys, SqT K H1 b ys) ∧ R (Itz K a b) H1
/-- for x, y in zip(a, b), both tuples -/
theorem pi_zp {e e' : Expr} {ta : TA} {p pos : Pos} (hm : X.mg "zip" = none) (ha : PA X [e, e'] ta) (hg : Gl X "zip" := by rfl) (h : isStar e = false := by rfl) (h' : isStar e' = false := by rfl) : PI X (.Tuple es kt pt) (.Call (.Name "zip" p) [e, e'] [] pos) (iZp X.K ta) := by
  intro pins s σ H R I hh
  refine Call_ (ld_blt I hg hm boot_zip (PyProof.Rows.callWith_type1 (thn (ha pos pins s σ H _ I hh) fun us s1 ⟨vs, H1, I1, r1, q1⟩ => ?_) (star1 h) (star_any (by simp [h']))))
  obtain ⟨a, b, rfl, ⟨xs, hqa⟩, ⟨ys, hqb⟩, q⟩ := q1
  cases r1 with
  | cons ru r2 =>
    cases r2 with
    | cons rv r3 =>
      cases r3
      cases ru
      cases rv
      obtain ⟨ia, rva, pa, za⟩ := I1.tuple hqa
      obtain ⟨ib, rvb, pb, zb⟩ := I1.tuple hqb
      have la : a < s1.heap.objs.size := by obtain ⟨o, e, _⟩ := pa; exact Heap.lt_size e
      have lb : b < s1.heap.objs.size := by obtain ⟨o, e, _⟩ := pb; exact Heap.lt_size e
      refine call_zp (xs := ia.toArray) (ys := ib.toArray) pa pb fun g hz hI hO j1 j2 hk => wpAny_pyIter_zip hz ?_
      refine ⟨_, [s1.heap.objs.size + 4, s1.heap.objs.size + 2, s1.heap.objs.size + 3, s1.heap.objs.size, s1.heap.objs.size + 1], _, _, H1, rfl, I1.kept (t' := s1.toks) hk, turn_zp a b _ _ _ _ _ (zipApart_new la lb), ⟨hz, hI, ⟨_, _, hO⟩, j1, j2⟩, fun q hq => ?_, by assumption⟩
      have hq' : s1.heap.objs.size ≤ q := by
        simp only [List.mem_cons, List.not_mem_nil, or_false] at hq
        rcases hq with z | z | z | z | z <;> rw [z] <;> first | exact Nat.le_refl _ | exact Nat.le_add_right _ _
      exact I1.fpOk hq' (I1.hok.fresh hq')
end
end L2

set_option Elab.async false
set_option linter.all false
set_option maxRecDepth 100000
namespace L2
open PySem PySem.Spec PyProof.Rows
/-! ### zip of three tuples -/
def IsTri (h : Heap) (T : Addr) (a b c : Value) : Prop := h.get? T = some { cls := .type "tuple", data := .seq #[a, b, c] }
structure Apart3 (z TI TO i1 i2 i3 l1 l2 l3 : Addr) : Prop where
  nz : TI ≠ z ∧ TO ≠ z ∧ i1 ≠ z ∧ i2 ≠ z ∧ i3 ≠ z
  nI : TI ≠ TO ∧ TI ≠ i1 ∧ TI ≠ i2 ∧ TI ≠ i3
  nO : TO ≠ i1 ∧ TO ≠ i2 ∧ TO ≠ i3
  ni : i1 ≠ i2 ∧ i1 ≠ i3 ∧ i2 ≠ i3
  l1 : l1 ≠ z ∧ l1 ≠ TO ∧ l1 ≠ i1 ∧ l1 ≠ i2 ∧ l1 ≠ i3
  l2 : l2 ≠ z ∧ l2 ≠ TO ∧ l2 ≠ i1 ∧ l2 ≠ i2 ∧ l2 ≠ i3
  l3 : l3 ≠ z ∧ l3 ≠ TO ∧ l3 ≠ i1 ∧ l3 ≠ i2 ∧ l3 ≠ i3
section
variable {prog : Program} {w : World} {A : Around} {E : Value → Shared → Prop} {s : Shared}
end
abbrev ztH1 (h : Heap) (a : Addr) : Heap := h.push { cls := .type "tuple_iterator", data := .fields #[.ref a, .int 0 0] }
abbrev ztH2 (h : Heap) (a b : Addr) : Heap := (ztH1 h a).push { cls := .type "tuple_iterator", data := .fields #[.ref b, .int 0 0] }
abbrev ztH3 (h : Heap) (a b c : Addr) : Heap := (ztH2 h a b).push { cls := .type "tuple_iterator", data := .fields #[.ref c, .int 0 0] }
abbrev ztH4 (h : Heap) (a b c : Addr) : Heap := (ztH3 h a b c).push { cls := .type "tuple", data := .seq #[.ref h.objs.size, .ref (ztH1 h a).objs.size, .ref (ztH2 h a b).objs.size] }
abbrev ztH5 (h : Heap) (a b c : Addr) : Heap := (ztH4 h a b c).push { cls := .type "tuple", data := .seq #[.none, .none, .none] }
abbrev ztH6 (h : Heap) (a b c : Addr) : Heap := (ztH5 h a b c).push { cls := .type "zip", data := .fields #[.none, .bool false, .bool false, .ref (ztH3 h a b c).objs.size, .ref (ztH4 h a b c).objs.size] }
end L2

set_option Elab.async false
set_option linter.all false
set_option maxRecDepth 100000
namespace L2
open PySem PySem.Spec PyProof.Rows
section
variable {D : Addr} {te : TE} {tc : TT} {Q : VK} {ρ : St} {H : Hp}
/-- a block over zip of two tuples of one length, two names -/
theorem cgo_zip {K : PySem.W.Frag} {a b : Addr} {xs zs : List V} (hlen : xs.length = zs.length) (Pv : Nat → List V → Hp → Prop) (h0 : Pv 0 [] (upd H D (.lst []))) (hl : ∀ i ys H', i ≤ xs.length → Pv i ys H' → SqT K H' a xs ∧ SqT K H' b zs)
    (hs : ∀ i x z ys H' p, xs[i]? = some x → zs[i]? = some z → Pv i ys H' → H' D = some (.lst ys) → H' p = none → ∀ (R : V → Hp → Prop) (S : Hp → Prop), (∀ y H4, H4 D = some (.lst ys) → ys.length < sizeLine → Pv (i + 1) (ys ++ [y]) (upd H4 D (.lst (ys ++ [y]))) → R y H4) → (∀ H3, H3 D = some (.lst ys) → Pv (i + 1) ys H3 → S H3) →
      tc (some x :: some z :: ρ) (upd H' p (.tup [x, z])) fun b H3 => if b = true then te (some x :: some z :: ρ) H3 R else S H3)
    (hd : ∀ ys H', Pv xs.length ys H' → H' D = some (.lst ys) → Q (.ref D) H') : CGo (Itz K a b) D (gTup K 2 (gCons (gName 0) (gCons (gName 1) gNil))) tc te Q (none :: none :: ρ) H := by
  refine ⟨fun i m τ ys H' => m = xs.length - i ∧ i ≤ xs.length ∧ (∃ tv tw, τ = tv :: tw :: ρ) ∧ Pv i ys H' ∧ H' D = some (.lst ys), ⟨xs.length, by omega, Nat.zero_le _, ⟨_, _, rfl⟩, h0, upd_same⟩, ?_⟩
  rintro i m τ ys H' ⟨rfl, hi, ⟨tv, tw, rfl⟩, hp, hD⟩
  refine ⟨hD, ?_⟩
  obtain ⟨sq, sq'⟩ := hl i ys H' hi hp
  by_cases hlt : i < xs.length
  · have hlt' : i < zs.length := by omega
    refine .inr ⟨⟨xs, zs, xs[i], zs[i], sq, sq', by simp [hlt], by simp [hlt']⟩, ?_⟩
    rintro v H'' ⟨p, x, z, rfl, hpn, rfl, hx, hz⟩
    have hx' := hx xs sq
    have hz' := hz zs sq'
    refine ⟨p, [x, z], rfl, SqT.of upd_same, rfl, x, [z], rfl, z, [], rfl, rfl, ?_⟩
    exact hs i x z ys _ p hx' hz' hp hD hpn _ _ (fun y H4 a b c => ⟨a, b, xs.length - (i + 1), by omega, rfl, hlt, ⟨_, _, rfl⟩, c, upd_same⟩) fun H3 a c => ⟨xs.length - (i + 1), by omega, rfl, hlt, ⟨_, _, rfl⟩, c, a⟩
  · have e : i = xs.length := by omega
    subst e
    exact .inl ⟨⟨xs, zs, sq, sq', .inl (Nat.le_refl _)⟩, hd ys _ hp hD⟩
end
section
variable {ta : TA} {tl : TE} {n : Nat} {ix : List Nat} {g : TG} {tc : TT} {te : TE} {σ : St} {H : Hp} {Q : VK}
theorem w_compZ {K : PySem.W.Frag} (h : ta σ H fun vs H1 => ∃ a b, vs = [.ref a, .ref b] ∧ (∃ xs, SqT K H1 a xs) ∧ (∃ ys, SqT K H1 b ys) ∧ ∀ D, H1 D = none → CGo (Itz K a b) D g tc te Q (List.replicate n none ++ sub ix σ) H1) : tComp (iZp K ta) n ix g tc te σ H Q := h
theorem w_compL {K : PySem.W.Frag} (h : tl σ H fun x H1 => ∃ a, x = .ref a ∧ (∃ xs, SqL K H1 a xs) ∧ ∀ D, H1 D = none → CGo (Itl K a) D g tc te Q (List.replicate n none ++ sub ix σ) H1) : tComp (iList K tl) n ix g tc te σ H Q := h
end
section
variable {X : Cx}
/-- isinstance(x, T), T a type of the language -/
def rIsI (K : PySem.W.Frag) : List V → Hp → VK → Prop := fun xs H Q => ∃ v n t b, xs = [v, .ty n] ∧ TyOf K H v t ∧ PySem.W.kitOne K t (.type n) = some b ∧ Q (.bl b) H
theorem call_isI : CallR X (.builtin "isinstance") (rIsI X.K) := by
  intro pins s σ H xs us Q I r h
  obtain ⟨v, n, t, b, rfl, ty, e, q⟩ := h
  cases r with
  | cons r1 r2 =>
    obtain ⟨u, rfl, ru⟩ := Vals.one r2
    cases ru
    exact isinst_ok I r1 ty e fun tk => ⟨.bl b, H, I.kept (t' := tk) fun _ _ e => e, rfl, q⟩
end
section
variable {σ : St} {H : Hp} {Q : VK} {te ta tb tc : TE} {r r' : R2} {tl th : TO}
theorem w_sl {r : V → Option Int → Option Int → Hp → VK → Prop} (h : te σ H fun x H1 => tl σ H1 fun l H2 => th σ H2 fun u H3 => r x l u H3 Q) : tSl r te tl th σ H Q := h
theorem w_nopart {QO : Option Int → Hp → Prop} (h : QO none H) : tNoPart σ H QO := h
theorem w_part {QO : Option Int → Hp → Prop} (h : te σ H fun x H1 => ∃ i, x = .int i ∧ QO (some i) H1) : tPart te σ H QO := h
end
theorem pgb_tup {X : Cx} {sc : Scope} {N : List Str} {cl : List (Str × Addr)} {C : Addr} {fp : List Addr} {s3 : Shared} {H3 : Hp} {xe : Value → Shared → Prop} {es : List Expr} {k n : Nat} {pos : Pos} {t : TGs} (hc : X.calm = true) (h : PGs (cxC X N sc cl C fp s3 H3 xe) es t)
    (hn : (assignEach es (cxC X N sc cl C fp s3 H3 xe).env).length = n := by rfl) (hst : (assignEach es (cxC X N sc cl C fp s3 H3 xe).env).findIdx? (·.1) = none := by rfl) : PG (cxC X N sc cl C fp s3 H3 xe) (.Tuple es k pos) (gTup X.K n t) := pg_tup (X := cxC X N sc cl C fp s3 H3 xe) hc h hn hst
theorem seq_post {t u : TS} {D : Ends} {σ : St} {H : Hp} (Post : St → Hp → Prop) (h2 : ∀ σ' H', Post σ' H' → u D σ' H') (h1 : (∀ σ' H', Post σ' H' → u D σ' H') → t { D with nx := u D } σ H) : tSeq t u D σ H := h1 h2
end L2

set_option Elab.async false
set_option linter.all false
set_option maxRecDepth 100000
namespace L2
open PySem PySem.Spec PyProof.Rows
/-! ### displays of constants, numbers below nought too -/
def constW : Expr → Option V
  | .Constant (.int n) _ _ => some (.int n)
  | .Constant (.str y) _ _ => some (.str y)
  | .UnaryOp .USub (.Constant (.int n) _ _) _ => some (.int (-n))
  | _ => none
def constsW : List Expr → Option (List V)
  | [] => some []
  | e :: r => match constW e, constsW r with
    | some v, some vs => some (v :: vs)
    | _, _ => none
end L2
namespace G2
open PySem L2
theorem md {i j : Int} (h : 0 < j) : 0 ≤ i % j ∧ i % j < j := ⟨Int.emod_nonneg _ (Int.ne_of_gt h), Int.emod_lt_of_pos _ h⟩
theorem mulL {i j : Int} (h1 : -4000000000 < i) (h2 : i < 4000000000) : CMul i j := .inl ⟨by omega, by omega⟩
theorem mulR {i j : Int} (h1 : -4000000000 < j) (h2 : j < 4000000000) : CMul i j := .inr ⟨by omega, by omega⟩
theorem ofI {r : Int} (h : 0 ≤ r) : ∃ n : Nat, r = (n : Int) := ⟨r.toNat, by omega⟩
/-- tuples stay, and what is known as an object -/
structure TK (H H' : Hp) : Prop where
  t : ∀ q xs, H q = some (.tup xs) → H' q = some (.tup xs)
  f : ∀ q o u, H q = some (.frz o u) → H' q = some (.frz o u)
section
variable {p l : Addr} {H H' H'' : Hp} {o : HO}
theorem TK.refl : TK H H := ⟨fun _ _ e => e, fun _ _ _ e => e⟩
theorem TK.trans (a : TK H H') (b : TK H' H'') : TK H H'' := ⟨fun q xs e => b.t q xs (a.t q xs e), fun q o u e => b.f q o u (a.f q o u e)⟩
theorem TK.new (h : H l = none) : TK H (upd H l o) := ⟨fun q xs e => by rw [upd_ne (ne_of_none e h)]; exact e, fun q ob u e => by rw [upd_ne (ne_of_none e h)]; exact e⟩
theorem TK.lst {ys : List V} (h : H l = some (.lst ys)) : TK H (upd H l o) := ⟨fun q xs e => by rw [upd_ne (ne_of e h (by intro z; cases z))]; exact e, fun q ob u e => by rw [upd_ne (ne_of e h (by intro z; cases z))]; exact e⟩
theorem TK.same (k : Same H H') : TK H H' := ⟨fun _ _ e => k _ _ e, fun _ _ _ e => k _ _ e⟩
end
theorem _root_.L2.Same.new {H H' : Hp} {l : Addr} {o : HO} (k : Same H H') (h : H' l = none) : Same H (upd H' l o) := fun b u e => by
  rw [upd_ne (ne_of_none (k b u e) h)]
  exact k b u e
theorem _root_.L2.Same.put {H H' : Hp} {l : Addr} {o : HO} (k : Same H H') (h : H l = none) : Same H (upd H' l o) := fun b u e => by
  rw [upd_ne (ne_of_none e h)]
  exact k b u e
/-- the script, known as an object -/
def SqF (K : PySem.W.Frag) (H : Hp) (a : Addr) (xs : List V) : Prop :=
  (∃ o, H a = some (.frz o (.lst xs))) ∨ ∃ (o : Obj) (its : Array Value) (n : Nat), K.lookup a = some o ∧ o.cls = .type "list" ∧ o.dict = none ∧ o.data = .seq its n ∧ its.size ≤ sizeLine ∧ Vals xs its.toList
theorem SqF.sq {K : PySem.W.Frag} {H : Hp} {a : Addr} {xs : List V} : SqF K H a xs → SqL K H a xs
  | .inl ⟨o, e⟩ => .inl (.inr ⟨o, e⟩)
  | .inr h => .inr h
theorem SqF.of {K : PySem.W.Frag} {H : Hp} {a : Addr} {xs : List V} (O : Only H) : SqL K H a xs → SqF K H a xs
  | .inl (.inl e) => by
    rcases O a with z | ⟨o, ys, z⟩
    · rw [e] at z; cases z
    · rw [e] at z; cases z
  | .inl (.inr h) => .inl h
  | .inr h => .inr h
theorem SqF.tk {K : PySem.W.Frag} {H H' : Hp} {a : Addr} {xs : List V} (k : TK H H') : SqF K H a xs → SqF K H' a xs
  | .inl ⟨o, e⟩ => .inl ⟨o, k.f _ _ _ e⟩
  | .inr h => .inr h
/-! ### a tape of draws -/
structure Tp (H : Hp) (p l : Addr) (ns : List Int) : Prop where
  ex : ∃ c e : Int, H p = some (.lst [.ref l, .int c, .int e])
  hl : H l = some (.lst (ns.map V.int))
  ne : p ≠ l
section
variable {p l a : Addr} {H H' : Hp} {o : HO} {ns : List Int}
theorem Tp.draw (t : Tp H p l ns) {c e : Int} : Tp (upd H p (.lst [.ref l, .int c, .int e])) p l ns := ⟨⟨c, e, upd_same⟩, by rw [upd_ne (Ne.symm t.ne)]; exact t.hl, t.ne⟩
theorem Tp.np (t : Tp H p l ns) (h : H a = none) : p ≠ a := let ⟨_, _, e⟩ := t.ex; ne_of_none e h
theorem Tp.nl (t : Tp H p l ns) (h : H a = none) : l ≠ a := ne_of_none t.hl h
theorem Tp.new (t : Tp H p l ns) (h : H a = none) : Tp (upd H a o) p l ns := by
  obtain ⟨c, e, hp⟩ := t.ex
  exact ⟨⟨c, e, by rw [upd_ne (ne_of_none hp h)]; exact hp⟩, by rw [upd_ne (ne_of_none t.hl h)]; exact t.hl, t.ne⟩
theorem Tp.put (t : Tp H p l ns) (h1 : p ≠ a) (h2 : l ≠ a) : Tp (upd H a o) p l ns := by
  obtain ⟨c, e, hp⟩ := t.ex
  exact ⟨⟨c, e, by rw [upd_ne h1]; exact hp⟩, by rw [upd_ne h2]; exact t.hl, t.ne⟩
theorem Tp.same (t : Tp H p l ns) (k : Same H H') : Tp H' p l ns := by
  obtain ⟨c, e, hp⟩ := t.ex
  exact ⟨⟨c, e, k _ _ hp⟩, k _ _ t.hl, t.ne⟩
theorem Tp.tk (t : Tp H p l ns) : TK H (upd H p o) := let ⟨_, _, e⟩ := t.ex; TK.lst e
end
/-! ### texts -/
theorem log_small {n : Nat} (h : n < 1000000000000000) : n.log2 < 1920 := by
  by_cases h0 : n = 0
  · subst h0
    decide
  · exact (Nat.log2_lt h0).mpr (Nat.lt_of_lt_of_le h (by decide +kernel))
def Sm (i : Int) : Prop := -1000000000000000 < i ∧ i < 1000000000000000
theorem show_ints : ∀ (ns : List Int), (∀ n ∈ ns, Sm n) → PyData.showableAll (ns.map PyData.int) = true
  | [], _ => rfl
  | n :: ns, h => by
    obtain ⟨h0, h1⟩ := h n List.mem_cons_self
    have hs : n.natAbs.log2 < 1920 := log_small (by omega)
    simp only [List.map_cons, PyData.showableAll, PyData.showable, decide_eq_true hs, show_ints ns fun m hm => h m (List.mem_cons_of_mem _ hm), Bool.and_self]
theorem nodict_ints : ∀ (ns : List Int), PyData.hasDictAll (ns.map PyData.int) = false
  | [] => rfl
  | n :: ns => by simp only [List.map_cons, PyData.hasDictAll, PyData.hasDict, nodict_ints ns, Bool.or_self]
theorem len_int {n : Int} (h : Sm n) : (PyData.shown (.int n)).length ≤ 16 := by
  obtain ⟨h0, h1⟩ := h
  have := int_text_length_le10 (a := n) (k := 15) (by decide) (by omega)
  show (Str.ofString (toString n)).length ≤ 16
  rw [ofString_length]
  exact this
theorem len_ints : ∀ (ns : List Int), (∀ n ∈ ns, Sm n) → ((PyData.shownAll (ns.map PyData.int)).map (·.length)).sum ≤ 16 * ns.length ∧ (PyData.shownAll (ns.map PyData.int)).length = ns.length
  | [], _ => ⟨Nat.le_refl _, rfl⟩
  | n :: ns, h => by
    obtain ⟨i1, i2⟩ := len_ints ns fun m hm => h m (List.mem_cons_of_mem _ hm)
    have e := len_int (h n List.mem_cons_self)
    simp only [List.map_cons, PyData.shownAll, List.sum_cons, List.length_cons]
    exact ⟨by omega, by omega⟩
theorem len_tup (ds : List PyData) : (PyData.shown (.tuple ds)).length ≤ ((PyData.shownAll ds).map (·.length)).sum + 2 * (PyData.shownAll ds).length + 3 := tupleText_len_le _
/-- a thing that may be shown: at most n signs, at most h within one another -/
structure Shw (d : PyData) (n h : Nat) : Prop where
  s : d.showable = true
  nd : d.hasDict = false
  p : d.depth ≤ h
  l : d.shown.length ≤ n
theorem Shw.up {d : PyData} {n h m i : Nat} (x : Shw d n h) (h1 : n ≤ m) (h2 : h ≤ i) : Shw d m i := ⟨x.s, x.nd, Nat.le_trans x.p h2, Nat.le_trans x.l h1⟩
theorem Shw.int {i : Int} (h : Sm i) : Shw (.int i) 16 0 := ⟨by
  obtain ⟨h0, h1⟩ := h
  have hs : i.natAbs.log2 < 1920 := log_small (by omega)
  simp only [PyData.showable, decide_eq_true hs], rfl, Nat.zero_le _, len_int h⟩
theorem Shw.ints {ns : List Int} (h : ∀ n ∈ ns, Sm n) : Shw (.tuple (ns.map PyData.int)) (18 * ns.length + 3) 1 := ⟨by
    simp only [PyData.showable]
    exact show_ints ns h, by
    simp only [PyData.hasDict]
    exact nodict_ints ns, by
    show PyData.depthAll _ + 1 ≤ 1
    rw [depth_ints]
    decide, by
    have h1 := len_tup (ns.map PyData.int)
    obtain ⟨h2, h3⟩ := len_ints ns h
    omega⟩
theorem Shw.two {a b : PyData} {m n h : Nat} (ha : Shw a m h) (hb : Shw b n h) : Shw (.tuple [a, b]) (m + n + 7) (h + 1) := ⟨by
    simp only [PyData.showable, PyData.showableAll, ha.s, hb.s, Bool.and_self], by
    simp only [PyData.hasDict, PyData.hasDictAll, ha.nd, hb.nd, Bool.or_self], by
    show PyData.depthAll [a, b] + 1 ≤ h + 1
    have := ha.p
    have := hb.p
    simp only [PyData.depthAll]
    omega, by
    have h1 := len_tup [a, b]
    have := ha.l
    have := hb.l
    simp only [PyData.shownAll, List.map_cons, List.map_nil, List.sum_cons, List.sum_nil, List.length_cons, List.length_nil] at h1
    omega⟩
theorem Shw.three {a b c : PyData} {m n k h : Nat} (ha : Shw a m h) (hb : Shw b n h) (hc : Shw c k h) : Shw (.tuple [a, b, c]) (m + n + k + 9) (h + 1) := ⟨by
    simp only [PyData.showable, PyData.showableAll, ha.s, hb.s, hc.s, Bool.and_self], by
    simp only [PyData.hasDict, PyData.hasDictAll, ha.nd, hb.nd, hc.nd, Bool.or_self], by
    show PyData.depthAll [a, b, c] + 1 ≤ h + 1
    have := ha.p
    have := hb.p
    have := hc.p
    simp only [PyData.depthAll]
    omega, by
    have h1 := len_tup [a, b, c]
    have := ha.l
    have := hb.l
    have := hc.l
    simp only [PyData.shownAll, List.map_cons, List.map_nil, List.sum_cons, List.sum_nil, List.length_cons, List.length_nil] at h1
    omega⟩
theorem w_shw {H : Hp} {Q : VK} {v : V} {d : PyData} {n h : Nat} (r : RdV H v d) (x : Shw d n h) (hn : n ≤ 100000) (hh : h ≤ 50) (q : Q (.str d.shown) H) : rRepr [v] H Q :=
  ⟨v, d, rfl, r, x.s, x.nd, Nat.le_trans x.p hh, Nat.le_trans x.l (Nat.le_trans hn (by decide : 100000 ≤ sizeLine)), q⟩
/-- each of the ones times its other, added -/
def dot : List Int → List Int → Int
  | x :: xs, y :: ys => x * y + dot xs ys
  | _, _ => 0
/-- the two may be multiplied, item by item -/
def MulOk (xs ys : List Int) : Prop := ∀ (i : Nat) (x y : Int), xs[i]? = some x → ys[i]? = some y → CMul x y
end G2

set_option Elab.async false
set_option linter.all false
set_option maxRecDepth 100000
namespace L2
open PySem PySem.Spec PyProof.Rows
/-! ### products of great numbers -/
theorem w_gtup {K : PySem.W.Frag} {n : Nat} {t : TGs} {σ : St} {H : Hp} {Q : St → Hp → Prop} {a : Addr} {xs : List V} (h : H a = some (.tup xs)) (hn : xs.length = n) (q : t xs σ H Q) : gTup K n t (.ref a) σ H Q := ⟨a, xs, rfl, SqT.of h, hn, q⟩
theorem op_mulB {X : Cx} : OpR X (binaryOp .Mult) (rI IntMulOk fun i j => .int (i * j)) := opI fun _ _ _ _ _ _ _ hc q => mul_int q hc
end L2
namespace G2
open PySem L2
/-- at most ninety figures -/
def Bg (i : Int) : Prop := i.natAbs < 10 ^ 90
theorem Bg.bits {i : Int} (h : Bg i) : Builtin.Int.intBits i ≤ 300 := by
  unfold Bg at h
  unfold Builtin.Int.intBits
  by_cases h0 : i = 0
  · subst h0
    decide
  · have e : (i == 0) = false := by simpa using h0
    rw [e]
    have := (Nat.log2_lt (n := i.natAbs) (k := 299) (by omega)).mpr (Nat.lt_of_lt_of_le h (by decide +kernel))
    show i.natAbs.log2 + 1 ≤ 300
    omega
theorem mulB {i j : Int} (h : Bg i) (h' : Bg j) : IntMulOk i j := PySem.IntMulOk.of_le h.bits h'.bits (by decide)
section
variable {D : Addr} {te : TE} {tc : TT} {Q : VK} {ρ : St} {H : Hp} {K : PySem.W.Frag} {a b : Addr}
/-- numbers out of two tuples, item by item -/
theorem zip_map {xs ys : List Int} (g : Int → Int → Int) (ha : H a = some (.tup (xs.map V.int))) (hb : H b = some (.tup (ys.map V.int))) (hlen : xs.length = ys.length) (hn : xs.length ≤ 1000)
    (step : ∀ (i : Nat) (x y : Int) (H' : Hp), xs[i]? = some x → ys[i]? = some y → Same H H' → ∀ R : V → Hp → Prop, (∀ H'', Same H' H'' → R (.int (g x y)) H'') → te (some (.int x) :: some (.int y) :: ρ) H' R)
    (q : ∀ H', Same H H' → H' D = some (.lst ((List.zipWith g xs ys).map V.int)) → Q (.ref D) H') (hD : H D = none) : CGo (Itz K a b) D (gTup K 2 (gCons (gName 0) (gCons (gName 1) gNil))) tAll te Q (none :: none :: ρ) H := by
  refine cgo_zip (xs := xs.map V.int) (zs := ys.map V.int) (by simp [hlen]) (fun i zs H' => zs = ((List.zipWith g xs ys).take i).map V.int ∧ Same H H') ⟨rfl, Same.new (Same.refl H) hD⟩ (fun i zs H' _ ⟨_, k'⟩ => ⟨SqT.of (k' _ _ ha), SqT.of (k' _ _ hb)⟩) ?_ ?_
  · rintro i x z zs H' p hx hz ⟨rfl, K'⟩ hDz hp R S kR _
    have hi1 : i < xs.length := by
      have := (List.getElem?_eq_some_iff.mp hx).1
      simpa using this
    have hi2 : i < ys.length := by omega
    have ex : x = .int xs[i] := by
      rw [List.getElem?_map, List.getElem?_eq_getElem hi1] at hx
      exact (Option.some.inj hx).symm
    have ez : z = .int ys[i] := by
      rw [List.getElem?_map, List.getElem?_eq_getElem hi2] at hz
      exact (Option.some.inj hz).symm
    subst ex ez
    refine w_all ?_
    refine iteT ?_
    have hD' : upd H' p (.tup [.int xs[i], .int ys[i]]) D = some (.lst (((List.zipWith g xs ys).take i).map V.int)) := by rw [upd_ne (ne_of_none hDz hp)]; exact hDz
    refine step i _ _ _ (by simp [hi1]) (by simp [hi2]) (K'.new hp) R fun H'' K'' => ?_
    refine kR _ _ (K'' _ _ hD') (by rw [List.length_map, List.length_take]; exact small1000 (by omega)) ⟨?_, ((K'.new hp).trans K'').put hD⟩
    have hz' : (List.zipWith g xs ys)[i]? = some (g xs[i] ys[i]) := by simp [List.getElem?_zipWith, hi1, hi2]
    rw [List.take_add_one, List.map_append, hz']
    rfl
  · rintro zs H' ⟨rfl, K'⟩ hDz
    refine q H' K' ?_
    rw [hDz, List.take_of_length_le]
    simp
    omega
/-- numbers out of one tuple -/
theorem tup_map {xs : List Int} (g : Int → Int) (ha : H a = some (.tup (xs.map V.int))) (hn : xs.length ≤ 1000)
    (step : ∀ (i : Nat) (x : Int) (H' : Hp), xs[i]? = some x → Same H H' → ∀ R : V → Hp → Prop, (∀ H'', Same H' H'' → R (.int (g x)) H'') → te (some (.int x) :: ρ) H' R)
    (q : ∀ H', Same H H' → H' D = some (.lst ((xs.map g).map V.int)) → Q (.ref D) H') (hD : H D = none) : CGo (Itt K a) D (gName 0) tAll te Q (none :: ρ) H := by
  refine cgo_tup (xs := xs.map V.int) (fun i zs H' => zs = ((xs.map g).take i).map V.int ∧ Same H H') ⟨rfl, Same.new (Same.refl H) hD⟩ (fun i zs H' _ ⟨_, k'⟩ => SqT.of (k' _ _ ha)) ?_ ?_
  · rintro i x zs H' hx ⟨rfl, K'⟩ hDz R S kR _
    have hi1 : i < xs.length := by
      have := (List.getElem?_eq_some_iff.mp hx).1
      simpa using this
    have ex : x = .int xs[i] := by
      rw [List.getElem?_map, List.getElem?_eq_getElem hi1] at hx
      exact (Option.some.inj hx).symm
    subst ex
    refine w_all ?_
    refine iteT ?_
    refine step i _ _ (by simp [hi1]) K' R fun H'' K'' => ?_
    refine kR _ _ (K'' _ _ hDz) (by rw [List.length_map, List.length_take]; exact small1000 (by omega)) ⟨?_, (K'.trans K'').put hD⟩
    rw [List.take_add_one, List.map_append]
    simp [hi1]
  · rintro zs H' ⟨rfl, K'⟩ hDz
    refine q H' K' ?_
    rw [hDz, List.take_of_length_le]
    simp
/-- numbers by place -/
theorem rng_map {n : Nat} (g : Nat → Int) (hn : n ≤ 1000)
    (step : ∀ (i : Nat) (H' : Hp), i < n → Same H H' → ∀ R : V → Hp → Prop, (∀ H'', Same H' H'' → R (.int (g i)) H'') → te (some (.int (i : Int)) :: ρ) H' R)
    (q : ∀ H', Same H H' → H' D = some (.lst (((List.range n).map g).map V.int)) → Q (.ref D) H') (hD : H D = none) : CGo (Itr 0 n) D (gName 0) tAll te Q (none :: ρ) H := by
  refine cgo_range (fun i zs H' => zs = ((List.range i).map g).map V.int ∧ Same H H') ⟨rfl, Same.new (Same.refl H) hD⟩ ?_ ?_
  · rintro i zs H' hi ⟨rfl, K'⟩ hDz R S kR _
    rw [Int.zero_add]
    refine w_all ?_
    refine iteT ?_
    refine step i _ hi K' R fun H'' K'' => ?_
    refine kR _ _ (K'' _ _ hDz) (by rw [List.length_map, List.length_map, List.length_range]; exact small1000 (by omega)) ⟨?_, (K'.trans K'').put hD⟩
    rw [List.range_succ, List.map_append, List.map_append]
    rfl
  · rintro zs H' ⟨rfl, K'⟩ hDz
    exact q H' K' hDz
end
/-! ### texts of great numbers -/
theorem Bg.log {i : Int} (h : Bg i) : i.natAbs.log2 < 1920 := by
  unfold Bg at h
  by_cases h0 : i.natAbs = 0
  · rw [h0]
    decide
  · exact (Nat.log2_lt h0).mpr (Nat.lt_of_lt_of_le h (by decide +kernel))
theorem Bg.len {n : Int} (h : Bg n) : (PyData.shown (.int n)).length ≤ 91 := by
  have := int_text_length_le10 (a := n) (k := 90) (by decide) h
  show (Str.ofString (toString n)).length ≤ 91
  rw [ofString_length]
  exact this
theorem show_intsB : ∀ (ns : List Int), (∀ n ∈ ns, Bg n) → PyData.showableAll (ns.map PyData.int) = true
  | [], _ => rfl
  | n :: ns, h => by
    simp only [List.map_cons, PyData.showableAll, PyData.showable, decide_eq_true (h n List.mem_cons_self).log, show_intsB ns fun m hm => h m (List.mem_cons_of_mem _ hm), Bool.and_self]
theorem len_intsB : ∀ (ns : List Int), (∀ n ∈ ns, Bg n) → ((PyData.shownAll (ns.map PyData.int)).map (·.length)).sum ≤ 91 * ns.length ∧ (PyData.shownAll (ns.map PyData.int)).length = ns.length
  | [], _ => ⟨Nat.le_refl _, rfl⟩
  | n :: ns, h => by
    obtain ⟨i1, i2⟩ := len_intsB ns fun m hm => h m (List.mem_cons_of_mem _ hm)
    have e := (h n List.mem_cons_self).len
    simp only [List.map_cons, PyData.shownAll, List.sum_cons, List.length_cons]
    exact ⟨by omega, by omega⟩
theorem Shw.big {i : Int} (h : Bg i) : Shw (.int i) 91 0 := ⟨by simp only [PyData.showable, decide_eq_true h.log], rfl, Nat.zero_le _, h.len⟩
theorem Shw.bigs {ns : List Int} (h : ∀ n ∈ ns, Bg n) : Shw (.tuple (ns.map PyData.int)) (93 * ns.length + 3) 1 := ⟨by
    simp only [PyData.showable]
    exact show_intsB ns h, by
    simp only [PyData.hasDict]
    exact nodict_ints ns, by
    show PyData.depthAll _ + 1 ≤ 1
    rw [depth_ints]
    decide, by
    have h1 := len_tup (ns.map PyData.int)
    obtain ⟨h2, h3⟩ := len_intsB ns h
    omega⟩
/-! ### lists and tuples compared -/
section
variable {X : Cx} {k : Nat}
def rNeD : R2 := fun x y H Q => ∃ dx dy, RdV H x dx ∧ RdV H y dy ∧ dx.canLay0 = true ∧ dy.canLay0 = true ∧ dx.depth ≤ 60 ∧ Q (.bl (!PyData.eqv dx dy)) H
end
/-! ### forms -/
structure Fm where
  ins : List Int
  sts : List Int
  plus : Int
def FmAt (H : Hp) (q : Addr) (f : Fm) : Prop := ∃ a b, H q = some (.tup [.ref a, .ref b, .int f.plus]) ∧ H a = some (.tup (f.ins.map V.int)) ∧ H b = some (.tup (f.sts.map V.int))
theorem FmAt.same {H H' : Hp} {q : Addr} {f : Fm} (k : Same H H') : FmAt H q f → FmAt H' q f
  | ⟨a, b, h1, h2, h3⟩ => ⟨a, b, k _ _ h1, k _ _ h2, k _ _ h3⟩
theorem FmAt.tk {H H' : Hp} {q : Addr} {f : Fm} (k : TK H H') : FmAt H q f → FmAt H' q f
  | ⟨a, b, h1, h2, h3⟩ => ⟨a, b, k.t _ _ h1, k.t _ _ h2, k.t _ _ h3⟩
def addF (f g : Fm) : Fm := ⟨List.zipWith (fun x y => x + y) f.ins g.ins, List.zipWith (fun x y => x + y) f.sts g.sts, f.plus + g.plus⟩
def oftF (t : Int) (f : Fm) : Fm := ⟨f.ins.map fun x => t * x, f.sts.map fun x => t * x, t * f.plus⟩
def moreF (n : Int) (f : Fm) : Fm := ⟨f.ins, f.sts, f.plus + n⟩
def fmV (f : Fm) (am st : List Int) : Int := dot f.ins am + dot f.sts st + f.plus
/-- its kind, and a bound of its numbers -/
structure FmOk (n m : Nat) (B : Int) (f : Fm) : Prop where
  li : f.ins.length = n
  ls : f.sts.length = m
  bi : ∀ x ∈ f.ins, -B ≤ x ∧ x ≤ B
  bs : ∀ x ∈ f.sts, -B ≤ x ∧ x ≤ B
  bp : -B ≤ f.plus ∧ f.plus ≤ B
def fmD (f : Fm) : PyData := .tuple [.tuple (f.ins.map .int), .tuple (f.sts.map .int), .int f.plus]
theorem fm_rd {H : Hp} {q : Addr} {f : Fm} : FmAt H q f → RdV H (.ref q) (fmD f)
  | ⟨_, _, hq, ha, hb⟩ => .tup hq (.cons (.tup ha (rdInts _)) (.cons (.tup hb (rdInts _)) (.cons (.int _) .nil)))
theorem Bg.of {x B : Int} (hB : B < 10 ^ 90) (h : -B ≤ x ∧ x ≤ B) : Bg x := by
  unfold Bg
  omega
theorem fm_shw {n m : Nat} {B : Int} {f : Fm} (h : FmOk n m B f) (hB : B < 10 ^ 90) (hn : n ≤ 10) (hm : m ≤ 10) : Shw (fmD f) 2100 2 := by
  have e1 := Shw.bigs (ns := f.ins) fun x hx => Bg.of hB (h.bi x hx)
  have e2 := Shw.bigs (ns := f.sts) fun x hx => Bg.of hB (h.bs x hx)
  have e3 := (Shw.big (Bg.of hB h.bp)).up (Nat.le_refl _) (Nat.zero_le 1)
  have := h.li
  have := h.ls
  exact (e1.three e2 e3).up (by omega) (Nat.le_refl _)
end G2

set_option Elab.async false
set_option linter.all false
set_option maxRecDepth 100000
namespace L2
open PySem PySem.Spec PyProof.Rows
section
variable {prog : Program} {w : World} {A : Around} {E : Value → Shared → Prop} {s : Shared}
end
/-- zip over the tuples at a, b and c, all as long -/
def It3 (K : PySem.W.Frag) (a b c : Addr) : It :=
  ⟨fun i H => ∃ xs ys zs x y z, SqT K H a xs ∧ SqT K H b ys ∧ SqT K H c zs ∧ xs[i]? = some x ∧ ys[i]? = some y ∧ zs[i]? = some z,
   fun i H v H' => ∃ p x y z, v = .ref p ∧ H p = none ∧ H' = upd H p (.tup [x, y, z]) ∧ (∀ xs, SqT K H a xs → xs[i]? = some x) ∧ (∀ ys, SqT K H b ys → ys[i]? = some y) ∧ ∀ zs, SqT K H c zs → zs[i]? = some z,
   fun i H => ∃ xs, SqT K H a xs ∧ xs.length ≤ i⟩
section
variable {X : Cx} {es : List Expr} {kt : Nat} {pt : Pos}
def iZt (K : PySem.W.Frag) (ta : TA) : TI := fun σ H R => ta σ H fun vs H1 => ∃ a b c, vs = [.ref a, .ref b, .ref c] ∧ (∃ xs, SqT K H1 a xs) ∧ (∃ ys, SqT K H1 b ys) ∧ (∃ zs, SqT K H1 c zs) ∧ R (It3 K a b c) H1
end
end L2

set_option Elab.async false
set_option linter.all false
set_option maxRecDepth 100000
namespace L2
open PySem PySem.Spec PyProof.Rows
section
variable {X : Cx}
theorem bools_of : ∀ {bs : List Bool} {us : List Value}, Vals (bs.map V.bl) us → us = bs.map Value.bool
  | [], us, r => by
    cases r
    rfl
  | b :: bs, us, r => by
    cases r with
    | cons r1 r2 =>
      cases r1
      rw [bools_of r2]
      rfl
def rAll : List V → Hp → VK → Prop := fun xs H Q => ∃ (p : Addr) (bs : List Bool), xs = [.ref p] ∧ H p = some (.lst (bs.map V.bl)) ∧ Q (.bl (bs.all id)) H
theorem all_range (bs : List Bool) : (List.range bs.length).all (fun i => bs.getD i false) = bs.all id := by
  rw [Bool.eq_iff_iff, List.all_eq_true, List.all_eq_true]
  constructor
  · intro h b hb
    obtain ⟨i, hi, rfl⟩ := List.getElem_of_mem hb
    have := h i (List.mem_range.mpr hi)
    simpa [List.getD_eq_getElem?_getD, hi] using this
  · intro h i hi
    have hi' := List.mem_range.mp hi
    have := h bs[i] (List.getElem_mem hi')
    simpa [List.getD_eq_getElem?_getD, hi'] using this
theorem call_all (hc : X.calm = true) : CallR X (.builtin "all") rAll := by
  intro pins s σ H xs us Q I r h
  obtain ⟨p, bs, rfl, hp, q⟩ := h
  obtain ⟨u, rfl, ru⟩ := r.one
  cases ru
  obtain ⟨its, n, rv, e, z⟩ := I.lst hp
  have hits := bools_of rv
  subst hits
  have hl : s.heap.IsList p (bs.map Value.bool).toArray := ⟨_, e, rfl, n, rfl⟩
  refine call_all_walk (wpAny_pyIter_list hl ?_)
  refine ⟨_, _, _, _, _, _, fun i => bs.getD i false, rfl, Walks.list (A := X.A.in1) (I.ok.hd hc) _ p (Nat.ne_of_lt (Heap.lt_size e)) (bs.map Value.bool).toArray, ⟨⟨_, Heap.get?_push_size _ rfl, rfl, rfl⟩, hl.push _⟩, ?_, fun h' tk hk => ?_⟩
  · intro i v s' Q' E' hv hQ'
    have hv' : (bs.map Value.bool)[i]? = some v := by simpa using hv
    rw [List.getElem?_map] at hv'
    cases eb : bs[i]? with
    | none => rw [eb] at hv'; cases hv'
    | some b =>
      rw [eb] at hv'
      cases hv'
      have : bs.getD i false = b := by rw [List.getD_eq_getElem?_getD, eb]; rfl
      refine wpAny_truthy_bool ?_
      dsimp only at hQ'
      rw [this] at hQ'
      exact hQ'
  · have e1 : (List.range (bs.map Value.bool).toArray.size).all (fun i => bs.getD i false) = bs.all id := by simpa using all_range bs
    rw [e1]
    exact ⟨.bl _, H, I.kept (t' := tk) (old_kept (l := p) hk), rfl, q⟩
def rMinL : List V → Hp → VK → Prop := fun xs H Q => ∃ (p : Addr) (ns : List Int), xs = [.ref p] ∧ H p = some (.lst (ns.map V.int)) ∧ 0 < ns.length ∧ ∀ M, M ∈ ns → (∀ a ∈ ns, M ≤ a) → Q (.int M) H
end
end L2

set_option Elab.async false
set_option linter.all false
set_option maxRecDepth 100000
namespace L2
open PySem PySem.Spec PyProof.Rows
/-- enumerate over the list at a -/
def Itel (K : PySem.W.Frag) (a : Addr) : It :=
  ⟨fun i H => ∃ xs x, SqL K H a xs ∧ xs[i]? = some x, fun i H v H' => ∃ p x, v = .ref p ∧ H p = none ∧ H' = upd H p (.tup [.int (i : Int), x]) ∧ ∀ xs, SqL K H a xs → xs[i]? = some x, fun i H => ∃ xs, SqL K H a xs ∧ xs.length = i⟩

section
variable {X : Cx} {es : List Expr} {kt : Nat} {pt : Pos}
def iEnl (K : PySem.W.Frag) (ta : TA) : TI := fun σ H R => ta σ H fun vs H1 => ∃ a, vs = [.ref a] ∧ (∃ xs, SqL K H1 a xs) ∧ R (Itel K a) H1
end
end L2

set_option Elab.async false
set_option linter.all false
set_option maxRecDepth 100000
namespace L2
open PySem PySem.Spec PyProof.Rows
def isI (i : Int) : Value → Bool
  | .int a _ => a == i
  | _ => false
section
variable {X : Cx}
/-- xs.remove(i), xs a list of ints -/
def rRem : V → List V → Hp → VK → Prop := fun x vs H Q => ∃ (l : Addr) (xs : List Int) (i : Int), x = .ref l ∧ vs = [.int i] ∧ H l = some (.lst (xs.map V.int)) ∧ i ∈ xs ∧ Q .non (upd H l (.lst ((xs.erase i).map V.int)))

end
/-- a block over a list, one name -/
theorem cgo_list {D : Addr} {tc : TT} {te : TE} {Q : VK} {ρ : St} {H : Hp} {K : PySem.W.Frag} {a : Addr} {xs : List V} (Pv : Nat → List V → Hp → Prop) (h0 : Pv 0 [] (upd H D (.lst []))) (hl : ∀ i ys H', i ≤ xs.length → Pv i ys H' → SqL K H' a xs)
    (hs : ∀ i x ys H', xs[i]? = some x → Pv i ys H' → H' D = some (.lst ys) → ∀ (R : V → Hp → Prop) (S : Hp → Prop), (∀ y H4, H4 D = some (.lst ys) → ys.length < sizeLine → Pv (i + 1) (ys ++ [y]) (upd H4 D (.lst (ys ++ [y]))) → R y H4) → (∀ H3, H3 D = some (.lst ys) → Pv (i + 1) ys H3 → S H3) →
      tc (some x :: ρ) H' fun b H3 => if b = true then te (some x :: ρ) H3 R else S H3)
    (hd : ∀ ys H', Pv xs.length ys H' → H' D = some (.lst ys) → Q (.ref D) H') : CGo (Itl K a) D (gName 0) tc te Q (none :: ρ) H := by
  refine ⟨fun i m τ ys H' => m = xs.length - i ∧ i ≤ xs.length ∧ (∃ tv, τ = tv :: ρ) ∧ Pv i ys H' ∧ H' D = some (.lst ys), ⟨xs.length, by omega, Nat.zero_le _, ⟨_, rfl⟩, h0, upd_same⟩, ?_⟩
  rintro i m τ ys H' ⟨rfl, hi, ⟨tv, rfl⟩, hp, hD⟩
  refine ⟨hD, ?_⟩
  have sq := hl i ys H' hi hp
  by_cases hlt : i < xs.length
  · refine .inr ⟨⟨xs, xs[i], sq, by simp [hlt]⟩, ?_⟩
    rintro v H'' ⟨rfl, hv⟩
    have hv' := hv xs sq
    show tc (some v :: ρ) _ _
    exact hs i v ys _ hv' hp hD _ _ (fun y H4 a b c => ⟨a, b, xs.length - (i + 1), by omega, rfl, hlt, ⟨_, rfl⟩, c, upd_same⟩) fun H3 a c => ⟨xs.length - (i + 1), by omega, rfl, hlt, ⟨_, rfl⟩, c, a⟩
  · have e : i = xs.length := by omega
    subst e
    exact .inl ⟨⟨xs, sq, Nat.le_refl _⟩, hd ys _ hp hD⟩
end L2

set_option Elab.async false
set_option linter.all false
set_option maxRecDepth 100000
namespace L2
open PySem PySem.Spec PyProof.Rows
section
variable {X : Cx}
def rAny : List V → Hp → VK → Prop := fun xs H Q => ∃ (p : Addr) (bs : List Bool), xs = [.ref p] ∧ H p = some (.lst (bs.map V.bl)) ∧ Q (.bl (bs.any id)) H
theorem any_range (bs : List Bool) : (List.range bs.length).any (fun i => bs.getD i false) = bs.any id := by
  rw [Bool.eq_iff_iff, List.any_eq_true, List.any_eq_true]
  constructor
  · rintro ⟨i, hi, h⟩
    have hi' := List.mem_range.mp hi
    refine ⟨bs[i], List.getElem_mem hi', ?_⟩
    simpa [List.getD_eq_getElem?_getD, hi'] using h
  · rintro ⟨b, hb, h⟩
    obtain ⟨i, hi, rfl⟩ := List.getElem_of_mem hb
    exact ⟨i, List.mem_range.mpr hi, by simpa [List.getD_eq_getElem?_getD, hi] using h⟩
theorem call_any (hc : X.calm = true) : CallR X (.builtin "any") rAny := by
  intro pins s σ H xs us Q I r h
  obtain ⟨p, bs, rfl, hp, q⟩ := h
  obtain ⟨u, rfl, ru⟩ := r.one
  cases ru
  obtain ⟨its, n, rv, e, z⟩ := I.lst hp
  have hits := bools_of rv
  subst hits
  have hl : s.heap.IsList p (bs.map Value.bool).toArray := ⟨_, e, rfl, n, rfl⟩
  refine call_any_walk (wpAny_pyIter_list hl ?_)
  refine ⟨_, _, _, _, _, _, fun i => bs.getD i false, rfl, Walks.list (A := X.A.in1) (I.ok.hd hc) _ p (Nat.ne_of_lt (Heap.lt_size e)) (bs.map Value.bool).toArray, ⟨⟨_, Heap.get?_push_size _ rfl, rfl, rfl⟩, hl.push _⟩, ?_, fun h' tk hk => ?_⟩
  · intro i v s' Q' E' hv hQ'
    have hv' : (bs.map Value.bool)[i]? = some v := by simpa using hv
    rw [List.getElem?_map] at hv'
    cases eb : bs[i]? with
    | none => rw [eb] at hv'; cases hv'
    | some b =>
      rw [eb] at hv'
      cases hv'
      have : bs.getD i false = b := by rw [List.getD_eq_getElem?_getD, eb]; rfl
      refine wpAny_truthy_bool ?_
      dsimp only at hQ'
      rw [this] at hQ'
      exact hQ'
  · have e1 : (List.range (bs.map Value.bool).toArray.size).any (fun i => bs.getD i false) = bs.any id := by simpa using any_range bs
    rw [e1]
    exact ⟨.bl _, H, I.kept (t' := tk) (old_kept (l := p) hk), rfl, q⟩
def rMaxL : List V → Hp → VK → Prop := fun xs H Q => ∃ (p : Addr) (ns : List Int), xs = [.ref p] ∧ H p = some (.lst (ns.map V.int)) ∧ 0 < ns.length ∧ ∀ M, M ∈ ns → (∀ a ∈ ns, a ≤ M) → Q (.int M) H

/-- xs.insert(i, y), i at 0 or above -/
def rIns : V → List V → Hp → VK → Prop := fun x vs H Q => ∃ (l : Addr) (xs : List V) (i : Int) (y : V), x = .ref l ∧ vs = [.int i, y] ∧ H l = some (.lst xs) ∧ 0 ≤ i ∧ i ≤ xs.length ∧ xs.length < sizeLine ∧ Q .non (upd H l (.lst (xs.take i.toNat ++ y :: xs.drop i.toNat)))
theorem mt_insert : MtM X "list.insert" rIns := by
  intro pins s σ H x vs v us Q I rx rv h
  obtain ⟨l, xs, i, y, rfl, rfl, hH, h0, hi, hz, q⟩ := h
  cases rx
  obtain ⟨u1, us', rfl, ru1, rv'⟩ : ∃ u1 us', us = u1 :: us' ∧ RelV (.int i) u1 ∧ Vals [y] us' := by
    cases rv with
    | cons r1 r2 => exact ⟨_, _, rfl, r1, r2⟩
  obtain ⟨u2, rfl, ru2⟩ := rv'.one
  obtain ⟨t, rfl⟩ := ru1
  obtain ⟨z, its, n, r, hl, e⟩ := I.lstM hH
  have hz' : xs.length < 2 ^ 62 := Nat.lt_of_lt_of_le hz (by decide)
  have hfit : ¬(!Builtin.List.listFitsIndex i) = true := by
    rw [fitsIndex_both (k := i) (by omega) (by omega)]
    decide
  have hsz : its.toArray.size ≤ sizeLine := by rw [List.size_toArray, ← hl]; exact Nat.le_of_lt hz
  refine call_meets F.slot_list_insert ⟨_, e, rfl⟩ F.entry_list_insert (F.args_list_insert_3 _ _ _) (AutoSeq1.list_insert_list_int_val_1 l its.toArray n i t u2 hfit hsz) ⟨e, ?_⟩
  refine ⟨.non, _, I.lset (its' := its.take i.toNat ++ u2 :: its.drop i.toNat) hH e ?_ ((r.take i.toNat).append (.cons ru2 (r.drop i.toNat))) ?_, rfl, q⟩
  · have hk : (if i < 0 then (i + (its.toArray.size : Int)).toNat else min i.toNat its.toArray.size) = i.toNat := by
      rw [if_neg (by omega), List.size_toArray]
      omega
    show Array.push (its.toArray.extract 0 (if i < 0 then (i + (its.toArray.size : Int)).toNat else min i.toNat its.toArray.size)) u2 ++ its.toArray.extract (if i < 0 then (i + (its.toArray.size : Int)).toNat else min i.toNat its.toArray.size) = _
    rw [hk]
    apply Array.toList_inj.mp
    simp [List.take_drop]
    rw [List.take_of_length_le (by omega)]
  · rw [List.length_append, List.length_cons, List.length_take, List.length_drop]
    omega
end
end L2

set_option Elab.async false
set_option linter.all false
set_option maxRecDepth 100000
namespace L2
open PySem PySem.Spec PyProof.Rows
/-- zip over the lists at a and b -/
def Itzl (K : PySem.W.Frag) (a b : Addr) : It :=
  ⟨fun i H => ∃ xs ys x y, SqL K H a xs ∧ SqL K H b ys ∧ xs[i]? = some x ∧ ys[i]? = some y, fun i H v H' => ∃ p x y, v = .ref p ∧ H p = none ∧ H' = upd H p (.tup [x, y]) ∧ (∀ xs, SqL K H a xs → xs[i]? = some x) ∧ ∀ ys, SqL K H b ys → ys[i]? = some y,
    fun i H => ∃ xs ys, SqL K H a xs ∧ SqL K H b ys ∧ (xs.length ≤ i ∨ ys.length ≤ i)⟩
theorem turn_zpl {P : Program} {w : World} {K : PySem.W.Frag} {es : List Expr} {kt : Nat} {pt : Pos} (a b z TI TO i1 i2 : Addr) (D : ZipApart z TI TO i1 i2 a b) :
    Turn P w K (.Tuple es kt pt) (Itzl K a b) [z, TI, TO, i1, i2] z (fun i h => IsZip h z TI TO .none ∧ IsPair h TI (.ref i1) (.ref i2) ∧ (∃ u v, IsPair h TO u v) ∧ h.IsListIter i1 a i ∧ h.IsListIter i2 b i) where
  mem := by simp
  obj := fun i h st q hq => by
    obtain ⟨hz, hI, ⟨u, v, hO⟩, ⟨o1, e1, c1, d1⟩, ⟨o2, e2, c2, d2⟩⟩ := st
    simp only [List.mem_cons, List.not_mem_nil, or_false] at hq
    rcases hq with rfl | rfl | rfl | rfl | rfl
    · exact ⟨_, hz, fun v y => by have y' : Data.fields _ = Data.cell v := y; cases y'⟩
    · exact ⟨_, hI, fun v y => by have y' : Data.seq _ _ = Data.cell v := y; cases y'⟩
    · exact ⟨_, hO, fun v y => by have y' : Data.seq _ _ = Data.cell v := y; cases y'⟩
    · exact ⟨o1, e1, fun v y => by rw [d1] at y; cases y⟩
    · exact ⟨o2, e2, fun v y => by rw [d2] at y; cases y⟩
  keep := fun i h h' st k => ⟨k z (by simp) _ st.1, k TI (by simp) _ st.2.1, let ⟨u, v, q⟩ := st.2.2.1; ⟨u, v, k TO (by simp) _ q⟩, st.2.2.2.1.at fun o x => k i1 (by simp) o x, st.2.2.2.2.at fun o x => k i2 (by simp) o x⟩
  item := by
    intro X hP hw hK hc i pins s σ H E I hf st hg
    subst hP hw hK
    obtain ⟨xs, ys, x, y, hqa, hqb, hx, hy⟩ := hg
    obtain ⟨ia, rva, pa, za⟩ := I.list hqa
    obtain ⟨ib, rvb, pb, zb⟩ := I.list hqb
    obtain ⟨u, hu, ru⟩ := rva.get hx
    obtain ⟨v, hv, rv⟩ := rvb.get hy
    obtain ⟨hz, hI, ⟨ou, ov, hO⟩, h1, h2⟩ := st
    refine wpAny_pyNext_zip_item D hz hI hO h1 h2 pa.isList pb.isList (x := u) (y := v) (by simpa using hu) (by simpa using hv) fun h' z' o' a' b' t' _ k' => ?_
    refine ⟨_, rfl, wpAny_letOwnedTupleGo_zip z' fun h'' z'' sb => ?_⟩
    have nz : s.heap.objs.size ≠ z := Nat.ne_of_gt (Heap.lt_size hz)
    have nTO : s.heap.objs.size ≠ TO := Nat.ne_of_gt (Heap.lt_size hO)
    have nTI : s.heap.objs.size ≠ TI := Nat.ne_of_gt (Heap.lt_size hI)
    have n1 : s.heap.objs.size ≠ i1 := by obtain ⟨o, e, _⟩ := h1; exact Nat.ne_of_gt (Heap.lt_size e)
    have n2 : s.heap.objs.size ≠ i2 := by obtain ⟨o, e, _⟩ := h2; exact Nat.ne_of_gt (Heap.lt_size e)
    have up : ∀ q o, q ≠ z → h'.get? q = some o → h''.get? q = some o := fun q o hq e => (sb.2 q hq).trans e
    have hI'' : IsPair h'' TI (.ref i1) (.ref i2) := up _ _ D.TIz (k' TI _ D.TIz D.TITO D.TIi1 D.TIi2 hI)
    have I2 : Inv X pins σ (upd H s.heap.objs.size (.tup [x, y])) { s with heap := h'', toks := s.toks } := I.turnNew (ch := [z, TI, TO, i1, i2]) hf (fun q o hq e => by
      simp only [List.mem_cons, List.not_mem_nil, or_false, not_or] at hq
      exact up q o hq.1 (k' q o hq.1 hq.2.2.1 hq.2.2.2.1 hq.2.2.2.2 e)) (fun q hq => by
      simp only [List.mem_cons, List.not_mem_nil, or_false] at hq
      rcases hq with rfl | rfl | rfl | rfl | rfl
      · exact ⟨_, z''⟩
      · exact ⟨_, hI''⟩
      · exact ⟨_, up _ _ D.TOz o'⟩
      · obtain ⟨o, e, _⟩ := a'; exact ⟨o, up _ o D.i1z e⟩
      · obtain ⟨o, e, _⟩ := b'; exact ⟨o, up _ o D.i2z e⟩) (Nat.le_refl _) (vals := [u, v]) (.cons ru (.cons rv .nil)) (by show 2 ≤ sizeLine; decide) ⟨_, up _ _ nz t', rfl, _, rfl⟩
    refine ⟨.ref s.heap.objs.size, _, I2, rfl, ⟨_, x, y, rfl, I.fresh, rfl, fun zs hzs => by rw [I.list_inj hzs hqa]; exact hx, fun zs hzs => by rw [I.list_inj hzs hqb]; exact hy⟩,
      ⟨z'', hI'', ⟨_, _, up _ _ D.TOz o'⟩, a'.at fun o e => up _ o D.i1z e, b'.at fun o e => up _ o D.i2z e⟩, fun q hq => ?_⟩
    have hq0 := (hf q hq).1
    simp only [List.mem_cons, List.not_mem_nil, or_false] at hq
    rw [upd_ne]
    · exact hq0
    · rcases hq with rfl | rfl | rfl | rfl | rfl
      · exact Ne.symm nz
      · exact Ne.symm nTI
      · exact Ne.symm nTO
      · exact Ne.symm n1
      · exact Ne.symm n2
  done := by
    intro X hP hw hK hc i pins s σ H E I hf st hg
    subst hP hw hK
    obtain ⟨xs, ys, hqa, hqb, hx⟩ := hg
    obtain ⟨ia, rva, pa, za⟩ := I.list hqa
    obtain ⟨ib, rvb, pb, zb⟩ := I.list hqb
    obtain ⟨hz, hI, ⟨ou, ov, hO⟩, h1, h2⟩ := st
    have la := rva.length
    have lb := rvb.length
    refine wpAny_pyNext_zip_end (I.ok.hd hc) D hz hI hO h1 h2 pa.isList pb.isList (hx.elim (fun q => .inl (by simp; omega)) fun q => .inr (by simp; omega)) fun h' k' => ?_
    refine ⟨rfl, I.turnOnly (tk := s.toks) hf fun q o hq e => ?_⟩
    simp only [List.mem_cons, List.not_mem_nil, or_false, not_or] at hq
    exact k' q o hq.1 hq.2.2.1 hq.2.2.2.1 hq.2.2.2.2 e
  self := fun _ _ s _ _ st h => wpAny_pyIter_zip st.1 h
section
variable {X : Cx} {es : List Expr} {kt : Nat} {pt : Pos}
def iZpl (K : PySem.W.Frag) (ta : TA) : TI := fun σ H R => ta σ H fun vs H1 => ∃ a b, vs = [.ref a, .ref b] ∧ (∃ xs, SqL K H1 a xs) ∧ (∃ ys, SqL K H1 b ys) ∧ R (Itzl K a b) H1
/-- for x, y in zip(a, b), both lists -/
theorem pi_zpl {e e' : Expr} {ta : TA} {p pos : Pos} (hm : X.mg "zip" = none) (ha : PA X [e, e'] ta) (hg : Gl X "zip" := by rfl) (h : isStar e = false := by rfl) (h' : isStar e' = false := by rfl) : PI X (.Tuple es kt pt) (.Call (.Name "zip" p) [e, e'] [] pos) (iZpl X.K ta) := by
  intro pins s σ H R I hh
  refine Call_ (ld_blt I hg hm boot_zip (PyProof.Rows.callWith_type1 (thn (ha pos pins s σ H _ I hh) fun us s1 ⟨vs, H1, I1, r1, q1⟩ => ?_) (star1 h) (star_any (by simp [h']))))
  obtain ⟨a, b, rfl, ⟨xs, hqa⟩, ⟨ys, hqb⟩, q⟩ := q1
  cases r1 with
  | cons ru r2 =>
    cases r2 with
    | cons rv r3 =>
      cases r3
      cases ru
      cases rv
      obtain ⟨ia, rva, pa, za⟩ := I1.list hqa
      obtain ⟨ib, rvb, pb, zb⟩ := I1.list hqb
      have la : a < s1.heap.objs.size := by obtain ⟨o, _, e, _⟩ := pa; exact Heap.lt_size e
      have lb : b < s1.heap.objs.size := by obtain ⟨o, _, e, _⟩ := pb; exact Heap.lt_size e
      refine call_zip_2 (xs := ia.toArray) (ys := ib.toArray) pa.isList pb.isList fun g hz hI hO j1 j2 _ hk => wpAny_pyIter_zip hz ?_
      refine ⟨_, [s1.heap.objs.size + 4, s1.heap.objs.size + 2, s1.heap.objs.size + 3, s1.heap.objs.size, s1.heap.objs.size + 1], _, _, H1, rfl, I1.kept (t' := s1.toks) hk, turn_zpl a b _ _ _ _ _ (zipApart_new la lb), ⟨hz, hI, ⟨_, _, hO⟩, j1, j2⟩, fun q hq => ?_, by assumption⟩
      have hq' : s1.heap.objs.size ≤ q := by
        simp only [List.mem_cons, List.not_mem_nil, or_false] at hq
        rcases hq with z | z | z | z | z <;> rw [z] <;> first | exact Nat.le_refl _ | exact Nat.le_add_right _ _
      exact I1.fpOk hq' (I1.hok.fresh hq')
end
section
variable {D : Addr} {te : TE} {tc : TT} {Q : VK} {ρ : St} {H : Hp}
/-- a block over zip of two lists, n of them, two names -/
theorem cgo_zpl {K : PySem.W.Frag} {a b : Addr} {xs zs : List V} {n : Nat} (n1 : n ≤ xs.length) (n2 : n ≤ zs.length) (n3 : xs.length ≤ n ∨ zs.length ≤ n) (Pv : Nat → List V → Hp → Prop) (h0 : Pv 0 [] (upd H D (.lst []))) (hl : ∀ i ys H', i ≤ n → Pv i ys H' → SqL K H' a xs ∧ SqL K H' b zs)
    (hs : ∀ i x z ys H' p, i < n → xs[i]? = some x → zs[i]? = some z → Pv i ys H' → H' D = some (.lst ys) → H' p = none → ∀ (R : V → Hp → Prop) (S : Hp → Prop), (∀ y H4, H4 D = some (.lst ys) → ys.length < sizeLine → Pv (i + 1) (ys ++ [y]) (upd H4 D (.lst (ys ++ [y]))) → R y H4) → (∀ H3, H3 D = some (.lst ys) → Pv (i + 1) ys H3 → S H3) →
      tc (some x :: some z :: ρ) (upd H' p (.tup [x, z])) fun b H3 => if b = true then te (some x :: some z :: ρ) H3 R else S H3)
    (hd : ∀ ys H', Pv n ys H' → H' D = some (.lst ys) → Q (.ref D) H') : CGo (Itzl K a b) D (gTup K 2 (gCons (gName 0) (gCons (gName 1) gNil))) tc te Q (none :: none :: ρ) H := by
  refine ⟨fun i m τ ys H' => m = n - i ∧ i ≤ n ∧ (∃ tv tw, τ = tv :: tw :: ρ) ∧ Pv i ys H' ∧ H' D = some (.lst ys), ⟨n, by omega, Nat.zero_le _, ⟨_, _, rfl⟩, h0, upd_same⟩, ?_⟩
  rintro i m τ ys H' ⟨rfl, hi, ⟨tv, tw, rfl⟩, hp, hD⟩
  refine ⟨hD, ?_⟩
  obtain ⟨sq, sq'⟩ := hl i ys H' hi hp
  by_cases hlt : i < n
  · have hlt' : i < zs.length := by omega
    have hlt0 : i < xs.length := by omega
    refine .inr ⟨⟨xs, zs, xs[i], zs[i], sq, sq', by simp [hlt0], by simp [hlt']⟩, ?_⟩
    rintro v H'' ⟨p, x, z, rfl, hpn, rfl, hx, hz⟩
    have hx' := hx xs sq
    have hz' := hz zs sq'
    refine ⟨p, [x, z], rfl, SqT.of upd_same, rfl, x, [z], rfl, z, [], rfl, rfl, ?_⟩
    exact hs i x z ys _ p hlt hx' hz' hp hD hpn _ _ (fun y H4 a b c => ⟨a, b, n - (i + 1), by omega, rfl, hlt, ⟨_, _, rfl⟩, c, upd_same⟩) fun H3 a c => ⟨n - (i + 1), by omega, rfl, hlt, ⟨_, _, rfl⟩, c, a⟩
  · have e : i = n := by omega
    subst e
    exact .inl ⟨⟨xs, zs, sq, sq', n3⟩, hd ys _ hp hD⟩
end
theorem w_compZl {K : PySem.W.Frag} {ta : TA} {n : Nat} {ix : List Nat} {g : TG} {tc : TT} {te : TE} {σ : St} {H : Hp} {Q : VK} (h : ta σ H fun vs H1 => ∃ a b, vs = [.ref a, .ref b] ∧ (∃ xs, SqL K H1 a xs) ∧ (∃ ys, SqL K H1 b ys) ∧ ∀ D, H1 D = none → CGo (Itzl K a b) D g tc te Q (List.replicate n none ++ sub ix σ) H1) : tComp (iZpl K ta) n ix g tc te σ H Q := h
end L2

set_option Elab.async false
set_option linter.all false
set_option maxRecDepth 100000
namespace G2
open PySem L2
/-- pairs of a tuple: what is made of each, J what holds of the heap -/
theorem prs_mapT {α : Type} {as : List Addr} {xs : List α} (u v : α → V) (g : α → V) {D : Addr} {te : TE} {Q : VK} {ρ : St} {H : Hp} {K : PySem.W.Frag} {a : Addr} (ha : H a = some (.tup (as.map V.ref))) (hl : as.length = xs.length) (hn : xs.length ≤ 1000)
    (hx : ∀ (i : Nat) (q : Addr) (x : α), as[i]? = some q → xs[i]? = some x → H q = some (.tup [u x, v x]))
    (step : ∀ (i : Nat) (x : α) (H' : Hp), xs[i]? = some x → Same H H' → ∀ R : V → Hp → Prop, (∀ H'', Same H' H'' → R (g x) H'') → te (some (u x) :: some (v x) :: ρ) H' R)
    (q : ∀ H', Same H H' → H' D = some (.lst (xs.map g)) → Q (.ref D) H') (hD : H D = none) : CGo (Itt K a) D (gTup K 2 (gCons (gName 0) (gCons (gName 1) gNil))) tAll te Q (none :: none :: ρ) H := by
  refine ⟨fun i m τ ys H' => m = xs.length - i ∧ i ≤ xs.length ∧ (∃ tv tw, τ = tv :: tw :: ρ) ∧ ys = (xs.map g).take i ∧ Same H H' ∧ H' D = some (.lst ys), ⟨xs.length, by omega, Nat.zero_le _, ⟨_, _, rfl⟩, rfl, Same.new (Same.refl H) hD, upd_same⟩, ?_⟩
  rintro i m τ ys H' ⟨rfl, hi, ⟨tv, tw, rfl⟩, rfl, K', hDz⟩
  refine ⟨hDz, ?_⟩
  have sq : SqT K H' a (as.map V.ref) := SqT.of (K' _ _ ha)
  by_cases hlt : i < xs.length
  · have hlt' : i < as.length := by omega
    refine .inr ⟨⟨_, .ref as[i], sq, by simp [hlt']⟩, ?_⟩
    rintro w' H'' ⟨rfl, hw⟩
    have hw' := hw _ sq
    rw [List.getElem?_map, List.getElem?_eq_getElem hlt'] at hw'
    cases hw'
    refine ⟨as[i], _, rfl, SqT.of (K' _ _ (hx i as[i] xs[i] (by simp [hlt']) (by simp [hlt]))), rfl, _, _, rfl, _, _, rfl, rfl, ?_⟩
    refine w_all ?_
    refine iteT ?_
    refine step i xs[i] _ (by simp [hlt]) K' _ fun H3 K3 => ⟨K3 _ _ hDz, by rw [List.length_take]; exact small1000 (by omega), xs.length - (i + 1), by omega, rfl, hlt, ⟨_, _, rfl⟩, ?_, (K'.trans K3).put hD, upd_same⟩
    rw [List.take_add_one]
    simp [hlt]
  · have e : i = xs.length := by omega
    subst e
    refine .inl ⟨⟨_, sq, by simp [hl]⟩, q H' K' ?_⟩
    rw [hDz, List.take_of_length_le]
    simp
end G2

set_option Elab.async false
set_option linter.all false
set_option maxRecDepth 100000
namespace L2
open PySem PySem.Spec PyProof.Rows
/-! ### comprehensions whose own names are read by one within them -/
structure NScope (o sc : Scope) (TN F : List Str) : Prop where
  okind : o.kind = .function
  kind : sc.kind = .function
  names : ∀ y ∈ sc.names, y.2 = .local → sc.names.lookup y.1 = some .local
  clN : ∀ y ∈ sc.names, y.2 = .cell → sc.names.lookup y.1 = some .cell
  fr : ∀ y ∈ sc.names, y.2 = .free → o.names.lookup y.1 = some .cell ∧ sc.names.lookup y.1 = some .free
  ff : ∀ y ∈ F, (y, NameKind.free) ∈ sc.names
theorem cellsFrom_app : ∀ (names : List (Str × NameKind)) (n : Nat) (acc : List (Str × Addr)), cellsFrom n names acc = cellsFrom n names [] ++ acc
  | [], n, acc => by simp [cellsFrom]
  | (x, k) :: r, n, acc => by
    unfold cellsFrom
    split
    · rw [cellsFrom_app r (n + 1) ((x, n) :: acc), cellsFrom_app r (n + 1) [(x, n)]]
      simp
    · exact cellsFrom_app r n acc
theorem cellsFrom_name : ∀ (names : List (Str × NameKind)) (n : Nat) (acc : List (Str × Addr)) (x : Str) (c : Addr), (x, c) ∈ cellsFrom n names acc → (x, NameKind.cell) ∈ names ∨ (x, c) ∈ acc
  | [], n, acc, x, c, h => .inr h
  | (y, k) :: r, n, acc, x, c, h => by
    unfold cellsFrom at h
    split at h
    · rename_i hk
      have hk' : k = .cell := by simpa using hk
      subst hk'
      rcases cellsFrom_name r (n + 1) ((y, n) :: acc) x c h with z | z
      · exact .inl (List.mem_cons_of_mem _ z)
      · rcases List.mem_cons.mp z with e | z
        · cases e
          exact .inl List.mem_cons_self
        · exact .inr z
    · rcases cellsFrom_name r n acc x c h with z | z
      · exact .inl (List.mem_cons_of_mem _ z)
      · exact .inr z
/-- the cells of a block: its own, then those that it is given -/
def ownC (n : Nat) (sc : Scope) : List (Str × Addr) := cellsFrom (n + 1) sc.names []
def allC (env : Env) (n : Nat) (sc : Scope) : List (Str × Addr) := ownC n sc ++ cloF env sc.names []
theorem look_app {α : Type} {x : Str} {c : α} : ∀ {l r : List (Str × α)}, (l ++ r).lookup x = some c → l.lookup x = some c ∨ (l.lookup x = none ∧ r.lookup x = some c)
  | [], r, h => .inr ⟨rfl, h⟩
  | (y, d) :: l, r, h => by
    rw [List.cons_append, List.lookup_cons] at h
    rw [List.lookup_cons]
    cases e : x == y with
    | true => rw [e] at h; exact .inl h
    | false => rw [e] at h; exact look_app h
theorem look_l {α : Type} {x : Str} {c : α} : ∀ {l r : List (Str × α)}, l.lookup x = some c → (l ++ r).lookup x = some c
  | [], r, h => by cases h
  | (y, d) :: l, r, h => by
    rw [List.lookup_cons] at h
    rw [List.cons_append, List.lookup_cons]
    cases e : x == y with
    | true => rw [e] at h; exact h
    | false => rw [e] at h; exact look_l h
theorem look_r {α : Type} {x : Str} : ∀ {l r : List (Str × α)}, l.lookup x = none → (l ++ r).lookup x = r.lookup x
  | [], r, h => rfl
  | (y, d) :: l, r, h => by
    rw [List.lookup_cons] at h
    rw [List.cons_append, List.lookup_cons]
    cases e : x == y with
    | true => rw [e] at h; cases h
    | false => rw [e] at h; exact look_r h
theorem NScope.own {o sc : Scope} {TN F : List Str} (S : NScope o sc TN F) {n : Nat} {x : Str} {c : Addr} (h : (ownC n sc).lookup x = some c) : sc.names.lookup x = some .cell := by
  rcases cellsFrom_name sc.names (n + 1) [] x c (PySem.mem_of_lookup h) with z | z
  · exact S.clN _ z rfl
  · cases z
theorem NScope.notown {o sc : Scope} {TN F : List Str} (S : NScope o sc TN F) {n : Nat} {x : Str} (h : (x, NameKind.free) ∈ sc.names) : (ownC n sc).lookup x = none := by
  cases e : (ownC n sc).lookup x with
  | none => rfl
  | some c =>
    have h1 := S.own e
    rw [(S.fr _ h rfl).2] at h1
    cases h1
theorem relabel_from2 {env : Env} {y : Str} : ∀ {names : List (Str × NameKind)},
    ((names.map fun (n, k) => if (k == NameKind.free && env.scope.kind == .function && env.kindOf n == some .cell) then (n, NameKind.cell) else (n, k)).lookup y = some .cell ∨
     (names.map fun (n, k) => if (k == NameKind.free && env.scope.kind == .function && env.kindOf n == some .cell) then (n, NameKind.cell) else (n, k)).lookup y = some .free) → (y, NameKind.free) ∈ names ∨ (y, NameKind.cell) ∈ names
  | [], h => by simp at h
  | (n, k) :: r, h => by
    have ih := @relabel_from2 env y r
    have h' : List.lookup y ((if (k == NameKind.free && env.scope.kind == .function && env.kindOf n == some .cell) = true then (n, NameKind.cell) else (n, k)) :: (r.map fun (n, k) => if (k == NameKind.free && env.scope.kind == .function && env.kindOf n == some .cell) then (n, NameKind.cell) else (n, k))) = some .cell ∨
      List.lookup y ((if (k == NameKind.free && env.scope.kind == .function && env.kindOf n == some .cell) = true then (n, NameKind.cell) else (n, k)) :: (r.map fun (n, k) => if (k == NameKind.free && env.scope.kind == .function && env.kindOf n == some .cell) then (n, NameKind.cell) else (n, k))) = some .free := h
    clear h
    have more : ((y, NameKind.free) ∈ r ∨ (y, NameKind.cell) ∈ r) → (y, NameKind.free) ∈ (n, k) :: r ∨ (y, NameKind.cell) ∈ (n, k) :: r := fun z => z.elim (fun z => .inl (List.mem_cons_of_mem _ z)) fun z => .inr (List.mem_cons_of_mem _ z)
    cases hx : y == n with
    | true =>
      have e : y = n := by simpa using hx
      subst e
      by_cases hc' : (k == NameKind.free && env.scope.kind == .function && env.kindOf y == some .cell) = true
      · have hk : k = .free := by
          have := (Bool.and_eq_true _ _ ▸ (Bool.and_eq_true _ _ ▸ hc').1).1
          simpa using this
        subst hk
        exact .inl List.mem_cons_self
      · rw [if_neg hc'] at h'
        simp only [List.lookup_cons, beq_self_eq_true] at h'
        rcases h' with h' | h'
        · cases h'
          exact .inr List.mem_cons_self
        · cases h'
          exact .inl List.mem_cons_self
    | false =>
      by_cases hc' : (k == NameKind.free && env.scope.kind == .function && env.kindOf n == some .cell) = true
      · rw [if_pos hc'] at h'; simp only [List.lookup_cons, hx] at h'; exact more (ih h')
      · rw [if_neg hc'] at h'; simp only [List.lookup_cons, hx] at h'; exact more (ih h')
/-- the block's frame and its cells are laid -/
theorem newEnv_cells {M : Model} {A : Around} {E : Value → Shared → Prop} {s : Shared} {scope : Scope} {globals : Addr} {cl : List (Str × Addr)} {qual : Str} {env : Env} {Q : Env → Shared → Prop}
    (hQ : ∀ h', h'.Ns s.heap.objs.size (fun _ => none) → (∀ b o, s.heap.get? b = some o → h'.get? b = some o) → (∀ x c, (ownC s.heap.objs.size scope).lookup x = some c → h'.IsCell c none ∧ s.heap.objs.size < c) → ((ownC s.heap.objs.size scope).Pairwise fun x y => x.2 ≠ y.2) →
      Q { scope := scope, locals := s.heap.objs.size, globals := globals, cells := ownC s.heap.objs.size scope ++ cl, qual := qual, func := none, code := env.code, frame := env.frame, builtins := env.builtins } { s with heap := h' }) :
    wpAny M A (newFunctionEnv scope globals cl [] qual none .none (some env)) Q E s := by
  simp only [newFunctionEnv, Option.isSome_some, if_true]
  refine wpAny_bind (wpAny_alloc ?_)
  refine wpAny_bind (wpAny_layCells _ (fun name kind cells => by cases hkc : kind == NameKind.cell <;> simp [hkc]) _ _ _ _ ?_)
  have ok := cellsFrom_ok scope.names (s.heap.push { cls := .type "dict", data := .dict #[] }) (s.heap.objs.size + 1) [] ⟨fun _ _ hm => (nomatch hm), List.Pairwise.nil⟩ (by rw [Heap.size_push]; exact Nat.le_refl _)
  rw [Heap.size_push] at ok
  rw [show ({ s with heap := s.heap.push { cls := .type "dict", data := .dict #[] } } : Shared).heap.objs.size = s.heap.objs.size + 1 from Heap.size_push ..]
  rw [cellsFrom_app]
  refine wpAny_bind ?_
  rw [List.forIn_nil]
  refine wpAny_pure (wpAny_pure ?_)
  exact hQ _ ((Heap.Ns.new s.heap (.type "dict")).keeps (pushCells_keeps _ _)) (fun b o e => pushCells_keeps _ _ b o (Heap.get?_push_of_some _ e)) (fun x c hc => ⟨(ok.empty x c (PySem.mem_of_lookup hc)).1, (ok.empty x c (PySem.mem_of_lookup hc)).2⟩) ok.apart
/-- the context of such a block -/
def cxN (X : Cx) (N : List Str) (sc : Scope) (cl : List (Str × Addr)) (C : Addr) (fp : List Addr) (s₃ : Shared) (H₃ : Hp) (xe : Value → Shared → Prop) : Cx :=
  { X with N := N, s₀ := s₃, H₀ := H₃, env := compEnvC sc cl C X.env, outer := X.stack, ex := fp, fn := fun y => sc.names.lookup y == some .cell, pn := [], xe := xe }

theorem inv_compN {X : Cx} {pins : List (Addr × Obj)} {σ : St} {H : Hp} {s : Shared} {sc : Scope} {TN F : List Str} {ix : List Nat} {fp : List Addr} {h4 : Heap} {tk : Nat} {m : Str → Option Value} {xe : Value → Shared → Prop}
    (S : NScope X.env.scope sc TN F) (hix : ix.map (fun i => X.N[i]?) = F.map some) (I : Inv X pins σ H s) (hf : ∀ b ∈ fp, FpOk X pins H b) (ho : ∀ b ∈ fp, ∃ o, s.heap.get? b = some o)
    (hk : ∀ b o, s.heap.get? b = some o → h4.get? b = some o) (hn : h4.Ns s.heap.objs.size m) (hcl : ∀ x c, (ownC s.heap.objs.size sc).lookup x = some c → h4.IsCell c none ∧ s.heap.objs.size < c) (hap : (ownC s.heap.objs.size sc).Pairwise fun x y => x.2 ≠ y.2) :
    Inv (cxN X (TN ++ F) sc (allC X.env s.heap.objs.size sc) s.heap.objs.size fp s H xe) [] (List.replicate TN.length none ++ sub ix σ) H { s with heap := h4, toks := tk } := by
  have cl0 : ∀ x c, (cloF X.env sc.names []).lookup x = some c → X.env.cells.lookup x = some c := fun x c e => by
    rw [cloF_lookup] at e
    by_cases hx : (x, NameKind.free) ∈ sc.names
    · rw [if_pos hx] at e
      obtain ⟨c', hc'⟩ := I.ok.has x (.inl (S.fr _ hx rfl).1)
      rw [hc'] at e ⊢
      exact e
    · rw [if_neg hx] at e
      cases e
  have cl : ∀ x c, (allC X.env s.heap.objs.size sc).lookup x = some c → (ownC s.heap.objs.size sc).lookup x = some c ∨ X.env.cells.lookup x = some c := fun x c e => by
    rcases look_app e with z | ⟨_, z⟩
    · exact .inl z
    · exact .inr (cl0 x c z)
  have old : ∀ x c, X.env.cells.lookup x = some c → c < s.heap.objs.size := fun x c e => by
    obtain ⟨v, o, ho', _⟩ := I.cell x c e
    exact Heap.lt_size ho'
  have cl' : ∀ x, (x, NameKind.free) ∈ sc.names → (allC X.env s.heap.objs.size sc).lookup x = X.env.cells.lookup x := fun x hx => by
    unfold allC
    rw [look_r (S.notown hx), cloF_lookup, if_pos hx]
    obtain ⟨c', hc'⟩ := I.ok.has x (.inl (S.fr _ hx rfl).1)
    rw [hc']
    rfl
  have hlen : ix.length = F.length := by
    have := congrArg List.length hix
    simpa using this
  refine ⟨⟨I.ok.mod, S.kind, I.ok.glob, I.ok.blt, Nat.le_refl _, fun x y c h1 h2 => ?_, fun x hx => ?_, fun x c z h => ?_, I.ok.hd, I.ok.frames, .inl rfl, fun b hb => ⟨?_, fun x c e => ?_⟩,
    I.bs, Nat.le_trans I.ok.bsz I.sz, fun b o e hb => ?_, fun b hb hfs => ?_, I.stack, I.stkFree⟩, rfl, I.bare, Un.kept hk, ⟨m, hn, fun i x v h1 h2 h3 => ?_⟩, fun x c e => ?_, I.hok.fresh (Nat.le_refl _), fun x c e => ?_, fun p hp => absurd (show p ∈ ([] : List (Addr × Obj)) from hp) (by simp), I.hok.kept hk, ?_⟩
  · rcases cl x c h1 with a | a <;> rcases cl y c h2 with b | b
    · exact name_of_addr hap (PySem.mem_of_lookup a) (PySem.mem_of_lookup b)
    · exact absurd (old y c b) (Nat.not_lt.mpr (Nat.le_of_lt (hcl x c a).2))
    · exact absurd (old x c a) (Nat.not_lt.mpr (Nat.le_of_lt (hcl y c b).2))
    · exact I.ok.inj x y c a b
  · rcases relabel_from2 (env := X.env) hx with hx' | hx'
    · obtain ⟨c, hc⟩ := I.ok.has x (.inl (S.fr _ hx' rfl).1)
      exact ⟨c, (cl' x hx').trans hc⟩
    · obtain ⟨c, hc⟩ := cell_has (n := s.heap.objs.size + 1) (S.clN _ hx' rfl)
      exact ⟨c, look_l hc⟩
  · have z' : sc.names.lookup x = some .cell := by simpa [cxN] using z
    obtain ⟨c', hc⟩ := cell_has (n := s.heap.objs.size + 1) z'
    have hc' : (allC X.env s.heap.objs.size sc).lookup x = some c' := look_l hc
    have h' : (allC X.env s.heap.objs.size sc).lookup x = some c := h
    have ec : c' = c := Option.some.inj (hc'.symm.trans h')
    rw [← ec]
    exact Nat.le_of_lt (hcl x c' hc).2
  · obtain ⟨o, e⟩ := ho b hb
    exact Nat.ne_of_lt (Heap.lt_size e)
  · rcases cl x c e with z | z
    · obtain ⟨o, eb⟩ := ho b hb
      exact fun w => absurd (Heap.lt_size eb) (by rw [← w]; exact Nat.not_lt.mpr (Nat.le_of_lt (hcl x c z).2))
    · exact (hf b hb).2.2.2.2.1 x c z
  · rcases (hf b hb).2.2.2.1 with z | z
    · exact I.ok.noex b o e z
    · exact absurd (Nat.lt_of_lt_of_le (Heap.lt_size e) (Nat.le_trans I.ok.bsz z)) (Nat.lt_irrefl _)
  · rcases List.mem_cons.mp (I.stkSub b hfs) with z | z
    · exact (hf b hb).2.1 z
    · exact (hf b hb).2.2.1 z
  · have hi : TN.length ≤ i := by
      apply Nat.le_of_not_lt
      intro hlt
      rw [List.getElem?_append_left (by simpa using hlt), List.getElem?_replicate] at h2
      split at h2 <;> cases h2
    rw [List.getElem?_append_right (by simpa using hi), List.length_replicate] at h2
    have h1' : F[i - TN.length]? = some x := by
      have : (TN ++ F)[i]? = some x := h1
      rw [List.getElem?_append_right hi] at this
      exact this
    have e3 := congrArg (fun l => l[i - TN.length]?) hix
    simp only [List.getElem?_map, h1', Option.map_some] at e3
    unfold sub at h2
    rw [List.getElem?_map] at h2
    cases ej : ix[i - TN.length]? with
    | none => rw [ej] at h2; cases h2
    | some k =>
      rw [ej] at h2 e3
      have h2' : (σ[k]?).join = some v := Option.some.inj h2
      have e3' : X.N[k]? = some x := Option.some.inj e3
      have hσ : σ[k]? = some (some v) := by
        cases e : σ[k]? with
        | none => rw [e] at h2'; cases h2'
        | some q =>
          rw [e] at h2'
          have : q = some v := h2'
          rw [this]
      have hfr := S.ff x (List.mem_of_getElem? h1')
      have hcell := (S.fr _ hfr rfl).1
      obtain ⟨m0, hn0, hl0⟩ := I.loc
      obtain ⟨u, r, l⟩ := hl0 k x v e3' hσ (.inr (.inl hcell))
      refine ⟨u, r, ?_⟩
      rcases l with ⟨l1, _⟩ | ⟨_, c, hc, o, ho', hd⟩
      · have l1' : X.env.scope.names.lookup x = some .local := l1
        rw [hcell] at l1'
        cases l1'
      · exact .inr ⟨.inl (relabel_free (env := X.env) S.okind hcell (S.fr _ hfr rfl).2), c, (cl' x hfr).trans hc, o, hk c o ho', hd⟩
  · rcases cl x c e with z | z
    · exact ⟨_, (hcl x c z).1⟩
    · obtain ⟨v, o, ho', hd⟩ := I.cell x c z
      exact ⟨v, o, hk c o ho', hd⟩
  · rcases cl x c e with z | z
    · exact I.hok.fresh (Nat.le_of_lt (hcl x c z).2)
    · exact I.freeC x c z
  · show _ = (TN ++ F).length
    rw [List.length_append, List.length_append, List.length_replicate]
    unfold sub
    rw [List.length_map, hlen]

theorem comp_blockN {X : Cx} {pins : List (Addr × Obj)} {σ : St} {H : Hp} {s : Shared} {sc : Scope} {TN F : List Str} {ix : List Nat} {elt tg iter : Expr} {ifs : List Expr} {pos : Pos} {g : TG} {tc : TT} {te : TE} {J : It} {fp : List Addr} {it : Addr} {tn : Nat → Heap → Prop} {Q : VK}
    {RR : Value → Addr → Result → Shared → Prop} {E : Value → Shared → Prop}
    (S : NScope X.env.scope sc TN F) (hix : ix.map (fun i => X.N[i]?) = F.map some) (hc : X.calm = true) (I : Inv X pins σ H s) (T : Turn X.prog X.w X.K tg J fp it tn) (st : tn 0 s.heap) (hf : ∀ b ∈ fp, FpOk X pins H b)
    (hg : ∀ cl C fp s3 H3 xe, PG (cxN X (TN ++ F) sc cl C fp s3 H3 xe) tg g) (ht : ∀ cl C fp s3 H3 xe, PTs (cxN X (TN ++ F) sc cl C fp s3 H3 xe) ifs tc) (he : ∀ cl C fp s3 H3 xe, PE (cxN X (TN ++ F) sc cl C fp s3 H3 xe) elt te)
    (hW : ∀ D, H D = none → CGo J D g tc te Q (List.replicate TN.length none ++ sub ix σ) H)
    (fin : ∀ D C H' s', Inv X pins σ H' s' → (∃ m, s'.heap.Ns C m) → H' C = none → C ≠ X.env.locals → X.s₀.heap.objs.size ≤ C → (∀ x c, X.env.cells.lookup x = some c → c ≠ C) → (∀ p ∈ X.pn ++ pins, p.1 ≠ C) → Q (.ref D) H' → RR (.ref D) C (.ok .next) s') :
    wpAny (model X.prog X.w) X.A (newList []) (fun acc s₃ => wpAny (model X.prog X.w) X.A (newFunctionEnv sc X.env.globals (cloF X.env sc.names []) [] X.env.qual none .none (some X.env)) (fun cenv s₄ =>
      codeAny (model X.prog X.w) X.A (.compStart (.ListComp elt [⟨tg, iter, ifs, 0⟩] sc pos) 0 (.ref it) acc { cenv with scope := relabel sc X.env }) (RR acc cenv.locals) s₄) E s₃) E s := by
  have hfo : ∀ b ∈ fp, ∃ o, s.heap.get? b = some o := fun b hb => let ⟨o, e, _⟩ := T.obj 0 _ st b hb; ⟨o, e⟩
  refine wpAny_newObj_type ?_
  obtain ⟨W, ⟨m0, w0⟩, go⟩ := hW s.heap.objs.size I.fresh
  have I3 : Inv X pins σ (upd H s.heap.objs.size (.lst [])) { s with heap := s.heap.push { cls := .type "list", data := .seq ([] : List Value).toArray } } := I.lnew (its := []) (ys := []) (t' := s.toks) .nil (Nat.zero_le _)
  generalize hs3 : ({ s with heap := s.heap.push { cls := .type "list", data := .seq ([] : List Value).toArray } } : Shared) = s3 at I3
  have hk3 : ∀ b o, s.heap.get? b = some o → s3.heap.get? b = some o := fun b o e => by
    rw [← hs3]
    exact Heap.get?_push_of_some _ e
  have hf3 : ∀ b ∈ fp, FpOk X pins (upd H s.heap.objs.size (.lst [])) b := fun b hb => by
    obtain ⟨o, e⟩ := hfo b hb
    exact ⟨by rw [upd_ne (Nat.ne_of_lt (Heap.lt_size e))]; exact (hf b hb).1, (hf b hb).2⟩
  have st3 : tn 0 s3.heap := T.keep 0 _ _ st fun b hb o e => hk3 b o e
  show wpAny _ _ _ _ _ s3
  refine newEnv_cells (fun h4 hn4 hk4 hcl4 hap4 => ?_)
  generalize hR : RR (.ref s.heap.objs.size) s3.heap.objs.size = R
  have loop : ∀ s4 : Shared, s4 = { s3 with heap := h4 } →
      codeAny (model X.prog X.w) X.A (.compLoop (.ListComp elt [⟨tg, iter, ifs, 0⟩] sc pos) 0 (.ref it) (.ref s.heap.objs.size) (compEnvC sc (allC X.env s3.heap.objs.size sc) s3.heap.objs.size X.env)) R s4 := by
    rintro s4 rfl
    let X' : Cx := cxN X (TN ++ F) sc (allC X.env s3.heap.objs.size sc) s3.heap.objs.size fp s3 (upd H s.heap.objs.size (.lst [])) (notedBy (model X.prog X.w) X.A (compEnvC sc (allC X.env s3.heap.objs.size sc) s3.heap.objs.size X.env) fun e s' => R (.error e) s')
    have I4 : Inv X' [] (List.replicate TN.length none ++ sub ix σ) (upd H s.heap.objs.size (.lst [])) { s3 with heap := h4 } :=
      inv_compN S hix I3 hf3 (fun b hb => let ⟨o, e⟩ := hfo b hb; ⟨o, hk3 b o e⟩) hk4 hn4 hcl4 hap4
    have fpx : ∀ {H' : Hp}, (∀ b ∈ fp, H' b = none) → ∀ b ∈ fp, FpOk X' [] H' b := fun {H'} hn b hb => by
      refine ⟨hn b hb, (I4.ok.exf b hb).1, fun z => I4.ok.exfs b hb z, .inl hb, fun x c e => (I4.ok.exf b hb).2 x c e, fun p hp => absurd (show p ∈ ([] : List (Addr × Obj)) from hp) (by simp)⟩
    refine comp_loop (fun n s' => ∃ i τ ys H', Inv X' [] τ H' s' ∧ tn i s'.heap ∧ (∀ b ∈ fp, H' b = none) ∧ W i n τ ys H') ?_ m0 ⟨0, _, [], _, I4, T.keep 0 _ _ st3 fun b hb o e => hk4 b o e, fun b hb => (hf3 b hb).1, w0⟩
    rintro n s5 ⟨i, τ, ys, H5, I5, st5, fr5, w5⟩
    obtain ⟨hD, hgo⟩ := go i n τ ys H5 w5
    rcases hgo with ⟨stop, q⟩ | ⟨hgo, step⟩
    · refine thn (T.done X' rfl rfl rfl hc i [] s5 τ H5 X'.xe I5 (fpx fr5) st5 stop) fun r s6 ⟨hr, I6⟩ => ?_
      subst hr
      show R (.ok .next) s6
      rw [← hR]
      have J6 : Inv X pins σ H5 s6 := I3.call' (ch := fp) I6.os I6.base I6.hok I6.bare fun b hb => ⟨(hf3 b hb).2.2.2.1, (hf3 b hb).2.1, (hf3 b hb).2.2.2.2.1, (hf3 b hb).2.2.2.2.2⟩
      refine fin s.heap.objs.size s3.heap.objs.size H5 s6 J6 (let ⟨m, hn, _⟩ := I6.loc; ⟨m, hn⟩) I6.free (Nat.ne_of_gt I3.lt) I3.sz (fun x c e z => ?_) (fun p hp z => ?_) q
      · obtain ⟨v, o, ho, _⟩ := I3.cell x c e
        exact absurd (Heap.lt_size ho) (by rw [z]; exact Nat.lt_irrefl _)
      · exact absurd (Heap.lt_size (I3.pin p hp).1) (by rw [z]; exact Nat.lt_irrefl _)
    · refine thn (T.item X' rfl rfl rfl hc i [] s5 τ H5 X'.xe I5 (fpx fr5) st5 hgo) fun r s6 ⟨u, hr, h6⟩ => ?_
      subst hr
      refine thn h6 fun _ s7 ⟨v, H7, I7, r7, y7, st7, fr7⟩ => ?_
      have I7' := I7.pinned (fpx fr7) (T.obj _ _ st7)
      refine thn (hg _ _ _ _ _ _ _ s7 τ H7 v u _ I7' r7 (step v H7 y7)) fun _ s8 ⟨τ8, H8, I8, q8⟩ => ?_
      refine thn (ht _ _ _ _ _ _ _ s8 τ8 H8 _ I8 q8) fun ok s9 ⟨H9, I9, q9⟩ => ?_
      have again : ∀ {ys' : List V} {H' : Hp} {s' : Shared}, Inv X' ([] ++ pinsAt fp s7.heap) τ8 H' s' → (∃ m', m' < n ∧ W (i + 1) m' τ8 ys' H') → ∃ m, m < n ∧ ∃ i τ ys H'', Inv X' [] τ H'' s' ∧ tn i s'.heap ∧ (∀ b ∈ fp, H'' b = none) ∧ W i m τ ys H'' := fun {ys' H' s'} I' ⟨m', hm, w'⟩ => by
        refine ⟨m', hm, i + 1, τ8, ys', H', I'.unpinned, T.keep _ _ _ st7 fun b hb o e => (I'.pin (b, o) (List.mem_append_right _ (List.mem_append_right _ (mem_pinsAt hb e)))).1, fun b hb => ?_, w'⟩
        obtain ⟨o, e, d⟩ := T.obj _ _ st7 b hb
        exact (I'.pin (b, o) (List.mem_append_right _ (List.mem_append_right _ (mem_pinsAt hb e)))).2.1
      cases ok with
      | false =>
        exact again I9 q9
      | true =>
        refine thn (he _ _ _ _ _ _ _ s9 τ8 H9 _ I9 q9) fun x s10 ⟨y, H10, I10, r10, hD10, hz10, q10⟩ => ?_
        exact append_ok (X := X') I10 hD10 hz10 r10 fun s11 I11 => again I11 q10
  subst hR
  exact codeAny_compStart_list (loop _ rfl) (T.self X.A 0 _ _ _ (T.keep 0 _ _ st3 fun b hb o e => hk4 b o e) (loop _ rfl))

section
variable {X : Cx} {sc : Scope} {TN F : List Str} {ix : List Nat} {elt tg iter : Expr} {ifs : List Expr} {pos : Pos} {g : TG} {tc : TT} {te : TE} {wi : TI}
theorem closure_ofN (S : NScope X.env.scope sc TN F) {pins : List (Addr × Obj)} {σ : St} {H : Hp} {s : Shared} (I : Inv X pins σ H s) : closureFor sc X.env = pure (cloF X.env sc.names []) :=
  closure_eq fun x hx hk => I.ok.has x.1 (.inl (S.fr x hx hk).1)
/-- [elt for tg in iter ..] -/
theorem pe_compN (S : NScope X.env.scope sc TN F) (hix : ix.map (fun i => X.N[i]?) = F.map some) (hc : X.calm = true) (hi : PI X tg iter wi)
    (hg : ∀ cl C fp s3 H3 xe, PG (cxN X (TN ++ F) sc cl C fp s3 H3 xe) tg g) (ht : ∀ cl C fp s3 H3 xe, PTs (cxN X (TN ++ F) sc cl C fp s3 H3 xe) ifs tc) (he : ∀ cl C fp s3 H3 xe, PE (cxN X (TN ++ F) sc cl C fp s3 H3 xe) elt te)
    (hs : ∀ x, foldedSetIterable iter X.env x = pure x := by intro _; rfl) : PE X (.ListComp elt [⟨tg, iter, ifs, 0⟩] sc pos) (tComp wi TN.length ix g tc te) := by
  intro pins s σ H Q I h
  rw [eval_ListComp]
  refine wpAny_comprehension_free (use := none) rfl hs (closure_ofN S I) S.kind S.names (thn (hi pins s σ H _ I h) fun v s1 h1 => thn h1 fun itv s2 h2 => ?_)
  obtain ⟨it, fp, tn, J, H2, e, I2, T, st2, f2, q2⟩ := h2
  subst e
  refine comp_blockN (RR := fun acc C => compPost (model X.prog X.w) X.A X.xe none (EP X pins σ Q) acc C) S hix hc I2 T st2 f2 hg ht he q2 fun D C H' s' I' hn hC1 hC2 hC3 hC4 hC5 q => ?_
  obtain ⟨m, hn⟩ := hn
  exact ⟨m, hn, fun h' hs' => ⟨.ref D, H', I'.turned (t' := s'.toks) (fun b o hb e => (hs'.2 b hb).trans e) hC1 hC2 (.inr hC3) hC4 hC5, rfl, q⟩⟩
end
/-- such a block's names -/
structure NBScope (o sc : Scope) (TN F G : List Str) : Prop extends NScope o sc TN F where
  nd : (TN ++ F).Nodup
  vis : ∀ x ∈ TN ++ F, Vis (relabelS sc o) x
  loc : ∀ x ∈ TN, (relabelS sc o).names.lookup x = some .local ∨ ((relabelS sc o).names.lookup x = some .cell ∧ sc.names.lookup x = some .cell)
  gl : ∀ x ∈ G, (relabelS sc o).names.lookup x = some .globalImplicit
section
variable {X : Cx} {sc : Scope} {TN F G : List Str} {cl : List (Str × Addr)} {C : Addr} {fp : List Addr} {s3 : Shared} {H3 : Hp} {xe : Value → Shared → Prop} {x : Str} {pos : Pos}
theorem pvbN (S : NBScope X.env.scope sc TN F G) (i : Nat) (hN : (TN ++ F)[i]? = some x := by rfl) (hd : (x == ("__debug__" : Str)) = false := by decide) (hcd : (x == ("__classdict__" : Str)) = false := by decide) : PE (cxN X (TN ++ F) sc cl C fp s3 H3 xe) (.Name x pos) (tVar i) :=
  pe_var hN (S.vis x (List.mem_of_getElem? hN)) hd hcd
theorem pgbN (S : NBScope X.env.scope sc TN F G) (i : Nat) (hN : (TN ++ F)[i]? = some x := by rfl) (hT : TN[i]? = some x := by rfl) : PG (cxN X (TN ++ F) sc cl C fp s3 H3 xe) (.Name x pos) (gName i) := by
  rcases S.loc x (List.mem_of_getElem? hT) with z | ⟨z, z'⟩
  · exact pg_name S.nd hN (.inl z) (.inr z)
  · exact pg_name S.nd hN (.inr z) (.inl (by show (sc.names.lookup x == some .cell) = true; rw [z']; rfl))
theorem NBScope.g (S : NBScope X.env.scope sc TN F G) (i : Nat) (hG : G[i]? = some x := by rfl) : Gl (cxN X (TN ++ F) sc cl C fp s3 H3 xe) x := S.gl x (List.mem_of_getElem? hG)
end
end L2

set_option Elab.async false
set_option linter.all false
set_option maxRecDepth 100000
namespace PySem
open Sem (wp)
open Builtin
open AutoSeq1 (wpAny_loadPart')
end PySem
namespace L2
open PySem PySem.Spec PyProof.Rows
section
variable {X : Cx}
/-- a tuple times an int above 0; once: the tuple itself -/
def rRepT : R2 := fun x y H Q => ∃ a k xs, x = .ref a ∧ y = .int k ∧ H a = some (.tup xs) ∧ xs ≠ [] ∧ 0 < k ∧ k ≤ 1000 ∧ xs.length * k.toNat ≤ 1000 ∧ (k = 1 → Q (.ref a) H) ∧
  (k ≠ 1 → ∀ p, H p = none → Q (.ref p) (upd H p (.tup (List.replicate k.toNat xs).flatten)))
theorem iteNB {c A B : Prop} [Decidable c] (h1 : ¬ c → A) (h2 : c → B) : if (!decide c) = true then A else B := by
  by_cases hc : c
  · rw [decide_eq_true hc]
    exact h2 hc
  · rw [decide_eq_false hc]
    exact h1 hc
end
end L2

set_option Elab.async false
set_option linter.all false
set_option maxRecDepth 100000
namespace L2
open PySem PySem.Spec PyProof.Rows
section
variable {prog : Program} {w : World} {A : Around} {E : Value → Shared → Prop} {s : Shared}
end
end L2
namespace L2
open PySem PySem.Spec PyProof.Rows
abbrev zmH1 (h : Heap) (a : Addr) : Heap := h.push { cls := .type "tuple_iterator", data := .fields #[.ref a, .int 0 0] }
abbrev zmH2 (h : Heap) (a b : Addr) : Heap := (zmH1 h a).push { cls := .type "list_iterator", data := .fields #[.ref b, .int 0 0] }
abbrev zmH3 (h : Heap) (a b : Addr) : Heap := (zmH2 h a b).push { cls := .type "tuple", data := .seq #[.ref h.objs.size, .ref (zmH1 h a).objs.size] }
abbrev zmH4 (h : Heap) (a b : Addr) : Heap := (zmH3 h a b).push { cls := .type "tuple", data := .seq #[.none, .none] }
abbrev zmH5 (h : Heap) (a b : Addr) : Heap := (zmH4 h a b).push { cls := .type "zip", data := .fields #[.none, .bool false, .bool false, .ref (zmH2 h a b).objs.size, .ref (zmH3 h a b).objs.size] }
section
variable {prog : Program} {w : World} {A : Around} {E : Value → Shared → Prop} {s : Shared}
end
end L2
namespace L2
open PySem PySem.Spec PyProof.Rows
/-- zip over the tuples at a and b -/
def Itm (K : PySem.W.Frag) (a b : Addr) : It :=
  ⟨fun i H => ∃ xs ys x y, SqT K H a xs ∧ SqL K H b ys ∧ xs[i]? = some x ∧ ys[i]? = some y, fun i H v H' => ∃ p x y, v = .ref p ∧ H p = none ∧ H' = upd H p (.tup [x, y]) ∧ (∀ xs, SqT K H a xs → xs[i]? = some x) ∧ ∀ ys, SqL K H b ys → ys[i]? = some y,
    fun i H => ∃ xs ys, SqT K H a xs ∧ SqL K H b ys ∧ (xs.length ≤ i ∨ ys.length ≤ i)⟩
section
variable {X : Cx} {es : List Expr} {kt : Nat} {pt : Pos}
def iZm (K : PySem.W.Frag) (ta : TA) : TI := fun σ H R => ta σ H fun vs H1 => ∃ a b, vs = [.ref a, .ref b] ∧ (∃ xs, SqT K H1 a xs) ∧ (∃ ys, SqL K H1 b ys) ∧ R (Itm K a b) H1
end
section
variable {D : Addr} {te : TE} {tc : TT} {Q : VK} {ρ : St} {H : Hp}
end
end L2

set_option Elab.async false
set_option linter.all false
set_option maxRecDepth 100000
namespace HT
open PySem PyProof.Rows
section
variable {prog : Program} {w : World} {A : Around} {E : Value → Shared → Prop} {s : Shared}
/-- t[a:b], the whole: t itself -/
theorem getItem_tuple_all {t sl : Addr} {items : Array Value} {vl vu : Value} {lo hi : Option Int} {Q : Value → Shared → Prop} (ht : IsTup s.heap t items) (hs : s.heap.IsSliceOf sl vl vu .none) (pl : IsPart vl lo) (pu : IsPart vu hi)
    (hw : sIx items.size 0 lo = 0 ∧ sIx items.size items.size hi = items.size) (h : Q (.ref t) s) : wpAny (model prog w) A (getItem (.ref t) (.ref sl)) Q E s := by
  obtain ⟨os, hos, hcs, hds⟩ := id hs
  have hTs : s.TypeIs (.ref sl) "slice" := ⟨os, hos, hcs⟩
  unfold getItem
  try with_reducible refine wpAny_holding ?_
  first | refine wpAny_bind (wpAny_pure ?_) | skip
  refine wpAny_bind (wpAny_sequenceKey ht.typeIs (by decide) ?_)
  refine wpAny_bind (wpAny_callSpecial?_slot (name := Str.ofString "__getitem__") ht.typeIs PyProof.Rows.slot_tuple_getitem
    (wpAny_call_entry PyProof.Rows.slot_tuple_getitem ht.typeIs entry_tuple_getitem ?_ (args_tuple_getitem _ _)))
  show wpAny _ _ (Builtin.Tuple.tupleItemsOf (.ref t) >>= _) _ _ s
  refine wpAny_bind (tupleItemsOf_ ht ?_)
  refine wpAny_bind (wpAny_typeOf hTs ?_)
  rw [if_pos (by decide)]
  refine wpAny_bind (sliceApplied_gen hs pl pu ?_)
  have hyes : (((sIx items.size 0 lo : Nat) : Int) == 0 && (1 : Int) == 1 && (sIx items.size items.size hi - sIx items.size 0 lo) == items.size) = true := by
    rw [hw.1, hw.2]
    simp
  show wpAny _ _ (if (((sIx items.size 0 lo : Nat) : Int) == 0 && (1 : Int) == 1 && (sIx items.size items.size hi - sIx items.size 0 lo) == items.size) = true then _ else _) _ _ s
  rw [if_pos hyes]
  refine wpAny_bind (m := Builtin.Tuple.tupleIsExact _) ?_
  unfold Builtin.Tuple.tupleIsExact
  refine wpAny_bind (wpAny_typeOf ht.typeIs (wpAny_pure ?_))
  rw [if_pos (by decide)]
  refine wpAny_bind (wpAny_rule ?_)
  first
    | exact wpAny_pure ⟨_, rfl, wpAny_pure h⟩
    | exact wpAny_bind (wpAny_pure (wpAny_pure ⟨_, rfl, wpAny_pure h⟩))
    | exact wpAny_bind (wpAny_pure ⟨_, rfl, wpAny_pure h⟩)
end
end HT
namespace L2
open PySem PySem.Spec PyProof.Rows
section
variable {X : Cx}
/-- t[a:b], whatever it is -/
def rSlG : V → Option Int → Option Int → Hp → VK → Prop := fun x lo hi H Q => ∃ a xs, x = .ref a ∧ H a = some (.tup xs) ∧ ∀ q H', Same H H' → H' q = some (.tup (cutV xs lo hi)) → Q (.ref q) H'
theorem sl_tupG : SlR X rSlG := by
  intro pins s σ H x v vl vu lo hi sl Q I rx hs pl pu h
  obtain ⟨a, xs, rfl, hH, q⟩ := h
  by_cases hw : HT.sIx xs.length 0 lo = 0 ∧ HT.sIx xs.length xs.length hi = xs.length
  · cases rx
    obtain ⟨its, r, ht, hz⟩ := I.tuple (SqT.of hH)
    have hlen : its.toArray.size = xs.length := by rw [List.size_toArray]; exact r.length.symm
    refine ⟨"tuple", _, PyProof.Rows.slot_tuple_getitem.lookup, ht.typeIs, ?_⟩
    refine HT.getItem_tuple_all ht hs pl pu (by rw [hlen]; exact hw) ?_
    refine ⟨.ref a, H, I, rfl, q a H (Same.refl H) ?_⟩
    have e : cutV xs lo hi = xs := by
      unfold cutV
      rw [hw.1, hw.2, List.drop_zero, Nat.sub_zero, List.take_length]
    rw [e]
    exact hH
  · exact sl_tup pins s σ H _ v vl vu lo hi sl Q I rx hs pl pu ⟨a, xs, rfl, SqT.of hH, hw, fun p hp => q p _ (Same.new (Same.refl H) hp) upd_same⟩
/-- t + u, whatever they are -/
def rCatG : R2 := fun x y H Q => ∃ a b xs ys, x = .ref a ∧ y = .ref b ∧ H a = some (.tup xs) ∧ H b = some (.tup ys) ∧ xs.length + ys.length ≤ 1000 ∧ ∀ q H', Same H H' → H' q = some (.tup (xs ++ ys)) → Q (.ref q) H'
theorem op_catG : OpR X (binaryOp .Add) rCatG := by
  intro pins s σ H x y v u Q I rx ry h
  obtain ⟨a, b, xs, ys, rfl, rfl, ha, hb, hz, q⟩ := h
  have hz' : xs.length + ys.length ≤ sizeLine := Nat.le_trans hz (by decide)
  by_cases hx : xs = []
  · cases rx
    cases ry
    obtain ⟨its, r1, p1, _⟩ := I.tuple (SqT.of ha)
    obtain ⟨its2, r2, p2, _⟩ := I.tuple (SqT.of hb)
    obtain ⟨⟨cls, dd, data, sl⟩, ho, hc, n, hd⟩ := id p1
    obtain ⟨⟨cls2, dd2, data2, sl2⟩, ho2, hc2, n2, hd2⟩ := id p2
    simp only at hc hd hc2 hd2
    subst hc hd hc2 hd2
    have hv : its = [] := r1.nil_iff.mpr hx
    refine concat_meets ⟨_, ho, rfl⟩ ⟨_, ho2, rfl⟩ noFill_tuple_add seq_tuple_add PySem.F.slot_tuple_add PySem.F.entry_tuple_add (PySem.F.args_tuple_add_2 _ _)
      (tuple_addW0 a b its.toArray its2.toArray n n2 dd dd2 sl sl2 (by simp [hv])) ⟨ho, ho2, ?_⟩
    refine ⟨.ref b, H, I, rfl, q b H (Same.refl H) ?_⟩
    rw [hx, List.nil_append]
    exact hb
  · refine op_catT pins s σ H _ _ v u Q I rx ry ⟨a, b, xs, ys, rfl, rfl, SqT.of ha, SqT.of hb, hx, hz', fun e => ?_, fun _ p hp => q p _ (Same.new (Same.refl H) hp) upd_same⟩
    refine q a H (Same.refl H) ?_
    rw [e, List.append_nil]
    exact ha
end
end L2
namespace PySem
open Sem (wp)
open Builtin
open AutoSeq1 (wpAny_loadPart')
end PySem
namespace L2
open PySem PySem.Spec PyProof.Rows
section
variable {X : Cx}
/-- (v,) times 0 or 1 -/
def rRepB : R2 := fun x y H Q => ∃ a k v, x = .ref a ∧ y = .int k ∧ H a = some (.tup [v]) ∧ (k = 0 ∨ k = 1) ∧ (k = 1 → Q (.ref a) H) ∧ (k = 0 → ∀ p, H p = none → Q (.ref p) (upd H p (.tup [])))
end
end L2

set_option Elab.async false
set_option linter.all false
set_option maxRecDepth 100000
namespace L2
open PySem PySem.Spec PyProof.Rows
theorem Same.none {H H' : Hp} {a : Addr} (k : Same H H') (h : H' a = .none) : H a = .none := by
  cases e : H a with
  | none => rfl
  | some o => rw [k _ _ e] at h; cases h
section
variable {X : Cx}
/-- (v,) times n, n from 0 on -/
def rRepG : R2 := fun x y H Q => ∃ (a : Addr) (k : Nat) (v : V), x = .ref a ∧ y = .int (k : Int) ∧ H a = some (.tup [v]) ∧ k ≤ 1000 ∧ ∀ q H', Same H H' → H' q = some (.tup (List.replicate k v)) → Q (.ref q) H'
/-- len of a tuple, in a block too -/
def rLnT : List V → Hp → VK → Prop := fun xs H Q => ∃ (p : Addr) (ys : List V), xs = [.ref p] ∧ H p = some (.tup ys) ∧ Q (.int ys.length) H
theorem call_lnT : CallR X (.builtin "len") rLnT := fun pins s σ H xs us Q I r h => call_len_seq pins s σ H xs us Q I r (let ⟨p, ys, e, hp, q⟩ := h; ⟨p, ys, e, .inr (SqT.of hp), q⟩)
def rLnL : List V → Hp → VK → Prop := fun xs H Q => ∃ (p : Addr) (ys : List V), xs = [.ref p] ∧ H p = some (.lst ys) ∧ Q (.int ys.length) H
theorem call_lnL : CallR X (.builtin "len") rLnL := fun pins s σ H xs us Q I r h => call_len_seq pins s σ H xs us Q I r (let ⟨p, ys, e, hp, q⟩ := h; ⟨p, ys, e, .inl (SqL.of hp), q⟩)
/-- tuple of a list, in a block too -/
def rTupL : List V → Hp → VK → Prop := fun xs H Q => ∃ (p : Addr) (ys : List V), xs = [.ref p] ∧ H p = some (.lst ys) ∧ ∀ q H', Same H H' → H' q = some (.tup ys) → Q (.ref q) H'
theorem call_tupL : CallR X (.type "tuple") rTupL := fun pins s σ H xs us Q I r h => call_tuple_of pins s σ H xs us Q I r (let ⟨p, ys, e, hp, q⟩ := h; ⟨p, ys, e, .inl ⟨SqL.of hp, fun l hl => q l _ (Same.new (Same.refl H) hl) upd_same⟩⟩)
end
end L2
namespace G2
open PySem L2
/-! ### rows of forms -/
def Fms (H : Hp) : List Addr → List Fm → Prop
  | [], [] => True
  | q :: qs, f :: fs => FmAt H q f ∧ Fms H qs fs
  | _, _ => False
theorem Fms.tk {H H' : Hp} (k : TK H H') : ∀ {qs : List Addr} {fs : List Fm}, Fms H qs fs → Fms H' qs fs
  | [], [], _ => trivial
  | q :: qs, f :: fs, h => ⟨h.1.tk k, Fms.tk k h.2⟩
  | [], _ :: _, h => h.elim
  | _ :: _, [], h => h.elim
theorem Fms.len {H : Hp} : ∀ {qs : List Addr} {fs : List Fm}, Fms H qs fs → qs.length = fs.length
  | [], [], _ => rfl
  | q :: qs, f :: fs, h => by rw [List.length_cons, List.length_cons, Fms.len h.2]
  | [], _ :: _, h => h.elim
  | _ :: _, [], h => h.elim
theorem Fms.app {H : Hp} {ps : List Addr} {gs : List Fm} (h' : Fms H ps gs) : ∀ {qs : List Addr} {fs : List Fm}, Fms H qs fs → Fms H (qs ++ ps) (fs ++ gs)
  | [], [], _ => h'
  | q :: qs, f :: fs, h => ⟨h.1, Fms.app h' h.2⟩
  | [], _ :: _, h => h.elim
  | _ :: _, [], h => h.elim
theorem Fms.rd {H : Hp} : ∀ {qs : List Addr} {fs : List Fm}, Fms H qs fs → RdVs H (qs.map V.ref) (fs.map fmD)
  | [], [], _ => .nil
  | q :: qs, f :: fs, h => .cons (fm_rd h.1) (Fms.rd h.2)
  | [], _ :: _, h => h.elim
  | _ :: _, [], h => h.elim
theorem Fms.one {H : Hp} {q : Addr} {f : Fm} (h : FmAt H q f) : Fms H [q] [f] := ⟨h, trivial⟩
theorem Fms.two {H : Hp} {q r : Addr} {f g : Fm} (h : FmAt H q f) (h' : FmAt H r g) : Fms H [q, r] [f, g] := ⟨h, h', trivial⟩
/-! ### what may be shown -/
theorem all_shw {n h : Nat} : ∀ ds : List PyData, (∀ d ∈ ds, Shw d n h) → PyData.showableAll ds = true ∧ PyData.hasDictAll ds = false ∧ PyData.depthAll ds ≤ h ∧ ((PyData.shownAll ds).map (·.length)).sum ≤ n * ds.length ∧ (PyData.shownAll ds).length = ds.length
  | [], _ => ⟨rfl, rfl, Nat.zero_le _, Nat.zero_le _, rfl⟩
  | d :: ds, k => by
    obtain ⟨h1, h2, h3, h4, h5⟩ := all_shw ds fun x hx => k x (List.mem_cons_of_mem _ hx)
    have e := k d List.mem_cons_self
    have e3 := e.p
    have e4 := e.l
    refine ⟨?_, ?_, ?_, ?_, ?_⟩
    · simp only [PyData.showableAll, e.s, h1, Bool.and_self]
    · simp only [PyData.hasDictAll, e.nd, h2, Bool.or_self]
    · simp only [PyData.depthAll]
      omega
    · simp only [PyData.shownAll, List.map_cons, List.sum_cons, List.length_cons, Nat.mul_succ]
      omega
    · simp only [PyData.shownAll, List.length_cons, h5]
theorem Shw.tups {n h : Nat} {ds : List PyData} (k : ∀ d ∈ ds, Shw d n h) : Shw (.tuple ds) ((n + 2) * ds.length + 3) (h + 1) := by
  obtain ⟨h1, h2, h3, h4, h5⟩ := all_shw ds k
  refine ⟨by simp only [PyData.showable]; exact h1, by simp only [PyData.hasDict]; exact h2, ?_, ?_⟩
  · show PyData.depthAll _ + 1 ≤ h + 1
    omega
  · have := len_tup ds
    rw [Nat.add_mul]
    omega
theorem Shw.lsts {n h : Nat} {ds : List PyData} (k : ∀ d ∈ ds, Shw d n h) : Shw (.list ds) ((n + 2) * ds.length + 3) (h + 1) := by
  obtain ⟨h1, h2, h3, h4, h5⟩ := all_shw ds k
  refine ⟨by simp only [PyData.showable]; exact h1, by simp only [PyData.hasDict]; exact h2, ?_, ?_⟩
  · show PyData.depthAll _ + 1 ≤ h + 1
    omega
  · have e : (PyData.shown (.list ds)).length ≤ ((PyData.shownAll ds).map (·.length)).sum + 2 * (PyData.shownAll ds).length + 3 := listText_len_le _
    rw [Nat.add_mul]
    omega
/-- a value reads as one thing, as long as tuples stay; it may be shown -/
def Rs (H : Hp) (v : V) (n h : Nat) : Prop := ∃ d, (∀ H', TK H H' → RdV H' v d) ∧ Shw d n h
theorem Rs.up {H : Hp} {v : V} {n h m i : Nat} (r : Rs H v n h) (h1 : n ≤ m) (h2 : h ≤ i) : Rs H v m i := let ⟨d, a, b⟩ := r; ⟨d, a, b.up h1 h2⟩
theorem Rs.big {H : Hp} {i : Int} (h : Bg i) : Rs H (.int i) 91 0 := ⟨_, fun _ _ => .int i, Shw.big h⟩
theorem Rs.int {H : Hp} {i : Int} (h : Sm i) : Rs H (.int i) 16 0 := ⟨_, fun _ _ => .int i, Shw.int h⟩
theorem Rs.all {H : Hp} {n h : Nat} : ∀ {vs : List V}, (∀ v ∈ vs, Rs H v n h) → ∃ ds : List PyData, ds.length = vs.length ∧ (∀ H', TK H H' → RdVs H' vs ds) ∧ ∀ d ∈ ds, Shw d n h
  | [], _ => ⟨[], rfl, fun _ _ => .nil, fun d hd => by cases hd⟩
  | v :: vs, k => by
    obtain ⟨ds, h1, h2, h3⟩ := Rs.all fun x hx => k x (List.mem_cons_of_mem _ hx)
    obtain ⟨d, a, b⟩ := k v List.mem_cons_self
    refine ⟨d :: ds, by rw [List.length_cons, List.length_cons, h1], fun H' t => .cons (a H' t) (h2 H' t), fun x hx => ?_⟩
    rcases List.mem_cons.mp hx with rfl | hx
    · exact b
    · exact h3 x hx
theorem Rs.tup {H : Hp} {n h : Nat} {p : Addr} {vs : List V} (e : H p = some (.tup vs)) (k : ∀ v ∈ vs, Rs H v n h) : Rs H (.ref p) ((n + 2) * vs.length + 3) (h + 1) := by
  obtain ⟨ds, h1, h2, h3⟩ := Rs.all k
  refine ⟨.tuple ds, fun H' t => .tup (t.t _ _ e) (h2 H' t), ?_⟩
  rw [← h1]
  exact Shw.tups h3
theorem Rs.tk {H H' : Hp} {v : V} {n h : Nat} (t : TK H H') (r : Rs H v n h) : Rs H' v n h := let ⟨d, a, b⟩ := r; ⟨d, fun H2 t2 => a H2 (t.trans t2), b⟩
section
variable {D : Addr} {te : TE} {tc : TT} {Q : VK} {ρ : St} {H : Hp} {K : PySem.W.Frag} {a b : Addr}
/-- numbers out of a list of numbers -/
theorem lst_map {xs : List Int} (g : Int → Int) (ha : H a = some (.lst (xs.map V.int))) (hn : xs.length ≤ 1000)
    (step : ∀ (i : Nat) (x : Int) (H' : Hp), xs[i]? = some x → Same H H' → ∀ R : V → Hp → Prop, (∀ H'', Same H' H'' → R (.int (g x)) H'') → te (some (.int x) :: ρ) H' R)
    (q : ∀ H', Same H H' → H' D = some (.lst ((xs.map g).map V.int)) → Q (.ref D) H') (hD : H D = none) : CGo (Itl K a) D (gName 0) tAll te Q (none :: ρ) H := by
  refine cgo_list (xs := xs.map V.int) (fun i zs H' => zs = ((xs.map g).take i).map V.int ∧ Same H H') ⟨rfl, Same.new (Same.refl H) hD⟩ (fun i zs H' _ ⟨_, k'⟩ => SqL.of (k' _ _ ha)) ?_ ?_
  · rintro i x zs H' hx ⟨rfl, K'⟩ hDz R S kR _
    have hi1 : i < xs.length := by
      have := (List.getElem?_eq_some_iff.mp hx).1
      simpa using this
    have ex : x = .int xs[i] := by
      rw [List.getElem?_map, List.getElem?_eq_getElem hi1] at hx
      exact (Option.some.inj hx).symm
    subst ex
    refine w_all ?_
    refine iteT ?_
    refine step i _ _ (by simp [hi1]) K' R fun H'' K'' => ?_
    refine kR _ _ (K'' _ _ hDz) (by rw [List.length_map, List.length_take]; exact small1000 (by omega)) ⟨?_, (K'.trans K'').put hD⟩
    rw [List.take_add_one, List.map_append]
    simp [hi1]
  · rintro zs H' ⟨rfl, K'⟩ hDz
    refine q H' K' ?_
    rw [hDz, List.take_of_length_le]
    simp
end
end G2

set_option Elab.async false
set_option linter.all false
set_option maxRecDepth 100000
namespace L2
open PySem PySem.Spec PyProof.Rows

/-! ### lists of pairs as tables -/
section
variable {κ : Type} [DecidableEq κ]
def valV (kvs : List (κ × V)) (k : κ) : Option V := (kvs.find? fun kv => decide (kv.1 = k)).map (·.2)
/-- in its place, or at the end -/
def putK (kvs : List (κ × V)) (k : κ) (v : V) : List (κ × V) :=
  if (kvs.any fun kv => decide (kv.1 = k)) = true then kvs.map (fun kv => if kv.1 = k then (kv.1, v) else kv) else kvs ++ [(k, v)]
def dropK (kvs : List (κ × V)) (k : κ) : List (κ × V) := kvs.filter fun kv => decide (kv.1 ≠ k)

theorem valV_pos {p : κ × V} {r : List (κ × V)} {k : κ} (e : p.1 = k) : valV (p :: r) k = some p.2 := by simp [valV, List.find?_cons, e]
theorem valV_neg {p : κ × V} {r : List (κ × V)} {k : κ} (e : ¬ p.1 = k) : valV (p :: r) k = valV r k := by simp [valV, List.find?_cons, e]
theorem valV_any (k : κ) : ∀ kvs : List (κ × V), (kvs.any fun kv => decide (kv.1 = k)) = (valV kvs k).isSome
  | [] => rfl
  | p :: r => by
    rw [List.any_cons]
    by_cases e : p.1 = k
    · simp only [valV_pos e, decide_eq_true e, Bool.true_or, Option.isSome_some]
    · rw [valV_neg e, decide_eq_false e, Bool.false_or]; exact valV_any k r

theorem RelO.isSome_eq {o : Option V} {u : Option Value} (r : RelO o u) : o.isSome = u.isSome := by
  cases o with
  | none => cases u with
    | none => rfl
    | some _ => exact (show False from r).elim
  | some _ => cases u with
    | none => exact (show False from r).elim
    | some _ => rfl
theorem RelO.getD {o : Option V} {u : Option Value} {d : V} {d' : Value} (r : RelO o u) (rd : RelV d d') : RelV (o.getD d) (u.getD d') := by
  cases o with
  | none => cases u with
    | none => exact rd
    | some _ => exact (show False from r).elim
  | some _ => cases u with
    | none => exact (show False from r).elim
    | some _ => exact r

/-- raw tables of the same keys -/
theorem KV.val {kvs : List (κ × V)} {vs : List (κ × Value)} (r : KV kvs vs) (k : κ) : RelO (valV kvs k) (valueAt vs k) := by
  unfold KV at r
  induction r with
  | nil => exact True.intro
  | @cons p q ps qs h t ih =>
    obtain ⟨h1, h2⟩ := h
    by_cases e : p.1 = k
    · have e' : q.1 = k := h1.symm.trans e
      have b : valueAt (q :: qs) k = some q.2 := by simp [valueAt, List.find?_cons, e']
      rw [valV_pos e, b]; exact h2
    · have e' : ¬ q.1 = k := fun z => e (h1.trans z)
      have b : valueAt (q :: qs) k = valueAt qs k := by simp [valueAt, List.find?_cons, e']
      rw [valV_neg e, b]; exact ih
theorem KV.any {kvs : List (κ × V)} {vs : List (κ × Value)} (r : KV kvs vs) (k : κ) : (kvs.any fun kv => decide (kv.1 = k)) = vs.any fun kv => decide (kv.1 = k) := by
  unfold KV at r
  induction r with
  | nil => rfl
  | cons h t ih => rw [List.any_cons, List.any_cons, ih, h.1]
theorem KV.repl {kvs : List (κ × V)} {vs : List (κ × Value)} (r : KV kvs vs) (k : κ) {y : V} {u : Value} (ry : RelV y u) :
    KV (kvs.map fun kv => if kv.1 = k then (kv.1, y) else kv) (vs.map fun kv => if kv.1 = k then (kv.1, u) else kv) := by
  unfold KV at r ⊢
  induction r with
  | nil => exact .nil
  | @cons p q ps qs h t ih =>
    rw [List.map_cons, List.map_cons]
    refine .cons ?_ ih
    obtain ⟨h1, h2⟩ := h
    by_cases e : p.1 = k
    · rw [if_pos e, if_pos (h1.symm.trans e)]; exact ⟨h1, ry⟩
    · rw [if_neg e, if_neg (fun z => e (h1.trans z))]; exact ⟨h1, h2⟩
theorem KV.put {kvs : List (κ × V)} {vs : List (κ × Value)} (r : KV kvs vs) (k : κ) {y : V} {u : Value} (ry : RelV y u) : KV (putK kvs k y) (stored vs k u) := by
  unfold putK stored
  rw [r.any k]
  by_cases e : (vs.any fun kv => decide (kv.1 = k)) = true
  · rw [if_pos e, if_pos e]; exact r.repl k ry
  · rw [if_neg e, if_neg e]; exact Paired.snoc r ⟨rfl, ry⟩
theorem KV.drop {kvs : List (κ × V)} {vs : List (κ × Value)} (r : KV kvs vs) (k : κ) : KV (dropK kvs k) (without vs k) := by
  unfold KV at r ⊢
  unfold dropK without
  induction r with
  | nil => exact .nil
  | @cons p q ps qs h t ih =>
    obtain ⟨h1, h2⟩ := h
    rw [List.filter_cons, List.filter_cons]
    by_cases e : p.1 = k
    · have a : ¬ decide (p.1 ≠ k) = true := by simp [e]
      have b : ¬ decide (q.1 ≠ k) = true := by simp [h1.symm.trans e]
      rw [if_neg a, if_neg b]; exact ih
    · have e' : ¬ q.1 = k := fun z => e (h1.trans z)
      have a : decide (p.1 ≠ k) = true := by simp [e]
      have b : decide (q.1 ≠ k) = true := by simp [e']
      rw [if_pos a, if_pos b]; exact .cons ⟨h1, h2⟩ ih
theorem KV.keys {kvs : List (κ × V)} {vs : List (κ × Value)} (r : KV kvs vs) : kvs.map (·.1) = vs.map (·.1) := by
  unfold KV at r
  induction r with
  | nil => rfl
  | cons h t ih => rw [List.map_cons, List.map_cons, ih, h.1]
theorem KV.length {kvs : List (κ × V)} {vs : List (κ × Value)} (r : KV kvs vs) : kvs.length = vs.length := Paired.length r
end


/-! ### a tracked dict, its keys ints and texts or tuples of these -/

/-- raw entries of a dict with tuple keys -/
abbrev KT (H : Hp) : List (List Key × V) → List (List Key × Addr × Value) → Prop := Paired fun p q => p.1 = q.1 ∧ H q.2.1 = some (.tup (p.1.map kV)) ∧ RelV p.2 q.2.2
theorem KT.val {H : Hp} {kvs : List (List Key × V)} {xs : List (List Key × Addr × Value)} (r : KT H kvs xs) (k : List Key) : RelO (valV kvs k) ((atKey xs k).map (·.2)) := by
  induction r with
  | nil => exact True.intro
  | @cons p q ps qs h t ih =>
    obtain ⟨h1, _, h2⟩ := h
    by_cases e : p.1 = k
    · have e' : q.1 = k := h1.symm.trans e
      have b : atKey (q :: qs) k = some q.2 := by simp [atKey, List.find?_cons, e']
      rw [valV_pos e, b]; exact h2
    · have e' : ¬ q.1 = k := fun z => e (h1.trans z)
      have b : atKey (q :: qs) k = atKey qs k := by simp [atKey, List.find?_cons, e']
      rw [valV_neg e, b]; exact ih
theorem KT.repl {H : Hp} {kvs : List (List Key × V)} {xs : List (List Key × Addr × Value)} (r : KT H kvs xs) (k : List Key) {y : V} {u : Value} (ry : RelV y u) :
    KT H (kvs.map fun kv => if kv.1 = k then (kv.1, y) else kv) (xs.map (putAt k u)) := by
  induction r with
  | nil => exact .nil
  | @cons p q ps qs h t ih =>
    rw [List.map_cons, List.map_cons]
    refine .cons ?_ ih
    obtain ⟨h1, h2, h3⟩ := h
    unfold putAt
    by_cases e : p.1 = k
    · rw [if_pos e, if_pos (h1.symm.trans e)]; exact ⟨h1, h2, ry⟩
    · rw [if_neg e, if_neg (fun z => e (h1.trans z))]; exact ⟨h1, h2, h3⟩
theorem KT.put {H : Hp} {kvs : List (List Key × V)} {xs : List (List Key × Addr × Value)} (r : KT H kvs xs) (k : List Key) {b : Addr} {y : V} {u : Value} (hb : H b = some (.tup (k.map kV))) (ry : RelV y u) :
    KT H (putK kvs k y) (storedH xs k b u) := by
  have e : (kvs.any fun kv => decide (kv.1 = k)) = (atKey xs k).isSome := by
    rw [valV_any, (r.val k).isSome_eq, Option.isSome_map]
  unfold putK storedH
  rw [e]
  by_cases q : (atKey xs k).isSome = true
  · rw [if_pos q, if_pos q]; exact r.repl k ry
  · rw [if_neg q, if_neg q]; exact Paired.snoc r ⟨rfl, hb, ry⟩
theorem KT.keeps {H H' : Hp} {kvs : List (List Key × V)} {xs : List (List Key × Addr × Value)} (r : KT H kvs xs) (ht : ∀ b ys, H b = some (.tup ys) → H' b = some (.tup ys)) : KT H' kvs xs :=
  Paired.mapP r fun _ _ z => ⟨z.1, ht _ _ z.2.1, z.2.2⟩

section
variable {P : Program} {w : World} {H : Hp} {h : Heap} {a : Addr}
end

/-- what the dict at a holds at the key y -/
def DGet (H : Hp) (a : Addr) (y : V) (r : Option V) : Prop :=
  (∃ kvs k, Rd H a (.dK kvs) ∧ y = kV k ∧ r = valV kvs k) ∨ ∃ kvs k b, Rd H a (.dT kvs) ∧ y = .ref b ∧ H b = some (.tup (k.map kV)) ∧ r = valV kvs k
/-- the heap behind a[y] = v -/
def DPut (H : Hp) (a : Addr) (y v : V) (H' : Hp) : Prop :=
  (∃ kvs k, H a = some (.dK kvs) ∧ y = kV k ∧ kvs.length < sizeLine ∧ H' = upd H a (.dK (putK kvs k v))) ∨
  ∃ kvs k b, H a = some (.dT kvs) ∧ y = .ref b ∧ H b = some (.tup (k.map kV)) ∧ kvs.length < sizeLine ∧ H' = upd H a (.dT (putK kvs k v))
theorem DGet.k {H : Hp} {a : Addr} {kvs : List (Key × V)} {k : Key} (e : H a = some (.dK kvs)) : DGet H a (kV k) (valV kvs k) := .inl ⟨kvs, k, .inl e, rfl, rfl⟩
theorem DGet.t {H : Hp} {a b : Addr} {kvs : List (List Key × V)} {k : List Key} (e : H a = some (.dT kvs)) (eb : H b = some (.tup (k.map kV))) : DGet H a (.ref b) (valV kvs k) := .inr ⟨kvs, k, b, .inl e, rfl, eb, rfl⟩
theorem DPut.k {H : Hp} {a : Addr} {kvs : List (Key × V)} {k : Key} {v : V} (e : H a = some (.dK kvs)) (hl : kvs.length < sizeLine) : DPut H a (kV k) v (upd H a (.dK (putK kvs k v))) := .inl ⟨kvs, k, e, rfl, hl, rfl⟩
theorem DPut.t {H : Hp} {a b : Addr} {kvs : List (List Key × V)} {k : List Key} {v : V} (e : H a = some (.dT kvs)) (eb : H b = some (.tup (k.map kV))) (hl : kvs.length < sizeLine) :
    DPut H a (.ref b) v (upd H a (.dT (putK kvs k v))) := .inr ⟨kvs, k, b, e, rfl, eb, hl, rfl⟩


section
variable {X : Cx} {pins : List (Addr × Obj)} {σ : St} {H : Hp} {s : Shared} {a : Addr} {y v : V} {u r : Value} {o : Option V} {A : Around} {E : Value → Shared → Prop}

theorem Inv.big (I : Inv X pins σ H s) : sysModules < s.heap.objs.size := by
  have h : mainGlobals < s.heap.objs.size := (I.mod.glob.keeps I.bk).lt
  exact Nat.lt_trans (by decide) h

end

section
variable {X : Cx} {pins : List (Addr × Obj)} {σ : St} {H : Hp} {s : Shared} {a : Addr} {kvs : List (Key × V)} {k : Key} {u : Value} {A : Around} {E : Value → Shared → Prop}
end


/-! ### readings and rules -/
/-- the element of a subscription, not a slice -/
def NoSl (i : Expr) : Prop := ∀ ov iv, subscripted i false ov iv = operate [ov, iv] (getItem ov iv)


/-- d[y] -/
def tDGet (td ty : TE) : TE := fun σ H Q => td σ H fun x H1 => ty σ H1 fun y H2 => ∃ a v, x = .ref a ∧ DGet H2 a y (some v) ∧ Q v H2
/-- y in d, y not in d -/
def tDIn (ty td : TE) : TE := fun σ H Q => ty σ H fun y H1 => td σ H1 fun x H2 => ∃ a o, x = .ref a ∧ DGet H2 a y o ∧ Q (.bl o.isSome) H2
def tDNotIn (ty td : TE) : TE := fun σ H Q => ty σ H fun y H1 => td σ H1 fun x H2 => ∃ a o, x = .ref a ∧ DGet H2 a y o ∧ Q (.bl (!o.isSome)) H2
/-- d[y] = v -/
def sDPut (td ty tv : TE) : TS := fun D σ H => tv σ H fun v H1 => td σ H1 fun x H2 => ty σ H2 fun y H3 => ∃ a H4, x = .ref a ∧ DPut H3 a y v H4 ∧ D.nx σ H4
/-- d[y] op= v -/
def sDAug (td ty tv : TE) (rd : V → V → Hp → VK → Prop) : TS := fun D σ H => td σ H fun x H1 => ty σ H1 fun y H2 => ∃ a v, x = .ref a ∧ DGet H2 a y (some v) ∧
  tv σ H2 fun y2 H3 => rd v y2 H3 fun z H4 => ∃ H5, DPut H4 a y z H5 ∧ D.nx σ H5
/-- del d[y] -/
def sDDel (td ty : TE) : TS := fun D σ H => td σ H fun x H1 => ty σ H1 fun y H2 => ∃ a kvs k, x = .ref a ∧ H2 a = some (.dK kvs) ∧ y = kV k ∧ (valV kvs k).isSome = true ∧ D.nx σ (upd H2 a (.dK (dropK kvs k)))

section
variable {X : Cx} {o i e value : Expr} {pos pos' tpos : Pos} {td ty tv : TE}
end


/-! ### displays -/
theorem dk_empty {P : Program} {w : World} {H : Hp} (h : Heap) (hb : sysModules < h.objs.size) : ObjOk P w H (h.push { cls := .type "dict", data := .dict #[] }) h.objs.size (.dK []) :=
  ⟨Nat.zero_le _, beq_eq_false_iff_ne.mpr (Ne.symm (Nat.ne_of_lt hb)), [], .nil, Heap.DictOf.new h⟩
/-- {}, to be a dict of the kind that is wanted -/
def tDNewK : TE := fun _ H Q => ∀ p, H p = none → Q (.ref p) (upd H p (.dK []))
def tDNewT : TE := fun _ H Q => ∀ p, H p = none → Q (.ref p) (upd H p (.dT []))
section
variable {X : Cx} {pos : Pos}
theorem pe_dnewK : PE X (.Dict [] [] pos) tDNewK := fun pins s σ H Q I h =>
  wpAny_Dict_empty ⟨.ref s.heap.objs.size, _, I.laid (a := s.heap.objs.size) (o := .dK []) (t' := s.toks) (fun _ _ q => Heap.get?_push_of_some _ q) (Nat.le_refl _) (dk_empty s.heap I.big), rfl, h _ (I.hok.fresh (Nat.le_refl _))⟩
end

/-- the pairs of a display, from the left -/
def tPairs : List (TE × TE) → St → Hp → (List (V × V) → Hp → Prop) → Prop
  | [], _, H, Q => Q [] H
  | (tk, tv) :: r, σ, H, Q => tk σ H fun x H1 => tv σ H1 fun y H2 => tPairs r σ H2 fun ps H3 => Q ((x, y) :: ps) H3
abbrev VV : List (V × V) → List (Value × Value) → Prop := Paired fun p q => RelV p.1 q.1 ∧ RelV p.2 q.2
def PPs (X : Cx) (pos : Pos) (keys : List (Option Expr)) (values : List Expr) (trs : List (TE × TE)) : Prop :=
  ∀ (pins : List (Addr × Obj)) (s : Shared) (σ : St) (H : Hp) (Q : List (V × V) → Hp → Prop), Inv X pins σ H s → tPairs trs σ H Q →
    wpAny (model X.prog X.w) X.A (evalPairs (pairTrees keys values X.env pos)) (fun vs s' => ∃ ps H', Inv X pins σ H' s' ∧ VV ps vs ∧ Q ps H') X.xe s

def mergeK (kvs more : List (Key × V)) : List (Key × V) := more.foldl (fun acc kv => putK acc kv.1 kv.2) kvs
/-- {k: v, ..} with keys ints and texts; the new dict stands empty while the pairs are made -/
def tDisp (trs : List (TE × TE)) : TE := fun σ H Q => ∀ p, H p = none → tPairs trs σ (upd H p (.dK [])) fun ps H2 => H2 p = some (.dK []) ∧ ∃ kvs : List (Key × V), ps = kvs.map (fun kv => (kV kv.1, kv.2)) ∧ kvs.length ≤ 15 ∧ Q (.ref p) (upd H2 p (.dK (mergeK [] kvs)))


/-! ### methods -/
/-- a method call o.m(e) of a built-in, with one argument: what must be seen of the text -/
structure M1 (X : Cx) (o : Expr) (m : Str) (apos : Pos) (e : Expr) (cpos : Pos) : Prop where
  base : attributeBase o m X.env (eval o X.env) = eval o X.env
  few : ((backTo cpos (starEach [e] X.env)).all (fun x => !x.1) && (backToKw cpos (keywordEach [] X.env)).all (fun x => x.1.isSome)
    && decide (([e] : List Expr).length + ([] : List Keyword).length + (if ([] : List Keyword).isEmpty then 0 else 1) < 30)) = true
  line : (apos.endLine == cpos.line) = true
  trees : backTo cpos (starEach [e] X.env) = [(false, eval e X.env)]
structure M2 (X : Cx) (o : Expr) (m : Str) (apos : Pos) (e f : Expr) (cpos : Pos) : Prop where
  base : attributeBase o m X.env (eval o X.env) = eval o X.env
  few : ((backTo cpos (starEach [e, f] X.env)).all (fun x => !x.1) && (backToKw cpos (keywordEach [] X.env)).all (fun x => x.1.isSome)
    && decide (([e, f] : List Expr).length + ([] : List Keyword).length + (if ([] : List Keyword).isEmpty then 0 else 1) < 30)) = true
  line : (apos.endLine == cpos.line) = true
  trees : backTo cpos (starEach [e, f] X.env) = [(false, eval e X.env), (false, eval f X.env)]

/-- a is a dict, whatever its keys -/
def IsD (H : Hp) (a : Addr) : Prop := (∃ kvs, Rd H a (.dK kvs)) ∨ ∃ kvs, Rd H a (.dT kvs)

section
variable {X : Cx} {pins : List (Addr × Obj)} {σ : St} {H : Hp} {s : Shared} {a : Addr} {y d : V} {u r : Value} {o : Option V} {A : Around} {E : Value → Shared → Prop}
end

def tDGet1 (td ty : TE) : TE := fun σ H Q => td σ H fun x H1 => ∃ a, x = .ref a ∧ IsD H1 a ∧ ty σ H1 fun y H2 => ∃ o, DGet H2 a y o ∧ Q (o.getD .non) H2
def tDGet2 (td ty tx : TE) : TE := fun σ H Q => td σ H fun x H1 => ∃ a, x = .ref a ∧ IsD H1 a ∧ ty σ H1 fun y H2 => tx σ H2 fun z H3 => ∃ o, DGet H3 a y o ∧ Q (o.getD z) H3
/-- d.pop(k): there; d.pop(k, x): there or not -/
def tDPop1 (td ty : TE) : TE := fun σ H Q => td σ H fun x H1 => ∃ a, x = .ref a ∧ IsD H1 a ∧ ty σ H1 fun y H2 => ∃ kvs k v, H2 a = some (.dK kvs) ∧ y = kV k ∧ valV kvs k = some v ∧ Q v (upd H2 a (.dK (dropK kvs k)))
def tDPop2 (td ty tx : TE) : TE := fun σ H Q => td σ H fun x H1 => ∃ a, x = .ref a ∧ IsD H1 a ∧ ty σ H1 fun y H2 => tx σ H2 fun z H3 => ∃ kvs k, H3 a = some (.dK kvs) ∧ y = kV k ∧
  (∀ v, valV kvs k = some v → Q v (upd H3 a (.dK (dropK kvs k)))) ∧ (valV kvs k = none → Q z H3)
section
variable {X : Cx} {o e f : Expr} {apos cpos : Pos} {td ty tx : TE}
end

/-! ### dict(d): a copy -/
section
variable {X : Cx} {pins : List (Addr × Obj)} {σ : St} {H : Hp} {s : Shared} {a : Addr} {kvs : List (Key × V)} {A : Around} {E : Value → Shared → Prop}
end


section
variable {X : Cx} {pins : List (Addr × Obj)} {σ : St} {H : Hp} {s : Shared} {a : Addr} {y : V} {u : Value} {A : Around} {E : Value → Shared → Prop}
end
end L2

set_option Elab.async false
set_option linter.all false
set_option maxRecDepth 100000
namespace L2
open PySem PySem.Spec PyProof.Rows
section
variable {X : Cx} {pins : List (Addr × Obj)} {σ : St} {H : Hp} {s : Shared} {a o : Addr} {kvs more : List (Key × V)} {A : Around} {E : Value → Shared → Prop}
end
/-- d.update(e) -/
def tDUpd (td ty : TE) : TE := fun σ H Q => td σ H fun x H1 => ∃ a, x = .ref a ∧ IsD H1 a ∧ ty σ H1 fun y H2 => ∃ o kvs more, y = .ref o ∧ H2 a = some (.dK kvs) ∧ H2 o = some (.dK more) ∧ a ≠ o ∧ kvs.length + more.length ≤ 1000 ∧ Q .non (upd H2 a (.dK (mergeK kvs more)))
end L2

set_option Elab.async false
set_option linter.all false
set_option maxRecDepth 100000
namespace L2
open PySem PySem.Spec PyProof.Rows
section
variable {X : Cx} {k : Nat}
/-- xs == [], whatever stands in xs -/
def rEqE : R2 := fun x y H Q => ∃ (a z : Addr) (xs : List V), x = .ref a ∧ y = .ref z ∧ H a = some (.lst xs) ∧ H z = some (.lst []) ∧ Q (.bl xs.isEmpty) H
def rNeE : R2 := fun x y H Q => ∃ (a z : Addr) (xs : List V), x = .ref a ∧ y = .ref z ∧ H a = some (.lst xs) ∧ H z = some (.lst []) ∧ Q (.bl (!xs.isEmpty)) H
theorem op_neE (hr : Room k X.A) : OpR X (compareOp .NotEq) rNeE := by
  intro pins s σ H x y v u Q I rx ry h
  obtain ⟨a, z, xs, rfl, rfl, ha, hz, q⟩ := h
  cases rx
  cases ry
  have hu := hr.units
  obtain ⟨its, r, pl, _⟩ := I.list (SqL.of ha)
  obtain ⟨its2, r2, pl2, _⟩ := I.list (SqL.of hz)
  have e2 : its2 = [] := r2.nil_iff.mpr rfl
  subst e2
  cases xs with
  | nil =>
    have e1 : its = [] := r.nil_iff.mpr rfl
    subst e1
    have R := SeqAt.RcNeAt.lists (A := X.A) (e := fun _ => true) pl.isList pl2.isList rfl (by omega) (fun j h1 h2 => absurd h1 (by simp))
    exact R X.prog X.w X.xe _ ⟨.bl _, H, I, rfl, q⟩
  | cons y ys =>
    have hne : its ≠ [] := fun e => by have := r.nil_iff.mp e; cases this
    have R := SeqAt.RcNeAt.lists_lengths (A := X.A) pl.isList pl2.isList (by simp [hne]) (by omega)
    exact R X.prog X.w X.xe _ ⟨.bl _, H, I, rfl, q⟩
/-- dict(d) -/
def rDictC : List V → Hp → VK → Prop := fun xs H Q => ∃ (a : Addr) (kvs : List (Key × V)), xs = [.ref a] ∧ H a = some (.dK kvs) ∧ ∀ p, H p = none → Q (.ref p) (upd H p (.dK kvs))
end
end L2

set_option Elab.async false
set_option linter.all false
set_option maxRecDepth 100000
namespace PySem.SeqAt
open PySem.MeetsSeq PySem PySem.Spec
section
variable {A : Around} {s : Shared}
end
end PySem.SeqAt
namespace HT
open PySem PySem.Spec PyProof.Rows
section
variable {prog : Program} {w : World} {A : Around} {E : Value → Shared → Prop} {s : Shared}
theorem adjust_rev (n : Nat) : Builtin.Slice.sliceAdjust none none (-1) (n : Int) = ((n : Int) - 1, -1) := by
  unfold Builtin.Slice.sliceAdjust
  simp
theorem places_rev (n : Nat) : Builtin.Slice.slicePlaces ((n : Int) - 1) (-1) (-1) = n := by
  unfold Builtin.Slice.slicePlaces
  have h1 : ¬ ((-1 : Int) > 0) := by omega
  simp only [h1, if_false]
  rcases Nat.eq_zero_or_pos n with h | h
  · subst h
    rfl
  · have e : -(-1 : Int) = 1 := rfl
    simp only [e, Int.ediv_one]
    split <;> omega
theorem pick_rev (xs : Array Value) : ((List.range xs.size).filterMap fun (m : Nat) => xs[((xs.size : Int) - 1 + (m : Int) * (-1)).toNat]?) = xs.toList.reverse := by
  have e := PySem.W.krv_pick xs
  unfold slicePick at e
  rw [PySem.W.krv_bounds] at e
  have e2 : ((sliceRange ((xs.size : Int) - 1) (-1) (-1)).filterMap (xs[·]?)) = xs.toList.reverse := by
    have := congrArg Array.toList e
    simpa using this
  rw [PySem.W.krv_sliceRange, List.filterMap_map] at e2
  rw [← e2]
  apply congrFun
  apply congrArg
  funext m
  show xs[((xs.size : Int) - 1 + (m : Int) * (-1)).toNat]? = xs[xs.size - 1 - m]?
  congr 1
  omega
theorem getItem_tuple_rev {t sl : Addr} {items : Array Value} {tk : Tok} {Q : Value → Shared → Prop} (ht : IsTup s.heap t items) (hs : s.heap.IsSliceOf sl .none .none (.int (-1) tk))
    (h : Q (.ref s.heap.objs.size) { s with heap := s.heap.push { cls := .type "tuple", data := .seq items.toList.reverse.toArray } }) (hsz : items.size ≤ sizeLine) : wpAny (model prog w) A (getItem (.ref t) (.ref sl)) Q E s := by
  have hz : sizeOk (.seq items.toList.reverse.toArray) := by
    show items.toList.reverse.toArray.size ≤ sizeLine
    simpa using hsz
  obtain ⟨os, hos, hcs, hds⟩ := id hs
  have hTs : s.TypeIs (.ref sl) "slice" := ⟨os, hos, hcs⟩
  unfold getItem
  try with_reducible refine wpAny_holding ?_
  first | refine wpAny_bind (wpAny_pure ?_) | skip
  refine wpAny_bind (wpAny_sequenceKey ht.typeIs (by decide) ?_)
  refine wpAny_bind (wpAny_callSpecial?_slot (name := Str.ofString "__getitem__") ht.typeIs PyProof.Rows.slot_tuple_getitem (wpAny_call_entry PyProof.Rows.slot_tuple_getitem ht.typeIs entry_tuple_getitem ?_ (args_tuple_getitem _ _)))
  show wpAny _ _ (Builtin.Tuple.tupleItemsOf (.ref t) >>= _) _ _ s
  refine wpAny_bind (tupleItemsOf_ ht (wpAny_bind (wpAny_typeOf hTs ?_)))
  rw [if_pos (by decide)]
  refine wpAny_bind ?_
  unfold Builtin.Slice.sliceApplied Builtin.Slice.sliceFields
  refine wpAny_bind (wpAny_bind (wpAny_field hos hds (x := .none) rfl (wpAny_bind (wpAny_field hos hds (x := .none) rfl (wpAny_bind (wpAny_field hos hds (x := .int (-1) tk) rfl (wpAny_pure ?_)))))))
  refine wpAny_bind (slicePart_int ?_)
  show wpAny _ _ (if ((-1 : Int) == 0) = true then _ else _) _ _ s
  rw [if_neg (by decide)]
  refine wpAny_bind (slicePart_none (wpAny_bind (slicePart_none (wpAny_bind (wpAny_pure ?_)))))
  show wpAny _ _ (match Builtin.Slice.sliceAdjust none none (-1) (items.size : Int) with | (lo, hi) => pure (lo, (-1 : Int), Builtin.Slice.slicePlaces lo hi (-1))) _ _ s
  rw [adjust_rev]
  show wpAny _ _ (pure ((items.size : Int) - 1, (-1 : Int), Builtin.Slice.slicePlaces ((items.size : Int) - 1) (-1) (-1))) _ _ s
  rw [places_rev]
  refine wpAny_pure ?_
  show wpAny _ _ (if (((items.size : Int) - 1) == 0 && (-1 : Int) == 1 && items.size == items.size) = true then _ else _) _ _ s
  rw [if_neg (by simp), pick_rev]
  first
    | exact wpAny_bind (m := Builtin.Tuple.tupleExact _) (wpAny_newObj_type (wpAny_pure ⟨_, rfl, wpAny_pure h⟩) hz)
    | exact wpAny_bind (m := Builtin.Tuple.tupleExact _) (wpAny_newObj_type (wpAny_bind (wpAny_pure (wpAny_pure ⟨_, rfl, wpAny_pure h⟩))) hz)
    | exact wpAny_bind (wpAny_bind (m := Builtin.Tuple.tupleExact _) (wpAny_newObj_type (wpAny_pure (wpAny_pure ⟨_, rfl, wpAny_pure h⟩)) hz))
    | exact wpAny_bind (wpAny_bind (m := Builtin.Tuple.tupleExact _) (wpAny_newObj_type (wpAny_pure ⟨_, rfl, wpAny_pure h⟩) hz))
end
end HT
namespace L2
open PySem PySem.Spec PyProof.Rows
/-- t[::-1] -/
def tRev (te : TE) : TE := fun σ H Q => te σ H fun x H1 => ∃ (a : Addr) (xs : List V), x = .ref a ∧ H1 a = some (.tup xs) ∧ ∀ q, H1 q = none → Q (.ref q) (upd H1 q (.tup xs.reverse))
theorem pe_rev {X : Cx} {e : Expr} {te : TE} {p1 p2 pos : Pos} {k : Expr} (he : PE X e te) (hk : PO X (some k) (tPart (tC (.int (-1))))) : PE X (.Subscript e (.Slice none none (some k) p2) pos) (tRev te) := by
  intro pins s σ H Q I h
  refine Subscript_ (thn (he pins s σ H _ I h) fun v s1 ⟨x, H1, I1, r1, a, xs, ex, ha, q1⟩ => ?_)
  refine wpAny_Slice ?_
  rw [evalPart_none]
  refine wpAny_pure (wpAny_pure ?_)
  refine thn (hk pins s1 σ H1 (fun o H' => o = some (-1) ∧ H' = H1) I1 ⟨_, rfl, rfl, rfl⟩) fun vk s2 ⟨o, H2, I2, pk, eo, eH⟩ => ?_
  subst ex eo eH
  obtain rfl : v = Value.ref a := r1
  obtain ⟨tk, rfl⟩ : ∃ tk, vk = .int (-1) tk := by
    cases pk
    exact ⟨_, rfl⟩
  have I3 : Inv X pins σ H2 { s2 with heap := s2.heap.push { cls := .type "slice", data := .fields #[.none, .none, .int (-1) tk] } } := I2.kept (t' := s2.toks) fun b ob q => Heap.get?_push_of_some _ q
  obtain ⟨its, r, ht, hz⟩ := I3.tuple (SqT.of ha)
  have hsz : its.toArray.size ≤ sizeLine := by rw [List.size_toArray, ← r.length]; exact hz
  show wpAny (model X.prog X.w) X.A (subscriptTail e (.Slice none none (some k) p2) (.ref a) (.ref s2.heap.objs.size)) (EP X pins σ Q) X.xe { s2 with heap := s2.heap.push { cls := .type "slice", data := .fields #[.none, .none, .int (-1) tk] } }
  refine tail_any ht.typeIs PyProof.Rows.slot_tuple_getitem.lookup ?_ (by with_unfolding_all rfl)
  refine HT.getItem_tuple_rev ht (Heap.IsSliceOf.new ..) ?_ hsz
  refine ⟨.ref _, _, I3.laid (t' := s2.toks) (fun b o e => Heap.get?_push_of_some _ e) (Nat.le_refl _) (show ObjOk X.prog X.w _ _ _ (.tup xs.reverse) from ⟨by rw [List.length_reverse]; exact hz, its.reverse, r.reverse, _, Heap.get?_push_size _ rfl, rfl, 0, by simp⟩), rfl, q1 _ (I3.hok.fresh (Nat.le_refl _))⟩
end L2

set_option Elab.async false
set_option linter.all false
set_option maxRecDepth 100000
namespace L2
open PySem PySem.Spec PyProof.Rows
/-! ### things of any kind -/
inductive Th where
  | non
  | bl (b : Bool)
  | int (i : Int)
  | str (s : Str)
  | tup (ts : List Th)
  | lst
  | dct
mutual
inductive ThAt (H : Hp) : V → Th → Prop
  | non : ThAt H .non .non
  | bl (b : Bool) : ThAt H (.bl b) (.bl b)
  | int (i : Int) : ThAt H (.int i) (.int i)
  | str (s : Str) : ThAt H (.str s) (.str s)
  | tup {p : Addr} {vs : List V} {ts : List Th} : H p = some (.tup vs) → ThsAt H vs ts → ThAt H (.ref p) (.tup ts)
  | lst {p : Addr} {vs : List V} : H p = some (.lst vs) → ThAt H (.ref p) .lst
  | dct {p : Addr} {kvs : List (Key × V)} : H p = some (.dK kvs) → ThAt H (.ref p) .dct
inductive ThsAt (H : Hp) : List V → List Th → Prop
  | nil : ThsAt H [] []
  | cons {v : V} {t : Th} {vs : List V} {ts : List Th} : ThAt H v t → ThsAt H vs ts → ThsAt H (v :: vs) (t :: ts)
end
/-- the kinds stay -/
structure KS (H H' : Hp) : Prop where
  t : ∀ q xs, H q = some (.tup xs) → H' q = some (.tup xs)
  l : ∀ q xs, H q = some (.lst xs) → ∃ ys, H' q = some (.lst ys)
  d : ∀ q xs, H q = some (.dK xs) → ∃ ys, H' q = some (.dK ys)
section
variable {H H' H'' : Hp} {a : Addr}
theorem KS.refl : KS H H := ⟨fun _ _ e => e, fun _ _ e => ⟨_, e⟩, fun _ _ e => ⟨_, e⟩⟩
theorem KS.same (k : Same H H') : KS H H' := ⟨fun _ _ e => k _ _ e, fun _ _ e => ⟨_, k _ _ e⟩, fun _ _ e => ⟨_, k _ _ e⟩⟩
theorem KS.trans (x : KS H H') (y : KS H' H'') : KS H H'' := ⟨fun q xs e => y.t _ _ (x.t _ _ e), fun q xs e => let ⟨ys, e'⟩ := x.l _ _ e; y.l _ _ e', fun q xs e => let ⟨ys, e'⟩ := x.d _ _ e; y.d _ _ e'⟩
theorem KS.new {o : HO} (h : H a = none) : KS H (upd H a o) := KS.same (Same.new (Same.refl H) h)
theorem KS.lst {xs ys : List V} (h : H a = some (.lst xs)) : KS H (upd H a (.lst ys)) :=
  ⟨fun q zs e => by rw [upd_ne (ne_of e h (by intro z; cases z))]; exact e, fun q zs e => by
    by_cases hq : q = a
    · subst hq
      exact ⟨_, upd_same⟩
    · exact ⟨_, by rw [upd_ne hq]; exact e⟩, fun q zs e => ⟨_, by rw [upd_ne (ne_of e h (by intro z; cases z))]; exact e⟩⟩
mutual
theorem ThAt.ks (k : KS H H') {v : V} {t : Th} : ThAt H v t → ThAt H' v t
  | .non => .non
  | .bl b => .bl b
  | .int i => .int i
  | .str s => .str s
  | .tup h hs => .tup (k.t _ _ h) (ThsAt.ks k hs)
  | .lst h => let ⟨_, h'⟩ := k.l _ _ h; .lst h'
  | .dct h => let ⟨_, h'⟩ := k.d _ _ h; .dct h'
theorem ThsAt.ks (k : KS H H') {vs : List V} {ts : List Th} : ThsAt H vs ts → ThsAt H' vs ts
  | .nil => .nil
  | .cons h hs => .cons (ThAt.ks k h) (ThsAt.ks k hs)
end
theorem ThsAt.len : ∀ {vs : List V} {ts : List Th}, ThsAt H vs ts → vs.length = ts.length
  | [], [], _ => rfl
  | v :: vs, t :: ts, .cons _ h => by rw [List.length_cons, List.length_cons, ThsAt.len h]
theorem ThsAt.at : ∀ {vs : List V} {ts : List Th}, ThsAt H vs ts → ∀ {i : Nat} {t : Th}, ts[i]? = some t → ∃ v, vs[i]? = some v ∧ ThAt H v t
  | v :: vs, t :: ts, .cons h hs, 0, u, e => ⟨v, rfl, by
    have : t = u := by simpa using e
    exact this ▸ h⟩
  | v :: vs, t :: ts, .cons h hs, i + 1, u, e => by
    obtain ⟨w, h1, h2⟩ := ThsAt.at hs (i := i) (t := u) (by simpa using e)
    exact ⟨w, by simpa using h1, h2⟩
  | [], [], .nil, i, u, e => by simp at e
theorem ThsAt.atV : ∀ {vs : List V} {ts : List Th}, ThsAt H vs ts → ∀ {i : Nat} {v : V}, vs[i]? = some v → ∃ t, ts[i]? = some t ∧ ThAt H v t
  | v :: vs, t :: ts, .cons h hs, 0, u, e => ⟨t, rfl, by
    have : v = u := by simpa using e
    exact this ▸ h⟩
  | v :: vs, t :: ts, .cons h hs, i + 1, u, e => by
    obtain ⟨w, h1, h2⟩ := ThsAt.atV hs (i := i) (v := u) (by simpa using e)
    exact ⟨w, by simpa using h1, h2⟩
  | [], [], .nil, i, u, e => by simp at e
theorem ThsAt.app : ∀ {vs ws : List V} {ts us : List Th}, ThsAt H vs ts → ThsAt H ws us → ThsAt H (vs ++ ws) (ts ++ us)
  | [], _, [], _, .nil, h => h
  | _ :: _, _, _ :: _, _, .cons a b, h => .cons a (ThsAt.app b h)
theorem ThsAt.take : ∀ (n : Nat) {vs : List V} {ts : List Th}, ThsAt H vs ts → ThsAt H (vs.take n) (ts.take n)
  | 0, _, _, _ => by simpa using ThsAt.nil
  | n + 1, [], [], .nil => .nil
  | n + 1, _ :: _, _ :: _, .cons a b => .cons a (ThsAt.take n b)
theorem ThsAt.drop : ∀ (n : Nat) {vs : List V} {ts : List Th}, ThsAt H vs ts → ThsAt H (vs.drop n) (ts.drop n)
  | 0, _, _, h => h
  | n + 1, [], [], .nil => .nil
  | n + 1, _ :: _, _ :: _, .cons a b => ThsAt.drop n b
theorem ThsAt.rev : ∀ {vs : List V} {ts : List Th}, ThsAt H vs ts → ThsAt H vs.reverse ts.reverse
  | [], [], .nil => .nil
  | v :: vs, t :: ts, .cons a b => by
    rw [List.reverse_cons, List.reverse_cons]
    exact ThsAt.app (ThsAt.rev b) (.cons a .nil)
end
def cutT (ts : List Th) (lo hi : Option Int) : List Th := (ts.drop (HT.sIx ts.length 0 lo)).take (HT.sIx ts.length ts.length hi - HT.sIx ts.length 0 lo)
theorem ThsAt.cut {H : Hp} {vs : List V} {ts : List Th} (h : ThsAt H vs ts) (lo hi : Option Int) : ThsAt H (cutV vs lo hi) (cutT ts lo hi) := by
  unfold cutV cutT
  rw [h.len]
  exact (h.drop _).take _
/-- the kinds -/
def Th.tn : Th → String
  | .non => "NoneType"
  | .bl _ => "bool"
  | .int _ => "int"
  | .str _ => "str"
  | .tup _ => "tuple"
  | .lst => "list"
  | .dct => "dict"
theorem ThAt.ty {K : PySem.W.Frag} {H : Hp} {v : V} {t : Th} (h : ThAt H v t) : TyOf K H v (.type t.tn) := by
  cases h with
  | non => exact .non
  | bl b => exact .bl b
  | int i => exact .int i
  | str s => exact .str s
  | tup h _ => exact .tup h
  | lst h => exact .lst h
  | dct h => exact .dK h
def Th.isI : Th → Bool
  | .bl _ => true
  | .int _ => true
  | _ => false
def Th.isB : Th → Bool
  | .bl _ => true
  | _ => false
def Th.isT : Th → Bool
  | .tup _ => true
  | _ => false
def Th.isS : Th → Bool
  | .str _ => true
  | _ => false
def Th.isL : Th → Bool
  | .lst => true
  | _ => false
def rIsTh (n : String) (f : Th → Bool) : List V → Hp → VK → Prop := fun xs H Q => ∃ v t, xs = [v, .ty n] ∧ ThAt H v t ∧ Q (.bl (f t)) H
section
variable {X : Cx} {k : Nat}
theorem is_th {n : String} {f : Th → Bool} (hk : ∀ t : Th, PySem.W.kitOne X.K (.type t.tn) (.type n) = some (f t)) : CallR X (.builtin "isinstance") (rIsTh n f) := fun pins s σ H xs us Q I r h => by
  obtain ⟨v, t, e, ht, q⟩ := h
  exact call_isI pins s σ H xs us Q I r ⟨v, n, _, f t, e, ht.ty, hk t, q⟩
theorem is_int : CallR X (.builtin "isinstance") (rIsTh "int" Th.isI) := is_th fun t => by cases t <;> rfl
theorem is_bool : CallR X (.builtin "isinstance") (rIsTh "bool" Th.isB) := is_th fun t => by cases t <;> rfl
theorem is_tup : CallR X (.builtin "isinstance") (rIsTh "tuple" Th.isT) := is_th fun t => by cases t <;> rfl
/-- x not in a tuple of words -/
def Th.inW (ws : List Str) : Th → Bool
  | .str s => ws.any fun a => a == s
  | _ => false
def eqT : Th → Value → Bool
  | .str s, .str a _ => a == s
  | _, _ => false
def rNotW (K : PySem.W.Frag) (ws : List Str) : R2 := fun x y H Q => ∃ a t, y = .ref a ∧ SqT K H a (ws.map V.str) ∧ ThAt H x t ∧ Q (.bl (!t.inW ws)) H
end
/-- a tuple that a module holds -/
def GTup (K : PySem.W.Frag) (mg : Str → Option Value) (x : Str) (vs : List V) : Prop := ∃ (a : Addr) (o : Obj) (its : Array Value) (n : Nat), mg x = some (.ref a) ∧ K.lookup a = some o ∧ o.cls = .type "tuple" ∧ o.data = .seq its n ∧ its.size ≤ sizeLine ∧ Vals vs its.toList
theorem GTup.sq {K : PySem.W.Frag} {mg : Str → Option Value} {x : Str} {vs : List V} (g : GTup K mg x vs) : ∃ a, mg x = some (.ref a) ∧ ∀ H, SqT K H a vs := by
  obtain ⟨a, o, its, n, h1, h2, h3, h4, h5, h6⟩ := g
  exact ⟨a, h1, fun H => .inr ⟨o, its, n, h2, h3, h4, h5, h6⟩⟩
/-- its name, its items -/
def tGT (K : PySem.W.Frag) (vs : List V) : TE := fun _ H Q => ∀ a, SqT K H a vs → Q (.ref a) H
end L2

set_option Elab.async false
set_option linter.all false
set_option maxRecDepth 100000
namespace K27
open PySem L2 G2
local macro_rules | `(tactic| walk_at "v") => `(tactic| repeat (with_reducible first
  | refine w_seq ?_ | refine w_asg ?_ | refine w_gname ?_ | refine w_op ?_ | refine w_var rfl ?_ | refine w_c ?_ | refine w_rI0 ?_ | refine w_ifs ?_ | refine w_ife ?_ | refine w_test ?_ | refine w_tb ?_ | refine w_bl ?_ | refine w_not ?_ | refine w_ret ?_ | refine w_retN ?_
  | refine w_nil ?_ | refine w_cons ?_ | refine w_lst ?_ | refine w_tup ?_ | refine w_cb ?_ | refine w_call ?_ | refine w_gsub ?_ | refine w_and ?_ | refine w_or ?_ | refine w_next ?_ | refine w_all ?_ | refine w_vals ?_ | refine w_compR ?_ | refine w_compT ?_ | refine w_forR ?_ | refine w_forT ?_ | refine w_forL ?_ | refine w_drop ?_ | refine w_bm ?_ | refine w_compZ ?_ | refine w_compL ?_ | refine w_chain ?_ | refine w_sl ?_ | refine w_nopart ?_ | refine w_part ?_ | refine w_unI ?_ | refine iteT ?_ | refine iteF ?_))
def top (i : Nat) : Stmt := PySem.Challenge.pw_dropsums_k27_what_shuts.main.body.getD i (.Pass ⟨0, 0, 0, 0⟩)
abbrev sWh : Stmt := top 1
abbrev sAdded : Stmt := top 6
abbrev sOften : Stmt := top 7
abbrev sWeighed : Stmt := top 12
abbrev sTape : Stmt := top 15
abbrev sDraw : Stmt := top 16
def Kn (mg : Str → Option Value) (x : Str) (i : Int) : Prop := ∃ t, mg x = some (Value.int i t)
theorem pe_k {X : Cx} {x : Str} {i : Int} {pos : Pos} (h : Kn X.mg x i) (hg : Gl X x := by rfl) (hd : (x == ("__debug__" : Str)) = false := by decide) : PE X (.Name x pos) (tC (.int i)) := by
  obtain ⟨t, e⟩ := h
  exact pe_glob hg e ⟨t, rfl⟩ hd
structure Blt (mg : Str → Option Value) : Prop where
  len : mg "len" = none
  range : mg "range" = none
  tuple : mg "tuple" = none
  int : mg "int" = none
  bool : mg "bool" = none
  list : mg "list" = none
  str : mg "str" = none
  all : mg "all" = none
  any : mg "any" = none
  sum : mg "sum" = none
  zip : mg "zip" = none
  repr : mg "repr" = none
  isi : mg "isinstance" = none
  biK : Kn mg "BY_INPUTS" 0
  bsK : Kn mg "BY_SORTS" 1
  plK : Kn mg "PLUS" 2
/-- the comprehension that a call that is returned is handed -/
def retCallComp (s : Stmt) : Scope := match s with
  | .Return (some (.Call _ [.ListComp _ _ sc _] _ _)) _ => sc
  | _ => { kind := .function, names := [], isGenerator := false, isCoroutine := false }
/-- the comprehension of the i-th item of a returned tuple -/
def tupComp (s : Stmt) (i : Nat) : Scope := match s with
  | .Return (some (.Tuple es _ _)) _ => match es.getD i (.Name "" ⟨0, 0, 0, 0⟩) with
    | .Call _ [.ListComp _ _ sc _] _ _ => sc
    | _ => { kind := .function, names := [], isGenerator := false, isCoroutine := false }
  | _ => { kind := .function, names := [], isGenerator := false, isCoroutine := false }
section
variable {P : Program} {w : World} {K : PySem.W.Frag} {mg : Str → Option Value} {base : Heap}
/-! ### the tape -/
theorem nmTape : Nm ["_law_script"] (defScope sTape) := ⟨by decide +kernel, by decide +kernel⟩
theorem scTape : FnScope ["_law_script"] ["_law_script"] (defScope sTape) := ⟨rfl, rfl, rfl, by decide +kernel, rfl, by decide +kernel, by decide +kernel⟩
def spTape (K : PySem.W.Frag) : Sp := fun vs H Q _ => ∃ (a : Addr) (ns : List Int), vs = [.ref a] ∧ SqL K H a (ns.map V.int) ∧ ∀ p l (ms : List Int) H', ms.length ≤ 63 → Tp H' p l ms → Same H H' → Q (.ref p) H'
theorem cut63 (ns : List Int) : cutV (ns.map V.int) none (some 63) = (ns.take 63).map V.int := by
  unfold cutV HT.sIx
  dsimp only
  rw [if_neg (by decide : ¬ (63 : Int) < 0), List.drop_zero, Nat.sub_zero, List.map_take, List.length_map]
  show List.take (min 63 ns.length) _ = _
  by_cases h : ns.length ≤ 63
  · rw [Nat.min_eq_right h, List.take_of_length_le (by rw [List.length_map]; omega), List.take_of_length_le (by rw [List.length_map]; omega)]
  · rw [Nat.min_eq_left (by omega)]
theorem ok_tape {f : Addr} {fd : FuncData} (F : Fun K "_law_tape" "_law_tape" sTape f fd) : FnOk P w K mg base CX0 1 f fd ["_law_script"] (spTape K) := by
  refine F.ok scTape (fun vs H Q E h => ?_) (fun cdv A outer s H vs Q E hr h => ?_)
  · obtain ⟨a, ns, rfl, _⟩ := h
    rfl
  · obtain ⟨a, ns, rfl, hS, k⟩ := h
    refine' ⟨_, ?hb, ?rd⟩
    case hb =>
      refine' pss_one ?s1
      case' s1 => refine' ps_ret ?p1
      case' p1 => refine' pe_lst ?q1
      case' q1 => refine' pa_c ?u1 ?u2
      case u2 => exact pa_2 pe_int pe_int
      case u1 => exact pe_slice sl_list (pvd nmTape 0) po_none (po_some pe_int)
    case rd =>
      walk_at "v"
      refine ⟨_, rfl, ?_⟩
      refine ⟨a, _, rfl, hS, fun l hl => ?_⟩
      rw [cut63]
      walk_at "v"
      refine ⟨by show 3 ≤ sizeLine; decide, fun p hp => ?_⟩
      have nlp : l ≠ p := by
        intro z
        rw [← z, upd_same] at hp
        cases hp
      refine k p l (ns.take 63) _ (by rw [List.length_take]; omega) ⟨⟨_, _, upd_same⟩, by rw [upd_ne nlp, upd_same], Ne.symm nlp⟩ ((Same.new (Same.refl H) hl).new hp)
abbrev nDraw : List Str := ["_law_tape_here", "_law_many", "_law_cell", "_law_mixed", "_law_found"]
theorem nmDraw : Nm nDraw (defScope sDraw) := ⟨by decide +kernel, by decide +kernel⟩
theorem scDraw : FnScope nDraw ["_law_tape_here", "_law_many"] (defScope sDraw) := ⟨rfl, rfl, rfl, by decide +kernel, rfl, by decide +kernel, by decide +kernel⟩
def spDraw : Sp := fun vs H Q _ => ∃ (p l : Addr) (ns : List Int) (m : Int), vs = [.ref p, .int m] ∧ Tp H p l ns ∧ 0 < m ∧ m < 1000000 ∧ ∀ (r c e : Int), 0 ≤ r → r < m → Q (.int r) (upd H p (.lst [.ref l, .int c, .int e]))
set_option maxHeartbeats 2000000 in
theorem ok_draw {f : Addr} {fd : FuncData} (B : Blt mg) (F : Fun K "_law_draw" "_law_draw" sDraw f fd) : FnOk P w K mg base CX0 1 f fd ["_law_tape_here", "_law_many"] spDraw := by
  refine F.ok scDraw (fun vs H Q E h => ?_) (fun cdv A outer s H vs Q E hr h => ?_)
  · obtain ⟨p, l, ns, m, rfl, _⟩ := h
    rfl
  · obtain ⟨p, l, ns, m, rfl, ⟨⟨c, e, hp⟩, hl, hne⟩, hm, hm2, k⟩ := h
    refine' ⟨_, ?hb, ?rd⟩
    case hb =>
      refine' pss_cons ?s1 ?r1
      case' r1 => refine' pss_cons ?s2 ?r2
      case' r2 => refine' pss_cons ?s3 ?r3
      case' r3 => refine' pss_cons ?s4 ?r4
      case' r4 => refine' pss_one ?s5
      case s1 => exact ps_asg (pe_op op_add (pe_ix ix_d (pvd nmDraw 0) pe_int (fun _ _ => rfl)) pe_int) (pg_sub (pvd nmDraw 0) pe_int set_d)
      case s3 => exact ps_setD nmDraw 4 (pe_op op_mod (pe_ix ix_d (pvd nmDraw 0) pe_int (fun _ _ => rfl)) (pvd nmDraw 1))
      case s4 => exact ps_asg (pe_op op_fdiv (pe_ix ix_d (pvd nmDraw 0) pe_int (fun _ _ => rfl)) (pvd nmDraw 1)) (pg_sub (pvd nmDraw 0) pe_int set_d)
      case s5 => exact ps_ret (pvd nmDraw 4)
      case s2 =>
        refine' ps_if (pt_cmpR op_eq (pe_ix ix_d (pvd nmDraw 0) pe_int (fun _ _ => rfl)) pe_int (nomark _)) ?b2 pss_nil
        case b2 =>
          refine' pss_cons ?t1 ?u1
          case' u1 => refine' pss_cons ?t2 ?u2
          case' u2 => refine' pss_cons ?t3 ?u3
          case' u3 => refine' pss_one ?t4
          case t1 => exact ps_setD nmDraw 2 pe_int
          case t2 =>
            refine' ps_if ?c2 ?d2 pss_nil
            case c2 => exact pt_cmpR op_gt (pe_cB call_len_seq B.len PySem.boot_len (pa_1 (pe_ix ix_d (pvd nmDraw 0) pe_int (fun _ _ => rfl)))) pe_int (nomark _)
            case' d2 => refine' pss_one ?e2
            case' e2 => refine' ps_setD nmDraw 2 ?f2
            case' f2 => refine' pe_ix ix_d (pe_ix ix_d (pvd nmDraw 0) pe_int (fun _ _ => rfl)) ?g2 (fun _ _ => rfl)
            case g2 => exact pe_op op_mod (pe_ix ix_d (pvd nmDraw 0) pe_int (fun _ _ => rfl)) (pe_cB call_len_seq B.len PySem.boot_len (pa_1 (pe_ix ix_d (pvd nmDraw 0) pe_int (fun _ _ => rfl))))
          case t3 =>
            refine' ps_if (pt_cmpR op_lt (pvd nmDraw 2) (pe_op op_pow pe_int pe_int) (nomark _)) ?d3 pss_nil
            case d3 =>
              refine' pss_cons ?v1 ?w1
              case' w1 => refine' pss_cons ?v2 ?w2
              case' w2 => refine' pss_one ?v3
              case v1 => exact ps_setD nmDraw 3 (pe_op op_mod (pe_op op_add (pe_op op_add (pe_op op_mul (pe_op op_mod (pvd nmDraw 2) pe_int) pe_int) (pe_op op_mul (pe_ix ix_d (pvd nmDraw 0) pe_int (fun _ _ => rfl)) pe_int)) pe_int) pe_int)
              case v2 => exact ps_setD nmDraw 3 (pe_op op_mod (pe_op op_mul (pvd nmDraw 3) (pe_op op_add (pvd nmDraw 3) pe_int)) pe_int)
              case v3 => exact ps_ret (pe_op op_mod (pe_op op_mod (pe_op op_mul (pvd nmDraw 3) pe_int) pe_int) (pvd nmDraw 1))
          case t4 => exact ps_asg (pe_op op_sub (pvd nmDraw 2) (pe_op op_pow pe_int pe_int)) (pg_sub (pvd nmDraw 0) pe_int set_d)
    case rd =>
      have hl' : ∀ {o : HO}, upd H p o l = some (.lst (ns.map V.int)) := fun {o} => by rw [upd_ne (Ne.symm hne)]; exact hl
      walk_at "v"
      refine w_ixL hp rfl ?_
      walk_at "v"
      refine w_set hp rfl ?_
      with_reducible refine seq_post (fun σ' H' => ∃ (u2 u3 : Option V) (c' e' : Int), σ' = [some (.ref p), some (.int m), u2, u3, none] ∧ H' = upd H p (.lst [.ref l, .int c', .int e'])) ?_ fun fin => ?_
      · rintro σ' H' ⟨u2, u3, c', e', rfl, rfl⟩
        walk_at "v"
        refine w_ixL upd_same rfl ?_
        walk_at "v"
        refine w_rI hm ?_
        walk_at "v"
        refine w_ixL upd_same rfl ?_
        walk_at "v"
        refine w_rI ⟨hm, by omega⟩ ?_
        walk_at "v"
        refine w_set upd_same rfl ?_
        walk_at "v"
        rw [upd_upd]
        exact k _ _ _ (md hm).1 (md hm).2
      walk_at "v"
      refine w_ixL upd_same rfl ?_
      walk_at "v"
      refine ⟨rfl, ?_⟩
      walk_at "v"
      refine iteD (fun _ => ?_) (fun _ => ?_)
      · refine w_seq ?_
        refine w_asg ?_
        refine w_c ?_
        refine w_gname ?_
        with_reducible refine seq_post (fun σ' H' => ∃ cell : Int, σ' = [some (.ref p), some (.int m), some (.int cell), none, none] ∧ H' = upd H p (.lst [.ref l, .int (c + 1), .int e])) ?_ fun tail => ?_
        · rintro σ' H' ⟨cell, rfl, rfl⟩
          walk_at "v"
          refine w_rI ⟨by decide, by decide, by decide⟩ ?_
          walk_at "v"
          refine iteD (fun _ => ?_) (fun _ => ?_)
          · walk_at "v"
            refine w_rI (by decide) ?_
            walk_at "v"
            refine w_rI (mulR (by decide) (by decide)) ?_
            walk_at "v"
            refine w_ixL upd_same rfl ?_
            walk_at "v"
            refine w_rI (mulR (by decide) (by decide)) ?_
            walk_at "v"
            refine w_rI (by decide) ?_
            generalize hx : (cell % 2147483647 * 48271 + (c + 1) * 7919 + 12345) % 2147483629 = x
            have h1 := md (i := cell % 2147483647 * 48271 + (c + 1) * 7919 + 12345) (j := 2147483629) (by decide)
            rw [hx] at h1
            walk_at "v"
            refine w_rI (mulL (by omega) (by omega)) ?_
            walk_at "v"
            refine w_rI (by decide) ?_
            walk_at "v"
            refine w_rI (mulR (by decide) (by decide)) ?_
            walk_at "v"
            refine w_rI (by decide) ?_
            walk_at "v"
            refine w_rI hm ?_
            exact k _ _ _ (md hm).1 (md hm).2
          · walk_at "v"
            refine w_rI ⟨by decide, by decide, by decide⟩ ?_
            walk_at "v"
            refine w_set upd_same rfl ?_
            exact fin _ _ ⟨_, _, _, _, rfl, upd_upd⟩
        walk_at "v"
        refine w_ixL upd_same rfl ?_
        walk_at "v"
        refine ⟨l, _, rfl, .inl (SqL.of hl'), ?_⟩
        rw [List.length_map]
        walk_at "v"
        refine iteD (fun h0 => ?_) (fun _ => ?_)
        · have h0' : 0 < ns.length := by omega
          walk_at "v"
          refine w_ixL upd_same rfl ?_
          walk_at "v"
          refine w_ixL upd_same rfl ?_
          walk_at "v"
          refine w_ixL upd_same rfl ?_
          walk_at "v"
          refine ⟨l, _, rfl, .inl (SqL.of hl'), ?_⟩
          rw [List.length_map]
          refine w_rI h0 ?_
          obtain ⟨j, hj⟩ : ∃ j : Nat, (c + 1) % (ns.length : Int) = (j : Int) := ofI (md h0).1
          have hjl : j < ns.length := by
            have := (md (i := c + 1) h0).2
            omega
          rw [hj]
          refine w_ixL (v := .int ns[j]) hl' (atI_nat (by simp [hjl])) ?_
          exact tail _ _ ⟨_, rfl, rfl⟩
        · exact tail _ _ ⟨_, rfl, rfl⟩
      · exact fin _ _ ⟨_, _, _, _, rfl, rfl⟩
end
section
variable {P : Program} {w : World} {K : PySem.W.Frag} {mg : Str → Option Value} {base : Heap}
abbrev nAdded : List Str := ["one", "other"]
theorem nmAdded : Nm nAdded (defScope sAdded) := ⟨by decide +kernel, by decide +kernel⟩
theorem scAdded : FnScope nAdded ["one", "other"] (defScope sAdded) := ⟨rfl, rfl, rfl, by decide +kernel, rfl, by decide +kernel, by decide +kernel⟩

abbrev cAdded (i : Nat) : Scope := tupComp ((defBody sAdded).getD 0 (.Pass ⟨0, 0, 0, 0⟩)) i
theorem bsAdded0 : BScope (defScope sAdded) (cAdded 0) ["a", "b"] [] [] := { okind := by decide +kernel, kind := by decide +kernel, nocell := by decide +kernel, names := by decide +kernel, fr := by decide +kernel, ff := by decide +kernel, nd := by decide +kernel, vis := by decide +kernel, loc := by decide +kernel, gl := by decide +kernel }
theorem bsAdded1 : BScope (defScope sAdded) (cAdded 1) ["a", "b"] [] [] := { okind := by decide +kernel, kind := by decide +kernel, nocell := by decide +kernel, names := by decide +kernel, fr := by decide +kernel, ff := by decide +kernel, nd := by decide +kernel, vis := by decide +kernel, loc := by decide +kernel, gl := by decide +kernel }

def spAdded : Sp := fun vs H Q _ => ∃ (p q : Addr) (f g : Fm), vs = [.ref p, .ref q] ∧ FmAt H p f ∧ FmAt H q g ∧ f.ins.length = g.ins.length ∧ f.sts.length = g.sts.length ∧ f.ins.length ≤ 1000 ∧ f.sts.length ≤ 1000 ∧ ∀ r H', Same H H' → FmAt H' r (addF f g) → Q (.ref r) H'
set_option maxHeartbeats 4000000 in
theorem ok_Added {f : Addr} {fd : FuncData} (B : Blt mg) (F : Fun K "added" "added" sAdded f fd) : FnOk P w K mg base CX0 1 f fd ["one", "other"] spAdded := by
  refine F.ok scAdded (fun vs H Q E h => ?_) (fun cdv A outer s H vs Q E hr h => ?_)
  · obtain ⟨p, q, f, g, rfl, _⟩ := h
    rfl
  · obtain ⟨p, q, fm, gm, rfl, ⟨a, b, h1, h2, h3⟩, ⟨a', b', h1', h2', h3'⟩, hl1, hl2, hn1, hn2, k⟩ := h
    refine' ⟨_, ?hb, ?rd⟩
    case hb =>
      refine' pss_one ?s1
      case' s1 => refine' ps_ret ?p1
      case' p1 => refine' pe_tup ?q1
      case' q1 => refine' pa_c ?x1 ?y1
      case' y1 => refine' pa_2 ?x2 ?x3
      case x3 => exact pe_op op_add (pe_ix ix_d (pvd nmAdded 0) (pe_k B.plK) (fun _ _ => rfl)) (pe_ix ix_d (pvd nmAdded 1) (pe_k B.plK) (fun _ _ => rfl))
      case' x1 => refine' pe_cT call_tuple_of B.tuple PyProof.Rows.boot_tuple ?x1a
      case' x1a => refine' pa_1 ?x1b
      case x1b =>
        refine' pe_comp (ix := []) bsAdded0.toCScope rfl rfl ?h3 ?h4 ?h5 ?h6
        case h3 =>
          refine' pi_zp B.zip ?h3a
          case h3a => exact pa_2 (pe_ix ix_d (pvd nmAdded 0) (pe_k B.biK) (fun _ _ => rfl)) (pe_ix ix_d (pvd nmAdded 1) (pe_k B.biK) (fun _ _ => rfl))
        case h4 =>
          intro _ _ _ _ _ _
          refine' pgb_tup (n := 2) rfl ?za1
          case' za1 => refine' pgs_cons ?za2 ?za3
          case za2 => exact pgb bsAdded0 0
          case' za3 => refine' pgs_cons ?za4 pgs_nil
          case za4 => exact pgb bsAdded0 1
        case h5 => exact fun _ _ _ _ _ _ => pts_nil
        case h6 => exact fun _ _ _ _ _ _ => pe_op op_add (pvb bsAdded0 0) (pvb bsAdded0 1)
      case' x2 => refine' pe_cT call_tuple_of B.tuple PyProof.Rows.boot_tuple ?x2a
      case' x2a => refine' pa_1 ?x2b
      case x2b =>
        refine' pe_comp (ix := []) bsAdded1.toCScope rfl rfl ?i3 ?i4 ?i5 ?i6
        case i3 =>
          refine' pi_zp B.zip ?i3a
          case i3a => exact pa_2 (pe_ix ix_d (pvd nmAdded 0) (pe_k B.bsK) (fun _ _ => rfl)) (pe_ix ix_d (pvd nmAdded 1) (pe_k B.bsK) (fun _ _ => rfl))
        case i4 =>
          intro _ _ _ _ _ _
          refine' pgb_tup (n := 2) rfl ?zb1
          case' zb1 => refine' pgs_cons ?zb2 ?zb3
          case zb2 => exact pgb bsAdded1 0
          case' zb3 => refine' pgs_cons ?zb4 pgs_nil
          case zb4 => exact pgb bsAdded1 1
        case i5 => exact fun _ _ _ _ _ _ => pts_nil
        case i6 => exact fun _ _ _ _ _ _ => pe_op op_add (pvb bsAdded1 0) (pvb bsAdded1 1)
    case rd =>
      walk_at "v"
      refine w_ixT h1 rfl ?_
      walk_at "v"
      refine w_ixT h1' rfl ?_
      walk_at "v"
      refine ⟨a, a', rfl, ⟨_, SqT.of h2⟩, ⟨_, SqT.of h2'⟩, fun D hD => ?_⟩
      refine zip_map (ρ := []) (fun x y => x + y) h2 h2' hl1 hn1 (fun i x y H' _ _ _ R kR => ?_) (fun H1 K1 hD1 => ?_) hD
      · walk_at "v"
        exact kR _ (Same.refl _)
      walk_at "v"
      refine ⟨D, _, rfl, .inl ⟨SqL.of hD1, fun t1 ht1 => ?_⟩⟩
      have K2 := K1.new (o := .tup ((List.zipWith (fun x y => x + y) fm.ins gm.ins).map V.int)) ht1
      have e2 : upd H1 t1 (.tup ((List.zipWith (fun x y => x + y) fm.ins gm.ins).map V.int)) t1 = some (.tup ((List.zipWith (fun x y => x + y) fm.ins gm.ins).map V.int)) := upd_same
      generalize upd H1 t1 (.tup ((List.zipWith (fun x y => x + y) fm.ins gm.ins).map V.int)) = H2 at K2 e2 ⊢
      walk_at "v"
      refine w_ixT (K2 _ _ h1) rfl ?_
      walk_at "v"
      refine w_ixT (K2 _ _ h1') rfl ?_
      walk_at "v"
      refine ⟨b, b', rfl, ⟨_, SqT.of (K2 _ _ h3)⟩, ⟨_, SqT.of (K2 _ _ h3')⟩, fun D2 hD2 => ?_⟩
      refine zip_map (ρ := []) (fun x y => x + y) (K2 _ _ h3) (K2 _ _ h3') hl2 hn2 (fun i x y H' _ _ _ R kR => ?_) (fun H3 K3 hD3 => ?_) hD2
      · walk_at "v"
        exact kR _ (Same.refl _)
      walk_at "v"
      refine ⟨D2, _, rfl, .inl ⟨SqL.of hD3, fun t2 ht2 => ?_⟩⟩
      have K4 := K3.new (o := .tup ((List.zipWith (fun x y => x + y) fm.sts gm.sts).map V.int)) ht2
      have e4 : upd H3 t2 (.tup ((List.zipWith (fun x y => x + y) fm.sts gm.sts).map V.int)) t2 = some (.tup ((List.zipWith (fun x y => x + y) fm.sts gm.sts).map V.int)) := upd_same
      generalize upd H3 t2 (.tup ((List.zipWith (fun x y => x + y) fm.sts gm.sts).map V.int)) = H4 at K4 e4 ⊢
      have KA := K2.trans K4
      walk_at "v"
      refine w_ixT (KA _ _ h1) rfl ?_
      walk_at "v"
      refine w_ixT (KA _ _ h1') rfl ?_
      walk_at "v"
      refine ⟨by show 3 ≤ sizeLine; decide, fun r hr => ?_⟩
      refine k r _ (KA.new hr) ⟨t1, t2, upd_same, ?_, ?_⟩
      · rw [upd_ne (ne_of_none (K4 _ _ e2) hr)]
        exact K4 _ _ e2
      · rw [upd_ne (ne_of_none e4 hr)]
        exact e4
abbrev nOften : List Str := ["form", "times"]
theorem nmOften : Nm nOften (defScope sOften) := ⟨by decide +kernel, by decide +kernel⟩
theorem scOften : FnScope nOften ["form", "times"] (defScope sOften) := ⟨rfl, rfl, rfl, by decide +kernel, rfl, by decide +kernel, by decide +kernel⟩

abbrev cOften (i : Nat) : Scope := tupComp ((defBody sOften).getD 0 (.Pass ⟨0, 0, 0, 0⟩)) i
theorem bsOften0 : BScope (defScope sOften) (cOften 0) ["number"] ["times"] [] := { okind := by decide +kernel, kind := by decide +kernel, nocell := by decide +kernel, names := by decide +kernel, fr := by decide +kernel, ff := by decide +kernel, nd := by decide +kernel, vis := by decide +kernel, loc := by decide +kernel, gl := by decide +kernel }
theorem bsOften1 : BScope (defScope sOften) (cOften 1) ["number"] ["times"] [] := { okind := by decide +kernel, kind := by decide +kernel, nocell := by decide +kernel, names := by decide +kernel, fr := by decide +kernel, ff := by decide +kernel, nd := by decide +kernel, vis := by decide +kernel, loc := by decide +kernel, gl := by decide +kernel }

def spOften : Sp := fun vs H Q _ => ∃ (p : Addr) (f : Fm) (t : Int), vs = [.ref p, .int t] ∧ FmAt H p f ∧ f.ins.length ≤ 1000 ∧ f.sts.length ≤ 1000 ∧ (∀ x ∈ f.ins, IntMulOk t x) ∧ (∀ x ∈ f.sts, IntMulOk t x) ∧ IntMulOk t f.plus ∧ ∀ r H', Same H H' → FmAt H' r (oftF t f) → Q (.ref r) H'
set_option maxHeartbeats 4000000 in
theorem ok_Often {f : Addr} {fd : FuncData} (B : Blt mg) (F : Fun K "so_often" "so_often" sOften f fd) : FnOk P w K mg base CX0 1 f fd ["form", "times"] spOften := by
  refine F.ok scOften (fun vs H Q E h => ?_) (fun cdv A outer s H vs Q E hr h => ?_)
  · obtain ⟨p, f, t, rfl, _⟩ := h
    rfl
  · obtain ⟨p, fm, t, rfl, ⟨a, b, h1, h2, h3⟩, hn1, hn2, m1, m2, m3, k⟩ := h
    refine' ⟨_, ?hb, ?rd⟩
    case hb =>
      refine' pss_one ?s1
      case' s1 => refine' ps_ret ?p1
      case' p1 => refine' pe_tup ?q1
      case' q1 => refine' pa_c ?x1 ?y1
      case' y1 => refine' pa_2 ?x2 ?x3
      case x3 => exact pe_op op_mulB (pvd nmOften 1) (pe_ix ix_d (pvd nmOften 0) (pe_k B.plK) (fun _ _ => rfl))
      case' x1 => refine' pe_cT call_tuple_of B.tuple PyProof.Rows.boot_tuple ?x1a
      case' x1a => refine' pa_1 ?x1b
      case x1b =>
        refine' pe_comp (ix := [1]) bsOften0.toCScope rfl rfl ?h3 ?h4 ?h5 ?h6
        case h3 =>
          refine' pi_tup ?h3a
          case h3a => exact pe_ix ix_d (pvd nmOften 0) (pe_k B.biK) (fun _ _ => rfl)
        case h4 => exact fun _ _ _ _ _ _ => pgb bsOften0 0
        case h5 => exact fun _ _ _ _ _ _ => pts_nil
        case h6 => exact fun _ _ _ _ _ _ => pe_op op_mulB (pvb bsOften0 1) (pvb bsOften0 0)
      case' x2 => refine' pe_cT call_tuple_of B.tuple PyProof.Rows.boot_tuple ?x2a
      case' x2a => refine' pa_1 ?x2b
      case x2b =>
        refine' pe_comp (ix := [1]) bsOften1.toCScope rfl rfl ?i3 ?i4 ?i5 ?i6
        case i3 =>
          refine' pi_tup ?i3a
          case i3a => exact pe_ix ix_d (pvd nmOften 0) (pe_k B.bsK) (fun _ _ => rfl)
        case i4 => exact fun _ _ _ _ _ _ => pgb bsOften1 0
        case i5 => exact fun _ _ _ _ _ _ => pts_nil
        case i6 => exact fun _ _ _ _ _ _ => pe_op op_mulB (pvb bsOften1 1) (pvb bsOften1 0)
    case rd =>
      walk_at "v"
      refine w_ixT h1 rfl ?_
      refine ⟨a, rfl, ⟨_, SqT.of h2⟩, fun D hD => ?_⟩
      refine tup_map (ρ := [some (.int t)]) (fun x => t * x) h2 hn1 (fun i x H' hx _ R kR => ?_) (fun H1 K1 hD1 => ?_) hD
      · walk_at "v"
        refine w_rI (m1 x (List.mem_of_getElem? hx)) ?_
        exact kR _ (Same.refl _)
      walk_at "v"
      refine ⟨D, _, rfl, .inl ⟨SqL.of hD1, fun t1 ht1 => ?_⟩⟩
      have K2 := K1.new (o := .tup ((fm.ins.map fun x => t * x).map V.int)) ht1
      have e2 : upd H1 t1 (.tup ((fm.ins.map fun x => t * x).map V.int)) t1 = some (.tup ((fm.ins.map fun x => t * x).map V.int)) := upd_same
      generalize upd H1 t1 (.tup ((fm.ins.map fun x => t * x).map V.int)) = H2 at K2 e2 ⊢
      walk_at "v"
      refine w_ixT (K2 _ _ h1) rfl ?_
      refine ⟨b, rfl, ⟨_, SqT.of (K2 _ _ h3)⟩, fun D2 hD2 => ?_⟩
      refine tup_map (ρ := [some (.int t)]) (fun x => t * x) (K2 _ _ h3) hn2 (fun i x H' hx _ R kR => ?_) (fun H3 K3 hD3 => ?_) hD2
      · walk_at "v"
        refine w_rI (m2 x (List.mem_of_getElem? hx)) ?_
        exact kR _ (Same.refl _)
      walk_at "v"
      refine ⟨D2, _, rfl, .inl ⟨SqL.of hD3, fun t2 ht2 => ?_⟩⟩
      have K4 := K3.new (o := .tup ((fm.sts.map fun x => t * x).map V.int)) ht2
      have e4 : upd H3 t2 (.tup ((fm.sts.map fun x => t * x).map V.int)) t2 = some (.tup ((fm.sts.map fun x => t * x).map V.int)) := upd_same
      generalize upd H3 t2 (.tup ((fm.sts.map fun x => t * x).map V.int)) = H4 at K4 e4 ⊢
      have KA := K2.trans K4
      walk_at "v"
      refine w_ixT (KA _ _ h1) rfl ?_
      refine w_rI m3 ?_
      walk_at "v"
      refine ⟨by show 3 ≤ sizeLine; decide, fun r hr => ?_⟩
      refine k r _ (KA.new hr) ⟨t1, t2, upd_same, ?_, ?_⟩
      · rw [upd_ne (ne_of_none (K4 _ _ e2) hr)]
        exact K4 _ _ e2
      · rw [upd_ne (ne_of_none e4 hr)]
        exact e4
abbrev nWeighed : List Str := ["forms", "weights", "total", "number", "times"]
theorem nmWeighed : Nm nWeighed (defScope sWeighed) := ⟨by decide +kernel, by decide +kernel⟩
theorem scWeighed : FnScope nWeighed ["forms", "weights"] (defScope sWeighed) := ⟨rfl, rfl, rfl, by decide +kernel, rfl, by decide +kernel, by decide +kernel⟩

def FsAt (H : Hp) (fs : List Addr) (fms : List Fm) : Prop := fs.length = fms.length ∧ ∀ (i : Nat) (q : Addr) (f : Fm), fs[i]? = some q → fms[i]? = some f → FmAt H q f
theorem FsAt.same {H H' : Hp} {fs : List Addr} {fms : List Fm} (k : Same H H') (h : FsAt H fs fms) : FsAt H' fs fms := ⟨h.1, fun i q f e1 e2 => (h.2 i q f e1 e2).same k⟩
theorem FsAt.tk {H H' : Hp} {fs : List Addr} {fms : List Fm} (k : TK H H') (h : FsAt H fs fms) : FsAt H' fs fms := ⟨h.1, fun i q f e1 e2 => (h.2 i q f e1 e2).tk k⟩
def WsAt (H : Hp) (ws : List Addr) (wts : List (Nat × Int)) : Prop := ws.length = wts.length ∧ ∀ (i : Nat) (q : Addr) (n : Nat) (t : Int), ws[i]? = some q → wts[i]? = some (n, t) → H q = some (.tup [.int (n : Int), .int t])
theorem WsAt.same {H H' : Hp} {ws : List Addr} {wts : List (Nat × Int)} (k : Same H H') (h : WsAt H ws wts) : WsAt H' ws wts := ⟨h.1, fun i q n t e1 e2 => k _ _ (h.2 i q n t e1 e2)⟩
def f0 : Fm := ⟨[], [], 0⟩
def wsum (fms : List Fm) (tot : Fm) : List (Nat × Int) → Fm
  | [] => tot
  | (n, t) :: r => wsum fms (addF tot (oftF t (fms.getD n f0))) r
structure AllOk (n m : Nat) (B : Int) (fms : List Fm) (wts : List (Nat × Int)) : Prop where
  fo : ∀ f ∈ fms, FmOk n m B f
  wo : ∀ x ∈ wts, x.1 < fms.length ∧ 0 ≤ x.2 ∧ x.2 ≤ B
  n1 : n ≤ 10
  m1 : m ≤ 10
  hB : B < 10 ^ 40
  B0 : 0 ≤ B
theorem len_oft {n m : Nat} {f : Fm} {t : Int} (h1 : f.ins.length = n) (h2 : f.sts.length = m) : (oftF t f).ins.length = n ∧ (oftF t f).sts.length = m := ⟨by simp [oftF, h1], by simp [oftF, h2]⟩
theorem len_add {n m : Nat} {f g : Fm} (h1 : f.ins.length = n) (h2 : f.sts.length = m) (h3 : g.ins.length = n) (h4 : g.sts.length = m) : (addF f g).ins.length = n ∧ (addF f g).sts.length = m := ⟨by simp [addF, h1, h3], by simp [addF, h2, h4]⟩
theorem mulOkF {n m : Nat} {B t : Int} {f : Fm} (h : FmOk n m B f) (hB : B < 10 ^ 40) (ht : 0 ≤ t ∧ t ≤ B) : (∀ x ∈ f.ins, IntMulOk t x) ∧ (∀ x ∈ f.sts, IntMulOk t x) ∧ IntMulOk t f.plus :=
  ⟨fun x hx => mulB (Bg.of (by omega) ⟨by omega, ht.2⟩) (Bg.of (by omega) (h.bi x hx)), fun x hx => mulB (Bg.of (by omega) ⟨by omega, ht.2⟩) (Bg.of (by omega) (h.bs x hx)), mulB (Bg.of (by omega) ⟨by omega, ht.2⟩) (Bg.of (by omega) h.bp)⟩
def spWeighed : Sp := fun vs H Q _ => ∃ (p q : Addr) (fs ws : List Addr) (fms : List Fm) (wts : List (Nat × Int)) (n m : Nat) (B : Int), vs = [.ref p, .ref q] ∧ H p = some (.lst (fs.map V.ref)) ∧ H q = some (.tup (ws.map V.ref)) ∧ FsAt H fs fms ∧ WsAt H ws wts ∧ 0 < fms.length ∧ AllOk n m B fms wts ∧
  ∀ r H', Same H H' → FmAt H' r (wsum fms (oftF 0 (fms.getD 0 f0)) wts) → Q (.ref r) H'
set_option maxHeartbeats 4000000 in
theorem ok_Weighed {f : Addr} {fd : FuncData} (O : Has P w K mg base 1 "so_often" ["form", "times"] spOften) (D : Has P w K mg base 1 "added" ["one", "other"] spAdded) (F : Fun K "form_weighed" "form_weighed" sWeighed f fd) : FnOk P w K mg base CX0 2 f fd ["forms", "weights"] spWeighed := by
  refine F.ok scWeighed (fun vs H Q E h => ?_) (fun cdv A outer s H vs Q E hr h => ?_)
  · obtain ⟨p, q, fs, ws, fms, wts, n, m, B, rfl, _⟩ := h
    rfl
  · obtain ⟨p, q, fs, ws, fms, wts, n, m, B, rfl, hp, hq, hf, hw, h0, ao, k⟩ := h
    refine' ⟨_, ?hb, ?rd⟩
    case hb =>
      refine' pss_cons ?s1 ?r1
      case' r1 => refine' pss_cons ?s2 ?r2
      case' r2 => refine' pss_one ?s3
      case s3 => exact ps_ret (pvd nmWeighed 2)
      case s1 =>
        refine' ps_setD nmWeighed 2 ?a1
        case' a1 => refine' pe_f O hr (by decide) ?b1
        case b1 => exact pa_2 (pe_ix ix_d (pvd nmWeighed 0) pe_int (fun _ _ => rfl)) pe_int
      case s2 =>
        refine' ps_for PassesOwn.never rfl (pi_tup (pvd nmWeighed 1)) ?g2 ?b2
        case g2 => exact pg_tup rfl (pgs_cons (pgd nmWeighed 3) (pgs_cons (pgd nmWeighed 4) pgs_nil))
        case b2 =>
          refine' pss_one ?t2
          case' t2 => refine' ps_setD nmWeighed 2 ?u2
          case' u2 => refine' pe_f D hr (by decide) ?v2
          case' v2 => refine' pa_2 (pvd nmWeighed 2) ?w2
          case' w2 => refine' pe_f O hr (by decide) ?x2
          case x2 => exact pa_2 (pe_ix ix_d (pvd nmWeighed 0) (pvd nmWeighed 3) (fun _ _ => rfl)) (pvd nmWeighed 4)
    case rd =>
      have n1 := ao.n1
      have m1 := ao.m1
      have hfl := hf.1
      have hwl := hw.1
      have get : ∀ (j : Nat) (hj : j < fms.length), fms.getD j f0 = fms[j]'hj := fun j hj => by simp [List.getD_eq_getElem?_getD, hj]
      walk_at "v"
      refine w_ixL (v := .ref (fs[0]'(by omega))) hp (atI_nat (j := 0) (by simp [hfl, h0])) ?_
      walk_at "v"
      have fo0 := ao.fo _ (List.getElem_mem h0)
      have mo0 := mulOkF (t := 0) fo0 ao.hB ⟨Int.le_refl _, ao.B0⟩
      have fl0 := fo0.li
      have sl0 := fo0.ls
      refine ⟨_, fms[0], 0, rfl, hf.2 0 _ _ (by simp [hfl, h0]) (by simp [h0]), by omega, by omega, mo0.1, mo0.2.1, mo0.2.2, fun r0 H1 K1 hr0 => ?_⟩
      walk_at "v"
      refine ⟨q, rfl, ⟨_, SqT.of (K1 _ _ hq)⟩, ?_⟩
      refine for_tup (xs := ws.map V.ref) (fun i σ H' => ∃ (u3 u4 : Option V) (r : Addr) (tot : Fm), σ = [some (.ref p), some (.ref q), some (.ref r), u3, u4] ∧ Same H H' ∧ FmAt H' r tot ∧ tot.ins.length = n ∧ tot.sts.length = m ∧ wsum fms tot (wts.drop i) = wsum fms (oftF 0 (fms.getD 0 f0)) wts)
        ⟨none, none, r0, _, rfl, K1, hr0, (len_oft fl0 sl0).1, (len_oft fl0 sl0).2, by rw [get 0 h0]; rfl⟩ (fun i σ H' _ ⟨_, _, _, _, _, k', _⟩ => SqT.of (k' _ _ hq)) ?_ ?_
      · rintro i x σ H' hx ⟨u3, u4, r, tot, rfl, K', hr', tl1, tl2, hs⟩
        have hi1 : i < ws.length := by
          have := (List.getElem?_eq_some_iff.mp hx).1
          simpa using this
        have hi2 : i < wts.length := by omega
        have ex : x = .ref ws[i] := by
          rw [List.getElem?_map, List.getElem?_eq_getElem hi1] at hx
          exact (Option.some.inj hx).symm
        subst ex
        obtain ⟨wn, wt, hwt⟩ : ∃ a b, wts[i] = (a, b) := ⟨_, _, rfl⟩
        have hwi := hw.2 i ws[i] wn wt (by simp [hi1]) (by rw [List.getElem?_eq_getElem hi2, hwt])
        obtain ⟨w1, w2, w3⟩ := ao.wo (wn, wt) (by rw [← hwt]; exact List.getElem_mem hi2)
        dsimp only at w1 w2 w3
        refine w_gtup (K' _ _ hwi) rfl ?_
        refine ⟨_, _, rfl, ?_⟩
        walk_at "v"
        refine ⟨_, _, rfl, ?_⟩
        walk_at "v"
        refine ⟨rfl, ?_⟩
        walk_at "v"
        refine w_ixL (v := .ref (fs[wn]'(by omega))) (K' _ _ hp) (atI_nat (by simp [hfl, w1])) ?_
        walk_at "v"
        have fo := ao.fo _ (List.getElem_mem w1)
        have mo := mulOkF (t := wt) fo ao.hB ⟨w2, w3⟩
        have li := fo.li
        have ls := fo.ls
        refine ⟨_, fms[wn], wt, rfl, (hf.2 wn _ _ (by simp [hfl, w1]) (by simp [w1])).same K', by omega, by omega, mo.1, mo.2.1, mo.2.2, fun r2 H2 K2 hr2 => ?_⟩
        have lo := len_oft (t := wt) li ls
        walk_at "v"
        refine ⟨r, r2, tot, _, rfl, hr'.same K2, hr2, by omega, by omega, by omega, by omega, fun r3 H3 K3 hr3 => ?_⟩
        have la := len_add tl1 tl2 lo.1 lo.2
        walk_at "v"
        refine ⟨_, _, r3, _, rfl, (K'.trans K2).trans K3, hr3, la.1, la.2, ?_⟩
        rw [← hs, List.drop_eq_getElem_cons hi2, hwt]
        show _ = wsum fms (addF tot (oftF wt (fms.getD wn f0))) _
        rw [get wn w1]
      · rintro σ H' ⟨u3, u4, r, tot, rfl, K', hr', tl1, tl2, hs⟩
        rw [List.length_map, hwl, List.drop_length] at hs
        walk_at "v"
        refine k r H' K' ?_
        rw [← hs]
        exact hr'
end
abbrev nWh : List Str := ["thing"]
theorem nmWh : Nm nWh (defScope sWh) := ⟨by decide +kernel, by decide +kernel⟩
theorem scWh : FnScope nWh ["thing"] (defScope sWh) := ⟨rfl, rfl, rfl, by decide +kernel, rfl, by decide +kernel, by decide +kernel⟩
theorem w_andV {ta tb : TE} {σ : St} {H : Hp} {Q : VK} (h : ta σ H fun x H1 => ∃ c, x = .bl c ∧ if c = true then tb σ H1 Q else Q (.bl false) H1) : tAndV ta tb σ H Q := h
theorem w_notV {ta : TE} {σ : St} {H : Hp} {Q : VK} (h : ta σ H fun x H1 => ∃ c, x = .bl c ∧ Q (.bl (!c)) H1) : tNotV ta σ H Q := h
theorem iteB {b : Bool} {A B : Prop} (h1 : b = true → A) (h2 : b = false → B) : if b = true then A else B := by
  cases b with
  | true => exact iteT (h1 rfl)
  | false => exact iteF (h2 rfl)
theorem iteBn {b : Bool} {A B : Prop} (h1 : b = false → A) (h2 : b = true → B) : if (!b) = true then A else B := by
  cases b with
  | true => exact iteF (h2 rfl)
  | false => exact iteT (h1 rfl)
theorem ThAt.tup_inv {H : Hp} {v : V} {t : Th} (h : ThAt H v t) (ht : t.isT = true) : ∃ p vs ts, v = .ref p ∧ t = .tup ts ∧ H p = some (.tup vs) ∧ ThsAt H vs ts := by
  cases h with
  | tup h1 h2 => exact ⟨_, _, _, rfl, rfl, h1, h2⟩
  | _ => cases ht
def spWh : Sp := fun vs H Q _ => ∃ (v : V) (t : Th), vs = [v] ∧ ThAt H v t ∧ Q (.bl (t.isI && !t.isB)) H
theorem whole_int {t : Th} (h : (t.isI && !t.isB) = true) : ∃ i, t = .int i := by
  cases t <;> first | exact ⟨_, rfl⟩ | (cases h)
section
variable {P : Program} {w : World} {K : PySem.W.Frag} {mg : Str → Option Value} {base : Heap}
set_option maxHeartbeats 4000000 in
theorem ok_Wh {f : Addr} {fd : FuncData} (B : Blt mg) (F : Fun K "is_whole" "is_whole" sWh f fd) : FnOk P w K mg base CX0 1 f fd ["thing"] spWh := by
  refine F.ok scWh (fun vs H Q E h => ?_) (fun cdv A outer s H vs Q E hr h => ?_)
  · obtain ⟨v, t, rfl, _⟩ := h
    rfl
  · obtain ⟨v, t, rfl, ht, k⟩ := h
    refine' ⟨_, ?hb, ?rd⟩
    case hb =>
      refine' pss_one ?s1
      case' s1 => refine' ps_ret ?p1
      case' p1 => refine' pe_and ?a1 ?a2
      case a1 => exact (pe_cB is_int B.isi PyProof.Rows.boot_isinstance (pa_2 (pvd nmWh 0) (pe_bltn (v := .ty "int") rfl B.int PyProof.Rows.boot_int rfl)))
      case' a2 => refine' pe_one ?a5
      case' a5 => refine' pe_not ?a6
      case a6 => exact (pe_cB is_bool B.isi PyProof.Rows.boot_isinstance (pa_2 (pvd nmWh 0) (pe_bltn (v := .ty "bool") rfl B.bool PyProof.Rows.boot_bool rfl)))
    case rd =>
      walk_at "v"
      refine w_andV ?_
      walk_at "v"
      refine ⟨_, t, rfl, ht, ?_⟩
      walk_at "v"
      refine iteB (fun h => ?_) (fun h => ?_)
      · refine w_notV ?_
        walk_at "v"
        refine ⟨_, t, rfl, ht, ?_⟩
        walk_at "v"
        rw [h, Bool.true_and] at k
        exact k
      · rw [h, Bool.false_and] at k
        exact k
end
theorem ths2 {H : Hp} {vs : List V} {a b : Th} {r : List Th} (h : ThsAt H vs (a :: b :: r)) : ∃ va vb vr, vs = va :: vb :: vr ∧ ThAt H va a ∧ ThAt H vb b ∧ ThsAt H vr r := by
  cases h with
  | cons h1 h =>
    cases h with
    | cons h2 h => exact ⟨_, _, _, rfl, h1, h2, h⟩
end K27

set_option Elab.async false
set_option linter.all false
set_option maxRecDepth 100000
namespace K27
open PySem L2 G2
local macro_rules | `(tactic| walk_at "v") => `(tactic| repeat (with_reducible first
  | refine w_seq ?_ | refine w_asg ?_ | refine w_gname ?_ | refine w_op ?_ | refine w_var rfl ?_ | refine w_c ?_ | refine w_rI0 ?_ | refine w_ifs ?_ | refine w_ife ?_ | refine w_test ?_ | refine w_tb ?_ | refine w_bl ?_ | refine w_not ?_ | refine w_ret ?_ | refine w_retN ?_
  | refine w_nil ?_ | refine w_cons ?_ | refine w_lst ?_ | refine w_tup ?_ | refine w_cb ?_ | refine w_call ?_ | refine w_gsub ?_ | refine w_and ?_ | refine w_or ?_ | refine w_next ?_ | refine w_all ?_ | refine w_vals ?_ | refine w_compR ?_ | refine w_compT ?_ | refine w_forR ?_ | refine w_forT ?_ | refine w_forL ?_ | refine w_drop ?_ | refine w_bm ?_ | refine w_compZ ?_ | refine w_compL ?_ | refine w_chain ?_ | refine w_sl ?_ | refine w_nopart ?_ | refine w_part ?_ | refine w_unI ?_ | refine iteT ?_ | refine iteF ?_))

abbrev sOd : Stmt := top 17
abbrev sBt : Stmt := top 18
abbrev nOd : List Str := ["_law_tape_here", "_law_some"]
theorem nmOd : Nm nOd (defScope sOd) := ⟨by decide +kernel, by decide +kernel⟩
theorem scOd : FnScope nOd ["_law_tape_here"] (defScope sOd) := ⟨rfl, rfl, rfl, by decide +kernel, rfl, by decide +kernel, by decide +kernel⟩
abbrev nBt : List Str := ["_law_tape_here", "_law_thing", "_law_at", "_law_way", "_law_more"]
theorem nmBt : Nm nBt (defScope sBt) := ⟨by decide +kernel, by decide +kernel⟩
theorem scBt : FnScope nBt ["_law_tape_here", "_law_thing"] (defScope sBt) := ⟨rfl, rfl, rfl, by decide +kernel, rfl, by decide +kernel, by decide +kernel⟩

theorem pe_neg {X : Cx} {n : Int} {j : Nat} {p pos : Pos} : PE X (.UnaryOp .USub (.Constant (.int n) j p) pos) (tC (.int (-n))) := fun pins s σ H Q I h => pe_un un_neg pe_int pins s σ H Q I ⟨_, rfl, h⟩
/-- no tuple of it is long -/
inductive ThS : Th → Prop
  | non : ThS .non
  | bl (b : Bool) : ThS (.bl b)
  | int {i : Int} : -100000 ≤ i ∧ i ≤ 100000 → ThS (.int i)
  | str (s : Str) : ThS (.str s)
  | lst : ThS .lst
  | dct : ThS .dct
  | tup {ts : List Th} : ts.length ≤ 60 → (∀ t ∈ ts, ThS t) → ThS (.tup ts)
theorem ThS.len {ts : List Th} (h : ThS (.tup ts)) : ts.length ≤ 60 := by cases h; assumption
theorem ThS.all {ts : List Th} (h : ThS (.tup ts)) : ∀ t ∈ ts, ThS t := by cases h; assumption
theorem ThS.i {i : Int} (h : ThS (.int i)) : -100000 ≤ i ∧ i ≤ 100000 := by cases h; assumption
/-- all but what stands at p stays; the kinds stay -/
structure PK (p : Addr) (H H' : Hp) : Prop extends KS H H' where
  bp : ∀ q o, q ≠ p → H q = some o → H' q = some o
theorem PK.same {p : Addr} {H H' : Hp} (k : Same H H') : PK p H H' := ⟨KS.same k, fun q o _ h => k q o h⟩
theorem PK.refl {p : Addr} {H : Hp} : PK p H H := PK.same (Same.refl H)
theorem PK.trans {p : Addr} {H H' H'' : Hp} (a : PK p H H') (b : PK p H' H'') : PK p H H'' := ⟨a.toKS.trans b.toKS, fun q o hq h => b.bp q o hq (a.bp q o hq h)⟩
theorem _root_.G2.Tp.pk {H : Hp} {p l : Addr} {ns : List Int} (t : Tp H p l ns) {ys : List V} : PK p H (upd H p (.lst ys)) := let ⟨_, _, e⟩ := t.ex; ⟨KS.lst e, fun q o hq h => by rw [upd_ne hq]; exact h⟩
theorem ThAt.pk {p : Addr} {H H' : Hp} (k : PK p H H') {v : V} {t : Th} (h : ThAt H v t) : ThAt H' v t := ThAt.ks k.toKS h
theorem ThsAt.pk {p : Addr} {H H' : Hp} (k : PK p H H') {vs : List V} {ts : List Th} (h : ThsAt H vs ts) : ThsAt H' vs ts := ThsAt.ks k.toKS h
theorem cutT_len {ts : List Th} {lo hi : Option Int} : (cutT ts lo hi).length ≤ ts.length := by
  unfold cutT
  rw [List.length_take, List.length_drop]
  omega
theorem cutT_mem {ts : List Th} {lo hi : Option Int} {t : Th} (h : t ∈ cutT ts lo hi) : t ∈ ts := List.mem_of_mem_drop (List.mem_of_mem_take h)
/-- what is bent -/
def Pd : Nat → Th → Prop
  | _, .int i => -99 ≤ i ∧ i ≤ 99
  | _, .str _ => True
  | d + 1, .tup ts => ts.length ≤ 8 ∧ ∀ t ∈ ts, Pd d t
  | _, _ => False
theorem Pd.int {d : Nat} {i : Int} (h : Pd d (.int i)) : -99 ≤ i ∧ i ≤ 99 := by cases d <;> exact h
theorem Pd.ths : ∀ {d : Nat} {t : Th}, Pd d t → ThS t
  | d, .int i, h => .int (by have := h.int; omega)
  | d, .str s, _ => .str s
  | d + 1, .tup ts, h => .tup (by have := h.1; omega) fun t ht => Pd.ths (d := d) (h.2 t ht)
  | 0, .tup ts, h => by exact h.elim
  | 0, .non, h => by exact h.elim
  | 0, .bl _, h => by exact h.elim
  | 0, .lst, h => by exact h.elim
  | 0, .dct, h => by exact h.elim
  | d + 1, .non, h => by exact h.elim
  | d + 1, .bl _, h => by exact h.elim
  | d + 1, .lst, h => by exact h.elim
  | d + 1, .dct, h => by exact h.elim
theorem Pd.tup {d : Nat} {ts : List Th} (h : Pd d (.tup ts)) : ts.length ≤ 8 ∧ ∃ e, d = e + 1 ∧ ∀ t ∈ ts, Pd e t := by
  cases d with
  | zero => exact h.elim
  | succ d => exact ⟨h.1, d, rfl, h.2⟩
theorem Pd.kind {d : Nat} {t : Th} (h : Pd d t) : t.isT = true ∨ (∃ i, t = .int i) ∨ ∃ s, t = .str s := by
  cases t with
  | tup ts => exact .inl rfl
  | int i => exact .inr (.inl ⟨i, rfl⟩)
  | str s => exact .inr (.inr ⟨s, rfl⟩)
  | _ => cases d <;> exact h.elim
def spOd : Sp := fun vs H Q _ => ∃ (p l : Addr) (ns : List Int), vs = [.ref p] ∧ Tp H p l ns ∧ ∀ (v : V) (t : Th) (H' : Hp), ThAt H' v t → ThS t → Tp H' p l ns → PK p H H' → Q v H'
def spBt : Nat → Sp
  | 0 => fun _ _ _ _ => False
  | d + 1 => fun vs H Q _ => ∃ (p l : Addr) (ns : List Int) (v : V) (t : Th), vs = [.ref p, v] ∧ Tp H p l ns ∧ ThAt H v t ∧ Pd d t ∧ ∀ (v' : V) (t' : Th) (H' : Hp), ThAt H' v' t' → ThS t' → Tp H' p l ns → PK p H H' → Q v' H'
theorem w_dnewK {σ : St} {H : Hp} {Q : VK} (h : ∀ p, H p = none → Q (.ref p) (upd H p (.dK []))) : tDNewK σ H Q := h
theorem w_rev {te : TE} {σ : St} {H : Hp} {Q : VK} (h : te σ H fun x H1 => ∃ (a : Addr) (xs : List V), x = .ref a ∧ H1 a = some (.tup xs) ∧ ∀ q, H1 q = none → Q (.ref q) (upd H1 q (.tup xs.reverse))) : tRev te σ H Q := h
theorem po_neg1 {X : Cx} {j : Nat} {p pos : Pos} : PO X (some (.UnaryOp .USub (.Constant (.int 1) j p) pos)) (tPart (tC (.int (-1)))) := po_some pe_neg
theorem at_lt {vs : List V} {r : Int} (h0 : 0 ≤ r) (h1 : r < (vs.length : Int)) : ∃ v, atI vs r = some v ∧ vs[r.toNat]? = some v := by
  obtain ⟨n, rfl⟩ := ofI h0
  have hn : n < vs.length := by omega
  exact ⟨vs[n], atI_nat (by simp [hn]), by simp [hn]⟩
theorem ThS.of {ts : List Th} {n : Nat} (hn : ts.length ≤ n) (h20 : n ≤ 60) (h : ∀ t ∈ ts, ThS t) : ThS (.tup ts) := .tup (by omega) h
section
variable {P : Program} {w : World} {K : PySem.W.Frag} {mg : Str → Option Value} {base : Heap}
theorem fn_no {f : Addr} {fd : FuncData} {k : Nat} {ps : List Str} : FnOk P w K mg base CX0 k f fd ps (spBt 0) := ⟨fun _ _ _ _ h => h.elim, fun _ _ _ _ _ _ _ _ _ _ _ _ _ h => h.elim⟩
set_option maxHeartbeats 4000000 in
theorem ok_Od {f : Addr} {fd : FuncData} (B : Blt mg) (D : Has P w K mg base 1 "_law_draw" ["_law_tape_here", "_law_many"] spDraw) (F : Fun K "_law_odd" "_law_odd" sOd f fd) : FnOk P w K mg base CX0 2 f fd ["_law_tape_here"] spOd := by
  refine F.ok scOd (fun vs H Q E h => ?_) (fun cdv A outer s H vs Q E hr h => ?_)
  · obtain ⟨p, l, ns, rfl, _⟩ := h
    rfl
  · obtain ⟨p, l, ns, rfl, T0, k⟩ := h
    refine' ⟨_, ?hb, ?rd⟩
    case hb =>
      refine' pss_cons ?s1 ?r1
      case' r1 => refine' pss_one ?s2
      case s2 => exact ps_ret (pe_ix ix_d (pvd nmOd 1) (pe_f D hr (by decide) (pa_2 (pvd nmOd 0) pe_int)) (fun _ _ => rfl))
      case' s1 => refine' ps_setD nmOd 1 ?s3
      case' s3 => refine' pe_lst ?x0
      case' x0 => refine' pa_c pe_non ?x1
      case' x1 => refine' pa_c pe_bl ?x2
      case' x2 => refine' pa_c pe_bl ?x3
      case' x3 => refine' pa_c pe_int ?x4
      case' x4 => refine' pa_c pe_int ?x5
      case' x5 => refine' pa_c pe_neg ?x6
      case' x6 => refine' pa_c pe_int ?x7
      case' x7 => refine' pa_c pe_neg ?x8
      case' x8 => refine' pa_c pe_int ?x9
      case' x9 => refine' pa_c pe_str ?x10
      case' x10 => refine' pa_c pe_str ?x11
      case' x11 => refine' pa_c pe_str ?x12
      case' x12 => refine' pa_c pe_str ?x13
      case' x13 => refine' pa_c (pe_tup pa_nil) ?x14
      case' x14 => refine' pa_c (pe_lst pa_nil) ?x15
      case x15 => exact pa_1 pe_dnewK
    case rd =>
      walk_at "v"
      refine ⟨Nat.zero_le _, fun q1 h1 => ?_⟩
      have K1 : Same H (upd H q1 (.tup [])) := Same.new (Same.refl _) h1
      have e1 : upd H q1 (.tup []) q1 = some (.tup []) := upd_same
      generalize upd H q1 (.tup []) = H1 at K1 e1 ⊢
      walk_at "v"
      refine ⟨Nat.zero_le _, fun q2 h2 => ?_⟩
      have K2 : Same H1 (upd H1 q2 (.lst [])) := Same.new (Same.refl _) h2
      have e2 : upd H1 q2 (.lst []) q2 = some (.lst []) := upd_same
      generalize upd H1 q2 (.lst []) = H2 at K2 e2 ⊢
      walk_at "v"
      refine w_dnewK fun q3 h3 => ?_
      have K3 : Same H2 (upd H2 q3 (.dK [])) := Same.new (Same.refl _) h3
      have e3 : upd H2 q3 (.dK []) q3 = some (.dK []) := upd_same
      generalize upd H2 q3 (.dK []) = H3 at K3 e3 ⊢
      walk_at "v"
      refine ⟨by show 16 ≤ sizeLine; decide, fun l4 h4 => ?_⟩
      have hall : ThsAt H3 [V.non, V.bl true, V.bl false, V.int 0, V.int 1, V.int (-1), V.int 100, V.int (-100), V.int 10, V.str "", V.str "a", V.str "sum", V.str "part", V.ref q1, V.ref q2, V.ref q3] [.non, .bl true, .bl false, .int 0, .int 1, .int (-1), .int 100, .int (-100), .int 10, .str "", .str "a", .str "sum", .str "part", .tup [], .lst, .dct] := by
        repeat (first | exact .nil | refine .cons ?_ ?_ | exact .non | exact .bl _ | exact .int _ | exact .str _ | exact .tup ((K2.trans K3) _ _ e1) .nil | exact .lst (K3 _ _ e2) | exact .dct e3)
      have hsm : ∀ t ∈ ([.non, .bl true, .bl false, .int 0, .int 1, .int (-1), .int 100, .int (-100), .int 10, .str "", .str "a", .str "sum", .str "part", .tup [], .lst, .dct] : List Th), ThS t := by
        intro t ht
        simp only [List.mem_cons, List.not_mem_nil, or_false] at ht
        rcases ht with rfl | rfl | rfl | rfl | rfl | rfl | rfl | rfl | rfl | rfl | rfl | rfl | rfl | rfl | rfl | rfl <;> first | exact .non | exact .bl _ | exact .int (by decide) | exact .str _ | exact .lst | exact .dct | exact .tup (by decide) (fun t h => by cases h)
      have hlen : ([V.non, V.bl true, V.bl false, V.int 0, V.int 1, V.int (-1), V.int 100, V.int (-100), V.int 10, V.str "", V.str "a", V.str "sum", V.str "part", V.ref q1, V.ref q2, V.ref q3] : List V).length = 16 := rfl
      generalize ([V.non, V.bl true, V.bl false, V.int 0, V.int 1, V.int (-1), V.int 100, V.int (-100), V.int 10, V.str "", V.str "a", V.str "sum", V.str "part", V.ref q1, V.ref q2, V.ref q3] : List V) = vs at hall hlen ⊢
      generalize ([.non, .bl true, .bl false, .int 0, .int 1, .int (-1), .int 100, .int (-100), .int 10, .str "", .str "a", .str "sum", .str "part", .tup [], .lst, .dct] : List Th) = ts at hall hsm
      have K4 : Same H3 (upd H3 l4 (.lst vs)) := Same.new (Same.refl _) h4
      have e4 : upd H3 l4 (.lst vs) l4 = some (.lst vs) := upd_same
      generalize upd H3 l4 (.lst vs) = H4 at K4 e4 ⊢
      have K04 := ((K1.trans K2).trans K3).trans K4
      have T4 := T0.same K04
      walk_at "v"
      refine ⟨p, l, ns, 16, rfl, T4, by decide, by decide, fun r c e r0 r1 => ?_⟩
      have npl : l4 ≠ p := Ne.symm ((T0.same ((K1.trans K2).trans K3)).np h4)
      obtain ⟨v, hv1, hv2⟩ := at_lt (vs := vs) r0 (by rw [hlen]; exact r1)
      obtain ⟨t, ht1, ht2⟩ := hall.atV hv2
      refine w_ixL (by rw [upd_ne npl]; exact e4) hv1 ?_
      walk_at "v"
      exact k v t _ (ThAt.pk T4.pk (ht2.ks (KS.same K4))) (hsm t (List.mem_of_getElem? ht1)) T4.draw ((PK.same K04).trans T4.pk)
set_option maxHeartbeats 8000000 in
theorem ok_Bt {f : Addr} {fd : FuncData} {d : Nat} (B : Blt mg) (D : Has P w K mg base 1 "_law_draw" ["_law_tape_here", "_law_many"] spDraw) (fO : Has P w K mg base 2 "_law_odd" ["_law_tape_here"] spOd) (fR : Has P w K mg base (d + 2) "_law_bent" ["_law_tape_here", "_law_thing"] (spBt d)) (F : Fun K "_law_bent" "_law_bent" sBt f fd) : FnOk P w K mg base CX0 (d + 3) f fd ["_law_tape_here", "_law_thing"] (spBt (d + 1)) := by
  refine F.ok scBt (fun vs H Q E h => ?_) (fun cdv A outer s H vs Q E hr h => ?_)
  · obtain ⟨p, l, ns, v, t, rfl, _⟩ := h
    rfl
  · obtain ⟨p, l, ns, v, t, rfl, T0, ht, hd, k⟩ := h
    refine' ⟨_, ?hb, ?rd⟩
    case hb =>
      refine' pss_cons ?s1 ?r1
      case' r1 => refine' pss_cons ?s2 ?r2
      case' r2 => refine' pss_cons ?s3 ?r3
      case' r3 => refine' pss_cons ?s4 ?r4
      case' r4 => refine' pss_one ?s5
      case s1 =>
        refine' ps_if ?a1 ?a2 pss_nil
        case' a1 => refine' PW.pt ?a3
        case' a3 => refine' pw_and (pt_val (pe_cB is_tup B.isi PyProof.Rows.boot_isinstance (pa_2 (pvd nmBt 1) (pe_bltn (v := .ty "tuple") rfl B.tuple PyProof.Rows.boot_tuple rfl)))) ?a4
        case' a4 => refine' pw_and (pt_cmpR op_gt (pe_cB call_lnT B.len PySem.boot_len (pa_1 (pvd nmBt 1))) pe_int (nomark _)) ?a5
        case' a5 => refine' pw_and1 ?a6
        case a6 => exact pt_cmpR op_gt (pe_f D hr (by omega) (pa_2 (pvd nmBt 0) pe_int)) pe_int (nomark _)
        case' a2 => refine' pss_cons ?a7 ?a8
        case a7 => exact ps_setD nmBt 2 (pe_f D hr (by omega) (pa_2 (pvd nmBt 0) (pe_cB call_lnT B.len PySem.boot_len (pa_1 (pvd nmBt 1)))))
        case' a8 => refine' pss_one ?a9
        case' a9 => refine' ps_ret ?aa
        case' aa => refine' pe_op op_catG ?ab ?ac
        case' ab => refine' pe_op op_catG (pe_slice sl_tupG (pvd nmBt 1) po_none (po_some (pvd nmBt 2))) ?ad
        case ad => exact pe_tup (pa_1 (pe_f fR hr (by omega) (pa_2 (pvd nmBt 0) (pe_ix ix_d (pvd nmBt 1) (pvd nmBt 2) (fun _ _ => rfl)))))
        case ac => exact (pe_slice sl_tupG (pvd nmBt 1) (po_some (pe_op op_add (pvd nmBt 2) pe_int)) po_none)
      case s2 => exact ps_setD nmBt 3 (pe_f D hr (by omega) (pa_2 (pvd nmBt 0) pe_int))
      case s3 =>
        refine' ps_if ?b1 ?b2 pss_nil
        case' b1 => refine' PW.pt ?b3
        case' b3 => refine' pw_and (pt_val (pe_cB is_tup B.isi PyProof.Rows.boot_isinstance (pa_2 (pvd nmBt 1) (pe_bltn (v := .ty "tuple") rfl B.tuple PyProof.Rows.boot_tuple rfl)))) ?b4
        case' b4 => refine' pw_and1 ?b5
        case b5 => exact pt_cmpR op_lt (pvd nmBt 3) pe_int (nomark _)
        case' b2 => refine' pss_cons ?b6 ?b7
        case b6 => exact ps_setD nmBt 2 (pe_f D hr (by omega) (pa_2 (pvd nmBt 0) (pe_op op_add (pe_cB call_lnT B.len PySem.boot_len (pa_1 (pvd nmBt 1))) pe_int)))
        case' b7 => refine' pss_cons ?b8 ?b9
        case' b8 => refine' ps_setD nmBt 4 ?ba
        case' ba => refine' pe_op op_catG ?bb (pe_slice sl_tupG (pvd nmBt 1) (po_some (pvd nmBt 2)) po_none)
        case' bb => refine' pe_op op_catG (pe_slice sl_tupG (pvd nmBt 1) po_none (po_some (pvd nmBt 2))) ?bc
        case bc => exact pe_slice sl_tupG (pe_op op_catG (pvd nmBt 1) (pe_tup (pa_1 pe_int))) po_none (po_some pe_int)
        case' b9 => refine' pss_one ?bd
        case' bd => refine' ps_ret ?be
        case' be => refine' pe_ix ix_d ?bf (pvd nmBt 3) (fun _ _ => rfl)
        case' bf => refine' pe_lst ?bg
        case' bg => refine' pa_c (pe_cT call_list_of B.list PyProof.Rows.boot_list (pa_1 (pvd nmBt 1))) ?bh
        case' bh => refine' pa_c (pe_slice sl_tupG (pvd nmBt 1) po_none (po_some (pvd nmBt 2))) ?bi
        case' bi => refine' pa_c (pvd nmBt 4) ?bj
        case' bj => refine' pa_2 ?bk ?bl
        case bk => exact pe_rev (p1 := default) (pvd nmBt 1) po_neg1
        case bl => exact pe_op op_catG (pe_slice sl_tupG (pvd nmBt 1) po_none (po_some (pvd nmBt 2))) (pe_slice sl_tupG (pvd nmBt 1) (po_some (pe_op op_add (pvd nmBt 2) pe_int)) po_none)
      case s4 =>
        refine' ps_if ?c1 ?c2 pss_nil
        case' c1 => refine' PW.pt ?c3
        case' c3 => refine' pw_and (pt_val (pe_cB is_int B.isi PyProof.Rows.boot_isinstance (pa_2 (pvd nmBt 1) (pe_bltn (v := .ty "int") rfl B.int PyProof.Rows.boot_int rfl)))) ?c4
        case' c4 => refine' pw_and1 ?c5
        case c5 => exact pt_cmpR op_lt (pvd nmBt 3) pe_int (nomark _)
        case' c2 => refine' pss_one ?c6
        case' c6 => refine' ps_ret ?c7
        case' c7 => refine' pe_ix ix_d ?c8 (pvd nmBt 3) (fun _ _ => rfl)
        case' c8 => refine' pe_lst ?c9
        case' c9 => refine' pa_c (pe_op op_add (pvd nmBt 1) pe_int) ?ca
        case' ca => refine' pa_c (pe_op op_sub (pvd nmBt 1) pe_int) ?cb
        case' cb => refine' pa_c (pe_cmpR op_eq (pvd nmBt 1) pe_int (nomark _)) ?cc
        case' cc => refine' pa_c (pe_cT call_str_int B.str PyProof.Rows.boot_str (pa_1 (pvd nmBt 1))) ?cd
        case cd => exact pa_2 (pe_op op_sub pe_int (pvd nmBt 1)) (pe_op op_mul (pvd nmBt 1) pe_int)
      case s5 => exact ps_ret (pe_f fO hr (by omega) (pa_1 (pvd nmBt 0)))
    case rd =>
      with_reducible refine seq_post (fun σ' H' => σ' = [some (.ref p), some v, none, none, none] ∧ ThAt H' v t ∧ Tp H' p l ns ∧ PK p H H') ?_ fun rest => ?_
      · rintro σ' H1 ⟨rfl, ht1, T1, KS1⟩
        walk_at "v"
        refine ⟨p, l, ns, 8, rfl, T1, by decide, by decide, fun w c e w0 w8 => ?_⟩
        have KS2 := KS1.trans (T1.pk (ys := [.ref l, .int c, .int e]))
        have ht2 := ThAt.pk (T1.pk (ys := [.ref l, .int c, .int e])) ht1
        have T2 := T1.draw (c := c) (e := e)
        generalize upd H1 p (.lst [.ref l, .int c, .int e]) = H2 at KS2 ht2 T2 ⊢
        walk_at "v"
        refine ⟨_, t, rfl, ht2, ?_⟩
        walk_at "v"
        rcases hd.kind with hk | ⟨i, rfl⟩ | ⟨s, rfl⟩
        · obtain ⟨q, vs, ts, rfl, rfl, hq, hts⟩ := ThAt.tup_inv ht2 hk
          have h4 := hd.tup.1
          have hTS := hd.ths
          have hln := hts.len
          refine iteT ?_
          walk_at "v"
          refine iteD (fun w5 => ?_) (fun w5 => ?_)
          · walk_at "v"
            refine ⟨q, _, rfl, hq, ?_⟩
            walk_at "v"
            rw [hln]
            refine ⟨p, l, ns, _, rfl, T2, by omega, by omega, fun at' c e a0 a1 => ?_⟩
            have KS3 := KS2.trans (T2.pk (ys := [.ref l, .int c, .int e]))
            have hts3 := ThsAt.pk (T2.pk (ys := [.ref l, .int c, .int e])) hts
            have hq3 := (T2.pk (ys := [.ref l, .int c, .int e])).t _ _ hq
            have T3 := T2.draw (c := c) (e := e)
            generalize upd H2 p (.lst [.ref l, .int c, .int e]) = H3 at KS3 hts3 hq3 T3 ⊢
            have len1 : ∀ lo hi : Option Int, (cutV vs lo hi).length ≤ 8 := fun lo hi => by
              have h1 := (hts3.cut lo hi).len
              have h2 := cutT_len (ts := ts) (lo := lo) (hi := hi)
              omega
            walk_at "v"
            refine ⟨_, rfl, ?_⟩
            walk_at "v"
            refine ⟨q, _, rfl, hq3, fun qa HA KA eA => ?_⟩
            walk_at "v"
            refine ⟨by show 1 ≤ sizeLine; decide, fun z0 hz0 => ?_⟩
            have KZ : Same HA (upd HA z0 (.tup [.int 0])) := Same.new (Same.refl _) hz0
            have eZ : upd HA z0 (.tup [.int 0]) z0 = some (.tup [.int 0]) := upd_same
            generalize upd HA z0 (.tup [.int 0]) = HZ at KZ eZ ⊢
            have KAZ := KA.trans KZ
            refine ⟨q, z0, _, _, rfl, rfl, KAZ _ _ hq3, eZ, by show _ + 1 ≤ 1000; omega, fun qb HB KB eB => ?_⟩
            walk_at "v"
            refine ⟨_, rfl, ?_⟩
            refine ⟨qb, _, rfl, eB, fun qc HC KC eC => ?_⟩
            have KAC := (KAZ.trans KB).trans KC
            have hs1 : ThsAt HB (vs ++ [.int 0]) (ts ++ [.int 0]) := (hts3.ks (KS.same (KAZ.trans KB))).app (.cons (.int 0) .nil)
            have hs2 := (hs1.cut none (some 1)).ks (KS.same KC)
            have lc : (cutV (vs ++ [V.int 0]) none (some 1)).length ≤ 9 := by
              have h1 := hs2.len
              have h2 := cutT_len (ts := ts ++ [.int 0]) (lo := none) (hi := some 1)
              rw [List.length_append] at h2
              have : [Th.int 0].length = 1 := rfl
              omega
            refine ⟨qa, qc, _, _, rfl, rfl, ((KZ.trans KB).trans KC) _ _ eA, eC, by have := len1 none (some at'); omega, fun qd HD KD eD => ?_⟩
            have KAD := KAC.trans KD
            walk_at "v"
            refine ⟨_, rfl, ?_⟩
            walk_at "v"
            refine ⟨q, _, rfl, KAD _ _ hq3, fun qe HE KE eE => ?_⟩
            have KAE := KAD.trans KE
            refine ⟨qd, qe, _, _, rfl, rfl, KE _ _ eD, eE, by rw [List.length_append]; have := len1 none (some at'); have := len1 (some at') none; omega, fun qm HM KM eM => ?_⟩
            have KAM := KAE.trans KM
            walk_at "v"
            refine ⟨q, _, rfl, .inr (SqT.of (KAM _ _ hq3)), fun l1 hl1 => ?_⟩
            have KL : Same HM (upd HM l1 (.lst vs)) := Same.new (Same.refl _) hl1
            have eL : upd HM l1 (.lst vs) l1 = some (.lst vs) := upd_same
            generalize upd HM l1 (.lst vs) = HL at KL eL ⊢
            have KAL := KAM.trans KL
            walk_at "v"
            refine ⟨_, rfl, ?_⟩
            walk_at "v"
            refine ⟨q, _, rfl, KAL _ _ hq3, fun qf HF KF eF => ?_⟩
            have KAF := KAL.trans KF
            walk_at "v"
            refine w_rev ?_
            walk_at "v"
            refine ⟨q, _, rfl, KAF _ _ hq3, fun qg hqg => ?_⟩
            have KG : Same HF (upd HF qg (.tup vs.reverse)) := Same.new (Same.refl _) hqg
            have eG : upd HF qg (.tup vs.reverse) qg = some (.tup vs.reverse) := upd_same
            generalize upd HF qg (.tup vs.reverse) = HG at KG eG ⊢
            have KAG := KAF.trans KG
            walk_at "v"
            refine ⟨_, rfl, ?_⟩
            walk_at "v"
            refine ⟨q, _, rfl, KAG _ _ hq3, fun qh HH KH eH => ?_⟩
            walk_at "v"
            refine ⟨_, rfl, ?_⟩
            walk_at "v"
            refine ⟨q, _, rfl, (KAG.trans KH) _ _ hq3, fun qi HI KI eI => ?_⟩
            refine ⟨qh, qi, _, _, rfl, rfl, KI _ _ eH, eI, by have := len1 none (some at'); have := len1 (some (at' + 1)) none; omega, fun qj HJ KJ eJ => ?_⟩
            have KGJ := (KH.trans KI).trans KJ
            have KAJ := KAG.trans KGJ
            have hJ : ThsAt HJ vs ts := hts3.ks (KS.same KAJ)
            have KCJ := ((((((KD.trans KE).trans KM).trans KL).trans KF).trans KG).trans KGJ)
            have hall : ThsAt HJ [.ref l1, .ref qf, .ref qm, .ref qg, .ref qj] [.lst, .tup (cutT ts none (some at')), .tup ((cutT ts none (some at') ++ cutT (ts ++ [.int 0]) none (some 1)) ++ cutT ts (some at') none), .tup ts.reverse, .tup (cutT ts none (some at') ++ cutT ts (some (at' + 1)) none)] :=
              .cons (.lst (((KF.trans KG).trans KGJ) _ _ eL)) (.cons (.tup ((KG.trans KGJ) _ _ eF) (hJ.cut _ _)) (.cons (.tup ((((KL.trans KF).trans KG).trans KGJ) _ _ eM) (((hJ.cut _ _).app (hs2.ks (KS.same KCJ))).app (hJ.cut _ _))) (.cons (.tup (KGJ _ _ eG) hJ.rev) (.cons (.tup eJ ((hJ.cut _ _).app (hJ.cut _ _))) .nil))))
            have cl := @cutT_len ts
            have hsm : ∀ t ∈ ([.lst, .tup (cutT ts none (some at')), .tup ((cutT ts none (some at') ++ cutT (ts ++ [.int 0]) none (some 1)) ++ cutT ts (some at') none), .tup ts.reverse, .tup (cutT ts none (some at') ++ cutT ts (some (at' + 1)) none)] : List Th), ThS t := by
              have hc : ∀ lo hi t, t ∈ cutT ts lo hi → ThS t := fun lo hi t h => hTS.all t (cutT_mem h)
              have hc1 : ∀ t, t ∈ cutT (ts ++ [.int 0]) none (some 1) → ThS t := fun t h => by
                rcases List.mem_append.mp (cutT_mem h) with z | z
                · exact hTS.all t z
                · rw [List.mem_singleton.mp z]
                  exact .int (by decide)
              have l5 := cutT_len (ts := ts ++ [.int 0]) (lo := none) (hi := some 1)
              rw [List.length_append] at l5
              have l51 : [Th.int 0].length = 1 := rfl
              intro t ht
              simp only [List.mem_cons, List.not_mem_nil, or_false] at ht
              rcases ht with rfl | rfl | rfl | rfl | rfl
              · exact .lst
              · exact .tup (by have := cl (lo := none) (hi := some at'); omega) (hc _ _)
              · refine .tup (by rw [List.length_append, List.length_append]; have := cl (lo := none) (hi := some at'); have := cl (lo := some at') (hi := none); omega) fun t h => ?_
                rcases List.mem_append.mp h with z | z
                · rcases List.mem_append.mp z with z | z
                  · exact hc _ _ t z
                  · exact hc1 t z
                · exact hc _ _ t z
              · exact .tup (by rw [List.length_reverse]; omega) fun t h => hTS.all t (List.mem_reverse.mp h)
              · refine .tup (by rw [List.length_append]; have := cl (lo := none) (hi := some at'); have := cl (lo := some (at' + 1)) (hi := none); omega) fun t h => ?_
                rcases List.mem_append.mp h with z | z
                · exact hc _ _ t z
                · exact hc _ _ t z
            have hlen : ([.ref l1, .ref qf, .ref qm, .ref qg, .ref qj] : List V).length = 5 := rfl
            walk_at "v"
            refine ⟨by show 5 ≤ sizeLine; decide, fun ll hll => ?_⟩
            generalize ([.ref l1, .ref qf, .ref qm, .ref qg, .ref qj] : List V) = us at hall hlen ⊢
            obtain ⟨v', hv1, hv2⟩ := at_lt (vs := us) w0 (by rw [hlen]; exact w5)
            obtain ⟨t', ht1', ht2'⟩ := hall.atV hv2
            have KN : Same HJ (upd HJ ll (.lst us)) := Same.new (Same.refl _) hll
            walk_at "v"
            refine w_ixL upd_same hv1 ?_
            exact k v' t' _ (ht2'.ks (KS.same KN)) (hsm t' (List.mem_of_getElem? ht1')) (T3.same (KAJ.trans KN)) (KS3.trans (PK.same (KAJ.trans KN)))
          · walk_at "v"
            refine ⟨_, _, rfl, ht2, ?_⟩
            walk_at "v"
            refine iteF ?_
            walk_at "v"
            exact ⟨p, l, ns, rfl, T2, fun v' t' H' h1 h2 h3 h4 => k v' t' H' h1 h2 h3 (KS2.trans h4)⟩
        · have hi := hd.int
          cases ht2
          refine iteF ?_
          walk_at "v"
          refine ⟨_, .int i, rfl, .int i, ?_⟩
          walk_at "v"
          refine iteT ?_
          walk_at "v"
          refine iteD (fun w6 => ?_) (fun w6 => ?_)
          · walk_at "v"
            refine ⟨rfl, ?_⟩
            walk_at "v"
            refine ⟨i, rfl, Nat.lt_of_le_of_lt (Nat.log2_le_self _) (by omega), ?_⟩
            walk_at "v"
            refine w_rI (.inl ⟨by omega, by omega⟩) ?_
            walk_at "v"
            refine ⟨by show 6 ≤ sizeLine; decide, fun ll hll => ?_⟩
            have hall : ∀ H', ThsAt H' [.int (i + 1), .int (i - 1), .bl (decide (V.int i = V.int 1)), .str (toString i), .int (0 - i), .int (i * 100)] [.int (i + 1), .int (i - 1), .bl (decide (V.int i = V.int 1)), .str (toString i), .int (0 - i), .int (i * 100)] := fun H' =>
              .cons (.int _) (.cons (.int _) (.cons (.bl _) (.cons (.str _) (.cons (.int _) (.cons (.int _) .nil)))))
            have hsm : ∀ t ∈ ([.int (i + 1), .int (i - 1), .bl (decide (V.int i = V.int 1)), .str (toString i), .int (0 - i), .int (i * 100)] : List Th), ThS t := by
              intro t ht
              simp only [List.mem_cons, List.not_mem_nil, or_false] at ht
              rcases ht with rfl | rfl | rfl | rfl | rfl | rfl <;> first | exact .int (by omega) | exact .bl _ | exact .str _
            have hlen : ([.int (i + 1), .int (i - 1), .bl (decide (V.int i = V.int 1)), .str (toString i), .int (0 - i), .int (i * 100)] : List V).length = 6 := rfl
            generalize ([.int (i + 1), .int (i - 1), .bl (decide (V.int i = V.int 1)), .str (toString i), .int (0 - i), .int (i * 100)] : List V) = us at hall hlen ⊢
            obtain ⟨v', hv1, hv2⟩ := at_lt (vs := us) w0 (by rw [hlen]; exact w6)
            obtain ⟨t', ht1', ht2'⟩ := (hall (upd H2 ll (.lst us))).atV hv2
            have KN : Same H2 (upd H2 ll (.lst us)) := Same.new (Same.refl _) hll
            walk_at "v"
            refine w_ixL upd_same hv1 ?_
            exact k v' t' _ ht2' (hsm t' (List.mem_of_getElem? ht1')) (T2.same KN) (KS2.trans (PK.same KN))
          · walk_at "v"
            exact ⟨p, l, ns, rfl, T2, fun v' t' H' h1 h2 h3 h4 => k v' t' H' h1 h2 h3 (KS2.trans h4)⟩
        · cases ht2
          refine iteF ?_
          walk_at "v"
          refine ⟨_, .str s, rfl, .str s, ?_⟩
          walk_at "v"
          refine iteF ?_
          walk_at "v"
          exact ⟨p, l, ns, rfl, T2, fun v' t' H' h1 h2 h3 h4 => k v' t' H' h1 h2 h3 (KS2.trans h4)⟩
      · walk_at "v"
        refine ⟨_, t, rfl, ht, ?_⟩
        walk_at "v"
        cases hT : t.isT with
        | false =>
          refine iteF ?_
          exact rest _ _ ⟨rfl, ht, T0, PK.refl⟩
        | true =>
          obtain ⟨q, vs, ts, rfl, rfl, hq, hts⟩ := ThAt.tup_inv ht hT
          obtain ⟨h4, d', rfl, hpe⟩ := hd.tup
          have hln := hts.len
          refine iteT ?_
          walk_at "v"
          refine ⟨q, _, rfl, hq, ?_⟩
          walk_at "v"
          refine iteD (fun hpos => ?_) (fun _ => ?_)
          · walk_at "v"
            refine ⟨p, l, ns, 4, rfl, T0, by decide, by decide, fun r c e r0 r1 => ?_⟩
            have KS1 := (T0.pk (ys := [.ref l, .int c, .int e]))
            have T1 := T0.draw (c := c) (e := e)
            generalize upd H p (.lst [.ref l, .int c, .int e]) = H1 at KS1 T1 ⊢
            walk_at "v"
            refine iteD (fun _ => ?_) (fun _ => ?_)
            · walk_at "v"
              refine ⟨q, _, rfl, KS1.t _ _ hq, ?_⟩
              walk_at "v"
              refine ⟨p, l, ns, _, rfl, T1, by omega, by omega, fun at' c e a0 a1 => ?_⟩
              have KS2 := KS1.trans (T1.pk (ys := [.ref l, .int c, .int e]))
              have T2 := T1.draw (c := c) (e := e)
              generalize upd H1 p (.lst [.ref l, .int c, .int e]) = H2 at KS2 T2 ⊢
              have hts2 := ThsAt.pk KS2 hts
              have hq2 := KS2.t _ _ hq
              have len1 : ∀ lo hi : Option Int, (cutV vs lo hi).length ≤ 8 := fun lo hi => by
                have h1 := (hts2.cut lo hi).len
                have h2 := cutT_len (ts := ts) (lo := lo) (hi := hi)
                omega
              walk_at "v"
              refine ⟨_, rfl, ?_⟩
              walk_at "v"
              refine ⟨q, _, rfl, hq2, fun qa HA KA eA => ?_⟩
              walk_at "v"
              obtain ⟨v1, hv1, hv2⟩ := at_lt (vs := vs) a0 a1
              obtain ⟨t1, ht1, ht2⟩ := (hts2.ks (KS.same KA)).atV hv2
              refine w_ixT (KA _ _ hq2) hv1 ?_
              walk_at "v"
              refine ⟨p, l, ns, v1, t1, rfl, T2.same KA, ht2, hpe t1 (List.mem_of_getElem? ht1), fun v' t' HB hB sB TB KB => ?_⟩
              walk_at "v"
              refine ⟨by show 1 ≤ sizeLine; decide, fun z hz => ?_⟩
              have KZ : Same HB (upd HB z (.tup [v'])) := Same.new (Same.refl _) hz
              have eZ : upd HB z (.tup [v']) z = some (.tup [v']) := upd_same
              generalize upd HB z (.tup [v']) = HZ at KZ eZ ⊢
              refine ⟨qa, z, _, _, rfl, rfl, KZ _ _ (KB.t _ _ eA), eZ, by have := len1 none (some at'); show _ + 1 ≤ 1000; omega, fun qc HC KC eC => ?_⟩
              have KBC := KZ.trans KC
              have KSC := (KS2.trans (PK.same KA)).trans (KB.trans (PK.same KBC))
              walk_at "v"
              refine ⟨_, rfl, ?_⟩
              walk_at "v"
              refine ⟨q, _, rfl, KSC.t _ _ hq, fun qe HE KE eE => ?_⟩
              refine ⟨qc, qe, _, _, rfl, rfl, KE _ _ eC, eE, by rw [List.length_append]; have := len1 none (some at'); have := len1 (some (at' + 1)) none; show _ + 1 + _ ≤ 1000; omega, fun qf HF KF eF => ?_⟩
              have KCF := KE.trans KF
              have KSF := KSC.trans (PK.same KCF)
              have hF := ThsAt.pk KSF hts
              have cl := @cutT_len ts
              have hTS := hd.ths
              walk_at "v"
              refine k (.ref qf) (.tup ((cutT ts none (some at') ++ [t']) ++ cutT ts (some (at' + 1)) none)) HF (.tup eF (((hF.cut _ _).app (.cons (hB.ks (KS.same (KBC.trans KCF))) .nil)).app (hF.cut _ _))) ?_ (TB.same (KBC.trans KCF)) KSF
              refine .tup (by rw [List.length_append, List.length_append]; have := cl (lo := none) (hi := some at'); have := cl (lo := some (at' + 1)) (hi := none); have l1 : [t'].length = 1 := rfl; omega) fun u hu => ?_
              rcases List.mem_append.mp hu with z | z
              · rcases List.mem_append.mp z with z | z
                · exact hTS.all u (cutT_mem z)
                · rw [List.mem_singleton.mp z]
                  exact sB
              · exact hTS.all u (cutT_mem z)
            · exact rest _ _ ⟨rfl, ThAt.pk KS1 ht, T1, KS1⟩
          · exact rest _ _ ⟨rfl, ht, T0, PK.refl⟩
end
end K27

set_option Elab.async false
set_option linter.all false
set_option maxRecDepth 100000
namespace K27
open PySem L2 G2
local macro_rules | `(tactic| walk_at "v") => `(tactic| repeat (with_reducible first
  | refine w_seq ?_ | refine w_asg ?_ | refine w_gname ?_ | refine w_op ?_ | refine w_var rfl ?_ | refine w_c ?_ | refine w_rI0 ?_ | refine w_ifs ?_ | refine w_ife ?_ | refine w_test ?_ | refine w_tb ?_ | refine w_bl ?_ | refine w_not ?_ | refine w_ret ?_ | refine w_retN ?_
  | refine w_nil ?_ | refine w_cons ?_ | refine w_lst ?_ | refine w_tup ?_ | refine w_cb ?_ | refine w_call ?_ | refine w_gsub ?_ | refine w_and ?_ | refine w_or ?_ | refine w_next ?_ | refine w_all ?_ | refine w_vals ?_ | refine w_compR ?_ | refine w_compT ?_ | refine w_forR ?_ | refine w_forT ?_ | refine w_forL ?_ | refine w_drop ?_ | refine w_bm ?_ | refine w_compZ ?_ | refine w_compL ?_ | refine w_chain ?_ | refine w_sl ?_ | refine w_nopart ?_ | refine w_part ?_ | refine w_unI ?_ | refine iteT ?_ | refine iteF ?_))

abbrev sWeights : Stmt := top 9
abbrev sWeight : Stmt := top 10
abbrev nWeight : List Str := ["thing"]
theorem nmWeight : Nm nWeight (defScope sWeight) := ⟨by decide +kernel, by decide +kernel⟩
theorem scWeight : FnScope nWeight ["thing"] (defScope sWeight) := ⟨rfl, rfl, rfl, by decide +kernel, rfl, by decide +kernel, by decide +kernel⟩
abbrev nWeights : List Str := ["thing", "numbers"]
theorem nmWeights : Nm nWeights (defScope sWeights) := ⟨by decide +kernel, by decide +kernel⟩
theorem scWeights : FnScope nWeights ["thing"] (defScope sWeights) := ⟨rfl, rfl, rfl, by decide +kernel, rfl, by decide +kernel, by decide +kernel⟩
def asgComp (s : Stmt) : Scope := match s with
  | .Assign _ (.ListComp _ _ sc _) _ => sc
  | _ => { kind := .function, names := [], isGenerator := false, isCoroutine := false }
def orComp (s : Stmt) : Scope := match s with
  | .If (.BoolOp _ [_, .UnaryOp _ (.Call _ [.ListComp _ _ sc _] _ _) _] _) _ _ _ => sc
  | .If (.BoolOp _ [_, .Call _ [.ListComp _ _ sc _] _ _] _) _ _ _ => sc
  | .If (.Compare (.Call _ [.ListComp _ _ sc _] _ _) _ _ _) _ _ _ => sc
  | _ => { kind := .function, names := [], isGenerator := false, isCoroutine := false }
abbrev cWs0 : Scope := orComp ((defBody sWeights).getD 0 (.Pass ⟨0, 0, 0, 0⟩))
abbrev cWs1 : Scope := asgComp ((defBody sWeights).getD 1 (.Pass ⟨0, 0, 0, 0⟩))
abbrev cWs2 : Scope := retCallComp ((defBody sWeights).getD 2 (.Pass ⟨0, 0, 0, 0⟩))
theorem bsWs0 : BScope (defScope sWeights) cWs0 ["pair"] [] ["is_weight"] := { okind := by decide +kernel, kind := by decide +kernel, nocell := by decide +kernel, names := by decide +kernel, fr := by decide +kernel, ff := by decide +kernel, nd := by decide +kernel, vis := by decide +kernel, loc := by decide +kernel, gl := by decide +kernel }
theorem bsWs1 : BScope (defScope sWeights) cWs1 ["pair"] [] [] := { okind := by decide +kernel, kind := by decide +kernel, nocell := by decide +kernel, names := by decide +kernel, fr := by decide +kernel, ff := by decide +kernel, nd := by decide +kernel, vis := by decide +kernel, loc := by decide +kernel, gl := by decide +kernel }
theorem bsWs2 : BScope (defScope sWeights) cWs2 ["one", "other"] [] [] := { okind := by decide +kernel, kind := by decide +kernel, nocell := by decide +kernel, names := by decide +kernel, fr := by decide +kernel, ff := by decide +kernel, nd := by decide +kernel, vis := by decide +kernel, loc := by decide +kernel, gl := by decide +kernel }

theorem locWs : (defScope sWeights).names.lookup ("numbers" : Str) = some .local := by decide +kernel

def isW : Th → Bool
  | .tup [.int a, .int b] => decide (0 ≤ a) && decide (1 ≤ b)
  | _ => false
def fstT : Th → Int
  | .tup (.int a :: _) => a
  | _ => 0
theorem isW_not {t : Th} (h : t.isT = false) : isW t = false := by
  cases t <;> first | rfl | (cases h)
theorem isW_len {ts : List Th} (h : ts.length ≠ 2) : isW (.tup ts) = false := by
  match ts with
  | [] => rfl
  | [a] => cases a <;> rfl
  | [a, b] => exact absurd rfl h
  | a :: b :: c :: r => cases a <;> (cases b <;> rfl)
theorem isW_1 {a b : Th} (h : (a.isI && !a.isB) = false) : isW (.tup [a, b]) = false := by
  cases a <;> first | rfl | (cases h)
theorem isW_2 {a b : Th} (h : (b.isI && !b.isB) = false) : isW (.tup [a, b]) = false := by
  cases a <;> (cases b <;> first | rfl | (cases h))
theorem isW_ii {a b : Int} : isW (.tup [.int a, .int b]) = (decide (0 ≤ a) && decide (1 ≤ b)) := rfl
theorem isW_of {t : Th} (h : isW t = true) : ∃ a b : Int, t = .tup [.int a, .int b] ∧ 0 ≤ a ∧ 1 ≤ b := by
  unfold isW at h
  split at h
  · rw [Bool.and_eq_true, decide_eq_true_eq, decide_eq_true_eq] at h
    exact ⟨_, _, rfl, h.1, h.2⟩
  · cases h
theorem isW_inv {H : Hp} {v : V} {t : Th} (ht : ThAt H v t) (h : isW t = true) : ∃ (r : Addr) (a b : Int), v = .ref r ∧ t = .tup [.int a, .int b] ∧ H r = some (.tup [.int a, .int b]) ∧ 0 ≤ a ∧ 1 ≤ b := by
  obtain ⟨a, b, rfl, h1, h2⟩ := isW_of h
  cases ht with
  | tup e hs =>
    obtain ⟨va, vb, vr, rfl, ha, hb, hc⟩ := ths2 hs
    cases ha
    cases hb
    cases hc
    exact ⟨_, a, b, rfl, rfl, e, h1, h2⟩
def incr (ns : List Int) : Bool := (List.range (ns.length - 1)).all fun j => decide (ns.getD j 0 < ns.getD (j + 1) 0)
def isWs : Th → Bool
  | .tup ts => ts.all isW && incr (ts.map fstT)
  | _ => false
theorem isWs_not {t : Th} (h : t.isT = false) : isWs t = false := by
  cases t <;> first | rfl | (cases h)
theorem all_map {α : Type} (xs : List α) (f : α → Bool) : (xs.map f).all id = xs.all f := by rw [List.all_map]; rfl
def spIw : Sp := fun vs H Q _ => ∃ (v : V) (t : Th), vs = [v] ∧ ThAt H v t ∧ Q (.bl (isW t)) H
def spIws : Sp := fun vs H Q _ => ∃ (v : V) (t : Th), vs = [v] ∧ ThAt H v t ∧ ThS t ∧ ∀ H', Same H H' → Q (.bl (isWs t)) H'
theorem cut1 (ns : List Int) : cutV (ns.map V.int) (some 1) none = (ns.drop 1).map V.int := by
  unfold cutV HT.sIx
  dsimp only
  rw [if_neg (by decide : ¬ (1 : Int) < 0), List.map_drop, List.length_map]
  show List.take (ns.length - min 1 ns.length) (List.drop (min 1 ns.length) _) = _
  cases ns with
  | nil => rfl
  | cons n ns =>
    have e : min 1 (n :: ns).length = 1 := by rw [List.length_cons]; omega
    rw [e, List.take_of_length_le (by rw [List.length_drop, List.length_map]; exact Nat.le_refl _)]
section
variable {P : Program} {w : World} {K : PySem.W.Frag} {mg : Str → Option Value} {base : Heap}
set_option maxHeartbeats 4000000 in
theorem ok_Weight {f : Addr} {fd : FuncData} (B : Blt mg) (W : Has P w K mg base 1 "is_whole" ["thing"] spWh) (F : Fun K "is_weight" "is_weight" sWeight f fd) : FnOk P w K mg base CX0 2 f fd ["thing"] spIw := by
  refine F.ok scWeight (fun vs H Q E h => ?_) (fun cdv A outer s H vs Q E hr h => ?_)
  · obtain ⟨v, t, rfl, _⟩ := h
    rfl
  · obtain ⟨v, t, rfl, ht, k⟩ := h
    refine' ⟨_, ?hb, ?rd⟩
    case hb =>
      refine' pss_cons ?s1 ?r1
      case' r1 => refine' pss_one ?s2
      case s1 =>
        refine' ps_if ?o1 (pss_one (ps_ret pe_bl)) pss_nil
        case' o1 => refine' PW.pt ?o2
        case' o2 => refine' pw_or ?o3 ?o4
        case' o3 => refine' pt_not ?o5
        case' o5 => refine' pt_val ?o6
        case' o6 => refine' pe_cB is_tup B.isi PyProof.Rows.boot_isinstance ?o7
        case' o7 => refine' pa_2 (pvd nmWeight 0) ?o8
        case o8 => exact pe_bltn (v := .ty "tuple") rfl B.tuple PyProof.Rows.boot_tuple rfl
        case' o4 => refine' pw_or1 ?o9
        case o9 => exact pt_cmpR op_ne (pe_cB call_lnT B.len PySem.boot_len (pa_1 (pvd nmWeight 0))) pe_int (nomark _)
      case s2 =>
        refine' ps_ret ?p1
        case' p1 => refine' pe_and ?a1 ?a2
        case a1 => exact pe_f W hr (by decide) (pa_1 (pe_ix ix_d (pvd nmWeight 0) pe_int (fun _ _ => rfl)))
        case' a2 => refine' pe_and ?a3 ?a4
        case a3 => exact pe_cmpR op_ge (pe_ix ix_d (pvd nmWeight 0) pe_int (fun _ _ => rfl)) pe_int (nomark _)
        case' a4 => refine' pe_and ?a5 ?a6
        case a5 => exact pe_f W hr (by decide) (pa_1 (pe_ix ix_d (pvd nmWeight 0) pe_int (fun _ _ => rfl)))
        case' a6 => refine' pe_one ?a7
        case a7 => exact pe_cmpR op_ge (pe_ix ix_d (pvd nmWeight 0) pe_int (fun _ _ => rfl)) pe_int (nomark _)
    case rd =>
      walk_at "v"
      refine ⟨_, t, rfl, ht, ?_⟩
      walk_at "v"
      refine iteBn (fun h => ?_) (fun h => ?_)
      · walk_at "v"
        rw [isW_not h] at k
        exact k
      obtain ⟨p, vs, ts, rfl, rfl, hp, hts⟩ := ThAt.tup_inv ht h
      walk_at "v"
      refine ⟨p, _, rfl, hp, ?_⟩
      rw [hts.len]
      refine ⟨rfl, ?_⟩
      walk_at "v"
      refine iteNB (fun hne => ?_) (fun he => ?_)
      · walk_at "v"
        rw [isW_len (fun z => hne (by rw [z]; rfl))] at k
        exact k
      have h2 : ts.length = 2 := by
        have : (ts.length : Int) = 2 := V.int.inj he
        omega
      obtain ⟨ta, tb, rfl⟩ : ∃ a b, ts = [a, b] := by
        match ts, h2 with
        | [a, b], _ => exact ⟨a, b, rfl⟩
      obtain ⟨va, vb, vr, rfl, ha, hb, hc⟩ := ths2 hts
      cases hc
      walk_at "v"
      refine w_andV ?_
      walk_at "v"
      refine w_ixT hp rfl ?_
      walk_at "v"
      refine ⟨_, ta, rfl, ha, ?_⟩
      walk_at "v"
      refine iteB (fun h1 => ?_) (fun h1 => ?_)
      rotate_left
      · rw [isW_1 h1] at k
        exact k
      obtain ⟨a, rfl⟩ := whole_int h1
      cases ha
      refine w_andV ?_
      walk_at "v"
      refine w_ixT hp rfl ?_
      walk_at "v"
      refine iteD (fun h2 => ?_) (fun h2 => ?_)
      rotate_left
      · rw [show isW (.tup [.int a, tb]) = false by cases tb <;> first | rfl | (rw [isW_ii, decide_eq_false (by omega), Bool.false_and])] at k
        exact k
      refine w_andV ?_
      walk_at "v"
      refine w_ixT hp rfl ?_
      walk_at "v"
      refine ⟨_, tb, rfl, hb, ?_⟩
      walk_at "v"
      refine iteB (fun h3 => ?_) (fun h3 => ?_)
      rotate_left
      · rw [isW_2 h3] at k
        exact k
      obtain ⟨b, rfl⟩ := whole_int h3
      cases hb
      walk_at "v"
      refine w_ixT hp rfl ?_
      walk_at "v"
      rw [isW_ii, decide_eq_true (by omega : 0 ≤ a), Bool.true_and] at k
      exact k
set_option maxHeartbeats 4000000 in
theorem ok_Weights {f : Addr} {fd : FuncData} (B : Blt mg) (W : Has P w K mg base 2 "is_weight" ["thing"] spIw) (F : Fun K "is_weights" "is_weights" sWeights f fd) : FnOk P w K mg base CX0 3 f fd ["thing"] spIws := by
  refine F.ok scWeights (fun vs H Q E h => ?_) (fun cdv A outer s H vs Q E hr h => ?_)
  · obtain ⟨v, t, rfl, _⟩ := h
    rfl
  · obtain ⟨v, t, rfl, ht, hS, k⟩ := h
    refine' ⟨_, ?hb, ?rd⟩
    case hb =>
      refine' pss_cons ?s1 ?r1
      case' r1 => refine' pss_cons ?s2 ?r2
      case' r2 => refine' pss_one ?s3
      case s1 =>
        refine' ps_if ?o1 (pss_one (ps_ret pe_bl)) pss_nil
        case' o1 => refine' PW.pt ?o2
        case' o2 => refine' pw_or ?o3 ?o4
        case' o3 => refine' pt_not ?o5
        case' o5 => refine' pt_val ?o6
        case' o6 => refine' pe_cB is_tup B.isi PyProof.Rows.boot_isinstance ?o7
        case' o7 => refine' pa_2 (pvd nmWeights 0) ?o8
        case o8 => exact pe_bltn (v := .ty "tuple") rfl B.tuple PyProof.Rows.boot_tuple rfl
        case' o4 => refine' pw_or1 ?o9
        case' o9 => refine' pt_not ?oa
        case' oa => refine' pt_val ?ob
        case' ob => refine' pe_cB (call_all rfl) B.all PyProof.Rows.boot_all ?oc
        case' oc => refine' pa_1 ?od
        case od =>
          refine' pe_comp (ix := []) bsWs0.toCScope rfl rfl (pi_tup (pvd nmWeights 0)) ?h4 ?h5 ?h6
          case h4 => exact fun _ _ _ _ _ _ => pgb bsWs0 0
          case h5 => exact fun _ _ _ _ _ _ => pts_nil
          case h6 => exact fun _ _ _ _ _ _ => pe_f W hr (by decide) (pa_1 (pvb bsWs0 0)) (bsWs0.g 0)
      case s2 =>
        refine' ps_setC (i := 1) (ix := []) nmWeights.nd rfl locWs bsWs1.toCScope rfl rfl (pi_tup (pvd nmWeights 0)) ?i4 ?i5 ?i6
        case i4 => exact fun _ _ _ _ _ _ => pgb bsWs1 0
        case i5 => exact fun _ _ _ _ _ _ => pts_nil
        case i6 => exact fun _ _ _ _ _ _ => pe_ix ix_d (pvb bsWs1 0) pe_int (fun _ _ => rfl)
      case s3 =>
        refine' ps_ret ?p1
        case' p1 => refine' pe_cB (call_all rfl) B.all PyProof.Rows.boot_all ?p2
        case' p2 => refine' pa_1 ?p3
        case p3 =>
          refine' pe_comp (ix := []) bsWs2.toCScope rfl rfl ?j3 ?j4 ?j5 ?j6
          case j3 =>
            refine' pi_zpl B.zip ?j3a
            case j3a => exact pa_2 (pvd nmWeights 1) (pe_slice sl_list (pvd nmWeights 1) (po_some pe_int) po_none)
          case j4 =>
            intro _ _ _ _ _ _
            refine' pgb_tup (n := 2) rfl ?z1
            case' z1 => refine' pgs_cons ?z2 ?z3
            case z2 => exact pgb bsWs2 0
            case' z3 => refine' pgs_cons ?z4 pgs_nil
            case z4 => exact pgb bsWs2 1
          case j5 => exact fun _ _ _ _ _ _ => pts_nil
          case j6 => exact fun _ _ _ _ _ _ => pe_cmpR op_lt (pvb bsWs2 0) (pvb bsWs2 1) (nomark _)
    case rd =>
      walk_at "v"
      refine ⟨_, t, rfl, ht, ?_⟩
      walk_at "v"
      refine iteBn (fun h => ?_) (fun h => ?_)
      · walk_at "v"
        rw [isWs_not h] at k
        exact k _ (Same.refl _)
      obtain ⟨p, vs, ts, rfl, rfl, hp, hts⟩ := ThAt.tup_inv ht h
      have hln := hts.len
      have h60 := hS.len
      walk_at "v"
      refine ⟨p, rfl, ⟨_, SqT.of hp⟩, fun D hD => ?_⟩
      refine cgo_tup (xs := vs) (ρ := []) (fun i ys H' => ys = ((ts.take i).map isW).map V.bl ∧ Same H H') ⟨rfl, Same.new (Same.refl H) hD⟩ (fun i ys H' _ ⟨_, k'⟩ => SqT.of (k' _ _ hp)) ?_ ?_
      · rintro i x ys H' hx ⟨rfl, K'⟩ hDy R S kR _
        obtain ⟨t', ht1, ht2⟩ := hts.atV hx
        walk_at "v"
        refine ⟨_, t', rfl, ht2.ks (KS.same K'), ?_⟩
        refine kR _ _ hDy (by rw [List.length_map, List.length_map, List.length_take]; exact small1000 (by omega)) ⟨?_, K'.put hD⟩
        rw [List.take_add_one, ht1, List.map_append, List.map_append]
        rfl
      rintro ys H1 ⟨rfl, K1⟩ e1
      rw [List.take_of_length_le (by omega)] at e1
      walk_at "v"
      refine ⟨D, _, rfl, e1, ?_⟩
      rw [all_map]
      walk_at "v"
      refine iteBn (fun h => ?_) (fun h => ?_)
      · walk_at "v"
        rw [show isWs (.tup ts) = false by show (ts.all isW && _) = false; rw [h, Bool.false_and]] at k
        exact k _ K1
      walk_at "v"
      refine ⟨p, rfl, ⟨_, SqT.of (K1 _ _ hp)⟩, fun D2 hD2 => ?_⟩
      refine cgo_tup (xs := vs) (ρ := []) (fun i ys H' => ys = ((ts.take i).map fstT).map V.int ∧ Same H1 H') ⟨rfl, Same.new (Same.refl H1) hD2⟩ (fun i ys H' _ ⟨_, k'⟩ => SqT.of (k' _ _ (K1 _ _ hp))) ?_ ?_
      · rintro i x ys H' hx ⟨rfl, K'⟩ hDy R S kR _
        obtain ⟨t', ht1, ht2⟩ := hts.atV hx
        obtain ⟨r, a, b, rfl, rfl, hr', _, _⟩ := isW_inv ht2 (List.all_eq_true.mp h t' (List.mem_of_getElem? ht1))
        walk_at "v"
        refine w_ixT (K' _ _ (K1 _ _ hr')) rfl ?_
        refine kR _ _ hDy (by rw [List.length_map, List.length_map, List.length_take]; exact small1000 (by omega)) ⟨?_, K'.put hD2⟩
        rw [List.take_add_one, ht1, List.map_append, List.map_append]
        rfl
      rintro ys H2 ⟨rfl, K2⟩ e2
      rw [List.take_of_length_le (by omega)] at e2
      rw [show isWs (.tup ts) = incr (ts.map fstT) by show (ts.all isW && _) = _; rw [h, Bool.true_and]] at k
      have hnl : (ts.map fstT).length ≤ 60 := by rw [List.length_map]; exact h60
      generalize ts.map fstT = ns at e2 k hnl
      walk_at "v"
      refine w_compZl ?_
      walk_at "v"
      refine ⟨_, rfl, ?_⟩
      walk_at "v"
      refine ⟨D2, _, rfl, SqL.of e2, fun D3 hD3 => ?_⟩
      rw [cut1]
      have K3 : Same H2 (upd H2 D3 (.lst ((ns.drop 1).map V.int))) := Same.new (Same.refl H2) hD3
      have e3 : upd H2 D3 (.lst ((ns.drop 1).map V.int)) D3 = some (.lst ((ns.drop 1).map V.int)) := upd_same
      generalize upd H2 D3 (.lst ((ns.drop 1).map V.int)) = H3 at K3 e3 ⊢
      walk_at "v"
      refine ⟨D2, D3, rfl, ⟨_, SqL.of (K3 _ _ e2)⟩, ⟨_, SqL.of e3⟩, fun D4 hD4 => ?_⟩
      refine cgo_zpl (xs := ns.map V.int) (zs := (ns.drop 1).map V.int) (ρ := []) (n := ns.length - 1) (by simp) (by simp) (by right; simp) (fun i ys H' => ys = ((List.range i).map fun j => decide (ns.getD j 0 < ns.getD (j + 1) 0)).map V.bl ∧ Same H3 H') ⟨rfl, Same.new (Same.refl H3) hD4⟩ (fun i ys H' _ ⟨_, k'⟩ => ⟨SqL.of (k' _ _ (K3 _ _ e2)), SqL.of (k' _ _ e3)⟩) ?_ ?_
      · rintro i x z ys H' q hin hx hz ⟨rfl, K'⟩ hDy hq R S kR _
        have hi1 : i < ns.length := by omega
        have hi2 : i + 1 < ns.length := by omega
        have ex : x = .int (ns.getD i 0) := by
          rw [List.getElem?_map, List.getElem?_eq_getElem hi1] at hx
          rw [List.getD_eq_getElem?_getD, List.getElem?_eq_getElem hi1]
          exact (Option.some.inj hx).symm
        have ez : z = .int (ns.getD (i + 1) 0) := by
          rw [List.getElem?_map, List.getElem?_drop, Nat.add_comm 1 i, List.getElem?_eq_getElem hi2] at hz
          rw [List.getD_eq_getElem?_getD, List.getElem?_eq_getElem hi2]
          exact (Option.some.inj hz).symm
        subst ex ez
        walk_at "v"
        have hD' : upd H' q (.tup [.int (ns.getD i 0), .int (ns.getD (i + 1) 0)]) D4 = some (.lst (((List.range i).map fun j => decide (ns.getD j 0 < ns.getD (j + 1) 0)).map V.bl)) := by rw [upd_ne (ne_of_none hDy hq)]; exact hDy
        refine kR _ _ hD' (by rw [List.length_map, List.length_map, List.length_range]; exact small1000 (by omega)) ⟨?_, (K'.new hq).put hD4⟩
        rw [List.range_succ, List.map_append, List.map_append]
        rfl
      rintro ys H4 ⟨rfl, K4⟩ e4
      walk_at "v"
      refine ⟨D4, _, rfl, e4, ?_⟩
      rw [all_map]
      exact k _ (((K1.trans K2).trans K3).trans K4)
end
end K27

set_option Elab.async false
set_option linter.all false
set_option maxRecDepth 100000
namespace K27
open PySem L2 G2
local macro_rules | `(tactic| walk_at "v") => `(tactic| repeat (with_reducible first
  | refine w_seq ?_ | refine w_asg ?_ | refine w_gname ?_ | refine w_op ?_ | refine w_var rfl ?_ | refine w_c ?_ | refine w_rI0 ?_ | refine w_ifs ?_ | refine w_ife ?_ | refine w_test ?_ | refine w_tb ?_ | refine w_bl ?_ | refine w_not ?_ | refine w_ret ?_ | refine w_retN ?_
  | refine w_nil ?_ | refine w_cons ?_ | refine w_lst ?_ | refine w_tup ?_ | refine w_cb ?_ | refine w_call ?_ | refine w_gsub ?_ | refine w_and ?_ | refine w_or ?_ | refine w_next ?_ | refine w_all ?_ | refine w_vals ?_ | refine w_compR ?_ | refine w_compT ?_ | refine w_forR ?_ | refine w_forT ?_ | refine w_forL ?_ | refine w_drop ?_ | refine w_bm ?_ | refine w_compZ ?_ | refine w_compL ?_ | refine w_chain ?_ | refine w_sl ?_ | refine w_nopart ?_ | refine w_part ?_ | refine w_unI ?_ | refine iteT ?_ | refine iteF ?_))

abbrev sSh : Stmt := top 13
abbrev nSh : List Str := ["forms", "thing", "form"]
theorem nmSh : Nm nSh (defScope sSh) := ⟨by decide +kernel, by decide +kernel⟩
theorem scSh : FnScope nSh ["forms", "thing"] (defScope sSh) := ⟨rfl, rfl, rfl, by decide +kernel, rfl, by decide +kernel, by decide +kernel⟩

def retAndC (s : Stmt) : Scope := match s with
  | .Return (some (.BoolOp _ [.Call _ [.ListComp _ _ sc _] _ _, _] _)) _ => sc
  | _ => { kind := .function, names := [], isGenerator := false, isCoroutine := false }
abbrev cShA : Scope := orComp ((defBody sSh).getD 0 (.Pass ⟨0, 0, 0, 0⟩))
abbrev cShB : Scope := retAndC ((defBody sSh).getD 3 (.Pass ⟨0, 0, 0, 0⟩))
theorem bsShA : BScope (defScope sSh) cShA ["number", "times"] ["forms"] ["len"] := { okind := by decide +kernel, kind := by decide +kernel, nocell := by decide +kernel, names := by decide +kernel, fr := by decide +kernel, ff := by decide +kernel, nd := by decide +kernel, vis := by decide +kernel, loc := by decide +kernel, gl := by decide +kernel }
theorem bsShB : BScope (defScope sSh) cShB ["number"] [] [] := { okind := by decide +kernel, kind := by decide +kernel, nocell := by decide +kernel, names := by decide +kernel, fr := by decide +kernel, ff := by decide +kernel, nd := by decide +kernel, vis := by decide +kernel, loc := by decide +kernel, gl := by decide +kernel }

def sndT : Th → Int
  | .tup [_, .int b] => b
  | _ => 0
def wtT (t : Th) : Nat × Int := ((fstT t).toNat, sndT t)
def wtsT : Th → List (Nat × Int)
  | .tup ts => ts.map wtT
  | _ => []
def okT (M : Nat) (t : Th) : Bool := isWs t && match t with
  | .tup ts => ts.all fun t => decide (fstT t < (M : Int))
  | _ => false
def wsm (g : Fm → Int) (fms : List Fm) (wts : List (Nat × Int)) : Int := (wts.map fun w => w.2 * g (fms.getD w.1 f0)).sum
def insG (j : Nat) (f : Fm) : Int := f.ins.getD j 0
def stsG (j : Nat) (f : Fm) : Int := f.sts.getD j 0
def zerT (n m : Nat) (fms : List Fm) (w : List (Nat × Int)) : Bool := (List.range n).all (fun j => decide (wsm (insG j) fms w = 0)) && (List.range m).all (fun j => decide (wsm (stsG j) fms w = 0))
def shT (n m : Nat) (fms : List Fm) (t : Th) : Bool := okT fms.length t && (zerT n m fms (wtsT t) && decide (wsm Fm.plus fms (wtsT t) < 0))
structure FsO (n m : Nat) (fms : List Fm) : Prop where
  fo : ∀ f ∈ fms, FmOk n m 100000 f
  n1 : n ≤ 10
  m1 : m ≤ 10
  l0 : 0 < fms.length
  l9 : fms.length ≤ 9
theorem ws_of {H : Hp} : ∀ {vs : List V} {ts : List Th}, ThsAt H vs ts → ts.all isW = true → ∃ ws : List Addr, vs = ws.map V.ref ∧ ws.length = ts.length ∧ ∀ (i : Nat) (q : Addr) (t : Th), ws[i]? = some q → ts[i]? = some t → H q = some (.tup [.int (fstT t), .int (sndT t)])
  | [], [], _, _ => ⟨[], rfl, rfl, fun i q t e _ => by simp at e⟩
  | v :: vs, t :: ts, h, ha => by
    rw [List.all_cons, Bool.and_eq_true] at ha
    cases h with
    | cons h1 h2 =>
      obtain ⟨r, a, b, rfl, rfl, hr, _, _⟩ := isW_inv h1 ha.1
      obtain ⟨ws, rfl, hl, hw⟩ := ws_of h2 ha.2
      refine ⟨r :: ws, rfl, by rw [List.length_cons, List.length_cons, hl], fun i q t e1 e2 => ?_⟩
      cases i with
      | zero =>
        rw [List.getElem?_cons_zero] at e1 e2
        cases e1
        cases e2
        exact hr
      | succ i =>
        rw [List.getElem?_cons_succ] at e1 e2
        exact hw i q t e1 e2
theorem add_getD {xs ys : List Int} {j : Nat} (h1 : j < xs.length) (h2 : j < ys.length) : (List.zipWith (fun x y => x + y) xs ys).getD j 0 = xs.getD j 0 + ys.getD j 0 := by
  simp [List.getD_eq_getElem?_getD, List.getElem?_zipWith, List.getElem?_eq_getElem h1, List.getElem?_eq_getElem h2]
theorem mul_getD {xs : List Int} {t : Int} {j : Nat} (h1 : j < xs.length) : (xs.map fun x => t * x).getD j 0 = t * xs.getD j 0 := by
  simp [List.getD_eq_getElem?_getD, List.getElem?_eq_getElem h1]
theorem wsum_ok {n m : Nat} {fms : List Fm} (hf : ∀ f ∈ fms, f.ins.length = n ∧ f.sts.length = m) : ∀ (wts : List (Nat × Int)) (tot : Fm), tot.ins.length = n → tot.sts.length = m → (∀ w ∈ wts, w.1 < fms.length) →
    (wsum fms tot wts).ins.length = n ∧ (wsum fms tot wts).sts.length = m ∧ (∀ j, j < n → (wsum fms tot wts).ins.getD j 0 = tot.ins.getD j 0 + wsm (insG j) fms wts) ∧ (∀ j, j < m → (wsum fms tot wts).sts.getD j 0 = tot.sts.getD j 0 + wsm (stsG j) fms wts) ∧ (wsum fms tot wts).plus = tot.plus + wsm Fm.plus fms wts
  | [], tot, h1, h2, _ => ⟨h1, h2, fun j _ => (Int.add_zero _).symm, fun j _ => (Int.add_zero _).symm, (Int.add_zero _).symm⟩
  | (k, t) :: r, tot, h1, h2, hw => by
    have hk : k < fms.length := hw (k, t) List.mem_cons_self
    have hg : fms.getD k f0 = fms[k] := by simp [List.getD_eq_getElem?_getD, hk]
    obtain ⟨l1, l2⟩ := hf fms[k] (List.getElem_mem hk)
    rw [← hg] at l1 l2
    have o := len_oft (t := t) l1 l2
    have a := len_add h1 h2 o.1 o.2
    obtain ⟨i1, i2, i3, i4, i5⟩ := wsum_ok hf r (addF tot (oftF t (fms.getD k f0))) a.1 a.2 fun w h => hw w (List.mem_cons_of_mem _ h)
    refine ⟨i1, i2, fun j hj => ?_, fun j hj => ?_, ?_⟩
    · show (wsum fms (addF tot (oftF t (fms.getD k f0))) r).ins.getD j 0 = _
      rw [i3 j hj]
      have e1 : (addF tot (oftF t (fms.getD k f0))).ins.getD j 0 = tot.ins.getD j 0 + t * (fms.getD k f0).ins.getD j 0 := by
        show (List.zipWith _ _ _).getD j 0 = _
        rw [add_getD (by omega) (by rw [o.1]; exact hj)]
        congr 1
        exact mul_getD (by omega)
      have e2 : wsm (insG j) fms ((k, t) :: r) = t * (fms.getD k f0).ins.getD j 0 + wsm (insG j) fms r := rfl
      rw [e1, e2, Int.add_assoc]
    · show (wsum fms (addF tot (oftF t (fms.getD k f0))) r).sts.getD j 0 = _
      rw [i4 j hj]
      have e1 : (addF tot (oftF t (fms.getD k f0))).sts.getD j 0 = tot.sts.getD j 0 + t * (fms.getD k f0).sts.getD j 0 := by
        show (List.zipWith _ _ _).getD j 0 = _
        rw [add_getD (by omega) (by rw [o.2]; exact hj)]
        congr 1
        exact mul_getD (by omega)
      have e2 : wsm (stsG j) fms ((k, t) :: r) = t * (fms.getD k f0).sts.getD j 0 + wsm (stsG j) fms r := rfl
      rw [e1, e2, Int.add_assoc]
    · show (wsum fms (addF tot (oftF t (fms.getD k f0))) r).plus = _
      rw [i5]
      have e1 : (addF tot (oftF t (fms.getD k f0))).plus = tot.plus + t * (fms.getD k f0).plus := rfl
      have e2 : wsm Fm.plus fms ((k, t) :: r) = t * (fms.getD k f0).plus + wsm Fm.plus fms r := rfl
      rw [e1, e2, Int.add_assoc]
theorem all_getD (f : Int → Bool) : ∀ (xs : List Int), xs.all f = (List.range xs.length).all fun j => f (xs.getD j 0)
  | [] => rfl
  | x :: xs => by
    rw [List.length_cons, List.range_succ_eq_map, List.all_cons, List.all_cons, List.all_map, all_getD f xs]
    rfl
theorem zero_getD {xs : List Int} {j : Nat} : (xs.map fun x => (0 : Int) * x).getD j 0 = 0 := by
  rw [List.getD_eq_getElem?_getD, List.getElem?_map]
  cases xs[j]? with
  | none => rfl
  | some x => exact Int.zero_mul x
/-- the weighed form tells it -/
theorem shut_is {n m : Nat} {fms : List Fm} (O : FsO n m fms) {wts : List (Nat × Int)} (hw : ∀ w ∈ wts, w.1 < fms.length) :
    (((wsum fms (oftF 0 (fms.getD 0 f0)) wts).ins ++ (wsum fms (oftF 0 (fms.getD 0 f0)) wts).sts).all fun x => decide (V.int x = V.int 0)) = zerT n m fms wts ∧ (wsum fms (oftF 0 (fms.getD 0 f0)) wts).plus = wsm Fm.plus fms wts := by
  have h0 : fms.getD 0 f0 = fms[0]'O.l0 := by simp [List.getD_eq_getElem?_getD, O.l0]
  have hf : ∀ f ∈ fms, f.ins.length = n ∧ f.sts.length = m := fun f h => ⟨(O.fo f h).li, (O.fo f h).ls⟩
  obtain ⟨l1, l2⟩ := hf _ (List.getElem_mem O.l0)
  rw [← h0] at l1 l2
  have o := len_oft (t := 0) l1 l2
  obtain ⟨i1, i2, i3, i4, i5⟩ := wsum_ok hf wts (oftF 0 (fms.getD 0 f0)) o.1 o.2 hw
  generalize wsum fms (oftF 0 (fms.getD 0 f0)) wts = F at i1 i2 i3 i4 i5 ⊢
  have hv : ∀ x : Int, decide (V.int x = V.int 0) = decide (x = 0) := fun x => by rw [decide_eq_decide]; exact ⟨V.int.inj, fun h => by rw [h]⟩
  refine ⟨?_, ?_⟩
  · rw [List.all_append, all_getD, all_getD, i1, i2]
    unfold zerT
    congr 1
    · rw [Bool.eq_iff_iff, List.all_eq_true, List.all_eq_true]
      refine forall_congr' fun j => ⟨fun h hj => ?_, fun h hj => ?_⟩
      · have := h hj
        rw [hv, i3 j (List.mem_range.mp hj), show (oftF 0 (fms.getD 0 f0)).ins.getD j 0 = 0 from zero_getD, Int.zero_add] at this
        exact this
      · have := h hj
        rw [hv, i3 j (List.mem_range.mp hj), show (oftF 0 (fms.getD 0 f0)).ins.getD j 0 = 0 from zero_getD, Int.zero_add]
        exact this
    · rw [Bool.eq_iff_iff, List.all_eq_true, List.all_eq_true]
      refine forall_congr' fun j => ⟨fun h hj => ?_, fun h hj => ?_⟩
      · have := h hj
        rw [hv, i4 j (List.mem_range.mp hj), show (oftF 0 (fms.getD 0 f0)).sts.getD j 0 = 0 from zero_getD, Int.zero_add] at this
        exact this
      · have := h hj
        rw [hv, i4 j (List.mem_range.mp hj), show (oftF 0 (fms.getD 0 f0)).sts.getD j 0 = 0 from zero_getD, Int.zero_add]
        exact this
  · rw [i5, show (oftF 0 (fms.getD 0 f0)).plus = 0 from Int.zero_mul _, Int.zero_add]
def spSh : Sp := fun vs H Q _ => ∃ (p : Addr) (fs : List Addr) (fms : List Fm) (n m : Nat) (v : V) (t : Th), vs = [.ref p, v] ∧ H p = some (.lst (fs.map V.ref)) ∧ FsAt H fs fms ∧ FsO n m fms ∧ ThAt H v t ∧ ThS t ∧ ∀ H', Same H H' → Q (.bl (shT n m fms t)) H'
theorem shT_no {n m : Nat} {fms : List Fm} {t : Th} (h : okT fms.length t = false) : shT n m fms t = false := by unfold shT; rw [h, Bool.false_and]
theorem shT_ok {n m : Nat} {fms : List Fm} {t : Th} (h : okT fms.length t = true) : shT n m fms t = (zerT n m fms (wtsT t) && decide (wsm Fm.plus fms (wtsT t) < 0)) := by unfold shT; rw [h, Bool.true_and]
theorem bl_map {α : Type} (xs : List α) (f : α → Bool) : (xs.map fun x => V.bl (f x)) = (xs.map f).map V.bl := by rw [List.map_map]; rfl
theorem any_map {α : Type} (xs : List α) (f : α → Bool) : (xs.map f).any id = xs.any f := by rw [List.any_map]; rfl
/-- a weight's numbers -/
theorem isW_fs {t : Th} (h : isW t = true) (hS : ThS t) : 0 ≤ fstT t ∧ 1 ≤ sndT t ∧ sndT t ≤ 100000 := by
  obtain ⟨a, b, rfl, h1, h2⟩ := isW_of h
  have := (hS.all (.int b) (by simp)).i
  exact ⟨h1, h2, this.2⟩
section
variable {P : Program} {w : World} {K : PySem.W.Frag} {mg : Str → Option Value} {base : Heap}
set_option maxHeartbeats 4000000 in
theorem ok_Sh {f : Addr} {fd : FuncData} (B : Blt mg) (fW : Has P w K mg base 3 "is_weights" ["thing"] spIws) (fF : Has P w K mg base 2 "form_weighed" ["forms", "weights"] spWeighed) (F : Fun K "shuts" "shuts" sSh f fd) : FnOk P w K mg base CX0 4 f fd ["forms", "thing"] spSh := by
  refine F.ok scSh (fun vs H Q E h => ?_) (fun cdv A outer s H vs Q E hr h => ?_)
  · obtain ⟨p, fs, fms, n, m, v, t, rfl, _⟩ := h
    rfl
  · obtain ⟨p, fs, fms, n, m, v, t, rfl, hp, hf, O, ht, hS, k⟩ := h
    refine' ⟨_, ?hb, ?rd⟩
    case hb =>
      refine' pss_cons ?s1 ?r1
      case' r1 => refine' pss_cons ?s2 ?r2
      case' r2 => refine' pss_cons ?s3 ?r3
      case' r3 => refine' pss_one ?s4
      case s1 =>
        refine' ps_if ?o1 (pss_one (ps_ret pe_bl)) pss_nil
        case' o1 => refine' PW.pt ?o2
        case' o2 => refine' pw_or ?o3 ?o4
        case o3 => exact pt_not (pt_val (pe_f fW hr (by decide) (pa_1 (pvd nmSh 1))))
        case' o4 => refine' pw_or1 ?o9
        case' o9 => refine' pt_val ?ob
        case' ob => refine' pe_cB (call_any rfl) B.any PyProof.Rows.boot_any ?oc
        case' oc => refine' pa_1 ?od
        case od =>
          refine' pe_comp (ix := [0]) bsShA.toCScope rfl rfl (pi_tup (pvd nmSh 1)) ?h4 ?h5 ?h6
          case h4 =>
            intro _ _ _ _ _ _
            refine' pgb_tup (n := 2) rfl ?h7
            case' h7 => refine' pgs_cons ?h8 ?h9
            case h8 => exact pgb bsShA 0
            case' h9 => refine' pgs_cons ?ha pgs_nil
            case ha => exact pgb bsShA 1
          case h5 => exact fun _ _ _ _ _ _ => pts_nil
          case h6 => exact fun _ _ _ _ _ _ => pe_cmpR op_ge (pvb bsShA 0) (pe_cB call_lnL B.len PySem.boot_len (pa_1 (pvb bsShA 2)) (bsShA.g 0)) (nomark _)
      case s2 => exact ps_if (pt_cmpR op_eq (pe_cB call_lnT B.len PySem.boot_len (pa_1 (pvd nmSh 1))) pe_int (nomark _)) (pss_one (ps_ret pe_bl)) pss_nil
      case s3 => exact ps_setD nmSh 2 (pe_f fF hr (by decide) (pa_2 (pvd nmSh 0) (pvd nmSh 1)))
      case s4 =>
        refine' ps_ret ?p1
        case' p1 => refine' pe_and ?p2 ?p3
        case' p2 => refine' pe_cB (call_all rfl) B.all PyProof.Rows.boot_all ?p4
        case' p4 => refine' pa_1 ?p5
        case p5 =>
          refine' pe_comp (ix := []) bsShB.toCScope rfl rfl ?j3 ?j4 ?j5 ?j6
          case' j3 => refine' pi_tup ?j7
          case j7 => exact pe_op op_catG (pe_ix ix_d (pvd nmSh 2) (pe_k B.biK) (fun _ _ => rfl)) (pe_ix ix_d (pvd nmSh 2) (pe_k B.bsK) (fun _ _ => rfl))
          case j4 => exact fun _ _ _ _ _ _ => pgb bsShB 0
          case j5 => exact fun _ _ _ _ _ _ => pts_nil
          case j6 => exact fun _ _ _ _ _ _ => pe_cmpR op_eq (pvb bsShB 0) pe_int (nomark _)
        case' p3 => refine' pe_one ?p6
        case p6 => exact pe_cmpR op_lt (pe_ix ix_d (pvd nmSh 2) (pe_k B.plK) (fun _ _ => rfl)) pe_int (nomark _)
    case rd =>
      walk_at "v"
      refine ⟨_, t, rfl, ht, hS, fun H1 K1 => ?_⟩
      walk_at "v"
      refine iteBn (fun h => ?_) (fun h => ?_)
      · walk_at "v"
        rw [shT_no (by unfold okT; rw [h, Bool.false_and])] at k
        exact k _ K1
      have hT : t.isT = true := by
        cases h2 : t.isT with
        | true => rfl
        | false => rw [isWs_not h2] at h; cases h
      obtain ⟨q, vs, ts, rfl, rfl, hq, hts⟩ := ThAt.tup_inv ht hT
      have hall : ts.all isW = true := by
        have : (ts.all isW && _) = true := h
        rw [Bool.and_eq_true] at this
        exact this.1
      obtain ⟨ws, rfl, hwl, hws⟩ := ws_of hts hall
      have hln : ts.length ≤ 60 := hS.len
      walk_at "v"
      refine ⟨q, rfl, ⟨_, SqT.of (K1 _ _ hq)⟩, fun D hD => ?_⟩
      refine prs_mapT (xs := ts) (ρ := [some (.ref p)]) (fun t => .int (fstT t)) (fun t => .int (sndT t)) (fun t => .bl (decide ((fms.length : Int) ≤ fstT t))) (K1 _ _ hq) hwl (by omega) (fun i q' t' e1 e2 => K1 _ _ (hws i q' t' e1 e2)) (fun i t' H' _ K' R kR => ?_) (fun H2 K2 e2 => ?_) hD
      · walk_at "v"
        refine ⟨p, _, rfl, (K1.trans K') _ _ hp, ?_⟩
        rw [List.length_map, hf.1]
        walk_at "v"
        exact kR _ (Same.refl _)
      have K02 := K1.trans K2
      walk_at "v"
      refine ⟨D, _, rfl, by rw [e2, bl_map], ?_⟩
      rw [any_map]
      walk_at "v"
      refine iteB (fun h3 => ?_) (fun h3 => ?_)
      · walk_at "v"
        rw [shT_no ?_] at k
        exact k _ K02
        show (isWs (.tup ts) && ts.all _) = false
        obtain ⟨t', ht', hd⟩ := List.any_eq_true.mp h3
        rw [h, Bool.true_and, Bool.eq_false_iff]
        intro ha
        have h4 := List.all_eq_true.mp ha t' ht'
        rw [decide_eq_true_eq] at h4 hd
        omega
      have hlt : ∀ t' ∈ ts, fstT t' < (fms.length : Int) := fun t' ht' => by
        rcases Int.lt_or_le (fstT t') (fms.length : Int) with z | z
        · exact z
        · have : ts.any (fun t => decide ((fms.length : Int) ≤ fstT t)) = true := List.any_eq_true.mpr ⟨t', ht', decide_eq_true z⟩
          rw [h3] at this
          cases this
      have hok : okT fms.length (.tup ts) = true := by
        show (isWs (.tup ts) && ts.all _) = true
        rw [h, Bool.true_and]
        exact List.all_eq_true.mpr fun t' ht' => decide_eq_true (hlt t' ht')
      rw [shT_ok hok] at k
      walk_at "v"
      refine ⟨q, _, rfl, K02 _ _ hq, ?_⟩
      rw [List.length_map, hwl]
      walk_at "v"
      refine ⟨rfl, ?_⟩
      walk_at "v"
      refine iteD (fun h0 => ?_) (fun h0 => ?_)
      · walk_at "v"
        have e0 : ts = [] := List.eq_nil_of_length_eq_zero (by have := V.int.inj h0; omega)
        subst e0
        have e1 : wsm Fm.plus fms (wtsT (.tup [])) = 0 := rfl
        rw [e1, show decide ((0 : Int) < 0) = false from rfl, Bool.and_false] at k
        exact k _ K02
      walk_at "v"
      have hwts : WsAt H2 ws (ts.map wtT) := by
        refine ⟨by rw [List.length_map, hwl], fun i q' n' t' e1 e2 => ?_⟩
        rw [List.getElem?_map] at e2
        cases h5 : ts[i]? with
        | none => rw [h5] at e2; cases e2
        | some t2 =>
          rw [h5] at e2
          have h6 := hws i q' t2 e1 h5
          have h7 := isW_fs (List.all_eq_true.mp hall t2 (List.mem_of_getElem? h5)) (hS.all t2 (List.mem_of_getElem? h5))
          have e3 : ((fstT t2).toNat, sndT t2) = (n', t') := Option.some.inj e2
          cases e3
          rw [Int.toNat_of_nonneg h7.1]
          exact K02 _ _ h6
      have hw2 : ∀ w ∈ ts.map wtT, w.1 < fms.length ∧ 0 ≤ w.2 ∧ w.2 ≤ 100000 := fun w hw => by
        obtain ⟨t2, ht2, rfl⟩ := List.mem_map.mp hw
        have h7 := isW_fs (List.all_eq_true.mp hall t2 ht2) (hS.all t2 ht2)
        have h8 := hlt t2 ht2
        unfold wtT
        dsimp only
        omega
      refine ⟨p, q, fs, ws, fms, ts.map wtT, n, m, 100000, rfl, K02 _ _ hp, K02 _ _ hq, hf.same K02, hwts, O.l0, ⟨O.fo, hw2, O.n1, O.m1, by decide, by decide⟩, fun r H3 K3 hr3 => ?_⟩
      obtain ⟨hz, hpl⟩ := shut_is O (wts := ts.map wtT) fun w hw => (hw2 w hw).1
      have hls := wsum_ok (n := n) (m := m) (fms := fms) (fun f h => ⟨(O.fo f h).li, (O.fo f h).ls⟩) (ts.map wtT) (oftF 0 (fms.getD 0 f0)) (by
        show (List.map _ _).length = n
        rw [List.length_map, show fms.getD 0 f0 = fms[0]'O.l0 by simp [List.getD_eq_getElem?_getD, O.l0]]
        exact (O.fo _ (List.getElem_mem O.l0)).li) (by
        show (List.map _ _).length = m
        rw [List.length_map, show fms.getD 0 f0 = fms[0]'O.l0 by simp [List.getD_eq_getElem?_getD, O.l0]]
        exact (O.fo _ (List.getElem_mem O.l0)).ls) fun w hw => (hw2 w hw).1
      have hn := O.n1
      have hm := O.m1
      have l1 := hls.1
      have l2 := hls.2.1
      clear hls
      generalize wsum fms (oftF 0 (fms.getD 0 f0)) (ts.map wtT) = G at hr3 hz hpl l1 l2
      rw [show wtsT (.tup ts) = ts.map wtT from rfl, ← hpl, ← hz] at k
      obtain ⟨ga, gb, g1, g2, g3⟩ := hr3
      walk_at "v"
      refine w_andV ?_
      walk_at "v"
      refine w_ixT g1 rfl ?_
      walk_at "v"
      refine w_ixT g1 rfl ?_
      refine ⟨ga, gb, _, _, rfl, rfl, g2, g3, by rw [List.length_map, List.length_map]; omega, fun z H4 K4 e4 => ?_⟩
      rw [← List.map_append] at e4
      have hgl : (G.ins ++ G.sts).length ≤ 20 := by rw [List.length_append]; omega
      generalize G.ins ++ G.sts = gs at e4 hgl k
      refine ⟨z, rfl, ⟨_, SqT.of e4⟩, fun D2 hD2 => ?_⟩
      refine cgo_tup (xs := gs.map V.int) (ρ := []) (fun i ys H' => ys = ((gs.take i).map fun x => decide (V.int x = V.int 0)).map V.bl ∧ Same H4 H') ⟨rfl, Same.new (Same.refl H4) hD2⟩ (fun i ys H' _ ⟨_, k'⟩ => SqT.of (k' _ _ e4)) ?_ ?_
      · rintro i x ys H' hx ⟨rfl, K'⟩ hDy R S kR _
        rw [List.getElem?_map] at hx
        cases h5 : gs[i]? with
        | none => rw [h5] at hx; cases hx
        | some g =>
          rw [h5] at hx
          cases hx
          walk_at "v"
          refine ⟨rfl, ?_⟩
          refine kR _ _ hDy (by rw [List.length_map, List.length_map, List.length_take]; exact small1000 (by omega)) ⟨?_, K'.put hD2⟩
          rw [List.take_add_one, h5, List.map_append, List.map_append]
          rfl
      rintro ys H5 ⟨rfl, K5⟩ e5
      rw [List.length_map, List.take_length] at e5
      have K05 := ((K02.trans K3).trans K4).trans K5
      walk_at "v"
      refine ⟨D2, _, rfl, e5, ?_⟩
      rw [all_map]
      walk_at "v"
      refine iteB (fun h6 => ?_) (fun h6 => ?_)
      · rw [h6, Bool.true_and] at k
        walk_at "v"
        refine w_ixT ((K4.trans K5) _ _ g1) rfl ?_
        walk_at "v"
        exact k _ K05
      · rw [h6, Bool.false_and] at k
        exact k _ K05
end
end K27

set_option Elab.async false
set_option linter.all false
set_option maxRecDepth 100000
namespace K27
open PySem L2 G2
local macro_rules | `(tactic| walk_at "v") => `(tactic| repeat (with_reducible first
  | refine w_seq ?_ | refine w_asg ?_ | refine w_gname ?_ | refine w_op ?_ | refine w_var rfl ?_ | refine w_c ?_ | refine w_rI0 ?_ | refine w_ifs ?_ | refine w_ife ?_ | refine w_test ?_ | refine w_tb ?_ | refine w_bl ?_ | refine w_not ?_ | refine w_ret ?_ | refine w_retN ?_
  | refine w_nil ?_ | refine w_cons ?_ | refine w_lst ?_ | refine w_tup ?_ | refine w_cb ?_ | refine w_call ?_ | refine w_gsub ?_ | refine w_and ?_ | refine w_or ?_ | refine w_next ?_ | refine w_all ?_ | refine w_vals ?_ | refine w_compR ?_ | refine w_compT ?_ | refine w_forR ?_ | refine w_forT ?_ | refine w_forL ?_ | refine w_drop ?_ | refine w_bm ?_ | refine w_compZ ?_ | refine w_compL ?_ | refine w_chain ?_ | refine w_sl ?_ | refine w_nopart ?_ | refine w_part ?_ | refine w_unI ?_ | refine iteT ?_ | refine iteF ?_))

abbrev sLw : Stmt := top 21
abbrev sLs : Stmt := top 22
abbrev nLw : List Str := ["_law_thing", "_law_many", "_law_last", "_law_one"]
theorem nmLw : Nm nLw (defScope sLw) := ⟨by decide +kernel, by decide +kernel⟩
theorem scLw : FnScope nLw ["_law_thing", "_law_many"] (defScope sLw) := ⟨rfl, rfl, rfl, by decide +kernel, rfl, by decide +kernel, by decide +kernel⟩
abbrev nLs : List Str := ["_law_forms", "_law_thing", "_law_part", "_law_j"]
theorem nmLs : Nm nLs (defScope sLs) := ⟨by decide +kernel, by decide +kernel⟩
theorem scLs : FnScope nLs ["_law_forms", "_law_thing"] (defScope sLs) := ⟨rfl, rfl, rfl, by decide +kernel, rfl, by decide +kernel, by decide +kernel⟩

def forB (s : Stmt) : List Stmt := match s with
  | .For _ _ b _ _ => b
  | _ => []
def cmpC (s : Stmt) : Scope := match s with
  | .If (.Compare (.ListComp _ _ sc _) _ _ _) _ _ _ => sc
  | .Return (some (.Compare (.Call _ [.ListComp _ _ sc _] _ _) _ _ _)) _ => sc
  | _ => { kind := .function, names := [], isGenerator := false, isCoroutine := false }
abbrev cLw : Scope := cmpC ((forB ((defBody sLw).getD 2 (.Pass ⟨0, 0, 0, 0⟩))).getD 1 (.Pass ⟨0, 0, 0, 0⟩))
abbrev cLsA : Scope := orComp ((forB ((forB ((defBody sLs).getD 1 (.Pass ⟨0, 0, 0, 0⟩))).getD 0 (.Pass ⟨0, 0, 0, 0⟩))).getD 0 (.Pass ⟨0, 0, 0, 0⟩))
abbrev cLsB : Scope := cmpC ((defBody sLs).getD 2 (.Pass ⟨0, 0, 0, 0⟩))
theorem bsLw : BScope (defScope sLw) cLw ["_law_part"] [] ["isinstance", "int", "bool"] := { okind := by decide +kernel, kind := by decide +kernel, nocell := by decide +kernel, names := by decide +kernel, fr := by decide +kernel, ff := by decide +kernel, nd := by decide +kernel, vis := by decide +kernel, loc := by decide +kernel, gl := by decide +kernel }
theorem bsLsA : BScope (defScope sLs) cLsA ["_law_k", "_law_times"] ["_law_forms", "_law_j", "_law_part"] [] := { okind := by decide +kernel, kind := by decide +kernel, nocell := by decide +kernel, names := by decide +kernel, fr := by decide +kernel, ff := by decide +kernel, nd := by decide +kernel, vis := by decide +kernel, loc := by decide +kernel, gl := by decide +kernel }
theorem bsLsB : BScope (defScope sLs) cLsB ["_law_k", "_law_times"] ["_law_forms"] [] := { okind := by decide +kernel, kind := by decide +kernel, nocell := by decide +kernel, names := by decide +kernel, fr := by decide +kernel, ff := by decide +kernel, nd := by decide +kernel, vis := by decide +kernel, loc := by decide +kernel, gl := by decide +kernel }

def isP : Th → Bool
  | .tup [.int _, .int _] => true
  | _ => false
theorem isP_not {t : Th} (h : t.isT = false) : isP t = false := by
  cases t <;> first | rfl | (cases h)
theorem isP_len {ts : List Th} (h : ts.length ≠ 2) : isP (.tup ts) = false := by
  match ts with
  | [] => rfl
  | [a] => cases a <;> rfl
  | [a, b] => exact absurd rfl h
  | a :: b :: c :: r => cases a <;> (cases b <;> rfl)
theorem isP_whole {a b : Th} : isP (.tup [a, b]) = ((a.isI && !a.isB) && (b.isI && !b.isB)) := by
  cases a <;> (cases b <;> rfl)
theorem isP_of {t : Th} (h : isP t = true) : ∃ a b : Int, t = .tup [.int a, .int b] := by
  unfold isP at h
  split at h
  · exact ⟨_, _, rfl⟩
  · cases h
theorem isW_isP {t : Th} : isW t = (isP t && decide (0 ≤ fstT t) && decide (1 ≤ sndT t)) := by
  cases hP : isP t with
  | true =>
    obtain ⟨a, b, rfl⟩ := isP_of hP
    show _ = (true && _ && _)
    rw [Bool.true_and]
    rfl
  | false =>
    cases hW : isW t with
    | false => rfl
    | true =>
      obtain ⟨a, b, rfl, _, _⟩ := isW_of hW
      cases hP
def lw (M : Int) : Int → List Th → Bool
  | _, [] => true
  | l, t :: r => isP t && decide (l < fstT t) && decide (fstT t < M) && decide (1 ≤ sndT t) && lw M (fstT t) r
def incF : Int → List Int → Bool
  | _, [] => true
  | l, a :: r => decide (l < a) && incF a r
theorem incr_F : ∀ (a : Int) (r : List Int), incr (a :: r) = incF a r
  | a, [] => rfl
  | a, b :: r => by
    have := incr_F b r
    unfold incr at this ⊢
    unfold incF
    rw [← this, show (a :: b :: r).length - 1 = r.length + 1 from rfl, show (b :: r).length - 1 = r.length from rfl, List.range_succ_eq_map, List.all_cons, List.all_map]
    rfl
theorem lw_is (M : Int) : ∀ (ts : List Th) (l : Int), -1 ≤ l → lw M l ts = (ts.all isW && incF l (ts.map fstT) && ts.all fun t => decide (fstT t < M))
  | [], l, _ => rfl
  | t :: r, l, hl => by
    rw [List.all_cons, List.map_cons, List.all_cons]
    unfold lw incF
    rw [isW_isP]
    cases hP : isP t with
    | false => simp only [Bool.false_and]
    | true =>
      by_cases h1 : l < fstT t
      · have h0 : 0 ≤ fstT t := by omega
        rw [lw_is M r (fstT t) (by omega), decide_eq_true h1, decide_eq_true h0]
        simp only [Bool.true_and]
        cases decide (fstT t < M) <;> cases decide (1 ≤ sndT t) <;> simp
      · rw [decide_eq_false h1]
        simp
theorem lw_ok (M : Nat) (ts : List Th) : lw (M : Int) (-1) ts = okT M (.tup ts) := by
  rw [lw_is _ _ _ (by decide)]
  show _ = (ts.all isW && incr (ts.map fstT) && ts.all _)
  match ts with
  | [] => rfl
  | t :: r =>
    rw [List.map_cons, incr_F]
    show ((t :: r).all isW && (decide (-1 < fstT t) && incF (fstT t) (r.map fstT)) && _) = _
    cases h : isW t with
    | false => simp [h]
    | true =>
      rw [isW_isP, Bool.and_eq_true, Bool.and_eq_true, decide_eq_true_eq] at h
      rw [decide_eq_true (by omega : -1 < fstT t), Bool.true_and]
def spLw : Sp := fun vs H Q _ => ∃ (v : V) (t : Th) (M : Nat), vs = [v, .int (M : Int)] ∧ ThAt H v t ∧ ThS t ∧ ∀ H', Same H H' → Q (.bl (okT M t)) H'
def pl : Nat → Fm → List Int
  | 0, f => f.ins
  | _, f => f.sts
def lenP (n m : Nat) : Nat → Nat
  | 0 => n
  | _ => m
def gP (i j : Nat) (f : Fm) : Int := (pl i f).getD j 0
theorem pl_len {n m : Nat} {B : Int} {f : Fm} (h : FmOk n m B f) (i : Nat) : (pl i f).length = lenP n m i := by
  cases i with
  | zero => exact h.li
  | succ i => exact h.ls
theorem pl_bd {n m : Nat} {B : Int} {f : Fm} (h : FmOk n m B f) (i : Nat) : ∀ x ∈ pl i f, -B ≤ x ∧ x ≤ B := by
  cases i with
  | zero => exact h.bi
  | succ i => exact h.bs
theorem fm_part {H : Hp} {q : Addr} {f : Fm} (h : FmAt H q f) {i : Nat} (hi : i < 2) : ∃ (c : Addr) (us : List V), H q = some (.tup us) ∧ us[i]? = some (.ref c) ∧ H c = some (.tup ((pl i f).map V.int)) := by
  obtain ⟨a, b, h1, h2, h3⟩ := h
  match i, hi with
  | 0, _ => exact ⟨a, _, h1, rfl, h2⟩
  | 1, _ => exact ⟨b, _, h1, rfl, h3⟩
theorem zer_of {n m : Nat} {fms : List Fm} {w : List (Nat × Int)} (h : ∀ i, i < 2 → ∀ j, j < lenP n m i → wsm (gP i j) fms w = 0) : zerT n m fms w = true := by
  unfold zerT
  rw [Bool.and_eq_true, List.all_eq_true, List.all_eq_true]
  exact ⟨fun j hj => decide_eq_true (h 0 (by decide) j (List.mem_range.mp hj)), fun j hj => decide_eq_true (h 1 (by decide) j (List.mem_range.mp hj))⟩
theorem zer_no {n m : Nat} {fms : List Fm} {w : List (Nat × Int)} {i j : Nat} (hi : i < 2) (hj : j < lenP n m i) (h : wsm (gP i j) fms w ≠ 0) : zerT n m fms w = false := by
  rw [Bool.eq_false_iff]
  intro hz
  unfold zerT at hz
  rw [Bool.and_eq_true, List.all_eq_true, List.all_eq_true] at hz
  match i, hi with
  | 0, _ => exact h (of_decide_eq_true (hz.1 j (List.mem_range.mpr hj)))
  | 1, _ => exact h (of_decide_eq_true (hz.2 j (List.mem_range.mpr hj)))
theorem int_map {α : Type} (xs : List α) (f : α → Int) : (xs.map fun x => V.int (f x)) = (xs.map f).map V.int := by rw [List.map_map]; rfl
theorem wsm_map (g : Fm → Int) (fms : List Fm) (ts : List Th) : (ts.map fun t => sndT t * g (fms.getD (fstT t).toNat f0)).sum = wsm g fms (ts.map wtT) := by
  unfold wsm
  rw [List.map_map]
  rfl
theorem ints2 {H : Hp} {va vb : V} {a b : Int} {p : Addr} (ha : ThAt H va (.int a)) (hb : ThAt H vb (.int b)) (hp : H p = some (.tup [va, vb])) : H p = some (.tup [.int a, .int b]) := by
  cases ha
  cases hb
  exact hp
section
variable {P : Program} {w : World} {K : PySem.W.Frag} {mg : Str → Option Value} {base : Heap}
set_option maxHeartbeats 4000000 in
theorem ok_Lw {f : Addr} {fd : FuncData} (B : Blt mg) (F : Fun K "_law_is_weights" "_law_is_weights" sLw f fd) : FnOk P w K mg base CX0 1 f fd ["_law_thing", "_law_many"] spLw := by
  refine F.ok scLw (fun vs H Q E h => ?_) (fun cdv A outer s H vs Q E hr h => ?_)
  · obtain ⟨v, t, M, rfl, _⟩ := h
    rfl
  · obtain ⟨v, t, M, rfl, ht, hS, k⟩ := h
    refine' ⟨_, ?hb, ?rd⟩
    case hb =>
      refine' pss_cons ?s1 ?r1
      case' r1 => refine' pss_cons ?s2 ?r2
      case' r2 => refine' pss_cons ?s3 ?r3
      case' r3 => refine' pss_one ?s4
      case s1 => exact ps_if (pt_not (pt_val (pe_cB is_tup B.isi PyProof.Rows.boot_isinstance (pa_2 (pvd nmLw 0) (pe_bltn (v := .ty "tuple") rfl B.tuple PyProof.Rows.boot_tuple rfl))))) (pss_one (ps_ret pe_bl)) pss_nil
      case s2 => exact ps_setD nmLw 2 pe_neg
      case s4 => exact ps_ret pe_bl
      case s3 =>
        refine' ps_for PassesOwn.never rfl (pi_tup (pvd nmLw 0)) (pgd nmLw 3) ?b1
        case' b1 => refine' pss_cons ?t1 ?u1
        case' u1 => refine' pss_cons ?t2 ?u2
        case' u2 => refine' pss_cons ?t3 ?u3
        case' u3 => refine' pss_one ?t4
        case t1 =>
          refine' ps_if ?o1 (pss_one (ps_ret pe_bl)) pss_nil
          case' o1 => refine' PW.pt ?o2
          case' o2 => refine' pw_or ?o3 ?o4
          case o3 => exact pt_not (pt_val (pe_cB is_tup B.isi PyProof.Rows.boot_isinstance (pa_2 (pvd nmLw 3) (pe_bltn (v := .ty "tuple") rfl B.tuple PyProof.Rows.boot_tuple rfl))))
          case' o4 => refine' pw_or1 ?o5
          case o5 => exact pt_cmpR op_ne (pe_cB call_lnT B.len PySem.boot_len (pa_1 (pvd nmLw 3))) pe_int (nomark _)
        case t2 =>
          refine' ps_if ?p1 (pss_one (ps_ret pe_bl)) pss_nil
          case' p1 => refine' pt_cmpR (op_neE hr) ?p2 (pe_lst pa_nil) (nomark _)
          case p2 =>
            refine' pe_comp (ix := []) bsLw.toCScope rfl rfl (pi_tup (pvd nmLw 3)) ?h4 ?h5 ?h6
            case h4 => exact fun _ _ _ _ _ _ => pgb bsLw 0
            case h5 =>
              intro _ _ _ _ _ _
              refine' pts_one ?h7
              case' h7 => refine' PW.pt ?h8
              case' h8 => refine' pw_or ?h9 ?ha
              case h9 => exact pt_not (pt_val (pe_cB is_int B.isi PyProof.Rows.boot_isinstance (pa_2 (pvb bsLw 0) (pe_bltn (v := .ty "int") (bsLw.g 1) B.int PyProof.Rows.boot_int rfl)) (bsLw.g 0)))
              case' ha => refine' pw_or1 ?hc
              case hc => exact pt_val (pe_cB is_bool B.isi PyProof.Rows.boot_isinstance (pa_2 (pvb bsLw 0) (pe_bltn (v := .ty "bool") (bsLw.g 2) B.bool PyProof.Rows.boot_bool rfl)) (bsLw.g 0))
            case h6 => exact fun _ _ _ _ _ _ => pvb bsLw 0
        case t3 =>
          refine' ps_if ?q1 (pss_one (ps_ret pe_bl)) pss_nil
          case' q1 => refine' PW.pt ?q2
          case' q2 => refine' pw_or (pt_cmpR op_le (pe_ix ix_d (pvd nmLw 3) pe_int (fun _ _ => rfl)) (pvd nmLw 2) (nomark _)) ?q3
          case' q3 => refine' pw_or (pt_cmpR op_ge (pe_ix ix_d (pvd nmLw 3) pe_int (fun _ _ => rfl)) (pvd nmLw 1) (nomark _)) ?q4
          case' q4 => refine' pw_or1 ?q5
          case q5 => exact pt_cmpR op_lt (pe_ix ix_d (pvd nmLw 3) pe_int (fun _ _ => rfl)) pe_int (nomark _)
        case t4 => exact ps_setD nmLw 2 (pe_ix ix_d (pvd nmLw 3) pe_int (fun _ _ => rfl))
    case rd =>
      walk_at "v"
      refine ⟨_, t, rfl, ht, ?_⟩
      walk_at "v"
      refine iteBn (fun h => ?_) (fun h => ?_)
      · walk_at "v"
        rw [show okT M t = false by unfold okT; rw [isWs_not h, Bool.false_and]] at k
        exact k _ (Same.refl _)
      obtain ⟨p, vs, ts, rfl, rfl, hp, hts⟩ := ThAt.tup_inv ht h
      rw [← lw_ok] at k
      walk_at "v"
      refine ⟨p, rfl, ⟨_, SqT.of hp⟩, ?_⟩
      refine for_tup (xs := vs) (fun i σ H' => ∃ (l : Int) (u3 : Option V), σ = [some (.ref p), some (.int (M : Int)), some (.int l), u3] ∧ Same H H' ∧ lw (M : Int) (-1) ts = lw (M : Int) l (ts.drop i)) ⟨-1, _, rfl, Same.refl _, rfl⟩ (fun i σ H' _ ⟨_, _, _, k', _⟩ => SqT.of (k' _ _ hp)) ?_ ?_
      · rintro i x σ H1 hx ⟨l, u3, rfl, K1, hlw⟩
        obtain ⟨t', ht1, ht2⟩ := hts.atV hx
        have hi := (List.getElem?_eq_some_iff.mp ht1).1
        have e' : ts[i] = t' := (List.getElem?_eq_some_iff.mp ht1).2
        have hst : lw (M : Int) l (ts.drop i) = (isP t' && decide (l < fstT t') && decide (fstT t' < (M : Int)) && decide (1 ≤ sndT t') && lw (M : Int) (fstT t') (ts.drop (i + 1))) := by
          rw [List.drop_eq_getElem_cons hi, e']
          rfl
        rw [hst] at hlw
        have hth := ht2.ks (KS.same K1)
        walk_at "v"
        refine ⟨_, t', rfl, hth, ?_⟩
        walk_at "v"
        refine iteBn (fun h1 => ?_) (fun h1 => ?_)
        · walk_at "v"
          rw [hlw, isP_not h1] at k
          simp only [Bool.false_and] at k
          exact k _ K1
        obtain ⟨q, ws, us, rfl, rfl, hq, hus⟩ := ThAt.tup_inv hth h1
        walk_at "v"
        refine ⟨q, _, rfl, hq, ?_⟩
        rw [hus.len]
        refine ⟨rfl, ?_⟩
        walk_at "v"
        refine iteNB (fun hne => ?_) (fun he => ?_)
        · walk_at "v"
          rw [hlw, isP_len (fun z => hne (by rw [z]; rfl))] at k
          simp only [Bool.false_and] at k
          exact k _ K1
        have h2 : us.length = 2 := by
          have : (us.length : Int) = 2 := V.int.inj he
          omega
        obtain ⟨ta, tb, rfl⟩ : ∃ a b, us = [a, b] := by
          match us, h2 with
          | [a, b], _ => exact ⟨a, b, rfl⟩
        obtain ⟨va, vb, vr, rfl, ha, hb, hc⟩ := ths2 hus
        cases hc
        walk_at "v"
        refine ⟨q, rfl, ⟨_, SqT.of hq⟩, fun D hD => ?_⟩
        refine cgo_tup (xs := [va, vb]) (ρ := []) (fun j zs H' => zs.isEmpty = ((([ta, tb] : List Th).take j).all fun t => t.isI && !t.isB) ∧ zs.length ≤ j ∧ Same H1 H') ⟨rfl, Nat.zero_le _, Same.new (Same.refl _) hD⟩ (fun j zs H' _ ⟨_, _, k'⟩ => SqT.of (k' _ _ hq)) ?_ ?_
        · rintro j y zs H' hy ⟨hz, hzl, K'⟩ hDz R S kR kS
          have hj2 : j < 2 := (List.getElem?_eq_some_iff.mp hy).1
          obtain ⟨t2, ht3, ht4⟩ := hus.atV hy
          have hst2 : ((([ta, tb] : List Th).take (j + 1)).all fun t => t.isI && !t.isB) = (zs.isEmpty && (t2.isI && !t2.isB)) := by
            rw [List.take_add_one, ht3, List.all_append, hz]
            simp
          have hth2 := ht4.ks (KS.same K')
          have keep : (t2.isI && !t2.isB) = false → (zs ++ [y]).isEmpty = ((([ta, tb] : List Th).take (j + 1)).all fun t => t.isI && !t.isB) := fun hh => by
            rw [hst2, hh, Bool.and_false]
            cases zs <;> rfl
          walk_at "v"
          refine ⟨_, t2, rfl, hth2, ?_⟩
          walk_at "v"
          refine iteBn (fun h3 => ?_) (fun h3 => ?_)
          · walk_at "v"
            exact kR _ _ hDz (small1000 (by omega)) ⟨keep (by rw [h3, Bool.false_and]), by rw [List.length_append]; show _ + 1 ≤ _; omega, K'.put hD⟩
          · walk_at "v"
            refine ⟨_, t2, rfl, hth2, ?_⟩
            walk_at "v"
            refine iteB (fun h4 => ?_) (fun h4 => ?_)
            · walk_at "v"
              exact kR _ _ hDz (small1000 (by omega)) ⟨keep (by rw [h4, Bool.not_true, Bool.and_false]), by rw [List.length_append]; show _ + 1 ≤ _; omega, K'.put hD⟩
            · refine kS _ hDz ⟨?_, by omega, K'⟩
              rw [hst2, h3, h4]
              simp
        · rintro zs H2 ⟨hz, hzl, K2⟩ hDz
          rw [show (([ta, tb] : List Th).take ([va, vb] : List V).length) = [ta, tb] from rfl] at hz
          simp only [List.all_cons, List.all_nil, Bool.and_true] at hz
          rw [← isP_whole] at hz
          have K02 := K1.trans K2
          walk_at "v"
          refine ⟨Nat.zero_le _, fun z hz' => ?_⟩
          have K3 : Same H2 (upd H2 z (.lst [])) := Same.new (Same.refl _) hz'
          have e3 : upd H2 z (.lst []) z = some (.lst []) := upd_same
          generalize upd H2 z (.lst []) = H3 at K3 e3 ⊢
          have K03 := K02.trans K3
          refine ⟨D, z, _, rfl, rfl, K3 _ _ hDz, e3, ?_⟩
          walk_at "v"
          rw [hz]
          refine iteBn (fun h5 => ?_) (fun h5 => ?_)
          · walk_at "v"
            rw [hlw, h5] at k
            simp only [Bool.false_and] at k
            exact k _ K03
          rw [h5, Bool.true_and] at hlw
          rw [isP_whole, Bool.and_eq_true] at h5
          obtain ⟨a, rfl⟩ := whole_int h5.1
          obtain ⟨b, rfl⟩ := whole_int h5.2
          have hq3 := (K2.trans K3) _ _ (ints2 ha hb hq)
          rw [show fstT (.tup [.int a, .int b]) = a from rfl, show sndT (.tup [.int a, .int b]) = b from rfl] at hlw
          walk_at "v"
          refine w_ixT hq3 rfl ?_
          walk_at "v"
          refine iteD (fun h6 => ?_) (fun h6 => ?_)
          · walk_at "v"
            rw [hlw, decide_eq_false (by omega : ¬ l < a)] at k
            simp only [Bool.false_and] at k
            exact k _ K03
          rw [decide_eq_true (by omega : l < a), Bool.true_and] at hlw
          walk_at "v"
          refine w_ixT hq3 rfl ?_
          walk_at "v"
          refine iteD (fun h7 => ?_) (fun h7 => ?_)
          · walk_at "v"
            rw [hlw, decide_eq_false (by omega : ¬ a < (M : Int))] at k
            simp only [Bool.false_and] at k
            exact k _ K03
          rw [decide_eq_true (by omega : a < (M : Int)), Bool.true_and] at hlw
          walk_at "v"
          refine w_ixT hq3 rfl ?_
          walk_at "v"
          refine iteD (fun h8 => ?_) (fun h8 => ?_)
          · walk_at "v"
            rw [hlw, decide_eq_false (by omega : ¬ 1 ≤ b)] at k
            simp only [Bool.false_and] at k
            exact k _ K03
          rw [decide_eq_true (by omega : 1 ≤ b), Bool.true_and] at hlw
          walk_at "v"
          refine w_ixT hq3 rfl ?_
          walk_at "v"
          exact ⟨a, _, rfl, K03, hlw⟩
      · rintro σ H1 ⟨l, u3, rfl, K1, hlw⟩
        rw [hts.len, List.drop_length] at hlw
        rw [hlw] at k
        walk_at "v"
        exact k _ K1
end
end K27

set_option Elab.async false
set_option linter.all false
set_option maxRecDepth 100000
namespace K27
open PySem L2 G2
local macro_rules | `(tactic| walk_at "v") => `(tactic| repeat (with_reducible first
  | refine w_seq ?_ | refine w_asg ?_ | refine w_gname ?_ | refine w_op ?_ | refine w_var rfl ?_ | refine w_c ?_ | refine w_rI0 ?_ | refine w_ifs ?_ | refine w_ife ?_ | refine w_test ?_ | refine w_tb ?_ | refine w_bl ?_ | refine w_not ?_ | refine w_ret ?_ | refine w_retN ?_
  | refine w_nil ?_ | refine w_cons ?_ | refine w_lst ?_ | refine w_tup ?_ | refine w_cb ?_ | refine w_call ?_ | refine w_gsub ?_ | refine w_and ?_ | refine w_or ?_ | refine w_next ?_ | refine w_all ?_ | refine w_vals ?_ | refine w_compR ?_ | refine w_compT ?_ | refine w_forR ?_ | refine w_forT ?_ | refine w_forL ?_ | refine w_drop ?_ | refine w_bm ?_ | refine w_compZ ?_ | refine w_compL ?_ | refine w_chain ?_ | refine w_sl ?_ | refine w_nopart ?_ | refine w_part ?_ | refine w_unI ?_ | refine iteT ?_ | refine iteF ?_))
section
variable {P : Program} {w : World} {K : PySem.W.Frag} {mg : Str → Option Value} {base : Heap}
set_option maxHeartbeats 4000000 in
theorem ok_Ls {f : Addr} {fd : FuncData} (B : Blt mg) (fW : Has P w K mg base 1 "_law_is_weights" ["_law_thing", "_law_many"] spLw) (F : Fun K "_law_shut" "_law_shut" sLs f fd) : FnOk P w K mg base CX0 2 f fd ["_law_forms", "_law_thing"] spSh := by
  refine F.ok scLs (fun vs H Q E h => ?_) (fun cdv A outer s H vs Q E hr h => ?_)
  · obtain ⟨p, fs, fms, n, m, v, t, rfl, _⟩ := h
    rfl
  · obtain ⟨p, fs, fms, n, m, v, t, rfl, hp, hf, O, ht, hS, k⟩ := h
    refine' ⟨_, ?hb, ?rd⟩
    case hb =>
      refine' pss_cons ?s1 ?r1
      case' r1 => refine' pss_cons ?s2 ?r2
      case' r2 => refine' pss_one ?s3
      case s1 => exact ps_if (pt_not (pt_val (pe_f fW hr (by decide) (pa_2 (pvd nmLs 1) (pe_cB call_lnL B.len PySem.boot_len (pa_1 (pvd nmLs 0))))))) (pss_one (ps_ret pe_bl)) pss_nil
      case s2 =>
        refine' ps_for PassesOwn.never rfl (pi_list (pe_lst (pa_2 pe_int pe_int))) (pgd nmLs 2) ?b1
        case' b1 => refine' pss_one ?b2
        case' b2 => refine' ps_for PassesOwn.never rfl ?b3 (pgd nmLs 3) ?b4
        case b3 => exact pi_r1 B.range (pa_1 (pe_cB call_lnT B.len PySem.boot_len (pa_1 (pe_ix ix_d (pe_ix ix_d (pvd nmLs 0) pe_int (fun _ _ => rfl)) (pvd nmLs 2) (fun _ _ => rfl)))))
        case' b4 => refine' pss_one ?b5
        case' b5 => refine' ps_if ?b6 (pss_one (ps_ret pe_bl)) pss_nil
        case' b6 => refine' pt_cmpR op_ne ?b7 pe_int (nomark _)
        case' b7 => refine' pe_cB (call_sum rfl) B.sum PyProof.Rows.boot_sum ?b8
        case' b8 => refine' pa_1 ?b9
        case b9 =>
          refine' pe_comp (ix := [0, 3, 2]) bsLsA.toCScope rfl rfl (pi_tup (pvd nmLs 1)) ?h4 ?h5 ?h6
          case h4 =>
            intro _ _ _ _ _ _
            refine' pgb_tup (n := 2) rfl ?h7
            case' h7 => refine' pgs_cons ?h8 ?h9
            case h8 => exact pgb bsLsA 0
            case' h9 => refine' pgs_cons ?ha pgs_nil
            case ha => exact pgb bsLsA 1
          case h5 => exact fun _ _ _ _ _ _ => pts_nil
          case h6 => exact fun _ _ _ _ _ _ => pe_op op_mul (pvb bsLsA 1) (pe_ix ix_d (pe_ix ix_d (pe_ix ix_d (pvb bsLsA 2) (pvb bsLsA 0) (fun _ _ => rfl)) (pvb bsLsA 4) (fun _ _ => rfl)) (pvb bsLsA 3) (fun _ _ => rfl))
      case s3 =>
        refine' ps_ret ?c1
        case' c1 => refine' pe_cmpR op_lt ?c2 pe_int (nomark _)
        case' c2 => refine' pe_cB (call_sum rfl) B.sum PyProof.Rows.boot_sum ?c3
        case' c3 => refine' pa_1 ?c4
        case c4 =>
          refine' pe_comp (ix := [0]) bsLsB.toCScope rfl rfl (pi_tup (pvd nmLs 1)) ?j4 ?j5 ?j6
          case j4 =>
            intro _ _ _ _ _ _
            refine' pgb_tup (n := 2) rfl ?j7
            case' j7 => refine' pgs_cons ?j8 ?j9
            case j8 => exact pgb bsLsB 0
            case' j9 => refine' pgs_cons ?ja pgs_nil
            case ja => exact pgb bsLsB 1
          case j5 => exact fun _ _ _ _ _ _ => pts_nil
          case j6 => exact fun _ _ _ _ _ _ => pe_op op_mul (pvb bsLsB 1) (pe_ix ix_d (pe_ix ix_d (pvb bsLsB 2) (pvb bsLsB 0) (fun _ _ => rfl)) pe_int (fun _ _ => rfl))
    case rd =>
      have l9 := O.l9
      walk_at "v"
      refine ⟨p, _, rfl, hp, ?_⟩
      rw [List.length_map, hf.1]
      refine ⟨_, t, fms.length, rfl, ht, hS, fun H1 K1 => ?_⟩
      walk_at "v"
      refine iteBn (fun h => ?_) (fun h => ?_)
      · walk_at "v"
        rw [shT_no h] at k
        exact k _ K1
      rw [shT_ok h] at k
      have hI : isWs t = true := by
        unfold okT at h
        rw [Bool.and_eq_true] at h
        exact h.1
      have hT : t.isT = true := by
        cases h2 : t.isT with
        | true => rfl
        | false => rw [isWs_not h2] at hI; cases hI
      obtain ⟨q, vs, ts, rfl, rfl, hq, hts⟩ := ThAt.tup_inv ht hT
      have hall : ts.all isW = true := by
        have : (ts.all isW && _) = true := hI
        rw [Bool.and_eq_true] at this
        exact this.1
      have hlt : ∀ t' ∈ ts, fstT t' < (fms.length : Int) := fun t' ht' => by
        have : (isWs (.tup ts) && ts.all fun t => decide (fstT t < (fms.length : Int))) = true := h
        rw [Bool.and_eq_true] at this
        exact of_decide_eq_true (List.all_eq_true.mp this.2 t' ht')
      obtain ⟨ws, rfl, hwl, hws⟩ := ws_of hts hall
      have hln : ts.length ≤ 60 := hS.len
      have hbd : ∀ t' ∈ ts, 0 ≤ fstT t' ∧ 1 ≤ sndT t' ∧ sndT t' ≤ 100000 := fun t' ht' => isW_fs (List.all_eq_true.mp hall t' ht') (hS.all t' ht')
      rw [show wtsT (.tup ts) = ts.map wtT from rfl] at k
      have hget : ∀ t' ∈ ts, ∃ (r : Addr) (f : Fm), (fs.map V.ref)[(fstT t').toNat]? = some (.ref r) ∧ fms.getD (fstT t').toNat f0 = f ∧ FmAt H r f ∧ FmOk n m 100000 f := fun t' ht' => by
        have hk : (fstT t').toNat < fms.length := by have := hlt t' ht'; have := (hbd t' ht').1; omega
        have hk2 : (fstT t').toNat < fs.length := by rw [hf.1]; exact hk
        refine ⟨fs[(fstT t').toNat], fms[(fstT t').toNat], by simp [hk2], by simp [List.getD_eq_getElem?_getD, hk], ?_, O.fo _ (List.getElem_mem hk)⟩
        exact hf.2 _ _ _ (List.getElem?_eq_getElem hk2) (List.getElem?_eq_getElem hk)
      obtain ⟨r0, hr0, hF0⟩ : ∃ r0, (fs.map V.ref)[0]? = some (.ref r0) ∧ FmAt H r0 (fms[0]'O.l0) := by
        have hk2 : 0 < fs.length := by rw [hf.1]; exact O.l0
        exact ⟨fs[0], by simp [hk2], hf.2 _ _ _ (List.getElem?_eq_getElem hk2) (List.getElem?_eq_getElem O.l0)⟩
      have ho0 := O.fo _ (List.getElem_mem O.l0)
      have n1 := O.n1
      have m1 := O.m1
      walk_at "v"
      refine ⟨by show 2 ≤ sizeLine; decide, fun il hil => ?_⟩
      have K2 : Same H1 (upd H1 il (.lst [.int 0, .int 1])) := Same.new (Same.refl _) hil
      have e2 : upd H1 il (.lst [.int 0, .int 1]) il = some (.lst ((List.range 2).map fun (i : Nat) => V.int (i : Int))) := upd_same
      generalize upd H1 il (.lst [.int 0, .int 1]) = H2 at K2 e2 ⊢
      have K02 := K1.trans K2
      refine ⟨il, rfl, ⟨_, SqL.of e2⟩, ?_⟩
      refine for_list (xs := (List.range 2).map fun (i : Nat) => V.int (i : Int)) (fun i σ H' => ∃ (u2 u3 : Option V), σ = [some (.ref p), some (.ref q), u2, u3] ∧ Same H2 H' ∧ ∀ i', i' < i → ∀ j, j < lenP n m i' → wsm (gP i' j) fms (ts.map wtT) = 0) ⟨_, _, rfl, Same.refl _, fun i' h => absurd h (by omega)⟩ (fun i σ H' _ ⟨_, _, _, k', _⟩ => SqL.of (k' _ _ e2)) ?_ ?_
      · rintro i x σ H3 hx ⟨u2, u3, rfl, K3, hz⟩
        have hi : i < 2 := by
          have := (List.getElem?_eq_some_iff.mp hx).1
          simpa using this
        have ex : x = .int (i : Int) := by
          rw [List.getElem?_map, List.getElem?_eq_getElem (by simpa using hi), List.getElem_range] at hx
          exact (Option.some.inj hx).symm
        subst ex
        have K03 := K02.trans K3
        obtain ⟨c0, us0, f1, f2, f3⟩ := fm_part (hF0.same K03) hi
        have hlp := pl_len ho0 i
        have hl10 : lenP n m i ≤ 10 := by cases i <;> assumption
        walk_at "v"
        refine w_ixL (K03 _ _ hp) (atI_nat (j := 0) hr0) ?_
        walk_at "v"
        refine w_ixT f1 (atI_nat f2) ?_
        walk_at "v"
        refine ⟨c0, _, rfl, f3, ?_⟩
        rw [List.length_map, hlp]
        walk_at "v"
        refine ⟨_, rfl, by omega, by omega, ?_⟩
        rw [Int.toNat_natCast]
        refine for_range (n := lenP n m i) (fun j σ H' => ∃ (u3 : Option V), σ = [some (.ref p), some (.ref q), some (.int (i : Int)), u3] ∧ Same H3 H' ∧ ∀ j', j' < j → wsm (gP i j') fms (ts.map wtT) = 0) ⟨_, rfl, Same.refl _, fun j' h => absurd h (by omega)⟩ ?_ ?_
        · rintro j σ H4 hj ⟨u3, rfl, K4, hzj⟩
          rw [Int.zero_add]
          have K04 := K03.trans K4
          walk_at "v"
          refine ⟨q, rfl, ⟨_, SqT.of (K04 _ _ hq)⟩, fun D hD => ?_⟩
          refine prs_mapT (xs := ts) (ρ := [some (.ref p), some (.int (j : Int)), some (.int (i : Int))]) (fun t => .int (fstT t)) (fun t => .int (sndT t)) (fun t => .int (sndT t * gP i j (fms.getD (fstT t).toNat f0))) (K04 _ _ hq) hwl (by omega) (fun i q' t' e1 e2 => K04 _ _ (hws i q' t' e1 e2)) (fun i' t' H' ht' K' R kR => ?_) (fun H5 K5 e5 => ?_) hD
          · have hm' := List.mem_of_getElem? ht'
            have hb' := hbd t' hm'
            obtain ⟨r, f, g1, g2, g3, g4⟩ := hget t' hm'
            obtain ⟨c, us, c1, c2, c3⟩ := fm_part (g3.same (K04.trans K')) hi
            have hl' := pl_len g4 i
            have hj' : j < (pl i f).length := by omega
            have hg : gP i j (fms.getD (fstT t').toNat f0) = (pl i f)[j] := by
              rw [g2]
              unfold gP
              simp [List.getD_eq_getElem?_getD, hj']
            rw [hg] at kR
            have hbx := pl_bd g4 i _ (List.getElem_mem hj')
            have ef : fstT t' = (((fstT t').toNat : Nat) : Int) := (Int.toNat_of_nonneg hb'.1).symm
            walk_at "v"
            rw [ef]
            refine w_ixL ((K04.trans K') _ _ hp) (atI_nat g1) ?_
            walk_at "v"
            refine w_ixT c1 (atI_nat c2) ?_
            walk_at "v"
            refine w_ixT c3 (v := .int (pl i f)[j]) (atI_nat (by simp [hj'])) ?_
            refine w_rI (.inl ⟨by omega, by omega⟩) ?_
            exact kR _ (Same.refl _)
          walk_at "v"
          refine ⟨D, _, rfl, by rw [e5, int_map], ?_⟩
          rw [wsm_map]
          walk_at "v"
          refine ⟨rfl, ?_⟩
          walk_at "v"
          refine iteNB (fun hne => ?_) (fun he => ?_)
          · walk_at "v"
            rw [zer_no hi hj (fun z => hne (by rw [z])), Bool.false_and] at k
            exact k _ (K04.trans K5)
          · refine ⟨_, rfl, K4.trans K5, fun j' hj' => ?_⟩
            by_cases hjj : j' = j
            · rw [hjj]
              exact V.int.inj he
            · exact hzj j' (by omega)
        · rintro σ H4 ⟨u3, rfl, K4, hzj⟩
          refine ⟨_, _, rfl, K3.trans K4, fun i' hi' j hj => ?_⟩
          by_cases hii : i' = i
          · rw [hii] at hj ⊢
            exact hzj j hj
          · exact hz i' (by omega) j hj
      · rintro σ H3 ⟨u2, u3, rfl, K3, hz⟩
        have K03 := K02.trans K3
        rw [zer_of (n := n) (m := m) (fun i hi => hz i (by simpa using hi)), Bool.true_and] at k
        walk_at "v"
        refine ⟨q, rfl, ⟨_, SqT.of (K03 _ _ hq)⟩, fun D hD => ?_⟩
        refine prs_mapT (xs := ts) (ρ := [some (.ref p)]) (fun t => .int (fstT t)) (fun t => .int (sndT t)) (fun t => .int (sndT t * (fms.getD (fstT t).toNat f0).plus)) (K03 _ _ hq) hwl (by omega) (fun i q' t' e1 e2 => K03 _ _ (hws i q' t' e1 e2)) (fun i' t' H' ht' K' R kR => ?_) (fun H5 K5 e5 => ?_) hD
        · have hm' := List.mem_of_getElem? ht'
          have hb' := hbd t' hm'
          obtain ⟨r, f, g1, g2, g3, g4⟩ := hget t' hm'
          obtain ⟨a', b', c1, _, _⟩ := g3.same (K03.trans K')
          rw [g2] at kR
          have hbx := g4.bp
          have ef : fstT t' = (((fstT t').toNat : Nat) : Int) := (Int.toNat_of_nonneg hb'.1).symm
          walk_at "v"
          rw [ef]
          refine w_ixL ((K03.trans K') _ _ hp) (atI_nat g1) ?_
          walk_at "v"
          refine w_ixT c1 rfl ?_
          refine w_rI (.inl ⟨by omega, by omega⟩) ?_
          exact kR _ (Same.refl _)
        walk_at "v"
        refine ⟨D, _, rfl, by rw [e5, int_map], ?_⟩
        rw [wsm_map Fm.plus]
        walk_at "v"
        exact k _ (K03.trans K5)
end
end K27

set_option Elab.async false
set_option linter.all false
set_option maxRecDepth 100000
namespace K27
open PySem L2 G2
local macro_rules | `(tactic| walk_at "v") => `(tactic| repeat (with_reducible first
  | refine w_seq ?_ | refine w_asg ?_ | refine w_gname ?_ | refine w_op ?_ | refine w_var rfl ?_ | refine w_c ?_ | refine w_rI0 ?_ | refine w_ifs ?_ | refine w_ife ?_ | refine w_test ?_ | refine w_tb ?_ | refine w_bl ?_ | refine w_not ?_ | refine w_ret ?_ | refine w_retN ?_
  | refine w_nil ?_ | refine w_cons ?_ | refine w_lst ?_ | refine w_tup ?_ | refine w_cb ?_ | refine w_call ?_ | refine w_gsub ?_ | refine w_and ?_ | refine w_or ?_ | refine w_next ?_ | refine w_all ?_ | refine w_vals ?_ | refine w_compR ?_ | refine w_compT ?_ | refine w_forR ?_ | refine w_forT ?_ | refine w_forL ?_ | refine w_drop ?_ | refine w_bm ?_ | refine w_compZ ?_ | refine w_compL ?_ | refine w_chain ?_ | refine w_sl ?_ | refine w_nopart ?_ | refine w_part ?_ | refine w_unI ?_ | refine iteT ?_ | refine iteF ?_))

abbrev sSf : Stmt := top 19
abbrev nSf : List Str := ["_law_tape_here", "_law_inputs", "_law_sorts", "_law_by"]
theorem nmSf : Nm nSf (defScope sSf) := ⟨by decide +kernel, by decide +kernel⟩
theorem scSf : FnScope nSf ["_law_tape_here", "_law_inputs", "_law_sorts"] (defScope sSf) := ⟨rfl, rfl, rfl, by decide +kernel, rfl, by decide +kernel, by decide +kernel⟩

def asgCallC (s : Stmt) : Scope := match s with
  | .Assign _ (.Call _ [.ListComp _ _ sc _] _ _) _ => sc
  | _ => { kind := .function, names := [], isGenerator := false, isCoroutine := false }
abbrev cSfA : Scope := asgCallC ((defBody sSf).getD 0 (.Pass ⟨0, 0, 0, 0⟩))
abbrev cSfB : Scope := tupComp ((defBody sSf).getD 1 (.Pass ⟨0, 0, 0, 0⟩)) 1
theorem bsSfA : BScope (defScope sSf) cSfA ["_law_k"] ["_law_tape_here"] ["_law_draw"] := { okind := by decide +kernel, kind := by decide +kernel, nocell := by decide +kernel, names := by decide +kernel, fr := by decide +kernel, ff := by decide +kernel, nd := by decide +kernel, vis := by decide +kernel, loc := by decide +kernel, gl := by decide +kernel }
theorem bsSfB : BScope (defScope sSf) cSfB ["_law_k"] ["_law_tape_here"] ["_law_draw"] := { okind := by decide +kernel, kind := by decide +kernel, nocell := by decide +kernel, names := by decide +kernel, fr := by decide +kernel, ff := by decide +kernel, nd := by decide +kernel, vis := by decide +kernel, loc := by decide +kernel, gl := by decide +kernel }

theorem pickL {xs : List Int} {r : Int} (h0 : 0 ≤ r) (h1 : r < xs.length) : ∃ x, x ∈ xs ∧ atI (xs.map V.int) r = some (.int x) := by
  obtain ⟨j, rfl⟩ := ofI h0
  have hj : j < xs.length := by omega
  exact ⟨xs[j], List.getElem_mem hj, atI_nat (by simp [hj])⟩
theorem PK.put {p a : Addr} {H H' : Hp} {o : HO} (k : PK p H H') (h : H a = none) : PK p H (upd H' a o) :=
  ⟨⟨fun q xs e => by rw [upd_ne (ne_of_none e h)]; exact k.t _ _ e, fun q xs e => by rw [upd_ne (ne_of_none e h)]; exact k.l _ _ e, fun q xs e => by rw [upd_ne (ne_of_none e h)]; exact k.d _ _ e⟩, fun q o' hq e => by rw [upd_ne (ne_of_none e h)]; exact k.bp q o' hq e⟩
theorem PK.new {p a : Addr} {H : Hp} {o : HO} (h : H a = none) : PK p H (upd H a o) := PK.refl.put h
theorem PK.tk {p : Addr} {H H' : Hp} (k : PK p H H') {q : Addr} {xs : List V} (e : H q = some (.tup xs)) : H' q = some (.tup xs) := k.t _ _ e
theorem PK.fm {p : Addr} {H H' : Hp} (k : PK p H H') {q : Addr} {f : Fm} : FmAt H q f → FmAt H' q f
  | ⟨a, b, h1, h2, h3⟩ => ⟨a, b, k.t _ _ h1, k.t _ _ h2, k.t _ _ h3⟩
theorem PK.fs {p : Addr} {H H' : Hp} (k : PK p H H') {fs : List Addr} {fms : List Fm} (h : FsAt H fs fms) : FsAt H' fs fms := ⟨h.1, fun i q f e1 e2 => k.fm (h.2 i q f e1 e2)⟩
/-- numbers drawn, one after another -/
theorem rng_dr {n : Nat} {D p l : Addr} {ns : List Int} {te : TE} {Q : VK} {ρ : St} {H : Hp} (b : Int → Prop) (hn : n ≤ 1000) (T : Tp H p l ns) (hD : H D = none)
    (step : ∀ (i : Nat) (H' : Hp), i < n → Tp H' p l ns → PK p H H' → ∀ R : VK, (∀ x H'', b x → Tp H'' p l ns → PK p H' H'' → R (.int x) H'') → te (some (.int (i : Int)) :: ρ) H' R)
    (q : ∀ (xs : List Int) (H' : Hp), xs.length = n → (∀ x ∈ xs, b x) → Tp H' p l ns → PK p H H' → H' D = some (.lst (xs.map V.int)) → Q (.ref D) H') : CGo (Itr 0 n) D (gName 0) tAll te Q (none :: ρ) H := by
  have npD := T.np hD
  have nlD := T.nl hD
  refine cgo_range (fun i ys H' => ∃ xs : List Int, ys = xs.map V.int ∧ xs.length = i ∧ (∀ x ∈ xs, b x) ∧ Tp H' p l ns ∧ PK p H H') ⟨[], rfl, rfl, (fun x hx => by cases hx), T.put npD nlD, PK.new hD⟩ ?_ ?_
  · rintro i ys H' hi ⟨xs, rfl, hl, hb, T', P'⟩ hDy R S kR _
    rw [Int.zero_add]
    refine w_all ?_
    refine iteT ?_
    refine step i H' hi T' P' R fun x H'' hx T'' P'' => ?_
    refine kR _ _ (P''.bp _ _ (Ne.symm npD) hDy) (by rw [List.length_map]; exact small1000 (by omega)) ⟨xs ++ [x], by rw [List.map_append]; rfl, by rw [List.length_append, hl]; rfl, fun y hy => ?_, T''.put npD nlD, (P'.trans P'').put hD⟩
    rcases List.mem_append.mp hy with z | z
    · exact hb y z
    · rw [List.mem_singleton.mp z]
      exact hx
  · rintro ys H' ⟨xs, rfl, hl, hb, T', P'⟩ hDy
    exact q xs H' hl hb T' P' hDy
theorem lst_dr {D p l a : Addr} {K : PySem.W.Frag} {vs : List V} {ns : List Int} {te : TE} {Q : VK} {ρ : St} {H : Hp} (b : Int → Prop) (ha : H a = some (.lst vs)) (hap : a ≠ p) (hn : vs.length ≤ 1000) (T : Tp H p l ns) (hD : H D = none)
    (step : ∀ (v : V) (H' : Hp), Tp H' p l ns → PK p H H' → ∀ R : VK, (∀ x H'', b x → Tp H'' p l ns → PK p H' H'' → R (.int x) H'') → te (some v :: ρ) H' R)
    (q : ∀ (xs : List Int) (H' : Hp), xs.length = vs.length → (∀ x ∈ xs, b x) → Tp H' p l ns → PK p H H' → H' D = some (.lst (xs.map V.int)) → Q (.ref D) H') : CGo (Itl K a) D (gName 0) tAll te Q (none :: ρ) H := by
  have npD := T.np hD
  have nlD := T.nl hD
  refine cgo_list (xs := vs) (fun i ys H' => ∃ xs : List Int, ys = xs.map V.int ∧ xs.length = i ∧ (∀ x ∈ xs, b x) ∧ Tp H' p l ns ∧ PK p H H') ⟨[], rfl, rfl, (fun x hx => by cases hx), T.put npD nlD, PK.new hD⟩ (fun i ys H' _ ⟨_, _, _, _, _, P'⟩ => SqL.of (P'.bp _ _ hap ha)) ?_ ?_
  · rintro i v ys H' hv ⟨xs, rfl, hl, hb, T', P'⟩ hDy R S kR _
    have hi := (List.getElem?_eq_some_iff.mp hv).1
    refine w_all ?_
    refine iteT ?_
    refine step v H' T' P' R fun x H'' hx T'' P'' => ?_
    refine kR _ _ (P''.bp _ _ (Ne.symm npD) hDy) (by rw [List.length_map]; exact small1000 (by omega)) ⟨xs ++ [x], by rw [List.map_append]; rfl, by rw [List.length_append, hl]; rfl, fun y hy => ?_, T''.put npD nlD, (P'.trans P'').put hD⟩
    rcases List.mem_append.mp hy with z | z
    · exact hb y z
    · rw [List.mem_singleton.mp z]
      exact hx
  · rintro ys H' ⟨xs, rfl, hl, hb, T', P'⟩ hDy
    exact q xs H' hl hb T' P' hDy
def spSf : Sp := fun vs H Q _ => ∃ (p l : Addr) (ns : List Int) (n m : Nat), vs = [.ref p, .int (n : Int), .int (m : Int)] ∧ Tp H p l ns ∧ n ≤ 10 ∧ m ≤ 10 ∧ ∀ (q : Addr) (f : Fm) (H' : Hp), FmAt H' q f → FmOk n m 10 f → Tp H' p l ns → PK p H H' → Q (.ref q) H'
section
variable {P : Program} {w : World} {K : PySem.W.Frag} {mg : Str → Option Value} {base : Heap}
set_option maxHeartbeats 4000000 in
theorem ok_Sf {f : Addr} {fd : FuncData} (B : Blt mg) (D : Has P w K mg base 1 "_law_draw" ["_law_tape_here", "_law_many"] spDraw) (F : Fun K "_law_small_form" "_law_small_form" sSf f fd) : FnOk P w K mg base CX0 2 f fd ["_law_tape_here", "_law_inputs", "_law_sorts"] spSf := by
  refine F.ok scSf (fun vs H Q E h => ?_) (fun cdv A outer s H vs Q E hr h => ?_)
  · obtain ⟨p, l, ns, n, m, rfl, _⟩ := h
    rfl
  · obtain ⟨p, l, ns, n, m, rfl, T0, hn, hm, k⟩ := h
    refine' ⟨_, ?hb, ?rd⟩
    case hb =>
      refine' pss_cons ?s1 ?r1
      case' r1 => refine' pss_one ?s2
      case s1 =>
        refine' ps_setD nmSf 3 ?a1
        case' a1 => refine' pe_cT call_tupL B.tuple PyProof.Rows.boot_tuple ?a2
        case' a2 => refine' pa_1 ?a3
        case a3 =>
          refine' pe_comp (ix := [0]) bsSfA.toCScope rfl rfl (pi_r1 B.range (pa_1 (pvd nmSf 1))) ?h4 ?h5 ?h6
          case h4 => exact fun _ _ _ _ _ _ => pgb bsSfA 0
          case h5 => exact fun _ _ _ _ _ _ => pts_nil
          case h6 =>
            intro _ _ _ _ _ _
            refine' pe_ix ix_d ?h7 ?h8 (fun _ _ => rfl)
            case h7 => exact pe_lst (pa_c pe_int (pa_c pe_int (pa_c pe_int (pa_2 pe_neg pe_int))))
            case h8 => exact (pe_f D hr (by decide) (pa_2 (pvb bsSfA 1) pe_int) (bsSfA.g 0))
      case s2 =>
        refine' ps_ret ?b1
        case' b1 => refine' pe_tup ?b2
        case' b2 => refine' pa_c (pvd nmSf 3) ?b3
        case' b3 => refine' pa_2 ?b4 ?b5
        case b5 => exact pe_op op_sub (pe_f D hr (by decide) (pa_2 (pvd nmSf 0) pe_int)) pe_int
        case' b4 => refine' pe_cT call_tupL B.tuple PyProof.Rows.boot_tuple ?b6
        case' b6 => refine' pa_1 ?b7
        case b7 =>
          refine' pe_comp (ix := [0]) bsSfB.toCScope rfl rfl (pi_r1 B.range (pa_1 (pvd nmSf 2))) ?j4 ?j5 ?j6
          case j4 => exact fun _ _ _ _ _ _ => pgb bsSfB 0
          case j5 => exact fun _ _ _ _ _ _ => pts_nil
          case j6 =>
            intro _ _ _ _ _ _
            refine' pe_ix ix_d ?j7 ?j8 (fun _ _ => rfl)
            case j7 => exact pe_lst (pa_c pe_int (pa_c pe_int (pa_c pe_int (pa_2 pe_neg pe_int))))
            case j8 => exact (pe_f D hr (by decide) (pa_2 (pvb bsSfB 1) pe_int) (bsSfB.g 0))
    case rd =>
      walk_at "v"
      refine ⟨_, rfl, by omega, by omega, fun D1 hD1 => ?_⟩
      rw [Int.toNat_natCast]
      refine rng_dr (ρ := [some (.ref p)]) (fun x => -10 ≤ x ∧ x ≤ 10) (by omega) T0 hD1 (fun i H' hi T' P' R kR => ?_) (fun xs H1 hx1 hx2 T1 P1 e1 => ?_)
      · walk_at "v"
        refine ⟨by show 5 ≤ sizeLine; decide, fun il hil => ?_⟩
        have npi := T'.np hil
        have K1' : Same H' (upd H' il (.lst [.int 0, .int 0, .int 1, .int (-1), .int 2])) := Same.new (Same.refl _) hil
        have e1' : upd H' il (.lst [.int 0, .int 0, .int 1, .int (-1), .int 2]) il = some (.lst (([0, 0, 1, -1, 2] : List Int).map V.int)) := upd_same
        generalize upd H' il (.lst [.int 0, .int 0, .int 1, .int (-1), .int 2]) = G1 at K1' e1' ⊢
        have T1' := T'.same K1'
        walk_at "v"
        refine ⟨p, l, ns, 5, rfl, T1', by decide, by decide, fun r c e r0 r1 => ?_⟩
        obtain ⟨bv, hbv, hat⟩ := pickL (xs := [0, 0, 1, -1, 2]) r0 r1
        refine w_ixL (by rw [upd_ne (Ne.symm npi)]; exact e1') hat ?_
        refine kR bv _ ?_ T1'.draw ((PK.same K1').trans T1'.pk)
        simp only [List.mem_cons, List.not_mem_nil, or_false] at hbv
        rcases hbv with rfl | rfl | rfl | rfl | rfl <;> decide
      walk_at "v"
      refine ⟨D1, _, rfl, e1, fun q1 H2 K2 e2 => ?_⟩
      have T2 := T1.same K2
      walk_at "v"
      refine ⟨_, rfl, by omega, by omega, fun D2 hD2 => ?_⟩
      rw [Int.toNat_natCast]
      refine rng_dr (ρ := [some (.ref p)]) (fun x => -10 ≤ x ∧ x ≤ 10) (by omega) T2 hD2 (fun i H' hi T' P' R kR => ?_) (fun ys H3 hy1 hy2 T3 P3 e3 => ?_)
      · walk_at "v"
        refine ⟨by show 5 ≤ sizeLine; decide, fun il hil => ?_⟩
        have npi := T'.np hil
        have K1' : Same H' (upd H' il (.lst [.int 0, .int 0, .int 1, .int (-1), .int 3])) := Same.new (Same.refl _) hil
        have e1' : upd H' il (.lst [.int 0, .int 0, .int 1, .int (-1), .int 3]) il = some (.lst (([0, 0, 1, -1, 3] : List Int).map V.int)) := upd_same
        generalize upd H' il (.lst [.int 0, .int 0, .int 1, .int (-1), .int 3]) = G1 at K1' e1' ⊢
        have T1' := T'.same K1'
        walk_at "v"
        refine ⟨p, l, ns, 5, rfl, T1', by decide, by decide, fun r c e r0 r1 => ?_⟩
        obtain ⟨bv, hbv, hat⟩ := pickL (xs := [0, 0, 1, -1, 3]) r0 r1
        refine w_ixL (by rw [upd_ne (Ne.symm npi)]; exact e1') hat ?_
        refine kR bv _ ?_ T1'.draw ((PK.same K1').trans T1'.pk)
        simp only [List.mem_cons, List.not_mem_nil, or_false] at hbv
        rcases hbv with rfl | rfl | rfl | rfl | rfl <;> decide
      walk_at "v"
      refine ⟨D2, _, rfl, e3, fun q2 H4 K4 e4 => ?_⟩
      have T4 := T3.same K4
      walk_at "v"
      refine ⟨p, l, ns, 9, rfl, T4, by decide, by decide, fun r c e r0 r1 => ?_⟩
      have P5 : PK p H4 (upd H4 p (.lst [.ref l, .int c, .int e])) := T4.pk
      have T5 := T4.draw (c := c) (e := e)
      generalize upd H4 p (.lst [.ref l, .int c, .int e]) = H5 at P5 T5 ⊢
      walk_at "v"
      refine ⟨by show 3 ≤ sizeLine; decide, fun z hz => ?_⟩
      have K6 : Same H5 (upd H5 z (.tup [.ref q1, .ref q2, .int (r - 4)])) := Same.new (Same.refl _) hz
      have e6 : upd H5 z (.tup [.ref q1, .ref q2, .int (r - 4)]) z = some (.tup [.ref q1, .ref q2, .int (r - 4)]) := upd_same
      generalize upd H5 z (.tup [.ref q1, .ref q2, .int (r - 4)]) = H6 at K6 e6 ⊢
      have P36 := ((PK.same K4).trans P5).trans (PK.same K6)
      have P26 := P3.trans P36
      exact k z ⟨xs, ys, r - 4⟩ H6 ⟨q1, q2, e6, P26.t _ _ e2, (P5.trans (PK.same K6)).t _ _ e4⟩ ⟨hx1, hy1, hx2, hy2, by show -10 ≤ r - 4 ∧ r - 4 ≤ 10; omega⟩ (T5.same K6) ((P1.trans (PK.same K2)).trans P26)
end
end K27

set_option Elab.async false
set_option linter.all false
set_option maxRecDepth 100000
namespace K27
open PySem L2 G2
local macro_rules | `(tactic| walk_at "v") => `(tactic| repeat (with_reducible first
  | refine w_seq ?_ | refine w_asg ?_ | refine w_gname ?_ | refine w_op ?_ | refine w_var rfl ?_ | refine w_c ?_ | refine w_rI0 ?_ | refine w_ifs ?_ | refine w_ife ?_ | refine w_test ?_ | refine w_tb ?_ | refine w_bl ?_ | refine w_not ?_ | refine w_ret ?_ | refine w_retN ?_
  | refine w_nil ?_ | refine w_cons ?_ | refine w_lst ?_ | refine w_tup ?_ | refine w_cb ?_ | refine w_call ?_ | refine w_gsub ?_ | refine w_and ?_ | refine w_or ?_ | refine w_next ?_ | refine w_all ?_ | refine w_vals ?_ | refine w_compR ?_ | refine w_compT ?_ | refine w_forR ?_ | refine w_forT ?_ | refine w_forL ?_ | refine w_drop ?_ | refine w_bm ?_ | refine w_compZ ?_ | refine w_compL ?_ | refine w_chain ?_ | refine w_sl ?_ | refine w_nopart ?_ | refine w_part ?_ | refine w_unI ?_ | refine iteT ?_ | refine iteF ?_))

abbrev sCl : Stmt := top 20
abbrev nCl : List Str := ["_law_tape_here", "_law_forms", "_law_often", "_law_times", "_law_lists", "_law_part", "_law_many", "_law_plus", "_law_rest", "_law_more", "_law_at", "_law_weights"]
theorem nmCl : Nm nCl (defScope sCl) := ⟨by decide +kernel, by decide +kernel⟩
theorem scCl : FnScope nCl ["_law_tape_here", "_law_forms"] (defScope sCl) := ⟨rfl, rfl, rfl, by decide +kernel, rfl, by decide +kernel, by decide +kernel⟩

def appC1 (s : Stmt) : Scope := match s with
  | .Expr (.Call _ [.ListComp _ _ sc _] _ _) _ => sc
  | _ => { kind := .function, names := [], isGenerator := false, isCoroutine := false }
def appC2 (s : Stmt) : Scope := match s with
  | .Expr (.Call _ [.ListComp (.Call _ [.ListComp _ _ sc _] _ _) _ _ _] _ _) _ => sc
  | _ => { kind := .function, names := [], isGenerator := false, isCoroutine := false }
def asgTupI (s : Stmt) (i : Nat) : Scope := match s with
  | .Assign _ (.Tuple es _ _) _ => match es.getD i (.Name "" ⟨0, 0, 0, 0⟩) with
    | .Call _ [.ListComp _ _ sc _] _ _ => sc
    | _ => { kind := .function, names := [], isGenerator := false, isCoroutine := false }
  | _ => { kind := .function, names := [], isGenerator := false, isCoroutine := false }
abbrev cClT : Scope := asgComp ((defBody sCl).getD 1 (.Pass ⟨0, 0, 0, 0⟩))
abbrev cClO : Scope := appC1 ((forB ((defBody sCl).getD 3 (.Pass ⟨0, 0, 0, 0⟩))).getD 1 (.Pass ⟨0, 0, 0, 0⟩))
abbrev cClI : Scope := appC2 ((forB ((defBody sCl).getD 3 (.Pass ⟨0, 0, 0, 0⟩))).getD 1 (.Pass ⟨0, 0, 0, 0⟩))
abbrev cClP : Scope := asgCallC ((defBody sCl).getD 4 (.Pass ⟨0, 0, 0, 0⟩))
abbrev cClR0 : Scope := asgTupI ((defBody sCl).getD 5 (.Pass ⟨0, 0, 0, 0⟩)) 0
abbrev cClR1 : Scope := asgTupI ((defBody sCl).getD 5 (.Pass ⟨0, 0, 0, 0⟩)) 1
abbrev cClW : Scope := asgCallC ((defBody sCl).getD 9 (.Pass ⟨0, 0, 0, 0⟩))
theorem nbCl : NBScope (defScope sCl) cClO ["_law_j"] ["_law_forms", "_law_part", "_law_times"] ["range", "len", "sum"] := { okind := by decide +kernel, kind := by decide +kernel, names := by decide +kernel, clN := by decide +kernel, fr := by decide +kernel, ff := by decide +kernel, nd := by decide +kernel, vis := by decide +kernel, loc := by decide +kernel, gl := by decide +kernel }
theorem bsClI : BScope (relabelS cClO (defScope sCl)) cClI ["_law_k"] ["_law_forms", "_law_j", "_law_part", "_law_times"] [] := { okind := by decide +kernel, kind := by decide +kernel, nocell := by decide +kernel, names := by decide +kernel, fr := by decide +kernel, ff := by decide +kernel, nd := by decide +kernel, vis := by decide +kernel, loc := by decide +kernel, gl := by decide +kernel }
theorem bsClT : BScope (defScope sCl) cClT ["_law_form"] ["_law_often", "_law_tape_here"] ["_law_draw"] := { okind := by decide +kernel, kind := by decide +kernel, nocell := by decide +kernel, names := by decide +kernel, fr := by decide +kernel, ff := by decide +kernel, nd := by decide +kernel, vis := by decide +kernel, loc := by decide +kernel, gl := by decide +kernel }
theorem bsClP : BScope (defScope sCl) cClP ["_law_k"] ["_law_forms", "_law_times"] [] := { okind := by decide +kernel, kind := by decide +kernel, nocell := by decide +kernel, names := by decide +kernel, fr := by decide +kernel, ff := by decide +kernel, nd := by decide +kernel, vis := by decide +kernel, loc := by decide +kernel, gl := by decide +kernel }
theorem bsClR0 : BScope (defScope sCl) cClR0 ["_law_one"] ["_law_often"] [] := { okind := by decide +kernel, kind := by decide +kernel, nocell := by decide +kernel, names := by decide +kernel, fr := by decide +kernel, ff := by decide +kernel, nd := by decide +kernel, vis := by decide +kernel, loc := by decide +kernel, gl := by decide +kernel }
theorem bsClR1 : BScope (defScope sCl) cClR1 ["_law_one"] ["_law_often"] [] := { okind := by decide +kernel, kind := by decide +kernel, nocell := by decide +kernel, names := by decide +kernel, fr := by decide +kernel, ff := by decide +kernel, nd := by decide +kernel, vis := by decide +kernel, loc := by decide +kernel, gl := by decide +kernel }
theorem bsClW : BScope (defScope sCl) cClW ["_law_k"] ["_law_times"] [] := { okind := by decide +kernel, kind := by decide +kernel, nocell := by decide +kernel, names := by decide +kernel, fr := by decide +kernel, ff := by decide +kernel, nd := by decide +kernel, vis := by decide +kernel, loc := by decide +kernel, gl := by decide +kernel }

/-- all but what stands at x stays -/
def Bt1 (x : Addr) (H H' : Hp) : Prop := ∀ q o, q ≠ x → H q = some o → H' q = some o
theorem _root_.G2.Tp.but {x p l : Addr} {H H' : Hp} {ns : List Int} (t : Tp H p l ns) (h1 : p ≠ x) (h2 : l ≠ x) (k : Bt1 x H H') : Tp H' p l ns := let ⟨c, e, h⟩ := t.ex; ⟨⟨c, e, k _ _ h1 h⟩, k _ _ h2 t.hl, t.ne⟩
theorem PK.but {p x : Addr} {H H1 H2 : Hp} (a : PK p H H1) (hx : H x = none) (k : Bt1 x H1 H2) : PK p H H2 :=
  ⟨⟨fun q xs e => k _ _ (ne_of_none e hx) (a.t _ _ e), fun q xs e => let ⟨ys, h⟩ := a.l _ _ e; ⟨ys, k _ _ (ne_of_none e hx) h⟩, fun q xs e => let ⟨ys, h⟩ := a.d _ _ e; ⟨ys, k _ _ (ne_of_none e hx) h⟩⟩, fun q o hq e => k _ _ (ne_of_none e hx) (a.bp _ _ hq e)⟩
theorem Bt1.trans {x : Addr} {H H1 H2 : Hp} (a : Bt1 x H H1) (b : Bt1 x H1 H2) : Bt1 x H H2 := fun q o hq h => b q o hq (a q o hq h)
theorem Bt1.same {x : Addr} {H H1 : Hp} (a : Same H H1) : Bt1 x H H1 := fun q o _ h => a q o h
theorem Bt1.put {x : Addr} {H : Hp} {o : HO} : Bt1 x H (upd H x o) := fun q o hq h => by rw [upd_ne hq]; exact h
theorem sum_bd (B : Nat) : ∀ xs : List Int, (∀ x ∈ xs, -(B : Int) ≤ x ∧ x ≤ (B : Int)) → -((B * xs.length : Nat) : Int) ≤ xs.sum ∧ xs.sum ≤ ((B * xs.length : Nat) : Int)
  | [], _ => by simp
  | x :: xs, h => by
    have h1 := h x List.mem_cons_self
    have h2 := sum_bd B xs fun y hy => h y (List.mem_cons_of_mem _ hy)
    rw [List.sum_cons, List.length_cons, Nat.mul_succ]
    omega
theorem mul_bd {a b : Int} (ha : 0 ≤ a ∧ a ≤ 9) (hb : -10 ≤ b ∧ b ≤ 10) : -90 ≤ a * b ∧ a * b ≤ 90 := by
  have h : a = 0 ∨ a = 1 ∨ a = 2 ∨ a = 3 ∨ a = 4 ∨ a = 5 ∨ a = 6 ∨ a = 7 ∨ a = 8 ∨ a = 9 := by omega
  rcases h with rfl | rfl | rfl | rfl | rfl | rfl | rfl | rfl | rfl | rfl <;> omega
theorem div_bd {x o : Int} (hx : -600 ≤ x ∧ x ≤ 600) (ho : 1 ≤ o ∧ o ≤ 3) : -600 ≤ x / o ∧ x / o ≤ 600 := by
  have h : o = 1 ∨ o = 2 ∨ o = 3 := by omega
  rcases h with rfl | rfl | rfl <;> omega
theorem cutI {xs : List V} {i : Nat} : cutV xs none (some (i : Int)) = xs.take i := by
  unfold cutV HT.sIx
  dsimp only
  rw [if_neg (by omega : ¬ (i : Int) < 0), Nat.sub_zero, List.drop_zero, Int.toNat_natCast]
  rcases Nat.le_total i xs.length with h | h
  · rw [Nat.min_eq_left h]
  · rw [Nat.min_eq_right h, List.take_of_length_le h, List.take_of_length_le (Nat.le_refl _)]
theorem cutJ {xs : List V} {i : Nat} : cutV xs (some (i : Int)) none = xs.drop i := by
  unfold cutV HT.sIx
  dsimp only
  rw [if_neg (by omega : ¬ (i : Int) < 0), Int.toNat_natCast]
  rcases Nat.le_total i xs.length with h | h
  · rw [Nat.min_eq_left h, List.take_of_length_le (by rw [List.length_drop]; exact Nat.le_refl _)]
  · rw [Nat.min_eq_right h, List.drop_of_length_le (Nat.le_refl _), List.drop_of_length_le h, List.take_nil]
theorem fs_fms {H : Hp} : ∀ {fs : List Addr} {fms : List Fm}, FsAt H fs fms → Fms H fs fms
  | [], [], _ => trivial
  | q :: fs, f :: fms, h => ⟨h.2 0 q f rfl rfl, fs_fms ⟨by have := h.1; simpa using this, fun i q f e1 e2 => h.2 (i + 1) q f (by simpa using e1) (by simpa using e2)⟩⟩
  | [], _ :: _, h => by have := h.1; simp at this
  | _ :: _, [], h => by have := h.1; simp at this
theorem fms_fs {H : Hp} : ∀ {fs : List Addr} {fms : List Fm}, Fms H fs fms → FsAt H fs fms
  | [], [], _ => ⟨rfl, fun i q f e _ => by simp at e⟩
  | q :: fs, f :: fms, h => by
    have ih := fms_fs h.2
    refine ⟨by rw [List.length_cons, List.length_cons, ih.1], fun i q' f' e1 e2 => ?_⟩
    cases i with
    | zero =>
      rw [List.getElem?_cons_zero] at e1 e2
      cases e1
      cases e2
      exact h.1
    | succ i =>
      rw [List.getElem?_cons_succ] at e1 e2
      exact ih.2 i q' f' e1 e2
  | [], _ :: _, h => h.elim
  | _ :: _, [], h => h.elim
theorem fms_take {H : Hp} : ∀ (n : Nat) {fs : List Addr} {fms : List Fm}, Fms H fs fms → Fms H (fs.take n) (fms.take n)
  | 0, _, _, _ => by rw [List.take_zero, List.take_zero]; trivial
  | n + 1, [], [], _ => trivial
  | n + 1, _ :: _, _ :: _, h => ⟨h.1, fms_take n h.2⟩
  | _ + 1, [], _ :: _, h => h.elim
  | _ + 1, _ :: _, [], h => h.elim
theorem fms_drop {H : Hp} : ∀ (n : Nat) {fs : List Addr} {fms : List Fm}, Fms H fs fms → Fms H (fs.drop n) (fms.drop n)
  | 0, _, _, h => h
  | n + 1, [], [], _ => trivial
  | n + 1, _ :: _, _ :: _, h => fms_drop n h.2
  | _ + 1, [], _ :: _, h => h.elim
  | _ + 1, _ :: _, [], h => h.elim
/-- weights -/
structure WtO (ts : List Th) : Prop where
  l8 : ts.length ≤ 8
  ok : ∀ t ∈ ts, ∃ a b : Int, t = .tup [.int a, .int b] ∧ (0 ≤ a ∧ a ≤ 9) ∧ (0 ≤ b ∧ b ≤ 9)
theorem ths_prs {H : Hp} : ∀ {as : List Addr} {ps : List (Int × Int)}, as.length = ps.length → (∀ (i : Nat) (a : Addr) (x : Int × Int), as[i]? = some a → ps[i]? = some x → H a = some (.tup [.int x.1, .int x.2])) → ThsAt H (as.map V.ref) (ps.map fun x => .tup [.int x.1, .int x.2])
  | [], [], _, _ => .nil
  | a :: as, x :: ps, hl, h => .cons (.tup (h 0 a x rfl rfl) (.cons (.int _) (.cons (.int _) .nil))) (ths_prs (by simpa using hl) fun i a x e1 e2 => h (i + 1) a x (by simpa using e1) (by simpa using e2))
  | [], _ :: _, hl, _ => by simp at hl
  | _ :: _, [], hl, _ => by simp at hl
theorem PK.free {p l a : Addr} {H H' : Hp} {ns : List Int} (k : PK p H H') (T' : Tp H' p l ns) (h : H' a = none) : H a = none := by
  cases e : H a with
  | none => rfl
  | some o =>
    have := k.bp _ _ (Ne.symm (T'.np h)) e
    rw [h] at this
    cases this
theorem FmOk.up {n m : Nat} {B C : Int} {f : Fm} (h : FmOk n m B f) (hc : B ≤ C) : FmOk n m C f := ⟨h.li, h.ls, fun x hx => by have := h.bi x hx; omega, fun x hx => by have := h.bs x hx; omega, by have := h.bp; omega⟩
theorem neg_div {o : Int} (ho : 1 ≤ o ∧ o ≤ 3) {xs : List Int} (h : ∀ x ∈ xs, -600 ≤ x ∧ x ≤ 600) : ∀ x ∈ xs.map fun x => 0 - x / o, -1000 ≤ x ∧ x ≤ 1000 := fun x hx => by
  obtain ⟨y, hy, rfl⟩ := List.mem_map.mp hx
  have := div_bd (h y hy) ho
  omega
def spCl : Sp := fun vs H Q _ => ∃ (p l : Addr) (ns : List Int) (fl : Addr) (fs : List Addr) (fms : List Fm) (n m : Nat), vs = [.ref p, .ref fl] ∧ Tp H p l ns ∧ fl ≠ p ∧ H fl = some (.lst (fs.map V.ref)) ∧ FsAt H fs fms ∧ (∀ f ∈ fms, FmOk n m 10 f) ∧ n ≤ 10 ∧ m ≤ 10 ∧ 0 < fms.length ∧ fms.length ≤ 6 ∧
  ∀ (r gl wq : Addr) (gs : List Addr) (gms : List Fm) (ts : List Th) (H' : Hp), H' r = some (.tup [.ref gl, .ref wq]) → H gl = none → H' gl = some (.lst (gs.map V.ref)) → FsAt H' gs gms → FsO n m gms → ThAt H' (.ref wq) (.tup ts) → WtO ts → Tp H' p l ns → PK p H H' → Q (.ref r) H'
section
variable {P : Program} {w : World} {K : PySem.W.Frag} {mg : Str → Option Value} {base : Heap}
set_option maxHeartbeats 4000000 in
theorem ok_Cl {f : Addr} {fd : FuncData} (B : Blt mg) (D : Has P w K mg base 1 "_law_draw" ["_law_tape_here", "_law_many"] spDraw) (F : Fun K "_law_closed" "_law_closed" sCl f fd) : FnOk P w K mg base CX0 2 f fd ["_law_tape_here", "_law_forms"] spCl := by
  refine F.ok scCl (fun vs H Q E h => ?_) (fun cdv A outer s H vs Q E hr h => ?_)
  · obtain ⟨p, l, ns, fl, fs, fms, n, m, rfl, _⟩ := h
    rfl
  · obtain ⟨p, l, ns, fl, fs, fms, n, m, rfl, T0, hfp, efl, hfs, hfo, hn, hm, hN, hN6, k⟩ := h
    refine' ⟨_, ?hb, ?rd⟩
    case hb =>
      refine' pss_cons ?s1 ?r1
      case' r1 => refine' pss_cons ?s2 ?r2
      case' r2 => refine' pss_cons ?s3 ?r3
      case' r3 => refine' pss_cons ?s4 ?r4
      case' r4 => refine' pss_cons ?s5 ?r5
      case' r5 => refine' pss_cons ?s6 ?r6
      case' r6 => refine' pss_cons ?s7 ?r7
      case' r7 => refine' pss_cons ?s8 ?r8
      case' r8 => refine' pss_cons ?s9 ?r9
      case' r9 => refine' pss_cons ?sa ?ra
      case' ra => refine' pss_one ?sb
      case s1 => exact ps_setD nmCl 2 (pe_op op_add pe_int (pe_f D hr (by decide) (pa_2 (pvd nmCl 0) pe_int)))
      case s2 =>
        refine' ps_setD nmCl 3 ?a1
        case a1 =>
          refine' pe_comp (ix := [2, 0]) bsClT.toCScope rfl rfl (pi_list (pvd nmCl 1)) ?a4 ?a5 ?a6
          case a4 => exact fun _ _ _ _ _ _ => pgb bsClT 0
          case a5 => exact fun _ _ _ _ _ _ => pts_nil
          case a6 => exact fun _ _ _ _ _ _ => pe_op op_mul (pe_f D hr (by decide) (pa_2 (pvb bsClT 2) pe_int) (bsClT.g 0)) (pvb bsClT 1)
      case s3 => exact ps_setD nmCl 4 (pe_lst pa_nil)
      case s4 =>
        refine' ps_for PassesOwn.never rfl (pi_list (pe_lst (pa_2 pe_int pe_int))) (pgd nmCl 5) ?b1
        case' b1 => refine' pss_cons ?b2 ?b3
        case b2 => exact ps_setD nmCl 6 (pe_cB call_lnT B.len PySem.boot_len (pa_1 (pe_ix ix_d (pe_ix ix_d (pvd nmCl 1) pe_int (fun _ _ => rfl)) (pvd nmCl 5) (fun _ _ => rfl))))
        case' b3 => refine' pss_one ?b4
        case' b4 => refine' ps_expr ?b5
        case' b5 => refine' pe_bm PySem.F.plainAttrs_list PySem.F.slot_list_append PySem.F.type_list_append mt_append (pvd nmCl 4) ?b6
        case' b6 => refine' pa_1 ?b7
        case b7 =>
          refine' pe_compN (ix := [1, 5, 3]) nbCl.toNScope rfl rfl (pi_r1 B.range (pa_1 (pvd nmCl 6))) ?c4 ?c5 ?c6
          case c4 => exact fun _ _ _ _ _ _ => pgbN nbCl 0
          case c5 => exact fun _ _ _ _ _ _ => pts_nil
          case c6 =>
            intro _ _ _ _ _ _
            refine' pe_cB (call_sum rfl) B.sum PyProof.Rows.boot_sum ?c7 (nbCl.g 2)
            case' c7 => refine' pa_1 ?c8
            case c8 =>
              refine' pe_comp (ix := [1, 0, 2, 3]) bsClI.toCScope rfl rfl ?d3 ?d4 ?d5 ?d6
              case d3 => exact pi_r1 B.range (pa_1 (pe_cB call_lnL B.len PySem.boot_len (pa_1 (pvbN nbCl 1)) (nbCl.g 1))) (nbCl.g 0)
              case d4 => exact fun _ _ _ _ _ _ => pgb bsClI 0
              case d5 => exact fun _ _ _ _ _ _ => pts_nil
              case d6 => exact fun _ _ _ _ _ _ => pe_op op_mul (pe_ix ix_d (pvb bsClI 4) (pvb bsClI 0) (fun _ _ => rfl)) (pe_ix ix_d (pe_ix ix_d (pe_ix ix_d (pvb bsClI 1) (pvb bsClI 0) (fun _ _ => rfl)) (pvb bsClI 3) (fun _ _ => rfl)) (pvb bsClI 2) (fun _ _ => rfl))
      case s5 =>
        refine' ps_setD nmCl 7 ?e1
        case' e1 => refine' pe_cB (call_sum rfl) B.sum PyProof.Rows.boot_sum ?e2
        case' e2 => refine' pa_1 ?e3
        case e3 =>
          refine' pe_comp (ix := [1, 3]) bsClP.toCScope rfl rfl (pi_r1 B.range (pa_1 (pe_cB call_lnL B.len PySem.boot_len (pa_1 (pvd nmCl 1))))) ?e4 ?e5 ?e6
          case e4 => exact fun _ _ _ _ _ _ => pgb bsClP 0
          case e5 => exact fun _ _ _ _ _ _ => pts_nil
          case e6 => exact fun _ _ _ _ _ _ => pe_op op_mul (pe_ix ix_d (pvb bsClP 2) (pvb bsClP 0) (fun _ _ => rfl)) (pe_ix ix_d (pe_ix ix_d (pvb bsClP 1) (pvb bsClP 0) (fun _ _ => rfl)) pe_int (fun _ _ => rfl))
      case s6 =>
        refine' ps_setD nmCl 8 ?f1
        case' f1 => refine' pe_tup ?f2
        case' f2 => refine' pa_2 ?f3 ?f4
        case' f3 => refine' pe_cT call_tupL B.tuple PyProof.Rows.boot_tuple ?f5
        case' f5 => refine' pa_1 ?f6
        case f6 =>
          refine' pe_comp (ix := [2]) bsClR0.toCScope rfl rfl (pi_list (pe_ix ix_d (pvd nmCl 4) pe_int (fun _ _ => rfl))) ?g4 ?g5 ?g6
          case g4 => exact fun _ _ _ _ _ _ => pgb bsClR0 0
          case g5 => exact fun _ _ _ _ _ _ => pts_nil
          case g6 => exact fun _ _ _ _ _ _ => pe_op op_sub pe_int (pe_op op_fdiv (pvb bsClR0 0) (pvb bsClR0 1))
        case' f4 => refine' pe_cT call_tupL B.tuple PyProof.Rows.boot_tuple ?f7
        case' f7 => refine' pa_1 ?f8
        case f8 =>
          refine' pe_comp (ix := [2]) bsClR1.toCScope rfl rfl (pi_list (pe_ix ix_d (pvd nmCl 4) pe_int (fun _ _ => rfl))) ?i4 ?i5 ?i6
          case i4 => exact fun _ _ _ _ _ _ => pgb bsClR1 0
          case i5 => exact fun _ _ _ _ _ _ => pts_nil
          case i6 => exact fun _ _ _ _ _ _ => pe_op op_sub pe_int (pe_op op_fdiv (pvb bsClR1 0) (pvb bsClR1 1))
      case s7 =>
        refine' ps_setD nmCl 9 ?j1
        case' j1 => refine' pe_op op_catG (pvd nmCl 8) ?j2
        case' j2 => refine' pe_tup ?j3
        case' j3 => refine' pa_1 ?j4
        case' j4 => refine' pe_op op_sub ?j5 pe_int
        case' j5 => refine' pe_op op_add ?j6 ?j7
        case j6 => exact pe_op op_sub pe_int (pe_op op_fdiv (pvd nmCl 7) (pvd nmCl 2))
        case j7 => exact pe_f D hr (by decide) (pa_2 (pvd nmCl 0) pe_int)
      case s8 => exact ps_setD nmCl 10 (pe_f D hr (by decide) (pa_2 (pvd nmCl 0) (pe_op op_add (pe_cB call_lnL B.len PySem.boot_len (pa_1 (pvd nmCl 1))) pe_int)))
      case s9 => exact ps_expr (pe_bm PySem.F.plainAttrs_list PySem.F.slot_list_insert PySem.F.type_list_insert mt_insert (pvd nmCl 3) (pa_2 (pvd nmCl 10) (pvd nmCl 2)))
      case sa =>
        refine' ps_setD nmCl 11 ?k1
        case' k1 => refine' pe_cT call_tupL B.tuple PyProof.Rows.boot_tuple ?k2
        case' k2 => refine' pa_1 ?k3
        case k3 =>
          refine' pe_comp (ix := [3]) bsClW.toCScope rfl rfl (pi_r1 B.range (pa_1 (pe_cB call_lnL B.len PySem.boot_len (pa_1 (pvd nmCl 3))))) ?k4 ?k5 ?k6
          case k4 => exact fun _ _ _ _ _ _ => pgb bsClW 0
          case k5 =>
            intro _ _ _ _ _ _
            refine' pts_one ?k7
            case k7 => exact pt_cmpR op_gt (pe_ix ix_d (pvb bsClW 1) (pvb bsClW 0) (fun _ _ => rfl)) pe_int (nomark _)
          case k6 => exact fun _ _ _ _ _ _ => pe_tup (pa_2 (pvb bsClW 0) (pe_ix ix_d (pvb bsClW 1) (pvb bsClW 0) (fun _ _ => rfl)))
      case sb =>
        refine' ps_ret ?l1
        case' l1 => refine' pe_tup ?l2
        case' l2 => refine' pa_2 ?l3 (pvd nmCl 11)
        case' l3 => refine' pe_op op_cat ?l4 ?l5
        case' l4 => refine' pe_op op_cat ?l6 (pe_lst (pa_1 (pvd nmCl 9)))
        case l6 => exact pe_slice sl_list (pvd nmCl 1) po_none (po_some (pvd nmCl 10))
        case l5 => exact pe_slice sl_list (pvd nmCl 1) (po_some (pvd nmCl 10)) po_none
    case rd =>
      have hfl := hfs.1
      walk_at "v"
      refine ⟨p, l, ns, 3, rfl, T0, by decide, by decide, fun r c e r0 r1 => ?_⟩
      have P1 : PK p H (upd H p (.lst [.ref l, .int c, .int e])) := T0.pk
      have T1 := T0.draw (c := c) (e := e)
      generalize upd H p (.lst [.ref l, .int c, .int e]) = H1 at P1 T1 ⊢
      have ho : 1 ≤ 1 + r ∧ 1 + r ≤ 3 := by omega
      walk_at "v"
      generalize 1 + r = o at ho ⊢
      refine ⟨fl, rfl, ⟨_, SqL.of (P1.bp _ _ hfp efl)⟩, fun tl htl => ?_⟩
      refine lst_dr (ρ := [some (.int o), some (.ref p)]) (fun x => 0 ≤ x ∧ x ≤ 9) (P1.bp _ _ hfp efl) hfp (by rw [List.length_map]; omega) T1 htl (fun v H' T' P' R kR => ?_) (fun xs H2 hx1 hx2 T2 P2 e2 => ?_)
      · walk_at "v"
        refine ⟨p, l, ns, 4, rfl, T', by decide, by decide, fun r c e r0 r1 => ?_⟩
        walk_at "v"
        refine w_rI (.inl ⟨by omega, by omega⟩) ?_
        refine kR (r * o) _ ?_ T'.draw T'.pk
        have h : o = 1 ∨ o = 2 ∨ o = 3 := by omega
        rcases h with h | h | h <;> rw [h] <;> omega
      have ntp : tl ≠ p := Ne.symm (T1.np htl)
      rw [List.length_map, hfl] at hx1
      have P02 := P1.trans P2
      walk_at "v"
      refine ⟨Nat.zero_le _, fun ll hll => ?_⟩
      have npl := T2.np hll
      have nll := T2.nl hll
      have ntl : tl ≠ ll := ne_of_none e2 hll
      have hfl2 := P02.bp _ _ hfp efl
      have nfl : fl ≠ ll := ne_of_none hfl2 hll
      have K3 : Same H2 (upd H2 ll (.lst [])) := Same.new (Same.refl _) hll
      have e3 : upd H2 ll (.lst []) ll = some (.lst []) := upd_same
      generalize upd H2 ll (.lst []) = H3 at K3 e3 ⊢
      walk_at "v"
      refine ⟨by show 2 ≤ sizeLine; decide, fun il hil => ?_⟩
      have nli : ll ≠ il := ne_of_none e3 hil
      have K4 : Same H3 (upd H3 il (.lst [.int 0, .int 1])) := Same.new (Same.refl _) hil
      have e4 : upd H3 il (.lst [.int 0, .int 1]) il = some (.lst ((List.range 2).map fun (i : Nat) => V.int (i : Int))) := upd_same
      generalize upd H3 il (.lst [.int 0, .int 1]) = H4 at K4 e4 ⊢
      have K24 := K3.trans K4
      have e34 := K4 _ _ e3
      have T4 := T2.same K24
      have P04 := P02.trans (PK.same K24)
      have eT4 := K24 _ _ e2
      have efl4 := K24 _ _ hfl2
      have hfs4 := P04.fs hfs
      have h0l : H2 ll = none := hll
      clear hll hil
      have hmv : ∀ (i j k : Nat), k < fms.length → -90 ≤ xs.getD k 0 * gP i j (fms.getD k f0) ∧ xs.getD k 0 * gP i j (fms.getD k f0) ≤ 90 := fun i j k hk => by
        have hkx : k < xs.length := by omega
        refine mul_bd ?_ ?_
        · rw [List.getD_eq_getElem?_getD, List.getElem?_eq_getElem hkx]
          exact hx2 _ (List.getElem_mem hkx)
        · rw [List.getD_eq_getElem?_getD (l := fms), List.getElem?_eq_getElem hk]
          show -10 ≤ gP i j fms[k] ∧ gP i j fms[k] ≤ 10
          unfold gP
          rw [List.getD_eq_getElem?_getD]
          cases h : (pl i fms[k])[j]? with
          | none => decide
          | some y => exact pl_bd (hfo _ (List.getElem_mem hk)) i y (List.mem_of_getElem? h)
      refine ⟨il, rfl, ⟨_, SqL.of e4⟩, ?_⟩
      refine for_list (xs := (List.range 2).map fun (i : Nat) => V.int (i : Int)) (fun i σ H' => ∃ (u5 u6 : Option V) (as : List Addr) (xss : List (List Int)), σ = [some (.ref p), some (.ref fl), some (.int o), some (.ref tl), some (.ref ll), u5, u6, none, none, none, none, none] ∧ as.length = i ∧ xss.length = i ∧ H' ll = some (.lst (as.map V.ref)) ∧ (∀ (i' : Nat) (a : Addr) (ys : List Int), as[i']? = some a → xss[i']? = some ys → H' a = some (.lst (ys.map V.int))) ∧ (∀ (i' : Nat) (ys : List Int), xss[i']? = some ys → ys.length = lenP n m i' ∧ ∀ y ∈ ys, -600 ≤ y ∧ y ≤ 600) ∧ (∀ a ∈ as, a ≠ ll) ∧ Bt1 ll H4 H') ⟨_, _, [], [], rfl, rfl, rfl, e34, (fun i' a ys e => by simp at e), (fun i' ys e => by simp at e), (fun a h => by cases h), fun q o _ h => h⟩ (fun i σ H' _ ⟨_, _, _, _, _, _, _, _, _, _, _, k'⟩ => SqL.of (k' _ _ (Ne.symm nli) e4)) ?_ ?_
      · rintro i x σ H5 hx ⟨u5, u6, as, xss, rfl, ha1, ha2, e5, ha3, ha4, ha5, b5⟩
        have hi : i < 2 := by
          have := (List.getElem?_eq_some_iff.mp hx).1
          simpa using this
        have ex : x = .int (i : Int) := by
          rw [List.getElem?_map, List.getElem?_eq_getElem (by simpa using hi), List.getElem_range] at hx
          exact (Option.some.inj hx).symm
        subst ex
        have eT5 := b5 _ _ ntl eT4
        have efl5 := b5 _ _ nfl efl4
        have P05 : PK p H4 H4 := PK.refl
        have hfs5 : FsAt H5 fs fms := ⟨hfl, fun i q f e1 e2 => by
          obtain ⟨a, b, h1, h2, h3⟩ := hfs4.2 i q f e1 e2
          exact ⟨a, b, b5 _ _ (ne_of h1 e34 (by intro z; cases z)) h1, b5 _ _ (ne_of h2 e34 (by intro z; cases z)) h2, b5 _ _ (ne_of h3 e34 (by intro z; cases z)) h3⟩⟩
        have hget : ∀ k, k < fms.length → ∃ (r : Addr), (fs.map V.ref)[k]? = some (.ref r) ∧ FmAt H5 r (fms.getD k f0) ∧ FmOk n m 10 (fms.getD k f0) := fun k hk => by
          have hk2 : k < fs.length := by omega
          rw [show fms.getD k f0 = fms[k] by simp [List.getD_eq_getElem?_getD, hk]]
          exact ⟨fs[k], by simp [hk2], hfs5.2 _ _ _ (List.getElem?_eq_getElem hk2) (List.getElem?_eq_getElem hk), hfo _ (List.getElem_mem hk)⟩
        obtain ⟨r0, hr0, hF0, ho0⟩ := hget 0 hN
        obtain ⟨c0, us0, f1, f2, f3⟩ := fm_part hF0 hi
        have hlp := pl_len ho0 i
        have hl10 : lenP n m i ≤ 10 := by cases i <;> assumption
        walk_at "v"
        refine w_ixL efl5 (atI_nat (j := 0) hr0) ?_
        walk_at "v"
        refine w_ixT f1 (atI_nat f2) ?_
        walk_at "v"
        refine ⟨c0, _, rfl, f3, ?_⟩
        rw [List.length_map, hlp]
        walk_at "v"
        refine ⟨.inl ⟨rfl, _, SqL.of e5⟩, ?_⟩
        walk_at "v"
        refine ⟨_, rfl, by omega, by omega, fun D1 hD1 => ?_⟩
        rw [Int.toNat_natCast]
        refine cgo_range (ρ := [some (.ref fl), some (.int (i : Int)), some (.ref tl)]) (fun j zs H' => ∃ ys : List Int, zs = ys.map V.int ∧ ys.length = j ∧ (∀ y ∈ ys, -600 ≤ y ∧ y ≤ 600) ∧ Same H5 H') ⟨[], rfl, rfl, (fun y h => by cases h), Same.new (Same.refl _) hD1⟩ ?_ ?_
        · rintro j zs H' hj ⟨ys, rfl, hyl, hyb, K'⟩ hDz R S kR _
          rw [Int.zero_add]
          walk_at "v"
          refine ⟨fl, _, rfl, K' _ _ efl5, ?_⟩
          rw [List.length_map, hfl]
          walk_at "v"
          refine ⟨_, rfl, by omega, by omega, fun D2 hD2 => ?_⟩
          rw [Int.toNat_natCast]
          refine rng_map (n := fms.length) (ρ := [some (.ref fl), some (.int (j : Int)), some (.int (i : Int)), some (.ref tl)]) (fun k => xs.getD k 0 * gP i j (fms.getD k f0)) (by omega) (fun k H'' hk K'' R kR => ?_) (fun H6 K6 e6 => ?_) hD2
          · obtain ⟨r, g1, g3, g4⟩ := hget k hk
            obtain ⟨c, us, c1, c2, c3⟩ := fm_part (g3.same (K'.trans K'')) hi
            have hl' := pl_len g4 i
            have hj' : j < (pl i (fms.getD k f0)).length := by omega
            have hg : gP i j (fms.getD k f0) = (pl i (fms.getD k f0))[j] := by
              unfold gP
              rw [List.getD_eq_getElem?_getD, List.getElem?_eq_getElem hj']
              rfl
            have hkx : k < xs.length := by omega
            have hxk : xs.getD k 0 = xs[k] := by simp [List.getD_eq_getElem?_getD, hkx]
            have hxb := hx2 _ (List.getElem_mem hkx)
            rw [hg, hxk] at kR
            walk_at "v"
            refine w_ixL ((K'.trans K'') _ _ eT5) (v := .int xs[k]) (atI_nat (by simp [hkx])) ?_
            walk_at "v"
            refine w_ixL ((K'.trans K'') _ _ efl5) (atI_nat g1) ?_
            walk_at "v"
            refine w_ixT c1 (atI_nat c2) ?_
            walk_at "v"
            refine w_ixT c3 (v := .int (pl i (fms.getD k f0))[j]) (atI_nat (by rw [List.getElem?_map, List.getElem?_eq_getElem hj']; rfl)) ?_
            refine w_rI (.inl ⟨by omega, by omega⟩) ?_
            exact kR _ (Same.refl _)
          walk_at "v"
          refine ⟨D2, _, rfl, e6, ?_⟩
          have hsb := sum_bd 90 ((List.range fms.length).map fun k => xs.getD k 0 * gP i j (fms.getD k f0)) fun x hx => by
            obtain ⟨k, hk, rfl⟩ := List.mem_map.mp hx
            exact hmv i j k (List.mem_range.mp hk)
          rw [List.length_map, List.length_range] at hsb
          have hDq := K6 _ _ hDz
          refine kR _ _ hDq (by rw [List.length_map]; exact small1000 (by omega)) ⟨ys ++ [((List.range fms.length).map fun k => xs.getD k 0 * gP i j (fms.getD k f0)).sum], by rw [List.map_append]; rfl, by rw [List.length_append, hyl]; rfl, fun y hy => ?_, (K'.trans K6).put hD1⟩
          rcases List.mem_append.mp hy with z | z
          · exact hyb y z
          · rw [List.mem_singleton.mp z]
            omega
        · rintro zs H6 ⟨ys, rfl, hyl, hyb, K6⟩ hDz
          have e56 := K6 _ _ e5
          have nDl : D1 ≠ ll := Ne.symm (ne_of_none e5 hD1)
          walk_at "v"
          refine ⟨ll, _, _, rfl, rfl, e56, by rw [List.length_map]; exact small1000 (by omega), ?_⟩
          refine ⟨_, _, as ++ [D1], xss ++ [ys], rfl, by rw [List.length_append, ha1]; rfl, by rw [List.length_append, ha2]; rfl, by rw [upd_same, List.map_append]; rfl, fun i' a zs h1 h2 => ?_, fun i' zs h2 => ?_, fun a h => ?_, b5.trans ((Bt1.same K6).trans Bt1.put)⟩
          · by_cases hii : i' < i
            · rw [List.getElem?_append_left (by omega)] at h1 h2
              rw [upd_ne (ha5 a (List.mem_of_getElem? h1))]
              exact K6 _ _ (ha3 i' a zs h1 h2)
            · have hii' : i' = i := by
                have := (List.getElem?_eq_some_iff.mp h1).1
                rw [List.length_append] at this
                have h1' : [D1].length = 1 := rfl
                omega
              subst hii'
              rw [List.getElem?_append_right (by omega), ha1, Nat.sub_self] at h1
              rw [List.getElem?_append_right (by omega), ha2, Nat.sub_self] at h2
              cases h1
              cases h2
              rw [upd_ne nDl]
              exact hDz
          · by_cases hii : i' < i
            · rw [List.getElem?_append_left (by omega)] at h2
              exact ha4 i' zs h2
            · have hii' : i' = i := by
                have := (List.getElem?_eq_some_iff.mp h2).1
                rw [List.length_append] at this
                have h1' : [ys].length = 1 := rfl
                omega
              subst hii'
              rw [List.getElem?_append_right (by omega), ha2, Nat.sub_self] at h2
              cases h2
              exact ⟨hyl, hyb⟩
          · rcases List.mem_append.mp h with z | z
            · exact ha5 a z
            · rw [List.mem_singleton.mp z]
              exact nDl
      · rintro σ H5 ⟨u5, u6, as, xss, rfl, ha1, ha2, e5, ha3, ha4, ha5, b5⟩
        rw [List.length_map, List.length_range] at ha1 ha2
        obtain ⟨a0, a1, rfl⟩ : ∃ a b, as = [a, b] := by
          match as, ha1 with
          | [a, b], _ => exact ⟨a, b, rfl⟩
        obtain ⟨x0, x1, rfl⟩ : ∃ a b, xss = [a, b] := by
          match xss, ha2 with
          | [a, b], _ => exact ⟨a, b, rfl⟩
        have ea0 := ha3 0 a0 x0 rfl rfl
        have ea1 := ha3 1 a1 x1 rfl rfl
        obtain ⟨l0, bd0⟩ := ha4 0 x0 rfl
        obtain ⟨l1, bd1⟩ := ha4 1 x1 rfl
        have l0' : x0.length = n := l0
        have l1' : x1.length = m := l1
        have eT5 := b5 _ _ ntl eT4
        have efl5 := b5 _ _ nfl efl4
        have T5 := T4.but npl nll b5
        have h0H : H ll = none := by
          cases e : H ll with
          | none => rfl
          | some o' =>
            have hlp : ll ≠ p := Ne.symm npl
            have := P02.bp _ _ hlp e
            rw [h0l] at this
            cases this
        have P05 : PK p H H5 := P04.but h0H b5
        clear ha3 ha4 ha5 ha1 ha2 l0 l1
        have hget : ∀ k, k < fms.length → ∃ (r : Addr), (fs.map V.ref)[k]? = some (.ref r) ∧ FmAt H5 r (fms.getD k f0) ∧ FmOk n m 10 (fms.getD k f0) := fun k hk => by
          have hk2 : k < fs.length := by omega
          rw [show fms.getD k f0 = fms[k] by simp [List.getD_eq_getElem?_getD, hk]]
          exact ⟨fs[k], by simp [hk2], P05.fm (hfs.2 _ _ _ (List.getElem?_eq_getElem hk2) (List.getElem?_eq_getElem hk)), hfo _ (List.getElem_mem hk)⟩
        have h0t : H tl = none := P1.free T1 htl
        clear hfs4 hmv e34 eT4 efl4 T4 P04 e4 e3 T2 P2
        walk_at "v"
        refine ⟨fl, _, rfl, efl5, ?_⟩
        rw [List.length_map, hfl]
        walk_at "v"
        refine ⟨_, rfl, by omega, by omega, fun D2 hD2 => ?_⟩
        rw [Int.toNat_natCast]
        refine rng_map (n := fms.length) (ρ := [some (.ref fl), some (.ref tl)]) (fun k => xs.getD k 0 * (fms.getD k f0).plus) (by omega) (fun k H'' hk K'' R kR => ?_) (fun H6 K6 e6 => ?_) hD2
        · obtain ⟨r, g1, g3, g4⟩ := hget k hk
          obtain ⟨c, d, c1, _, _⟩ := g3.same K''
          have hkx : k < xs.length := by omega
          have hxk : xs.getD k 0 = xs[k] := by simp [List.getD_eq_getElem?_getD, hkx]
          have hxb := hx2 _ (List.getElem_mem hkx)
          rw [hxk] at kR
          walk_at "v"
          refine w_ixL (K'' _ _ eT5) (v := .int xs[k]) (atI_nat (by simp [hkx])) ?_
          walk_at "v"
          refine w_ixL (K'' _ _ efl5) (atI_nat g1) ?_
          walk_at "v"
          refine w_ixT c1 rfl ?_
          refine w_rI (.inl ⟨by omega, by omega⟩) ?_
          exact kR _ (Same.refl _)
        walk_at "v"
        refine ⟨D2, _, rfl, e6, ?_⟩
        have hpv := sum_bd 90 ((List.range fms.length).map fun k => xs.getD k 0 * (fms.getD k f0).plus) fun x hx => by
          obtain ⟨k, hk, rfl⟩ := List.mem_map.mp hx
          have hk' := List.mem_range.mp hk
          obtain ⟨_, _, _, g4⟩ := hget k hk'
          have hkx : k < xs.length := by omega
          have hxk : xs.getD k 0 = xs[k] := by simp [List.getD_eq_getElem?_getD, hkx]
          have hxb := hx2 _ (List.getElem_mem hkx)
          rw [hxk]
          exact mul_bd hxb g4.bp
        rw [List.length_map, List.length_range] at hpv
        generalize ((List.range fms.length).map fun k => xs.getD k 0 * (fms.getD k f0).plus).sum = pv at hpv ⊢
        have hpv' : -600 ≤ pv ∧ pv ≤ 600 := by omega
        clear hpv
        walk_at "v"
        refine w_ixL (K6 _ _ e5) (v := .ref a0) (atI_nat (j := 0) rfl) ?_
        refine ⟨a0, rfl, ⟨_, SqL.of (K6 _ _ ea0)⟩, fun D3 hD3 => ?_⟩
        refine lst_map (xs := x0) (ρ := [some (.int o)]) (fun x => 0 - x / o) (K6 _ _ ea0) (by omega) (fun i x H' hx K' R kR => ?_) (fun H7 K7 e7 => ?_) hD3
        · walk_at "v"
          refine w_rI ⟨by omega, by omega⟩ ?_
          walk_at "v"
          exact kR _ (Same.refl _)
        walk_at "v"
        refine ⟨D3, _, rfl, e7, fun q0 H8 K8 e8 => ?_⟩
        have K58 := K6.trans (K7.trans K8)
        walk_at "v"
        refine w_ixL (K58 _ _ e5) (v := .ref a1) (atI_nat (j := 1) rfl) ?_
        refine ⟨a1, rfl, ⟨_, SqL.of (K58 _ _ ea1)⟩, fun D4 hD4 => ?_⟩
        refine lst_map (xs := x1) (ρ := [some (.int o)]) (fun x => 0 - x / o) (K58 _ _ ea1) (by omega) (fun i x H' hx K' R kR => ?_) (fun H9 K9 e9 => ?_) hD4
        · walk_at "v"
          refine w_rI ⟨by omega, by omega⟩ ?_
          walk_at "v"
          exact kR _ (Same.refl _)
        walk_at "v"
        refine ⟨D4, _, rfl, e9, fun q1 HA KA eA => ?_⟩
        walk_at "v"
        refine ⟨by show 2 ≤ sizeLine; decide, fun rq hrq => ?_⟩
        have KB : Same HA (upd HA rq (.tup [.ref q0, .ref q1])) := Same.new (Same.refl _) hrq
        have eB : upd HA rq (.tup [.ref q0, .ref q1]) rq = some (.tup [.ref q0, .ref q1]) := upd_same
        generalize upd HA rq (.tup [.ref q0, .ref q1]) = HB at KB eB ⊢
        have K8B := (K9.trans KA).trans KB
        have K5B := K58.trans K8B
        have TB := T5.same K5B
        have PB := P05.trans (PK.same K5B)
        have eTB := K5B _ _ eT5
        have e0B := K8B _ _ e8
        have e1B := KB _ _ eA
        clear K6 K7 K8 K9 KA e5 e6 e7 e8 e9 eA ea0 ea1 K58 hD2 hD3 hD4 hget
        walk_at "v"
        refine w_rI ⟨by omega, by omega⟩ ?_
        walk_at "v"
        refine ⟨p, l, ns, 4, rfl, TB, by decide, by decide, fun r c e r0 r1 => ?_⟩
        have PC : PK p HB (upd HB p (.lst [.ref l, .int c, .int e])) := TB.pk
        have TC := TB.draw (c := c) (e := e)
        generalize upd HB p (.lst [.ref l, .int c, .int e]) = HC at PC TC ⊢
        walk_at "v"
        have hpl : -1000 ≤ 0 - pv / o + r - 2 ∧ 0 - pv / o + r - 2 ≤ 1000 := by have := div_bd hpv' ho; omega
        generalize 0 - pv / o + r - 2 = pp at hpl ⊢
        refine ⟨by show 1 ≤ sizeLine; decide, fun z hz => ?_⟩
        have KD : Same HC (upd HC z (.tup [.int pp])) := Same.new (Same.refl _) hz
        have eD : upd HC z (.tup [.int pp]) z = some (.tup [.int pp]) := upd_same
        generalize upd HC z (.tup [.int pp]) = HD at KD eD ⊢
        have PBD := PC.trans (PK.same KD)
        refine ⟨rq, z, _, _, rfl, rfl, PBD.t _ _ eB, eD, by show 2 + 1 ≤ 1000; decide, fun mq HE KE eE => ?_⟩
        have PBE := PBD.trans (PK.same KE)
        have hmq : FmAt HE mq ⟨x0.map fun x => 0 - x / o, x1.map fun x => 0 - x / o, pp⟩ := ⟨q0, q1, eE, PBE.t _ _ e0B, PBE.t _ _ e1B⟩
        have hmo : FmOk n m 100000 ⟨x0.map fun x => 0 - x / o, x1.map fun x => 0 - x / o, pp⟩ := FmOk.up (B := 1000) ⟨by show (List.map _ _).length = n; rw [List.length_map, l0'], by show (List.map _ _).length = m; rw [List.length_map, l1'], neg_div ho bd0, neg_div ho bd1, hpl⟩ (by decide)
        generalize (⟨x0.map fun x => 0 - x / o, x1.map fun x => 0 - x / o, pp⟩ : Fm) = fm at hmq hmo
        have PE := PB.trans PBE
        have TE := TC.same (KD.trans KE)
        have eTE := PBE.bp _ _ ntp eTB
        have eflE := PE.bp _ _ hfp efl
        clear PC KD KE eE eD eB e0B e1B PBD PBE TB PB eTB KB TC
        walk_at "v"
        refine ⟨fl, _, rfl, eflE, ?_⟩
        rw [List.length_map, hfl]
        walk_at "v"
        refine ⟨p, l, ns, _, rfl, TE, by omega, by omega, fun ai c e ai0 ai1 => ?_⟩
        have PF : PK p HE (upd HE p (.lst [.ref l, .int c, .int e])) := TE.pk
        have TF := TE.draw (c := c) (e := e)
        generalize upd HE p (.lst [.ref l, .int c, .int e]) = HF at PF TF ⊢
        have P0F := PE.trans PF
        have eTF := PF.bp _ _ ntp eTE
        have hmqF := PF.fm hmq
        walk_at "v"
        refine ⟨.inl ⟨rfl, _, SqL.of eTF⟩, ?_⟩
        walk_at "v"
        refine ⟨tl, _, ai, .int o, rfl, rfl, eTF, ai0, by rw [List.length_map]; omega, by rw [List.length_map]; exact small1000 (by omega), ?_⟩
        obtain ⟨at', rfl⟩ := ofI ai0
        rw [Int.toNat_natCast]
        have hzm : (xs.map V.int).take at' ++ V.int o :: (xs.map V.int).drop at' = (xs.take at' ++ o :: xs.drop at').map V.int := by
          rw [List.map_append, List.map_cons, List.map_take, List.map_drop]
        rw [hzm]
        have hzb : ∀ x ∈ xs.take at' ++ o :: xs.drop at', 0 ≤ x ∧ x ≤ 9 := fun x hx => by
          rcases List.mem_append.mp hx with z | z
          · exact hx2 x (List.mem_of_mem_take z)
          · rcases List.mem_cons.mp z with z | z
            · omega
            · exact hx2 x (List.mem_of_mem_drop z)
        have hzl : (xs.take at' ++ o :: xs.drop at').length ≤ 8 := by
          rw [List.length_append, List.length_cons, List.length_take, List.length_drop]
          omega
        generalize xs.take at' ++ o :: xs.drop at' = zs at hzb hzl ⊢
        have bG : Bt1 tl HF (upd HF tl (.lst (zs.map V.int))) := Bt1.put
        have eTG : upd HF tl (.lst (zs.map V.int)) tl = some (.lst (zs.map V.int)) := upd_same
        generalize upd HF tl (.lst (zs.map V.int)) = HG at bG eTG ⊢
        have TG := TF.but (Ne.symm ntp) (T1.nl htl) bG
        have PG : PK p H HG := P0F.but h0t bG
        have hmqG : FmAt HG mq fm := by
          obtain ⟨a, b, h1, h2, h3⟩ := hmqF
          exact ⟨a, b, bG _ _ (ne_of h1 eTF (by intro z; cases z)) h1, bG _ _ (ne_of h2 eTF (by intro z; cases z)) h2, bG _ _ (ne_of h3 eTF (by intro z; cases z)) h3⟩
        clear hmq hmqF
        walk_at "v"
        refine ⟨tl, _, rfl, eTG, ?_⟩
        rw [List.length_map]
        walk_at "v"
        refine ⟨_, rfl, by omega, by omega, fun D5 hD5 => ?_⟩
        rw [Int.toNat_natCast]
        refine cgo_range (ρ := [some (.ref tl)]) (fun j ys H' => ∃ (as : List Addr) (ps : List (Int × Int)), ys = as.map V.ref ∧ as.length = ps.length ∧ ps.length ≤ j ∧ (∀ (i : Nat) (a : Addr) (x : Int × Int), as[i]? = some a → ps[i]? = some x → H' a = some (.tup [.int x.1, .int x.2])) ∧ (∀ x ∈ ps, (0 ≤ x.1 ∧ x.1 ≤ 9) ∧ (0 ≤ x.2 ∧ x.2 ≤ 9)) ∧ Same HG H') ⟨[], [], rfl, rfl, Nat.zero_le _, (fun i a x e => by simp at e), (fun x h => by cases h), Same.new (Same.refl _) hD5⟩ ?_ ?_
        · rintro j ys H' hj ⟨as, ps, rfl, hal, hpj, hap, hpb, K'⟩ hDz R S kR kS
          rw [Int.zero_add]
          have hzj := hzb _ (List.getElem_mem hj)
          walk_at "v"
          refine w_ixL (K' _ _ eTG) (v := .int zs[j]) (atI_nat (by simp [hj])) ?_
          walk_at "v"
          refine iteD (fun _ => ?_) (fun _ => ?_)
          · walk_at "v"
            refine w_ixL (K' _ _ eTG) (v := .int zs[j]) (atI_nat (by simp [hj])) ?_
            walk_at "v"
            refine ⟨by show 2 ≤ sizeLine; decide, fun q hq => ?_⟩
            have KQ : Same H' (upd H' q (.tup [.int (j : Int), .int zs[j]])) := Same.new (Same.refl _) hq
            have eQ : upd H' q (.tup [.int (j : Int), .int zs[j]]) q = some (.tup [.int (j : Int), .int zs[j]]) := upd_same
            generalize upd H' q (.tup [.int (j : Int), .int zs[j]]) = HQ at KQ eQ ⊢
            have hDq := KQ _ _ hDz
            have up : ∀ (a : Addr) (us : List V), HQ a = some (.tup us) → upd HQ D5 (.lst (as.map V.ref ++ [.ref q])) a = some (.tup us) := fun a us h => by
              rw [upd_ne (ne_of h hDq (by intro z; cases z))]
              exact h
            refine kR _ _ hDq (by rw [List.length_map]; exact small1000 (by omega)) ⟨as ++ [q], ps ++ [((j : Int), zs[j])], by rw [List.map_append]; rfl, by rw [List.length_append, List.length_append, hal]; rfl, by rw [List.length_append]; show _ + 1 ≤ _; omega, fun i a x h1 h2 => ?_, fun x hx => ?_, (K'.trans KQ).put hD5⟩
            · by_cases hii : i < as.length
              · rw [List.getElem?_append_left hii] at h1
                rw [List.getElem?_append_left (by omega)] at h2
                exact up _ _ (KQ _ _ (hap i a x h1 h2))
              · have hii' : i = as.length := by
                  have := (List.getElem?_eq_some_iff.mp h1).1
                  rw [List.length_append] at this
                  have h1' : [q].length = 1 := rfl
                  omega
                subst hii'
                rw [List.getElem?_append_right (by omega), Nat.sub_self] at h1
                rw [List.getElem?_append_right (by omega), hal, Nat.sub_self] at h2
                cases h1
                cases h2
                exact up _ _ eQ
            · rcases List.mem_append.mp hx with z | z
              · exact hpb x z
              · rw [List.mem_singleton.mp z]
                dsimp only
                omega
          · exact kS _ hDz ⟨as, ps, rfl, hal, by omega, hap, hpb, K'⟩
        · rintro ys HH ⟨as, ps, rfl, hal, hpj, hap, hpb, KH⟩ hDz
          walk_at "v"
          refine ⟨D5, _, rfl, hDz, fun wq HI KI eI => ?_⟩
          have hth : ThAt HI (.ref wq) (.tup (ps.map fun x => .tup [.int x.1, .int x.2])) := .tup eI (ths_prs hal fun i a x h1 h2 => KI _ _ (hap i a x h1 h2))
          have hwo : WtO (ps.map fun x => .tup [.int x.1, .int x.2]) := ⟨by rw [List.length_map]; omega, fun t ht => by
            obtain ⟨x, hx, rfl⟩ := List.mem_map.mp ht
            exact ⟨x.1, x.2, rfl, hpb x hx⟩⟩
          generalize (ps.map fun x => Th.tup [.int x.1, .int x.2]) = ts at hth hwo
          have KGI := KH.trans KI
          have PI := PG.trans (PK.same KGI)
          have TI := TG.same KGI
          have hmI := hmqG.same KGI
          have eflI := PI.bp _ _ hfp efl
          have hfmsI := fs_fms (PI.fs hfs)
          clear hap eI KH KI KGI hDz eTG bG PG TG hmqG PF P0F PE
          walk_at "v"
          refine ⟨_, rfl, ?_⟩
          refine ⟨fl, _, rfl, SqL.of eflI, fun c1 hc1 => ?_⟩
          rw [cutI, ← List.map_take]
          have K1' : Same HI (upd HI c1 (.lst ((fs.take at').map V.ref))) := Same.new (Same.refl _) hc1
          have e1' : upd HI c1 (.lst ((fs.take at').map V.ref)) c1 = some (.lst ((fs.take at').map V.ref)) := upd_same
          generalize upd HI c1 (.lst ((fs.take at').map V.ref)) = J1 at K1' e1' ⊢
          walk_at "v"
          refine ⟨by show 1 ≤ sizeLine; decide, fun c2 hc2 => ?_⟩
          have K2' : Same J1 (upd J1 c2 (.lst [.ref mq])) := Same.new (Same.refl _) hc2
          have e2' : upd J1 c2 (.lst [.ref mq]) c2 = some (.lst [.ref mq]) := upd_same
          generalize upd J1 c2 (.lst [.ref mq]) = J2 at K2' e2' ⊢
          have hlt : (fs.take at').length ≤ 6 := by rw [List.length_take]; omega
          have hld : (fs.drop at').length ≤ 6 := by rw [List.length_drop]; omega
          refine ⟨c1, c2, _, _, rfl, rfl, K2' _ _ e1', e2', Nat.le_of_lt (small1000 (by rw [List.length_map]; show _ + 1 ≤ 1000; omega)), fun c3 hc3 => ?_⟩
          have K3' : Same J2 (upd J2 c3 (.lst ((fs.take at').map V.ref ++ [.ref mq]))) := Same.new (Same.refl _) hc3
          have e3' : upd J2 c3 (.lst ((fs.take at').map V.ref ++ [.ref mq])) c3 = some (.lst ((fs.take at').map V.ref ++ [.ref mq])) := upd_same
          generalize upd J2 c3 (.lst ((fs.take at').map V.ref ++ [.ref mq])) = J3 at K3' e3' ⊢
          have KI3 := (K1'.trans K2').trans K3'
          walk_at "v"
          refine ⟨_, rfl, ?_⟩
          walk_at "v"
          refine ⟨fl, _, rfl, SqL.of (KI3 _ _ eflI), fun c4 hc4 => ?_⟩
          rw [cutJ, ← List.map_drop]
          have K4' : Same J3 (upd J3 c4 (.lst ((fs.drop at').map V.ref))) := Same.new (Same.refl _) hc4
          have e4' : upd J3 c4 (.lst ((fs.drop at').map V.ref)) c4 = some (.lst ((fs.drop at').map V.ref)) := upd_same
          generalize upd J3 c4 (.lst ((fs.drop at').map V.ref)) = J4 at K4' e4' ⊢
          refine ⟨c3, c4, _, _, rfl, rfl, K4' _ _ e3', e4', Nat.le_of_lt (small1000 (by rw [List.length_append, List.length_map, List.length_map]; show _ + 1 + _ ≤ 1000; omega)), fun c5 hc5 => ?_⟩
          have hgs : (fs.take at').map V.ref ++ [.ref mq] ++ (fs.drop at').map V.ref = (fs.take at' ++ [mq] ++ fs.drop at').map V.ref := by
            rw [List.map_append, List.map_append]
            rfl
          rw [hgs]
          have KI4 := KI3.trans K4'
          have hc5H : H c5 = none := (PI.trans (PK.same KI4)).free (TI.same KI4) hc5
          have K5' : Same J4 (upd J4 c5 (.lst ((fs.take at' ++ [mq] ++ fs.drop at').map V.ref))) := Same.new (Same.refl _) hc5
          have e5' : upd J4 c5 (.lst ((fs.take at' ++ [mq] ++ fs.drop at').map V.ref)) c5 = some (.lst ((fs.take at' ++ [mq] ++ fs.drop at').map V.ref)) := upd_same
          generalize upd J4 c5 (.lst ((fs.take at' ++ [mq] ++ fs.drop at').map V.ref)) = J5 at K5' e5' ⊢
          walk_at "v"
          refine ⟨by show 2 ≤ sizeLine; decide, fun rr hrr => ?_⟩
          have K6' : Same J5 (upd J5 rr (.tup [.ref c5, .ref wq])) := Same.new (Same.refl _) hrr
          have e6' : upd J5 rr (.tup [.ref c5, .ref wq]) rr = some (.tup [.ref c5, .ref wq]) := upd_same
          generalize upd J5 rr (.tup [.ref c5, .ref wq]) = J6 at K6' e6' ⊢
          have KI6 := (KI4.trans K5').trans K6'
          have hF6 := hfmsI.tk (TK.same KI6)
          refine k rr c5 wq (fs.take at' ++ [mq] ++ fs.drop at') (fms.take at' ++ [fm] ++ fms.drop at') ts J6 e6' hc5H (K6' _ _ e5') ?_ ?_ (hth.ks (KS.same KI6)) hwo (TI.same KI6) (PI.trans (PK.same KI6))
          · exact fms_fs (Fms.app (fms_drop at' hF6) (Fms.app (Fms.one (hmI.same KI6)) (fms_take at' hF6)))
          · refine ⟨fun f hf => ?_, hn, hm, ?_, ?_⟩
            · rcases List.mem_append.mp hf with z | z
              · rcases List.mem_append.mp z with z | z
                · exact FmOk.up (hfo f (List.mem_of_mem_take z)) (by decide)
                · rw [List.mem_singleton.mp z]
                  exact hmo
              · exact FmOk.up (hfo f (List.mem_of_mem_drop z)) (by decide)
            · rw [List.length_append, List.length_append]
              show 0 < _ + 1 + _
              omega
            · rw [List.length_append, List.length_append, List.length_take, List.length_drop]
              show _ + 1 + _ ≤ 9
              omega
end
end K27

set_option Elab.async false
set_option linter.all false
set_option maxRecDepth 100000
namespace K27
open PySem L2 G2
local macro_rules | `(tactic| walk_at "v") => `(tactic| repeat (with_reducible first
  | refine w_seq ?_ | refine w_asg ?_ | refine w_gname ?_ | refine w_op ?_ | refine w_var rfl ?_ | refine w_c ?_ | refine w_rI0 ?_ | refine w_ifs ?_ | refine w_ife ?_ | refine w_test ?_ | refine w_tb ?_ | refine w_bl ?_ | refine w_not ?_ | refine w_ret ?_ | refine w_retN ?_
  | refine w_nil ?_ | refine w_cons ?_ | refine w_lst ?_ | refine w_tup ?_ | refine w_cb ?_ | refine w_call ?_ | refine w_gsub ?_ | refine w_and ?_ | refine w_or ?_ | refine w_next ?_ | refine w_all ?_ | refine w_vals ?_ | refine w_compR ?_ | refine w_compT ?_ | refine w_forR ?_ | refine w_forT ?_ | refine w_forL ?_ | refine w_drop ?_ | refine w_bm ?_ | refine w_compZ ?_ | refine w_compL ?_ | refine w_chain ?_ | refine w_sl ?_ | refine w_nopart ?_ | refine w_part ?_ | refine w_unI ?_ | refine iteT ?_ | refine iteF ?_))

abbrev sOt : Stmt := top 23
abbrev nOt : List Str := ["_law_tape_here", "_law_weights", "_law_many", "_law_some"]
theorem nmOt : Nm nOt (defScope sOt) := ⟨by decide +kernel, by decide +kernel⟩
theorem scOt : FnScope nOt ["_law_tape_here", "_law_weights", "_law_many"] (defScope sOt) := ⟨rfl, rfl, rfl, by decide +kernel, rfl, by decide +kernel, by decide +kernel⟩

def catC (s : Stmt) (i : Nat) : Scope := match s with
  | .Assign _ (.BinOp _ _ (.List es _) _) _ => match es.getD i (.Name "" ⟨0, 0, 0, 0⟩) with
    | .Call _ [.ListComp _ _ sc _] _ _ => sc
    | _ => { kind := .function, names := [], isGenerator := false, isCoroutine := false }
  | _ => { kind := .function, names := [], isGenerator := false, isCoroutine := false }
abbrev cOtA : Scope := catC ((defBody sOt).getD 1 (.Pass ⟨0, 0, 0, 0⟩)) 0
abbrev cOtB : Scope := catC ((defBody sOt).getD 1 (.Pass ⟨0, 0, 0, 0⟩)) 1
abbrev cOtC : Scope := catC ((defBody sOt).getD 2 (.Pass ⟨0, 0, 0, 0⟩)) 0
abbrev cOtD : Scope := catC ((defBody sOt).getD 2 (.Pass ⟨0, 0, 0, 0⟩)) 1
abbrev cOtE : Scope := catC ((defBody sOt).getD 3 (.Pass ⟨0, 0, 0, 0⟩)) 0
theorem bsOtA : BScope (defScope sOt) cOtA ["_law_k", "_law_times"] [] [] := { okind := by decide +kernel, kind := by decide +kernel, nocell := by decide +kernel, names := by decide +kernel, fr := by decide +kernel, ff := by decide +kernel, nd := by decide +kernel, vis := by decide +kernel, loc := by decide +kernel, gl := by decide +kernel }
theorem bsOtB : BScope (defScope sOt) cOtB ["_law_k", "_law_times"] [] [] := { okind := by decide +kernel, kind := by decide +kernel, nocell := by decide +kernel, names := by decide +kernel, fr := by decide +kernel, ff := by decide +kernel, nd := by decide +kernel, vis := by decide +kernel, loc := by decide +kernel, gl := by decide +kernel }
theorem bsOtC : BScope (defScope sOt) cOtC ["_law_k", "_law_times"] [] [] := { okind := by decide +kernel, kind := by decide +kernel, nocell := by decide +kernel, names := by decide +kernel, fr := by decide +kernel, ff := by decide +kernel, nd := by decide +kernel, vis := by decide +kernel, loc := by decide +kernel, gl := by decide +kernel }
theorem bsOtD : BScope (defScope sOt) cOtD ["_law_k", "_law_times"] [] [] := { okind := by decide +kernel, kind := by decide +kernel, nocell := by decide +kernel, names := by decide +kernel, fr := by decide +kernel, ff := by decide +kernel, nd := by decide +kernel, vis := by decide +kernel, loc := by decide +kernel, gl := by decide +kernel }
theorem bsOtE : BScope (defScope sOt) cOtE ["_law_k", "_law_times"] [] [] := { okind := by decide +kernel, kind := by decide +kernel, nocell := by decide +kernel, names := by decide +kernel, fr := by decide +kernel, ff := by decide +kernel, nd := by decide +kernel, vis := by decide +kernel, loc := by decide +kernel, gl := by decide +kernel }
/-- pairs of a tuple: of each a new thing -/
theorem prs_genT {α : Type} {as : List Addr} {xs : List α} (u v : α → V) {D : Addr} (Pe : α → V → Hp → Prop) {te : TE} {Q : VK} {ρ : St} {H : Hp} {K : PySem.W.Frag} {a : Addr} (ha : H a = some (.tup (as.map V.ref))) (hl : as.length = xs.length) (hn : xs.length ≤ 1000)
    (hx : ∀ (i : Nat) (q : Addr) (x : α), as[i]? = some q → xs[i]? = some x → H q = some (.tup [u x, v x]))
    (mono : ∀ x y H' H'', Pe x y H' → (∀ b o, b ≠ D → H' b = some o → H'' b = some o) → Pe x y H'')
    (step : ∀ (i : Nat) (x : α) (H' : Hp) (ys : List V), xs[i]? = some x → Same H H' → H' D = some (.lst ys) → ∀ R : V → Hp → Prop, (∀ y H'', Same H' H'' → Pe x y H'' → R y H'') → te (some (u x) :: some (v x) :: ρ) H' R)
    (q : ∀ ys H', Same H H' → ys.length = xs.length → (∀ (i : Nat) (x : α) (y : V), xs[i]? = some x → ys[i]? = some y → Pe x y H') → H' D = some (.lst ys) → Q (.ref D) H') (hD : H D = none) : CGo (Itt K a) D (gTup K 2 (gCons (gName 0) (gCons (gName 1) gNil))) tAll te Q (none :: none :: ρ) H := by
  refine ⟨fun i m τ ys H' => m = xs.length - i ∧ i ≤ xs.length ∧ (∃ tv tw, τ = tv :: tw :: ρ) ∧ ys.length = i ∧ (∀ (j : Nat) (x : α) (y : V), xs[j]? = some x → ys[j]? = some y → Pe x y H') ∧ Same H H' ∧ H' D = some (.lst ys), ⟨xs.length, by omega, Nat.zero_le _, ⟨_, _, rfl⟩, rfl, (fun j x y _ e => by simp at e), Same.new (Same.refl H) hD, upd_same⟩, ?_⟩
  rintro i m τ ys H' ⟨rfl, hi, ⟨tv, tw, rfl⟩, hyl, hP, K', hDz⟩
  refine ⟨hDz, ?_⟩
  have sq : SqT K H' a (as.map V.ref) := SqT.of (K' _ _ ha)
  by_cases hlt : i < xs.length
  · have hlt' : i < as.length := by omega
    refine .inr ⟨⟨_, .ref as[i], sq, by simp [hlt']⟩, ?_⟩
    rintro w' H'' ⟨rfl, hw⟩
    have hw' := hw _ sq
    rw [List.getElem?_map, List.getElem?_eq_getElem hlt'] at hw'
    cases hw'
    refine ⟨as[i], _, rfl, SqT.of (K' _ _ (hx i as[i] xs[i] (by simp [hlt']) (by simp [hlt]))), rfl, _, _, rfl, _, _, rfl, rfl, ?_⟩
    refine w_all ?_
    refine iteT ?_
    refine step i xs[i] _ ys (by simp [hlt]) K' hDz _ fun y H3 K3 hy => ⟨K3 _ _ hDz, small1000 (by omega), xs.length - (i + 1), by omega, rfl, hlt, ⟨_, _, rfl⟩, by simp [hyl], fun j x y' ex ey => ?_, (K'.trans K3).put hD, upd_same⟩
    have up : ∀ b o, b ≠ D → H3 b = some o → upd H3 D (.lst (ys ++ [y])) b = some o := fun b o hb e => by rw [upd_ne hb]; exact e
    by_cases hj : j < ys.length
    · rw [List.getElem?_append_left hj] at ey
      exact mono _ _ _ _ (mono _ _ _ _ (hP j x y' ex ey) fun b o _ e => K3 b o e) up
    · rw [List.getElem?_append_right (by omega)] at ey
      have hj' : j = ys.length := by
        have := (List.getElem?_eq_some_iff.mp ey).1
        simp at this
        omega
      rw [hj', Nat.sub_self] at ey
      simp at ey
      subst ey
      have hji : j = i := by omega
      rw [hji, List.getElem?_eq_getElem hlt] at ex
      cases ex
      exact mono _ _ _ _ hy up
  · have e : i = xs.length := by omega
    subst e
    exact .inl ⟨⟨_, sq, by simp [hl]⟩, q ys H' K' hyl hP hDz⟩

theorem ths_ix {H : Hp} {α : Type} {g : α → Th} : ∀ {xs : List α} {ys : List V}, ys.length = xs.length → (∀ (i : Nat) (x : α) (y : V), xs[i]? = some x → ys[i]? = some y → ThAt H y (g x)) → ThsAt H ys (xs.map g)
  | [], [], _, _ => .nil
  | x :: xs, y :: ys, hl, h => .cons (h 0 x y rfl rfl) (ths_ix (by simpa using hl) fun i x y e1 e2 => h (i + 1) x y (by simpa using e1) (by simpa using e2))
  | [], _ :: _, hl, _ => by simp at hl
  | _ :: _, [], hl, _ => by simp at hl
theorem prs_obj {α : Type} {as : List Addr} {xs : List α} (u v : α → V) {D : Addr} (o : α → HO) (g : α → Th) (hog : ∀ x H b, H b = some (o x) → ThAt H (.ref b) (g x)) {te : TE} {Q : VK} {ρ : St} {H : Hp} {K : PySem.W.Frag} {a : Addr} (ha : H a = some (.tup (as.map V.ref))) (hl : as.length = xs.length) (hn : xs.length ≤ 1000)
    (hx : ∀ (i : Nat) (q : Addr) (x : α), as[i]? = some q → xs[i]? = some x → H q = some (.tup [u x, v x]))
    (step : ∀ (i : Nat) (x : α) (H' : Hp), xs[i]? = some x → Same H H' → ∀ R : V → Hp → Prop, (∀ b H'', Same H' H'' → H' b = none → H'' b = some (o x) → R (.ref b) H'') → te (some (u x) :: some (v x) :: ρ) H' R)
    (q : ∀ ys H', Same H H' → ThsAt H' ys (xs.map g) → H' D = some (.lst ys) → Q (.ref D) H') (hD : H D = none) : CGo (Itt K a) D (gTup K 2 (gCons (gName 0) (gCons (gName 1) gNil))) tAll te Q (none :: none :: ρ) H := by
  refine prs_genT u v (fun x y H' => ∃ b, y = .ref b ∧ b ≠ D ∧ H' b = some (o x)) ha hl hn hx ?_ ?_ ?_ hD
  · rintro x y H' H'' ⟨b, rfl, hb, e⟩ k
    exact ⟨b, rfl, hb, k b _ hb e⟩
  · intro i x H' ys hxi K' hDy R kR
    exact step i x H' hxi K' R fun b H'' K'' hb e => kR _ _ K'' ⟨b, rfl, Ne.symm (ne_of_none hDy hb), e⟩
  · intro ys H' K' hl' hP hDy
    refine q ys H' K' (ths_ix hl' fun i x y e1 e2 => ?_) hDy
    obtain ⟨b, rfl, _, e⟩ := hP i x y e1 e2
    exact hog x H' b e
theorem ws_ofP {H : Hp} : ∀ {vs : List V} {ts : List Th}, ThsAt H vs ts → (∀ t ∈ ts, ∃ a b : Int, t = .tup [.int a, .int b]) → ∃ ws : List Addr, vs = ws.map V.ref ∧ ws.length = ts.length ∧ ∀ (i : Nat) (q : Addr) (t : Th), ws[i]? = some q → ts[i]? = some t → H q = some (.tup [.int (fstT t), .int (sndT t)])
  | [], [], _, _ => ⟨[], rfl, rfl, fun i q t e _ => by simp at e⟩
  | v :: vs, t :: ts, h, ha => by
    obtain ⟨a, b, rfl⟩ := ha t List.mem_cons_self
    cases h with
    | cons h1 h2 =>
      obtain ⟨ws, rfl, hl, hw⟩ := ws_ofP h2 fun t h => ha t (List.mem_cons_of_mem _ h)
      cases h1 with
      | tup e hs =>
        obtain ⟨va, vb, vr, rfl, h3, h4, h5⟩ := ths2 hs
        cases h3
        cases h4
        cases h5
        rename_i r
        refine ⟨r :: ws, rfl, by rw [List.length_cons, List.length_cons, hl], fun i q t e1 e2 => ?_⟩
        cases i with
        | zero =>
          rw [List.getElem?_cons_zero] at e1 e2
          cases e1
          cases e2
          exact e
        | succ i =>
          rw [List.getElem?_cons_succ] at e1 e2
          exact hw i q t e1 e2
theorem WtO.bd {ts : List Th} (h : WtO ts) : ∀ t ∈ ts, (0 ≤ fstT t ∧ fstT t ≤ 9) ∧ (0 ≤ sndT t ∧ sndT t ≤ 9) := fun t ht => by
  obtain ⟨a, b, rfl, h1, h2⟩ := h.ok t ht
  exact ⟨h1, h2⟩
theorem WtO.s {ts : List Th} (h : WtO ts) : ∀ t ∈ ts, ThS t := fun t ht => by
  obtain ⟨a, b, rfl, h1, h2⟩ := h.ok t ht
  refine .tup (by simp) fun u hu => ?_
  simp only [List.mem_cons, List.not_mem_nil, or_false] at hu
  rcases hu with rfl | rfl
  · exact .int (by omega)
  · exact .int (by omega)
theorem WtO.pd {ts : List Th} (h : WtO ts) : Pd 2 (.tup ts) := by
  refine ⟨h.l8, fun t ht => ?_⟩
  obtain ⟨a, b, rfl, h1, h2⟩ := h.ok t ht
  refine ⟨by simp, fun u hu => ?_⟩
  simp only [List.mem_cons, List.not_mem_nil, or_false] at hu
  rcases hu with rfl | rfl
  · show -99 ≤ a ∧ a ≤ 99
    omega
  · show -99 ≤ b ∧ b ≤ 99
    omega
theorem all_app {xs ys : List Th} (h1 : ∀ t ∈ xs, ThS t) (h2 : ∀ t ∈ ys, ThS t) : ∀ t ∈ xs ++ ys, ThS t := fun t ht => by
  rcases List.mem_append.mp ht with z | z
  · exact h1 t z
  · exact h2 t z
theorem all_c {x : Th} {xs : List Th} (h1 : ThS x) (h2 : ∀ t ∈ xs, ThS t) : ∀ t ∈ x :: xs, ThS t := fun t ht => by
  rcases List.mem_cons.mp ht with z | z
  · rw [z]
    exact h1
  · exact h2 t z
theorem all_n : ∀ t ∈ ([] : List Th), ThS t := fun t ht => by cases ht
def spOt : Sp := fun vs H Q _ => ∃ (p l : Addr) (ns : List Int) (wq : Addr) (ts : List Th) (M : Nat), vs = [.ref p, .ref wq, .int (M : Int)] ∧ Tp H p l ns ∧ ThAt H (.ref wq) (.tup ts) ∧ WtO ts ∧ M ≤ 9 ∧
  ∀ (ol : Addr) (us : List V) (tl : List Th) (H' : Hp), H ol = none → H' ol = some (.lst us) → ThsAt H' us tl → (∀ t ∈ tl, ThS t) → us.length ≤ 15 → Tp H' p l ns → PK p H H' → Q (.ref ol) H'
section
variable {P : Program} {w : World} {K : PySem.W.Frag} {mg : Str → Option Value} {base : Heap}
set_option maxHeartbeats 4000000 in
theorem ok_Ot {f : Addr} {fd : FuncData} (B : Blt mg) (fO : Has P w K mg base 2 "_law_odd" ["_law_tape_here"] spOd) (fB : Has P w K mg base 5 "_law_bent" ["_law_tape_here", "_law_thing"] (spBt 3)) (F : Fun K "_law_others" "_law_others" sOt f fd) : FnOk P w K mg base CX0 6 f fd ["_law_tape_here", "_law_weights", "_law_many"] spOt := by
  refine F.ok scOt (fun vs H Q E h => ?_) (fun cdv A outer s H vs Q E hr h => ?_)
  · obtain ⟨p, l, ns, wq, ts, M, rfl, _⟩ := h
    rfl
  · obtain ⟨p, l, ns, wq, ts, M, rfl, T0, hth, hwo, hM, k⟩ := h
    refine' ⟨_, ?hb, ?rd⟩
    case hb =>
      refine' pss_cons ?s1 ?r1
      case' r1 => refine' pss_cons ?s2 ?r2
      case' r2 => refine' pss_cons ?s3 ?r3
      case' r3 => refine' pss_cons ?s4 ?r4
      case' r4 => refine' pss_one ?s5
      case s1 =>
        refine' ps_setD nmOt 3 ?a1
        case' a1 => refine' pe_lst ?a2
        case' a2 => refine' pa_c (pe_op op_catG (pvd nmOt 1) (pe_slice sl_tupG (pvd nmOt 1) po_none (po_some pe_int))) ?a3
        case' a3 => refine' pa_c (pe_rev (p1 := default) (pvd nmOt 1) po_neg1) ?a4
        case' a4 => refine' pa_c (pe_slice sl_tupG (pvd nmOt 1) (po_some pe_int) po_none) ?a5
        case' a5 => refine' pa_c (pe_op op_catG (pvd nmOt 1) (pe_tup (pa_1 (pe_tup (pa_2 (pvd nmOt 2) pe_int))))) ?a6
        case a6 => exact pa_2 (pe_op op_catG (pe_tup (pa_1 (pe_tup (pa_2 pe_neg pe_int)))) (pvd nmOt 1)) (pe_tup pa_nil)
      case s2 =>
        refine' ps_setD nmOt 3 ?b1
        case' b1 => refine' pe_op op_cat (pvd nmOt 3) ?b2
        case' b2 => refine' pe_lst ?b3
        case' b3 => refine' pa_2 ?b4 ?b5
        case' b4 => refine' pe_cT call_tupL B.tuple PyProof.Rows.boot_tuple ?b6
        case' b6 => refine' pa_1 ?c
        case c =>
          refine' pe_comp (ix := []) bsOtA.toCScope rfl rfl (pi_tup (pvd nmOt 1)) ?c4 ?c5 ?c6
          case c4 =>
            intro _ _ _ _ _ _
            refine' pgb_tup (n := 2) rfl ?c7
            case' c7 => refine' pgs_cons ?c8 ?c9
            case c8 => exact pgb bsOtA 0
            case' c9 => refine' pgs_cons ?ca pgs_nil
            case ca => exact pgb bsOtA 1
          case c5 => exact fun _ _ _ _ _ _ => pts_nil
          case c6 => exact fun _ _ _ _ _ _ => pe_tup (pa_2 (pvb bsOtA 0) (pe_op op_mul pe_int (pvb bsOtA 1)))
        case' b5 => refine' pe_cT call_tupL B.tuple PyProof.Rows.boot_tuple ?b7
        case' b7 => refine' pa_1 ?d
        case d =>
          refine' pe_comp (ix := []) bsOtB.toCScope rfl rfl (pi_tup (pvd nmOt 1)) ?d4 ?d5 ?d6
          case d4 =>
            intro _ _ _ _ _ _
            refine' pgb_tup (n := 2) rfl ?d7
            case' d7 => refine' pgs_cons ?d8 ?d9
            case d8 => exact pgb bsOtB 0
            case' d9 => refine' pgs_cons ?da pgs_nil
            case da => exact pgb bsOtB 1
          case d5 => exact fun _ _ _ _ _ _ => pts_nil
          case d6 => exact fun _ _ _ _ _ _ => pe_tup (pa_2 (pvb bsOtB 0) pe_bl)
      case s3 =>
        refine' ps_setD nmOt 3 ?e1
        case' e1 => refine' pe_op op_cat (pvd nmOt 3) ?e2
        case' e2 => refine' pe_lst ?e3
        case' e3 => refine' pa_2 ?e4 ?e5
        case' e4 => refine' pe_cT call_tupL B.tuple PyProof.Rows.boot_tuple ?e6
        case' e6 => refine' pa_1 ?f
        case f =>
          refine' pe_comp (ix := []) bsOtC.toCScope rfl rfl (pi_tup (pvd nmOt 1)) ?f4 ?f5 ?f6
          case f4 =>
            intro _ _ _ _ _ _
            refine' pgb_tup (n := 2) rfl ?f7
            case' f7 => refine' pgs_cons ?f8 ?f9
            case f8 => exact pgb bsOtC 0
            case' f9 => refine' pgs_cons ?fa pgs_nil
            case fa => exact pgb bsOtC 1
          case f5 => exact fun _ _ _ _ _ _ => pts_nil
          case f6 => exact fun _ _ _ _ _ _ => pe_tup (pa_2 (pvb bsOtC 0) pe_int)
        case' e5 => refine' pe_cT call_tupL B.tuple PyProof.Rows.boot_tuple ?e7
        case' e7 => refine' pa_1 ?g
        case g =>
          refine' pe_comp (ix := []) bsOtD.toCScope rfl rfl (pi_tup (pvd nmOt 1)) ?g4 ?g5 ?g6
          case g4 =>
            intro _ _ _ _ _ _
            refine' pgb_tup (n := 2) rfl ?g7
            case' g7 => refine' pgs_cons ?g8 ?g9
            case g8 => exact pgb bsOtD 0
            case' g9 => refine' pgs_cons ?ga pgs_nil
            case ga => exact pgb bsOtD 1
          case g5 => exact fun _ _ _ _ _ _ => pts_nil
          case g6 => exact fun _ _ _ _ _ _ => pe_lst (pa_2 (pvb bsOtD 0) (pvb bsOtD 1))
      case s4 =>
        refine' ps_setD nmOt 3 ?i1
        case' i1 => refine' pe_op op_cat (pvd nmOt 3) ?i2
        case' i2 => refine' pe_lst ?i3
        case' i3 => refine' pa_c ?i4 ?i5
        case' i4 => refine' pe_cT call_tupL B.tuple PyProof.Rows.boot_tuple ?i6
        case' i6 => refine' pa_1 ?j
        case j =>
          refine' pe_comp (ix := []) bsOtE.toCScope rfl rfl (pi_tup (pvd nmOt 1)) ?j4 ?j5 ?j6
          case j4 =>
            intro _ _ _ _ _ _
            refine' pgb_tup (n := 2) rfl ?j7
            case' j7 => refine' pgs_cons ?j8 ?j9
            case j8 => exact pgb bsOtE 0
            case' j9 => refine' pgs_cons ?ja pgs_nil
            case ja => exact pgb bsOtE 1
          case j5 => exact fun _ _ _ _ _ _ => pts_nil
          case j6 => exact fun _ _ _ _ _ _ => pe_tup (pa_2 (pe_op op_add (pvb bsOtE 0) pe_int) (pvb bsOtE 1))
        case i5 => exact pa_2 (pe_cT call_list_of B.list PyProof.Rows.boot_list (pa_1 (pvd nmOt 1))) (pe_f fO hr (by decide) (pa_1 (pvd nmOt 0)))
      case s5 =>
        refine' ps_ret ?k1
        case' k1 => refine' pe_op op_cat (pvd nmOt 3) ?k2
        case' k2 => refine' pe_lst ?k3
        case k3 => exact pa_2 (pe_f fB hr (by decide) (pa_2 (pvd nmOt 0) (pvd nmOt 1))) (pe_f fB hr (by decide) (pa_2 (pvd nmOt 0) (pvd nmOt 1)))
    case rd =>
      obtain ⟨_, vs, _, e0, e1, hw, hts⟩ := ThAt.tup_inv hth rfl
      cases e0
      cases e1
      obtain ⟨ws, rfl, hwl, hws⟩ := ws_ofP hts fun t ht => let ⟨a, b, h, _, _⟩ := hwo.ok t ht; ⟨a, b, h⟩
      have h8 := hwo.l8
      have hbd := hwo.bd
      have hSt := hwo.s
      have len1 : ∀ lo hi : Option Int, (cutV (ws.map V.ref) lo hi).length ≤ 8 := fun lo hi => by
        have h1 := (hts.cut lo hi).len
        have h2 := cutT_len (ts := ts) (lo := lo) (hi := hi)
        omega
      have hwm : (ws.map V.ref).length ≤ 8 := by rw [List.length_map]; omega
      walk_at "v"
      refine ⟨_, rfl, ?_⟩
      refine ⟨wq, _, rfl, hw, fun q1 H1 K1 e1 => ?_⟩
      refine ⟨wq, q1, _, _, rfl, rfl, K1 _ _ hw, e1, by have := len1 none (some 1); omega, fun q2 H2 K2 e2 => ?_⟩
      have K02 := K1.trans K2
      walk_at "v"
      refine w_rev ?_
      walk_at "v"
      refine ⟨wq, _, rfl, K02 _ _ hw, fun q3 hq3 => ?_⟩
      have K3 : Same H2 (upd H2 q3 (.tup (ws.map V.ref).reverse)) := Same.new (Same.refl _) hq3
      have e3 : upd H2 q3 (.tup (ws.map V.ref).reverse) q3 = some (.tup (ws.map V.ref).reverse) := upd_same
      generalize upd H2 q3 (.tup (ws.map V.ref).reverse) = H3 at K3 e3 ⊢
      have K03 := K02.trans K3
      walk_at "v"
      refine ⟨_, rfl, ?_⟩
      walk_at "v"
      refine ⟨wq, _, rfl, K03 _ _ hw, fun q4 H4 K4 e4 => ?_⟩
      have K04 := K03.trans K4
      walk_at "v"
      refine ⟨by show 2 ≤ sizeLine; decide, fun z1 hz1 => ?_⟩
      have K5 : Same H4 (upd H4 z1 (.tup [.int (M : Int), .int 1])) := Same.new (Same.refl _) hz1
      have e5 : upd H4 z1 (.tup [.int (M : Int), .int 1]) z1 = some (.tup [.int (M : Int), .int 1]) := upd_same
      generalize upd H4 z1 (.tup [.int (M : Int), .int 1]) = H5 at K5 e5 ⊢
      walk_at "v"
      refine ⟨by show 1 ≤ sizeLine; decide, fun z2 hz2 => ?_⟩
      have K6 : Same H5 (upd H5 z2 (.tup [.ref z1])) := Same.new (Same.refl _) hz2
      have e6 : upd H5 z2 (.tup [.ref z1]) z2 = some (.tup [.ref z1]) := upd_same
      generalize upd H5 z2 (.tup [.ref z1]) = H6 at K6 e6 ⊢
      have K06 := (K04.trans K5).trans K6
      refine ⟨wq, z2, _, _, rfl, rfl, K06 _ _ hw, e6, by show _ + 1 ≤ 1000; omega, fun q5 H7 K7 e7 => ?_⟩
      have K07 := K06.trans K7
      walk_at "v"
      refine ⟨by show 2 ≤ sizeLine; decide, fun z3 hz3 => ?_⟩
      have K8 : Same H7 (upd H7 z3 (.tup [.int (-1), .int 1])) := Same.new (Same.refl _) hz3
      have e8 : upd H7 z3 (.tup [.int (-1), .int 1]) z3 = some (.tup [.int (-1), .int 1]) := upd_same
      generalize upd H7 z3 (.tup [.int (-1), .int 1]) = H8 at K8 e8 ⊢
      walk_at "v"
      refine ⟨by show 1 ≤ sizeLine; decide, fun z4 hz4 => ?_⟩
      have K9 : Same H8 (upd H8 z4 (.tup [.ref z3])) := Same.new (Same.refl _) hz4
      have e9 : upd H8 z4 (.tup [.ref z3]) z4 = some (.tup [.ref z3]) := upd_same
      generalize upd H8 z4 (.tup [.ref z3]) = H9 at K9 e9 ⊢
      have K09 := (K07.trans K8).trans K9
      walk_at "v"
      refine ⟨z4, wq, _, _, rfl, rfl, e9, K09 _ _ hw, by show 1 + _ ≤ 1000; omega, fun q6 HA KA eA => ?_⟩
      have K0A := K09.trans KA
      walk_at "v"
      refine ⟨Nat.zero_le _, fun q7 hq7 => ?_⟩
      have KB : Same HA (upd HA q7 (.tup [])) := Same.new (Same.refl _) hq7
      have eB : upd HA q7 (.tup []) q7 = some (.tup []) := upd_same
      generalize upd HA q7 (.tup []) = HB at KB eB ⊢
      have K0B := K0A.trans KB
      have htB : ThsAt HB (ws.map V.ref) ts := hts.ks (KS.same K0B)
      have hall : ThsAt HB [.ref q2, .ref q3, .ref q4, .ref q5, .ref q6, .ref q7] [.tup (ts ++ cutT ts none (some 1)), .tup ts.reverse, .tup (cutT ts (some 1) none), .tup (ts ++ [.tup [.int (M : Int), .int 1]]), .tup ([.tup [.int (-1), .int 1]] ++ ts), .tup []] :=
        .cons (.tup ((((((((K3.trans K4).trans K5).trans K6).trans K7).trans K8).trans K9).trans (KA.trans KB)) _ _ e2) (htB.app (htB.cut _ _)))
        (.cons (.tup ((((((((K4).trans K5).trans K6).trans K7).trans K8).trans K9).trans (KA.trans KB)) _ _ e3) htB.rev)
        (.cons (.tup (((((((K5).trans K6).trans K7).trans K8).trans K9).trans (KA.trans KB)) _ _ e4) (htB.cut _ _))
        (.cons (.tup ((((K8).trans K9).trans (KA.trans KB)) _ _ e7) (htB.app (.cons (.tup ((((((K6).trans K7).trans K8).trans K9).trans (KA.trans KB)) _ _ e5) (.cons (.int _) (.cons (.int _) .nil))) .nil)))
        (.cons (.tup (KB _ _ eA) ((ThsAt.cons (.tup ((K9.trans (KA.trans KB)) _ _ e8) (.cons (.int _) (.cons (.int _) .nil))) .nil).app htB))
        (.cons (.tup eB .nil) .nil)))))
      have hsm : ∀ t ∈ ([.tup (ts ++ cutT ts none (some 1)), .tup ts.reverse, .tup (cutT ts (some 1) none), .tup (ts ++ [.tup [.int (M : Int), .int 1]]), .tup ([.tup [.int (-1), .int 1]] ++ ts), .tup []] : List Th), ThS t := by
        have cl := @cutT_len ts
        have hc : ∀ lo hi, ∀ t ∈ cutT ts lo hi, ThS t := fun lo hi t h => hSt t (cutT_mem h)
        have p1 : ThS (.tup [.int (M : Int), .int 1]) := .tup (by simp) (all_c (.int (by omega)) (all_c (.int (by decide)) all_n))
        have p2 : ThS (.tup [.int (-1), .int 1]) := .tup (by simp) (all_c (.int (by decide)) (all_c (.int (by decide)) all_n))
        refine all_c (.tup ?_ (all_app hSt (hc _ _))) (all_c (.tup ?_ fun t h => hSt t (List.mem_reverse.mp h)) (all_c (.tup ?_ (hc _ _)) (all_c (.tup ?_ (all_app hSt (all_c p1 all_n))) (all_c (.tup ?_ (all_app (all_c p2 all_n) hSt)) (all_c (.tup (by simp) all_n) all_n)))))
        · rw [List.length_append]; have := cl (lo := none) (hi := some 1); omega
        · rw [List.length_reverse]; omega
        · have := cl (lo := some 1) (hi := none); omega
        · rw [List.length_append]; show _ + 1 ≤ 60; omega
        · rw [List.length_append]; show 1 + _ ≤ 60; omega
      have hlen : ([.ref q2, .ref q3, .ref q4, .ref q5, .ref q6, .ref q7] : List V).length = 6 := rfl
      generalize ([.tup (ts ++ cutT ts none (some 1)), .tup ts.reverse, .tup (cutT ts (some 1) none), .tup (ts ++ [.tup [.int (M : Int), .int 1]]), .tup ([.tup [.int (-1), .int 1]] ++ ts), .tup []] : List Th) = tl at hall hsm
      walk_at "v"
      refine ⟨by show 6 ≤ sizeLine; decide, fun o1 ho1 => ?_⟩
      generalize ([.ref q2, .ref q3, .ref q4, .ref q5, .ref q6, .ref q7] : List V) = us at hall hlen ⊢
      have KC : Same HB (upd HB o1 (.lst us)) := Same.new (Same.refl _) ho1
      have eC : upd HB o1 (.lst us) o1 = some (.lst us) := upd_same
      generalize upd HB o1 (.lst us) = HC at KC eC ⊢
      have K0C := K0B.trans KC
      replace hall := hall.ks (KS.same KC)
      clear K1 K2 K3 K4 K5 K6 K7 K8 K9 KA KB e1 e2 e3 e4 e5 e6 e7 e8 e9 eA eB K02 K03 K04 K06 K07 K09 K0A htB
      walk_at "v"
      refine ⟨wq, rfl, ⟨_, SqT.of (K0C _ _ hw)⟩, fun Da hDa => ?_⟩
      refine prs_obj (xs := ts) (ρ := []) (fun t => .int (fstT t)) (fun t => .int (sndT t)) (fun t => (.tup [.int (fstT t), .int (2 * sndT t)])) (fun t => .tup [.int (fstT t), .int (2 * sndT t)]) (fun t H b e => .tup e (.cons (.int _) (.cons (.int _) .nil))) (K0C _ _ hw) hwl (by omega) (fun i q t e1 e2 => K0C _ _ (hws i q t e1 e2)) (fun i t H' ht K' R kR => ?_) (fun ysa HDa KDa hya ea => ?_) hDa
      · have hb' := hbd t (List.mem_of_getElem? ht)
        walk_at "v"
        refine w_rI (.inr ⟨by omega, by omega⟩) ?_
        walk_at "v"
        refine ⟨by show 2 ≤ sizeLine; decide, fun z hz => ?_⟩
        exact kR z _ (Same.new (Same.refl _) hz) hz upd_same
      walk_at "v"
      refine ⟨Da, _, rfl, ea, fun qa HTa KTa eTa => ?_⟩
      have hTa : ThAt HTa (.ref qa) (.tup (ts.map fun t => .tup [.int (fstT t), .int (2 * sndT t)])) := .tup eTa (hya.ks (KS.same KTa))
      have Sa : ThS (.tup (ts.map fun t => .tup [.int (fstT t), .int (2 * sndT t)])) := .tup (by rw [List.length_map]; omega) fun u hu => by
        obtain ⟨t, ht, rfl⟩ := List.mem_map.mp hu
        have hb' := hbd t ht
        refine .tup (by simp) fun u hu => ?_
        simp only [List.mem_cons, List.not_mem_nil, or_false] at hu
        rcases hu with rfl | rfl
        · exact .int (by omega)
        · exact .int (by omega)
      have Ka := (KDa).trans KTa
      have K0a := K0C.trans Ka
      walk_at "v"
      refine ⟨wq, rfl, ⟨_, SqT.of (K0a _ _ hw)⟩, fun Db hDb => ?_⟩
      refine prs_obj (xs := ts) (ρ := []) (fun t => .int (fstT t)) (fun t => .int (sndT t)) (fun t => (.tup [.int (fstT t), .bl true])) (fun t => .tup [.int (fstT t), .bl true]) (fun t H b e => .tup e (.cons (.int _) (.cons (.bl _) .nil))) (K0a _ _ hw) hwl (by omega) (fun i q t e1 e2 => K0a _ _ (hws i q t e1 e2)) (fun i t H' ht K' R kR => ?_) (fun ysb HDb KDb hyb eb => ?_) hDb
      · have hb' := hbd t (List.mem_of_getElem? ht)
        walk_at "v"
        refine ⟨by show 2 ≤ sizeLine; decide, fun z hz => ?_⟩
        exact kR z _ (Same.new (Same.refl _) hz) hz upd_same
      walk_at "v"
      refine ⟨Db, _, rfl, eb, fun qb HTb KTb eTb => ?_⟩
      have hTb : ThAt HTb (.ref qb) (.tup (ts.map fun t => .tup [.int (fstT t), .bl true])) := .tup eTb (hyb.ks (KS.same KTb))
      have Sb : ThS (.tup (ts.map fun t => .tup [.int (fstT t), .bl true])) := .tup (by rw [List.length_map]; omega) fun u hu => by
        obtain ⟨t, ht, rfl⟩ := List.mem_map.mp hu
        have hb' := hbd t ht
        refine .tup (by simp) fun u hu => ?_
        simp only [List.mem_cons, List.not_mem_nil, or_false] at hu
        rcases hu with rfl | rfl
        · exact .int (by omega)
        · exact .bl _
      have Kb := KDb.trans KTb
      have K0b := K0a.trans Kb
      walk_at "v"
      refine ⟨by show 2 ≤ sizeLine; decide, fun y1 hy1 => ?_⟩
      have KY : Same HTb (upd HTb y1 (.lst [.ref qa, .ref qb])) := Same.new (Same.refl _) hy1
      have eY : upd HTb y1 (.lst [.ref qa, .ref qb]) y1 = some (.lst [.ref qa, .ref qb]) := upd_same
      generalize upd HTb y1 (.lst [.ref qa, .ref qb]) = HY at KY eY ⊢
      refine ⟨o1, y1, _, _, rfl, rfl, ((Ka.trans Kb).trans KY) _ _ eC, eY, Nat.le_of_lt (small1000 (by show _ + 2 ≤ 1000; omega)), fun o2 ho2 => ?_⟩
      replace hall := (hall.ks (KS.same ((Ka.trans Kb).trans KY))).app (.cons (hTa.ks (KS.same (Kb.trans KY))) (.cons (hTb.ks (KS.same KY)) .nil))
      replace hsm := all_app hsm (all_c Sa (all_c Sb all_n))
      replace hlen : (us ++ [V.ref qa, V.ref qb]).length = 8 := by rw [List.length_append, hlen]; rfl
      generalize us ++ [V.ref qa, V.ref qb] = us2 at hall hlen ⊢
      generalize tl ++ _ = tl2 at hall hsm
      have KE : Same HY (upd HY o2 (.lst us2)) := Same.new (Same.refl _) ho2
      have eE : upd HY o2 (.lst us2) o2 = some (.lst us2) := upd_same
      generalize upd HY o2 (.lst us2) = HE at KE eE ⊢
      have K0E := (K0b.trans KY).trans KE
      replace hall := hall.ks (KS.same KE)
      clear hTa hTb Sa Sb eTa eTb ea eb hya hyb eC eY Ka Kb KDa KTa KDb KTb K0a K0b K0C KY
      walk_at "v"
      refine ⟨wq, rfl, ⟨_, SqT.of (K0E _ _ hw)⟩, fun Dc hDc => ?_⟩
      refine prs_obj (xs := ts) (ρ := []) (fun t => .int (fstT t)) (fun t => .int (sndT t)) (fun t => (.tup [.int (fstT t), .int 0])) (fun t => .tup [.int (fstT t), .int 0]) (fun t H b e => .tup e (.cons (.int _) (.cons (.int _) .nil))) (K0E _ _ hw) hwl (by omega) (fun i q t e1 e2 => K0E _ _ (hws i q t e1 e2)) (fun i t H' ht K' R kR => ?_) (fun ysc HDc KDc hyc ec => ?_) hDc
      · have hb' := hbd t (List.mem_of_getElem? ht)
        walk_at "v"
        refine ⟨by show 2 ≤ sizeLine; decide, fun z hz => ?_⟩
        exact kR z _ (Same.new (Same.refl _) hz) hz upd_same
      walk_at "v"
      refine ⟨Dc, _, rfl, ec, fun qc HTc KTc eTc => ?_⟩
      have hTc : ThAt HTc (.ref qc) (.tup (ts.map fun t => .tup [.int (fstT t), .int 0])) := .tup eTc (hyc.ks (KS.same KTc))
      have Sc : ThS (.tup (ts.map fun t => .tup [.int (fstT t), .int 0])) := .tup (by rw [List.length_map]; omega) fun u hu => by
        obtain ⟨t, ht, rfl⟩ := List.mem_map.mp hu
        have hb' := hbd t ht
        refine .tup (by simp) fun u hu => ?_
        simp only [List.mem_cons, List.not_mem_nil, or_false] at hu
        rcases hu with rfl | rfl
        · exact .int (by omega)
        · exact .int (by decide)
      have Kc := (KDc).trans KTc
      have K0c := K0E.trans Kc
      walk_at "v"
      refine ⟨wq, rfl, ⟨_, SqT.of (K0c _ _ hw)⟩, fun Dd hDd => ?_⟩
      refine prs_obj (xs := ts) (ρ := []) (fun t => .int (fstT t)) (fun t => .int (sndT t)) (fun t => (.lst [.int (fstT t), .int (sndT t)])) (fun t => .lst) (fun t H b e => .lst e) (K0c _ _ hw) hwl (by omega) (fun i q t e1 e2 => K0c _ _ (hws i q t e1 e2)) (fun i t H' ht K' R kR => ?_) (fun ysd HDd KDd hyd ed => ?_) hDd
      · have hb' := hbd t (List.mem_of_getElem? ht)
        walk_at "v"
        refine ⟨by show 2 ≤ sizeLine; decide, fun z hz => ?_⟩
        exact kR z _ (Same.new (Same.refl _) hz) hz upd_same
      walk_at "v"
      refine ⟨Dd, _, rfl, ed, fun qd HTd KTd eTd => ?_⟩
      have hTd : ThAt HTd (.ref qd) (.tup (ts.map fun t => .lst)) := .tup eTd (hyd.ks (KS.same KTd))
      have Sd : ThS (.tup (ts.map fun t => .lst)) := .tup (by rw [List.length_map]; omega) fun u hu => by
        obtain ⟨t, ht, rfl⟩ := List.mem_map.mp hu
        have hb' := hbd t ht
        exact .lst
      have Kd := KDd.trans KTd
      have K0d := K0c.trans Kd
      walk_at "v"
      refine ⟨by show 2 ≤ sizeLine; decide, fun y2 hy2 => ?_⟩
      have KY : Same HTd (upd HTd y2 (.lst [.ref qc, .ref qd])) := Same.new (Same.refl _) hy2
      have eY : upd HTd y2 (.lst [.ref qc, .ref qd]) y2 = some (.lst [.ref qc, .ref qd]) := upd_same
      generalize upd HTd y2 (.lst [.ref qc, .ref qd]) = HY at KY eY ⊢
      refine ⟨o2, y2, _, _, rfl, rfl, ((Kc.trans Kd).trans KY) _ _ eE, eY, Nat.le_of_lt (small1000 (by show _ + 2 ≤ 1000; omega)), fun o3 ho3 => ?_⟩
      replace hall := (hall.ks (KS.same ((Kc.trans Kd).trans KY))).app (.cons (hTc.ks (KS.same (Kd.trans KY))) (.cons (hTd.ks (KS.same KY)) .nil))
      replace hsm := all_app hsm (all_c Sc (all_c Sd all_n))
      replace hlen : (us2 ++ [V.ref qc, V.ref qd]).length = 10 := by rw [List.length_append, hlen]; rfl
      generalize us2 ++ [V.ref qc, V.ref qd] = us3 at hall hlen ⊢
      generalize tl2 ++ _ = tl3 at hall hsm
      have no3 : p ≠ o3 := (T0.same (K0d.trans KY)).np ho3
      have KF : Same HY (upd HY o3 (.lst us3)) := Same.new (Same.refl _) ho3
      have eF : upd HY o3 (.lst us3) o3 = some (.lst us3) := upd_same
      generalize upd HY o3 (.lst us3) = HF at KF eF ⊢
      have K0F := (K0d.trans KY).trans KF
      replace hall := hall.ks (KS.same KF)
      clear hTc hTd Sc Sd eTc eTd ec ed hyc hyd eE eY Kc Kd KDc KTc KDd KTd K0c K0d K0E KY
      walk_at "v"
      refine ⟨wq, rfl, ⟨_, SqT.of (K0F _ _ hw)⟩, fun De hDe => ?_⟩
      refine prs_obj (xs := ts) (ρ := []) (fun t => .int (fstT t)) (fun t => .int (sndT t)) (fun t => (.tup [.int (fstT t + 1), .int (sndT t)])) (fun t => .tup [.int (fstT t + 1), .int (sndT t)]) (fun t H b e => .tup e (.cons (.int _) (.cons (.int _) .nil))) (K0F _ _ hw) hwl (by omega) (fun i q t e1 e2 => K0F _ _ (hws i q t e1 e2)) (fun i t H' ht K' R kR => ?_) (fun yse HDe KDe hye ee => ?_) hDe
      · have hb' := hbd t (List.mem_of_getElem? ht)
        walk_at "v"
        refine ⟨by show 2 ≤ sizeLine; decide, fun z hz => ?_⟩
        exact kR z _ (Same.new (Same.refl _) hz) hz upd_same
      walk_at "v"
      refine ⟨De, _, rfl, ee, fun qe HTe KTe eTe => ?_⟩
      have hTe : ThAt HTe (.ref qe) (.tup (ts.map fun t => .tup [.int (fstT t + 1), .int (sndT t)])) := .tup eTe (hye.ks (KS.same KTe))
      have Se : ThS (.tup (ts.map fun t => .tup [.int (fstT t + 1), .int (sndT t)])) := .tup (by rw [List.length_map]; omega) fun u hu => by
        obtain ⟨t, ht, rfl⟩ := List.mem_map.mp hu
        have hb' := hbd t ht
        refine .tup (by simp) fun u hu => ?_
        simp only [List.mem_cons, List.not_mem_nil, or_false] at hu
        rcases hu with rfl | rfl
        · exact .int (by omega)
        · exact .int (by omega)
      have Ke := (KDe).trans KTe
      have K0e := K0F.trans Ke
      walk_at "v"
      refine ⟨wq, _, rfl, .inr (SqT.of (K0e _ _ hw)), fun l1 hl1 => ?_⟩
      have KG : Same HTe (upd HTe l1 (.lst (ws.map V.ref))) := Same.new (Same.refl _) hl1
      have eG : upd HTe l1 (.lst (ws.map V.ref)) l1 = some (.lst (ws.map V.ref)) := upd_same
      generalize upd HTe l1 (.lst (ws.map V.ref)) = HG at KG eG ⊢
      have K0G := K0e.trans KG
      have nl1 : p ≠ l1 := (T0.same K0e).np hl1
      walk_at "v"
      refine ⟨p, l, ns, rfl, T0.same K0G, fun ov ot HH hov sov TH PH => ?_⟩
      have PFH : PK p HF HH := (PK.same (Ke.trans KG)).trans PH
      have P0H : PK p H HH := (PK.same K0G).trans PH
      have eFH := PFH.bp _ _ (Ne.symm no3) eF
      have eGH := PH.bp _ _ (Ne.symm nl1) eG
      have hTe' := ThAt.pk PH (hTe.ks (KS.same KG))
      replace hall := ThsAt.pk PFH hall
      walk_at "v"
      refine ⟨by show 3 ≤ sizeLine; decide, fun y3 hy3 => ?_⟩
      have KI : Same HH (upd HH y3 (.lst [.ref qe, .ref l1, ov])) := Same.new (Same.refl _) hy3
      have eI : upd HH y3 (.lst [.ref qe, .ref l1, ov]) y3 = some (.lst [.ref qe, .ref l1, ov]) := upd_same
      generalize upd HH y3 (.lst [.ref qe, .ref l1, ov]) = HI at KI eI ⊢
      refine ⟨o3, y3, _, _, rfl, rfl, KI _ _ eFH, eI, Nat.le_of_lt (small1000 (by show _ + 3 ≤ 1000; omega)), fun o4 ho4 => ?_⟩
      replace hall := (hall.ks (KS.same KI)).app (.cons (hTe'.ks (KS.same KI)) (.cons (.lst (KI _ _ eGH)) (.cons (hov.ks (KS.same KI)) .nil)))
      replace hsm := all_app hsm (all_c Se (all_c .lst (all_c sov all_n)))
      replace hlen : (us3 ++ [V.ref qe, V.ref l1, ov]).length = 13 := by rw [List.length_append, hlen]; rfl
      generalize us3 ++ [V.ref qe, V.ref l1, ov] = us4 at hall hlen ⊢
      generalize tl3 ++ _ = tl4 at hall hsm
      have no4 : p ≠ o4 := (TH.same KI).np ho4
      have KJ : Same HI (upd HI o4 (.lst us4)) := Same.new (Same.refl _) ho4
      have eJ : upd HI o4 (.lst us4) o4 = some (.lst us4) := upd_same
      generalize upd HI o4 (.lst us4) = HJ at KJ eJ ⊢
      have KHJ := KI.trans KJ
      have TJ := TH.same KHJ
      have P0J := P0H.trans (PK.same KHJ)
      replace hall := hall.ks (KS.same KJ)
      walk_at "v"
      refine ⟨p, l, ns, .ref wq, .tup ts, rfl, TJ, ThAt.pk P0J hth, hwo.pd, fun v1 t1 HK h1 s1 TK1 PK1 => ?_⟩
      walk_at "v"
      refine ⟨p, l, ns, .ref wq, .tup ts, rfl, TK1, ThAt.pk (P0J.trans PK1) hth, hwo.pd, fun v2 t2 HL h2 s2 TL PL => ?_⟩
      walk_at "v"
      refine ⟨by show 2 ≤ sizeLine; decide, fun y4 hy4 => ?_⟩
      have KM : Same HL (upd HL y4 (.lst [v1, v2])) := Same.new (Same.refl _) hy4
      have eM : upd HL y4 (.lst [v1, v2]) y4 = some (.lst [v1, v2]) := upd_same
      generalize upd HL y4 (.lst [v1, v2]) = HM at KM eM ⊢
      have PJM := (PK1.trans PL).trans (PK.same KM)
      have P0M := P0J.trans PJM
      have TM := TL.same KM
      refine ⟨o4, y4, _, _, rfl, rfl, PJM.bp _ _ (Ne.symm no4) eJ, eM, Nat.le_of_lt (small1000 (by show _ + 2 ≤ 1000; omega)), fun o5 ho5 => ?_⟩
      have KN : Same HM (upd HM o5 (.lst (us4 ++ [v1, v2]))) := Same.new (Same.refl _) ho5
      exact k o5 (us4 ++ [v1, v2]) (tl4 ++ [t1, t2]) _ (P0M.free TM ho5) upd_same (((ThsAt.pk PJM hall).app (.cons (ThAt.pk (PL.trans (PK.same KM)) h1) (.cons (h2.ks (KS.same KM)) .nil))).ks (KS.same KN)) (all_app hsm (all_c s1 (all_c s2 all_n))) (by rw [List.length_append, hlen]; exact Nat.le_refl 15) (TM.same KN) (P0M.trans (PK.same KN))
end
end K27

set_option Elab.async false
set_option linter.all false
set_option maxRecDepth 100000
namespace K27
open PySem L2 G2
local macro_rules | `(tactic| walk_at "v") => `(tactic| repeat (with_reducible first
  | refine w_seq ?_ | refine w_asg ?_ | refine w_gname ?_ | refine w_op ?_ | refine w_var rfl ?_ | refine w_c ?_ | refine w_rI0 ?_ | refine w_ifs ?_ | refine w_ife ?_ | refine w_test ?_ | refine w_tb ?_ | refine w_bl ?_ | refine w_not ?_ | refine w_ret ?_ | refine w_retN ?_
  | refine w_nil ?_ | refine w_cons ?_ | refine w_lst ?_ | refine w_tup ?_ | refine w_cb ?_ | refine w_call ?_ | refine w_gsub ?_ | refine w_and ?_ | refine w_or ?_ | refine w_next ?_ | refine w_all ?_ | refine w_vals ?_ | refine w_compR ?_ | refine w_compT ?_ | refine w_forR ?_ | refine w_forT ?_ | refine w_forL ?_ | refine w_drop ?_ | refine w_bm ?_ | refine w_compZ ?_ | refine w_compL ?_ | refine w_chain ?_ | refine w_sl ?_ | refine w_nopart ?_ | refine w_part ?_ | refine w_unI ?_ | refine iteT ?_ | refine iteF ?_))

abbrev sLaw : Stmt := top 24
abbrev nLaw : List Str := ["_law_script", "_law_tape_here", "_law_k", "_law_inputs", "_law_sorts", "_law_forms", "_law_weights", "_law_kept", "_law_thing", "_law_found"]
theorem nmLaw : Nm nLaw (defScope sLaw) := ⟨by decide +kernel, by decide +kernel⟩
theorem scLaw : FnScope nLaw ["_law_script"] (defScope sLaw) := ⟨rfl, rfl, rfl, by decide +kernel, rfl, by decide +kernel, by decide +kernel⟩

abbrev cLaw : Scope := asgComp ((forB ((defBody sLaw).getD 1 (.Pass ⟨0, 0, 0, 0⟩))).getD 2 (.Pass ⟨0, 0, 0, 0⟩))
theorem locF : (defScope sLaw).names.lookup ("_law_forms" : Str) = some .local := by decide +kernel
theorem bsLaw : BScope (defScope sLaw) cLaw ["_law_j"] ["_law_inputs", "_law_sorts", "_law_tape_here"] ["_law_small_form"] := { okind := by decide +kernel, kind := by decide +kernel, nocell := by decide +kernel, names := by decide +kernel, fr := by decide +kernel, ff := by decide +kernel, nd := by decide +kernel, vis := by decide +kernel, loc := by decide +kernel, gl := by decide +kernel }

theorem fs_shw {n m : Nat} {fms : List Fm} (O : FsO n m fms) : Shw (.list (fms.map fmD)) 20000 3 :=
  (Shw.lsts fun d hd => by
    obtain ⟨f, hf, rfl⟩ := List.mem_map.mp hd
    exact fm_shw (O.fo f hf) (by decide) O.n1 O.m1).up (by have := O.l9; rw [List.length_map]; omega) (by decide)
def spLaw (K : PySem.W.Frag) : Sp := fun vs H Q _ => ∃ (a : Addr) (ns : List Int), vs = [.ref a] ∧ SqF K H a (ns.map V.int) ∧ ns.length ≤ 63 ∧ ∀ H', Q (.bl true) H'
section
variable {P : Program} {w : World} {K : PySem.W.Frag} {mg : Str → Option Value} {base : Heap}
set_option maxHeartbeats 4000000 in
theorem ok_Law {f : Addr} {fd : FuncData} (B : Blt mg) (fT : Has P w K mg base 1 "_law_tape" ["_law_script"] (spTape K)) (D : Has P w K mg base 1 "_law_draw" ["_law_tape_here", "_law_many"] spDraw) (fS : Has P w K mg base 2 "_law_small_form" ["_law_tape_here", "_law_inputs", "_law_sorts"] spSf) (fC : Has P w K mg base 2 "_law_closed" ["_law_tape_here", "_law_forms"] spCl) (fO : Has P w K mg base 6 "_law_others" ["_law_tape_here", "_law_weights", "_law_many"] spOt) (fP : Has P w K mg base 4 "shuts" ["forms", "thing"] spSh) (fL : Has P w K mg base 2 "_law_shut" ["_law_forms", "_law_thing"] spSh) (F : Fun K "law" "law" sLaw f fd) : FnOk P w K mg base CX0 7 f fd ["_law_script"] (spLaw K) := by
  refine F.ok scLaw (fun vs H Q E h => ?_) (fun cdv A outer s H vs Q E hr h => ?_)
  · obtain ⟨a, ns, rfl, _⟩ := h
    rfl
  · obtain ⟨a, ns, rfl, hS, hn, k⟩ := h
    refine' ⟨_, ?hb, ?rd⟩
    case hb =>
      refine' pss_cons ?s1 ?r1
      case' r1 => refine' pss_cons ?s2 ?r2
      case' r2 => refine' pss_one ?s3
      case s1 => exact ps_setD nmLaw 1 (pe_f fT hr (by decide) (pa_1 (pvd nmLaw 0)))
      case s3 => exact ps_ret pe_bl
      case s2 =>
        refine' ps_for PassesOwn.never rfl (pi_r1 B.range (pa_1 pe_int)) (pgd nmLaw 2) ?b1
        case' b1 => refine' pss_cons ?t1 ?u1
        case' u1 => refine' pss_cons ?t2 ?u2
        case' u2 => refine' pss_cons ?t3 ?u3
        case' u3 => refine' pss_cons ?t4 ?u4
        case' u4 => refine' pss_cons ?t5 ?u5
        case' u5 => refine' pss_cons ?t6 ?u6
        case' u6 => refine' pss_one ?t7
        case t1 => exact ps_setD nmLaw 3 (pe_f D hr (by decide) (pa_2 (pvd nmLaw 1) pe_int))
        case t2 => exact ps_setD nmLaw 4 (pe_op op_add pe_int (pe_f D hr (by decide) (pa_2 (pvd nmLaw 1) pe_int)))
        case t3 =>
          refine' ps_setC (i := 5) (ix := [3, 4, 1]) nmLaw.nd rfl locF bsLaw.toCScope rfl rfl (pi_r1 B.range (pa_1 (pe_op op_add pe_int (pe_f D hr (by decide) (pa_2 (pvd nmLaw 1) pe_int))))) ?h4 ?h5 ?h6
          case h4 => exact fun _ _ _ _ _ _ => pgb bsLaw 0
          case h5 => exact fun _ _ _ _ _ _ => pts_nil
          case h6 => exact fun _ _ _ _ _ _ => pe_f fS hr (by decide) (pa_c (pvb bsLaw 3) (pa_2 (pvb bsLaw 1) (pvb bsLaw 2))) (bsLaw.g 0)
        case t4 => exact ps_setD nmLaw 6 (pe_tup (pa_1 (pe_tup (pa_2 pe_int pe_int))))
        case t5 =>
          refine' ps_if (pt_cmpR op_gt (pe_f D hr (by decide) (pa_2 (pvd nmLaw 1) pe_int)) pe_int (nomark _)) ?c1 pss_nil
          case' c1 => refine' pss_one ?c2
          case c2 => exact ps_asg (pe_f fC hr (by decide) (pa_2 (pvd nmLaw 1) (pvd nmLaw 5))) (pg_tup rfl (pgs_cons (pgd nmLaw 5) (pgs_cons (pgd nmLaw 6) pgs_nil)))
        case t6 => exact ps_setD nmLaw 7 (pe_cB (call_repr hr) B.repr PyProof.Rows.boot_repr (pa_1 (pvd nmLaw 5)))
        case t7 =>
          refine' ps_for PassesOwn.never rfl ?d1 (pgd nmLaw 8) ?d2
          case' d1 => refine' pi_list ?d3
          case d3 => exact pe_op op_cat (pe_lst (pa_1 (pvd nmLaw 6))) (pe_f fO hr (by decide) (pa_c (pvd nmLaw 1) (pa_2 (pvd nmLaw 6) (pe_cB call_lnL B.len PySem.boot_len (pa_1 (pvd nmLaw 5))))))
          case' d2 => refine' pss_cons ?e1 ?e2
          case e1 => exact ps_setD nmLaw 9 (pe_f fP hr (by decide) (pa_2 (pvd nmLaw 5) (pvd nmLaw 8)))
          case' e2 => refine' pss_one ?e3
          case' e3 => refine' ps_if ?e4 (pss_one (ps_ret pe_bl)) pss_nil
          case' e4 => refine' PW.pt ?e5
          case' e5 => refine' pw_or ?e6 ?e7
          case e6 => exact pt_not (pt_val (pe_cB is_bool B.isi PyProof.Rows.boot_isinstance (pa_2 (pvd nmLaw 9) (pe_bltn (v := .ty "bool") rfl B.bool PyProof.Rows.boot_bool rfl))))
          case' e7 => refine' pw_or ?e8 ?e9
          case e8 => exact pt_cmpR op_ne (pvd nmLaw 9) (pe_f fL hr (by decide) (pa_2 (pvd nmLaw 5) (pvd nmLaw 8))) (nomark _)
          case' e9 => refine' pw_or1 ?ea
          case ea => exact pt_cmpR op_ne (pe_cB (call_repr hr) B.repr PyProof.Rows.boot_repr (pa_1 (pvd nmLaw 5))) (pvd nmLaw 7) (nomark _)
    case rd =>
      walk_at "v"
      refine ⟨a, ns, rfl, hS.sq, fun p l ms H1 _ T1 _ => ?_⟩
      walk_at "v"
      refine ⟨5, rfl, by decide, by decide, ?_⟩
      refine for_range (n := 5) (fun j σ H' => ∃ (u2 u3 u4 u5 u6 u7 u8 u9 : Option V), σ = [some (.ref a), some (.ref p), u2, u3, u4, u5, u6, u7, u8, u9] ∧ Tp H' p l ms) ⟨_, _, _, _, _, _, _, _, rfl, T1⟩ ?_ ?_
      · rintro j σ H2 hj ⟨u2, u3, u4, u5, u6, u7, u8, u9, rfl, T2⟩
        rw [Int.zero_add]
        walk_at "v"
        refine ⟨p, l, ms, 4, rfl, T2, by decide, by decide, fun r c e r0 r1 => ?_⟩
        have T3 := T2.draw (c := c) (e := e)
        generalize upd H2 p (.lst [.ref l, .int c, .int e]) = H3 at T3 ⊢
        obtain ⟨n, rfl⟩ := ofI r0
        have hn3 : n ≤ 10 := by omega
        walk_at "v"
        refine ⟨p, l, ms, 5, rfl, T3, by decide, by decide, fun r c e r0 r1 => ?_⟩
        have T4 := T3.draw (c := c) (e := e)
        generalize upd H3 p (.lst [.ref l, .int c, .int e]) = H4 at T4 ⊢
        obtain ⟨m, hm1, hm10⟩ : ∃ m : Nat, (1 + r) = (m : Int) ∧ m ≤ 10 := ⟨(1 + r).toNat, by omega, by omega⟩
        walk_at "v"
        rw [hm1]
        walk_at "v"
        refine ⟨p, l, ms, 6, rfl, T4, by decide, by decide, fun r c e r0 r1 => ?_⟩
        have T5 := T4.draw (c := c) (e := e)
        generalize upd H4 p (.lst [.ref l, .int c, .int e]) = H5 at T5 ⊢
        obtain ⟨N, hN1, hN6⟩ : ∃ N : Nat, (1 + r) = (N : Int) ∧ 1 ≤ N ∧ N ≤ 6 := ⟨(1 + r).toNat, by omega, by omega, by omega⟩
        walk_at "v"
        rw [hN1]
        refine ⟨_, rfl, by omega, by omega, fun fl hfl => ?_⟩
        rw [Int.toNat_natCast]
        have npf := T5.np hfl
        have nlf := T5.nl hfl
        refine cgo_range (ρ := [some (.int (n : Int)), some (.int (m : Int)), some (.ref p)]) (fun i zs H' => ∃ (fs : List Addr) (fms : List Fm), zs = fs.map V.ref ∧ fms.length = i ∧ Fms H' fs fms ∧ (∀ f ∈ fms, FmOk n m 10 f) ∧ Tp H' p l ms) ⟨[], [], rfl, rfl, trivial, (fun f h => by cases h), T5.put npf nlf⟩ ?_ ?_
        · rintro i zs H' hi ⟨fs, fms, rfl, hfl', hf, hfo, T'⟩ hDz R S kR _
          have hfl2 := hf.len
          walk_at "v"
          refine ⟨p, l, ms, n, m, rfl, T', hn3, hm10, fun q f H'' hq hqo T'' P'' => ?_⟩
          have hDq := P''.bp _ _ (Ne.symm npf) hDz
          have t2 : TK H' (upd H'' fl (.lst (fs.map V.ref ++ [.ref q]))) := ⟨fun b xs e => by rw [upd_ne (ne_of (P''.t _ _ e) hDq (by intro z; cases z))]; exact P''.t _ _ e, fun b o u e => by
            by_cases hbp : b = p
            · subst hbp
              obtain ⟨_, _, ep⟩ := T'.ex
              rw [ep] at e
              cases e
            · rw [upd_ne (ne_of (P''.bp _ _ hbp e) hDq (by intro z; cases z))]
              exact P''.bp _ _ hbp e⟩
          have t3 : TK H'' (upd H'' fl (.lst (fs.map V.ref ++ [.ref q]))) := TK.lst hDq
          refine kR _ _ hDq (by rw [List.length_map]; exact small1000 (by omega)) ⟨fs ++ [q], fms ++ [f], by rw [List.map_append]; rfl, by rw [List.length_append, hfl']; rfl, Fms.app (Fms.one (hq.tk t3)) (hf.tk t2), fun g hg => ?_, T''.put npf nlf⟩
          rcases List.mem_append.mp hg with z | z
          · exact hfo g z
          · rw [List.mem_singleton.mp z]
            exact hqo
        rintro zs H6 ⟨fs, fms, rfl, hfl', hf, hfo, T6⟩ e6
        walk_at "v"
        refine ⟨by show 2 ≤ sizeLine; decide, fun z1 hz1 => ?_⟩
        have K7 : Same H6 (upd H6 z1 (.tup [.int 0, .int 1])) := Same.new (Same.refl _) hz1
        have e7 : upd H6 z1 (.tup [.int 0, .int 1]) z1 = some (.tup [.int 0, .int 1]) := upd_same
        generalize upd H6 z1 (.tup [.int 0, .int 1]) = H7 at K7 e7 ⊢
        walk_at "v"
        refine ⟨by show 1 ≤ sizeLine; decide, fun w1 hw1 => ?_⟩
        have K8 : Same H7 (upd H7 w1 (.tup [.ref z1])) := Same.new (Same.refl _) hw1
        have e8 : upd H7 w1 (.tup [.ref z1]) w1 = some (.tup [.ref z1]) := upd_same
        generalize upd H7 w1 (.tup [.ref z1]) = H8 at K8 e8 ⊢
        have K68 := K7.trans K8
        have T8 := T6.same K68
        have hw8 : ThAt H8 (.ref w1) (.tup [.tup [.int 0, .int 1]]) := .tup e8 (.cons (.tup (K8 _ _ e7) (.cons (.int _) (.cons (.int _) .nil))) .nil)
        have ho8 : WtO [.tup [.int 0, .int 1]] := ⟨by simp, fun t ht => ⟨0, 1, List.mem_singleton.mp ht, by decide, by decide⟩⟩
        have e68 := K68 _ _ e6
        have hf8 := hf.tk (TK.same K68)
        clear e7 e8 K7 K8 hf e6 T6 T5 T4 T3 T2
        refine w_gname ?_
        with_reducible refine seq_post (fun σ' H' => ∃ (gl wq : Addr) (gs : List Addr) (gms : List Fm) (ts : List Th), σ' = [some (.ref a), some (.ref p), some (.int (j : Int)), some (.int (n : Int)), some (.int (m : Int)), some (.ref gl), some (.ref wq), u7, u8, u9] ∧ gl ≠ p ∧ H' gl = some (.lst (gs.map V.ref)) ∧ FsAt H' gs gms ∧ FsO n m gms ∧ ThAt H' (.ref wq) (.tup ts) ∧ WtO ts ∧ Tp H' p l ms) ?_ fun rest => ?_
        · rintro σ' H9 ⟨gl, wq, gs, gms, ts, rfl, ngp, e9, hfs, O, hth, hwo, T9⟩
          have l9 := O.l9
          walk_at "v"
          refine w_shw (.lst e9 (fs_fms hfs).rd) (fs_shw O) (by decide) (by decide) ?_
          walk_at "v"
          refine ⟨by show 1 ≤ sizeLine; decide, fun x1 hx1 => ?_⟩
          have npx := T9.np hx1
          have KA : Same H9 (upd H9 x1 (.lst [.ref wq])) := Same.new (Same.refl _) hx1
          have eA : upd H9 x1 (.lst [.ref wq]) x1 = some (.lst [.ref wq]) := upd_same
          generalize upd H9 x1 (.lst [.ref wq]) = HA at KA eA ⊢
          have TA := T9.same KA
          walk_at "v"
          refine ⟨gl, _, rfl, KA _ _ e9, ?_⟩
          rw [List.length_map, hfs.1]
          walk_at "v"
          refine ⟨p, l, ms, wq, ts, gms.length, rfl, TA, hth.ks (KS.same KA), hwo, by omega, fun ol us tl HB hol eB hus hsm hlen TB PB => ?_⟩
          have P9B := (PK.same KA).trans PB
          refine ⟨x1, ol, _, _, rfl, rfl, PB.bp _ _ (Ne.symm npx) eA, eB, Nat.le_of_lt (small1000 (by show 1 + _ ≤ 1000; omega)), fun yl hyl => ?_⟩
          have hall : ThsAt HB ([.ref wq] ++ us) ([.tup ts] ++ tl) := (ThsAt.cons (ThAt.pk P9B hth) .nil).app hus
          have hsm' : ∀ t ∈ [Th.tup ts] ++ tl, ThS t := all_app (all_c (.tup (by have := hwo.l8; omega) hwo.s) all_n) hsm
          generalize [V.ref wq] ++ us = vs at hall ⊢
          generalize [Th.tup ts] ++ tl = tls at hall hsm'
          have KC : Same HB (upd HB yl (.lst vs)) := Same.new (Same.refl _) hyl
          have eC : upd HB yl (.lst vs) yl = some (.lst vs) := upd_same
          generalize upd HB yl (.lst vs) = HC at KC eC ⊢
          have TC := TB.same KC
          have hallC := hall.ks (KS.same KC)
          have P9C := P9B.trans (PK.same KC)
          have eFC := P9C.bp _ _ ngp e9
          have hfsC := P9C.fs hfs
          walk_at "v"
          refine ⟨yl, rfl, ⟨_, SqL.of eC⟩, ?_⟩
          refine for_list (xs := vs) (fun i σ H' => ∃ (u8 u9 : Option V), σ = [some (.ref a), some (.ref p), some (.int (j : Int)), some (.int (n : Int)), some (.int (m : Int)), some (.ref gl), some (.ref wq), some (.str (PyData.shown (.list (gms.map fmD)))), u8, u9] ∧ Same HC H') ⟨_, _, rfl, Same.refl _⟩ (fun i σ H' _ ⟨_, _, _, k'⟩ => SqL.of (k' _ _ eC)) ?_ ?_
          · rintro i v σ HD hv ⟨u8, u9, rfl, KD⟩
            obtain ⟨t, ht1, ht2⟩ := hallC.atV hv
            have hst := hsm' t (List.mem_of_getElem? ht1)
            walk_at "v"
            refine ⟨gl, gs, gms, n, m, v, t, rfl, KD _ _ eFC, hfsC.same KD, O, ht2.ks (KS.same KD), hst, fun HE KE => ?_⟩
            have KCE := KD.trans KE
            walk_at "v"
            refine ⟨_, .bl (shT n m gms t), rfl, .bl _, ?_⟩
            walk_at "v"
            refine iteF ?_
            walk_at "v"
            refine ⟨gl, gs, gms, n, m, v, t, rfl, KCE _ _ eFC, hfsC.same KCE, O, ht2.ks (KS.same KCE), hst, fun HF KF => ?_⟩
            have KCF := KCE.trans KF
            refine ⟨by cases shT n m gms t <;> rfl, ?_⟩
            walk_at "v"
            refine iteNS rfl ?_
            walk_at "v"
            refine w_shw (.lst (KCF _ _ eFC) (fs_fms (hfsC.same KCF)).rd) (fs_shw O) (by decide) (by decide) ?_
            walk_at "v"
            refine ⟨rfl, ?_⟩
            walk_at "v"
            refine iteNS rfl ?_
            exact ⟨_, _, rfl, KCF⟩
          · rintro σ HD ⟨u8, u9, rfl, KD⟩
            exact ⟨_, _, _, _, _, _, _, _, rfl, TC.same KD⟩
        · walk_at "v"
          refine ⟨p, l, ms, 6, rfl, T8, by decide, by decide, fun r c e r0 r1 => ?_⟩
          have P9 : PK p H8 (upd H8 p (.lst [.ref l, .int c, .int e])) := T8.pk
          have T9 := T8.draw (c := c) (e := e)
          generalize upd H8 p (.lst [.ref l, .int c, .int e]) = H9 at P9 T9 ⊢
          have e9 := P9.bp _ _ (Ne.symm npf) e68
          have hfs9 := P9.fs (fms_fs hf8)
          walk_at "v"
          refine iteD (fun _ => ?_) (fun _ => ?_)
          · walk_at "v"
            refine ⟨p, l, ms, fl, fs, fms, n, m, rfl, T9, Ne.symm npf, e9, hfs9, hfo, hn3, hm10, by omega, by omega, fun rr gl wq gs gms ts HA er hgl egl hgs hO hth hwo TA PA => ?_⟩
            have ngp : gl ≠ p := Ne.symm (T9.np hgl)
            refine w_gtup er rfl ?_
            refine ⟨_, _, rfl, ?_⟩
            walk_at "v"
            refine ⟨_, _, rfl, ?_⟩
            walk_at "v"
            refine ⟨rfl, ?_⟩
            refine rest _ _ ⟨gl, wq, gs, gms, ts, rfl, ngp, egl, hgs, hO, hth, hwo, TA⟩
          · exact rest _ _ ⟨fl, w1, fs, fms, _, rfl, Ne.symm npf, e9, hfs9, ⟨fun f hf => FmOk.up (hfo f hf) (by decide), hn3, hm10, by omega, by omega⟩, ThAt.pk P9 hw8, ho8, T9⟩
      · rintro σ H2 ⟨u2, u3, u4, u5, u6, u7, u8, u9, rfl, T2⟩
        walk_at "v"
        exact k _
end
end K27

set_option Elab.async false
set_option linter.all false
set_option maxRecDepth 100000
namespace K27
open PySem L2 G2
theorem all_mk {l : PySem.W.OpenLaw} {w : World} {K : PySem.W.Frag} {h : Heap} {mg : Str → Option Value} {fa f1 f2 f3 f4 f5 f6 f7 f8 f9 f10 f11 f12 f13 f14 f15 f16 f17 : Addr} (X : K.In h) (G : h.Ns mainGlobals mg) (hfa : mg "law" = some (.ref fa))
    {od1 an1 od2 an2 od3 an3 od4 an4 od5 an5 od6 an6 od7 an7 od8 an8 od9 an9 od10 an10 od11 an11 od12 an12 od13 an13 od14 an14 od15 an15 od16 an16 od17 an17 : Option Addr} {sl1 sl2 sl3 sl4 sl5 sl6 sl7 sl8 sl9 sl10 sl11 sl12 sl13 sl14 sl15 sl16 sl17 : Array (Option Value)} {oc1 kV1 dc1 pm1 cd1 ct1 oc2 kV2 dc2 pm2 cd2 ct2 oc3 kV3 dc3 pm3 cd3 ct3 oc4 kV4 dc4 pm4 cd4 ct4 oc5 kV5 dc5 pm5 cd5 ct5 oc6 kV6 dc6 pm6 cd6 ct6 oc7 kV7 dc7 pm7 cd7 ct7 oc8 kV8 dc8 pm8 cd8 ct8 oc9 kV9 dc9 pm9 cd9 ct9 oc10 kV10 dc10 pm10 cd10 ct10 oc11 kV11 dc11 pm11 cd11 ct11 oc12 kV12 dc12 pm12 cd12 ct12 oc13 kV13 dc13 pm13 cd13 ct13 oc14 kV14 dc14 pm14 cd14 ct14 oc15 kV15 dc15 pm15 cd15 ct15 oc16 kV16 dc16 pm16 cd16 ct16 oc17 kV17 dc17 pm17 cd17 ct17 : Value} {t1 t2 t3 : Tok}
    (a1 : PySem.W.nsIn K mainGlobals "_law_tape" = some (some (.ref f1))) (l1 : K.lookup f1 = some ⟨oc1, od1, .func (PySem.W.fnOf "_law_tape" "_law_tape" (defArgs sTape) (defBody sTape) (defScope sTape) .none kV1 dc1 pm1 an1 cd1 ct1), sl1⟩) (c1 : PySem.W.codeIn K cd1 "_law_tape" = true) (k1 : PySem.W.keepIn K (.ref f1) = true)
    (a2 : PySem.W.nsIn K mainGlobals "_law_draw" = some (some (.ref f2))) (l2 : K.lookup f2 = some ⟨oc2, od2, .func (PySem.W.fnOf "_law_draw" "_law_draw" (defArgs sDraw) (defBody sDraw) (defScope sDraw) .none kV2 dc2 pm2 an2 cd2 ct2), sl2⟩) (c2 : PySem.W.codeIn K cd2 "_law_draw" = true) (k2 : PySem.W.keepIn K (.ref f2) = true)
    (a3 : PySem.W.nsIn K mainGlobals "is_whole" = some (some (.ref f3))) (l3 : K.lookup f3 = some ⟨oc3, od3, .func (PySem.W.fnOf "is_whole" "is_whole" (defArgs sWh) (defBody sWh) (defScope sWh) .none kV3 dc3 pm3 an3 cd3 ct3), sl3⟩) (c3 : PySem.W.codeIn K cd3 "is_whole" = true) (k3 : PySem.W.keepIn K (.ref f3) = true)
    (a4 : PySem.W.nsIn K mainGlobals "added" = some (some (.ref f4))) (l4 : K.lookup f4 = some ⟨oc4, od4, .func (PySem.W.fnOf "added" "added" (defArgs sAdded) (defBody sAdded) (defScope sAdded) .none kV4 dc4 pm4 an4 cd4 ct4), sl4⟩) (c4 : PySem.W.codeIn K cd4 "added" = true) (k4 : PySem.W.keepIn K (.ref f4) = true)
    (a5 : PySem.W.nsIn K mainGlobals "so_often" = some (some (.ref f5))) (l5 : K.lookup f5 = some ⟨oc5, od5, .func (PySem.W.fnOf "so_often" "so_often" (defArgs sOften) (defBody sOften) (defScope sOften) .none kV5 dc5 pm5 an5 cd5 ct5), sl5⟩) (c5 : PySem.W.codeIn K cd5 "so_often" = true) (k5 : PySem.W.keepIn K (.ref f5) = true)
    (a6 : PySem.W.nsIn K mainGlobals "form_weighed" = some (some (.ref f6))) (l6 : K.lookup f6 = some ⟨oc6, od6, .func (PySem.W.fnOf "form_weighed" "form_weighed" (defArgs sWeighed) (defBody sWeighed) (defScope sWeighed) .none kV6 dc6 pm6 an6 cd6 ct6), sl6⟩) (c6 : PySem.W.codeIn K cd6 "form_weighed" = true) (k6 : PySem.W.keepIn K (.ref f6) = true)
    (a7 : PySem.W.nsIn K mainGlobals "is_weight" = some (some (.ref f7))) (l7 : K.lookup f7 = some ⟨oc7, od7, .func (PySem.W.fnOf "is_weight" "is_weight" (defArgs sWeight) (defBody sWeight) (defScope sWeight) .none kV7 dc7 pm7 an7 cd7 ct7), sl7⟩) (c7 : PySem.W.codeIn K cd7 "is_weight" = true) (k7 : PySem.W.keepIn K (.ref f7) = true)
    (a8 : PySem.W.nsIn K mainGlobals "is_weights" = some (some (.ref f8))) (l8 : K.lookup f8 = some ⟨oc8, od8, .func (PySem.W.fnOf "is_weights" "is_weights" (defArgs sWeights) (defBody sWeights) (defScope sWeights) .none kV8 dc8 pm8 an8 cd8 ct8), sl8⟩) (c8 : PySem.W.codeIn K cd8 "is_weights" = true) (k8 : PySem.W.keepIn K (.ref f8) = true)
    (a9 : PySem.W.nsIn K mainGlobals "shuts" = some (some (.ref f9))) (l9 : K.lookup f9 = some ⟨oc9, od9, .func (PySem.W.fnOf "shuts" "shuts" (defArgs sSh) (defBody sSh) (defScope sSh) .none kV9 dc9 pm9 an9 cd9 ct9), sl9⟩) (c9 : PySem.W.codeIn K cd9 "shuts" = true) (k9 : PySem.W.keepIn K (.ref f9) = true)
    (a10 : PySem.W.nsIn K mainGlobals "_law_odd" = some (some (.ref f10))) (l10 : K.lookup f10 = some ⟨oc10, od10, .func (PySem.W.fnOf "_law_odd" "_law_odd" (defArgs sOd) (defBody sOd) (defScope sOd) .none kV10 dc10 pm10 an10 cd10 ct10), sl10⟩) (c10 : PySem.W.codeIn K cd10 "_law_odd" = true) (k10 : PySem.W.keepIn K (.ref f10) = true)
    (a11 : PySem.W.nsIn K mainGlobals "_law_bent" = some (some (.ref f11))) (l11 : K.lookup f11 = some ⟨oc11, od11, .func (PySem.W.fnOf "_law_bent" "_law_bent" (defArgs sBt) (defBody sBt) (defScope sBt) .none kV11 dc11 pm11 an11 cd11 ct11), sl11⟩) (c11 : PySem.W.codeIn K cd11 "_law_bent" = true) (k11 : PySem.W.keepIn K (.ref f11) = true)
    (a12 : PySem.W.nsIn K mainGlobals "_law_small_form" = some (some (.ref f12))) (l12 : K.lookup f12 = some ⟨oc12, od12, .func (PySem.W.fnOf "_law_small_form" "_law_small_form" (defArgs sSf) (defBody sSf) (defScope sSf) .none kV12 dc12 pm12 an12 cd12 ct12), sl12⟩) (c12 : PySem.W.codeIn K cd12 "_law_small_form" = true) (k12 : PySem.W.keepIn K (.ref f12) = true)
    (a13 : PySem.W.nsIn K mainGlobals "_law_closed" = some (some (.ref f13))) (l13 : K.lookup f13 = some ⟨oc13, od13, .func (PySem.W.fnOf "_law_closed" "_law_closed" (defArgs sCl) (defBody sCl) (defScope sCl) .none kV13 dc13 pm13 an13 cd13 ct13), sl13⟩) (c13 : PySem.W.codeIn K cd13 "_law_closed" = true) (k13 : PySem.W.keepIn K (.ref f13) = true)
    (a14 : PySem.W.nsIn K mainGlobals "_law_is_weights" = some (some (.ref f14))) (l14 : K.lookup f14 = some ⟨oc14, od14, .func (PySem.W.fnOf "_law_is_weights" "_law_is_weights" (defArgs sLw) (defBody sLw) (defScope sLw) .none kV14 dc14 pm14 an14 cd14 ct14), sl14⟩) (c14 : PySem.W.codeIn K cd14 "_law_is_weights" = true) (k14 : PySem.W.keepIn K (.ref f14) = true)
    (a15 : PySem.W.nsIn K mainGlobals "_law_shut" = some (some (.ref f15))) (l15 : K.lookup f15 = some ⟨oc15, od15, .func (PySem.W.fnOf "_law_shut" "_law_shut" (defArgs sLs) (defBody sLs) (defScope sLs) .none kV15 dc15 pm15 an15 cd15 ct15), sl15⟩) (c15 : PySem.W.codeIn K cd15 "_law_shut" = true) (k15 : PySem.W.keepIn K (.ref f15) = true)
    (a16 : PySem.W.nsIn K mainGlobals "_law_others" = some (some (.ref f16))) (l16 : K.lookup f16 = some ⟨oc16, od16, .func (PySem.W.fnOf "_law_others" "_law_others" (defArgs sOt) (defBody sOt) (defScope sOt) .none kV16 dc16 pm16 an16 cd16 ct16), sl16⟩) (c16 : PySem.W.codeIn K cd16 "_law_others" = true) (k16 : PySem.W.keepIn K (.ref f16) = true)
    (a17 : PySem.W.nsIn K mainGlobals "law" = some (some (.ref f17))) (l17 : K.lookup f17 = some ⟨oc17, od17, .func (PySem.W.fnOf "law" "law" (defArgs sLaw) (defBody sLaw) (defScope sLaw) .none kV17 dc17 pm17 an17 cd17 ct17), sl17⟩) (c17 : PySem.W.codeIn K cd17 "law" = true) (k17 : PySem.W.keepIn K (.ref f17) = true)
    (z1 : PySem.W.nsIn K mainGlobals "len" = some none) (z2 : PySem.W.nsIn K mainGlobals "range" = some none) (z3 : PySem.W.nsIn K mainGlobals "tuple" = some none) (z4 : PySem.W.nsIn K mainGlobals "int" = some none) (z5 : PySem.W.nsIn K mainGlobals "bool" = some none) (z6 : PySem.W.nsIn K mainGlobals "list" = some none) (z7 : PySem.W.nsIn K mainGlobals "str" = some none) (z8 : PySem.W.nsIn K mainGlobals "all" = some none) (z9 : PySem.W.nsIn K mainGlobals "any" = some none) (z10 : PySem.W.nsIn K mainGlobals "sum" = some none) (z11 : PySem.W.nsIn K mainGlobals "zip" = some none) (z12 : PySem.W.nsIn K mainGlobals "repr" = some none) (z13 : PySem.W.nsIn K mainGlobals "isinstance" = some none)
    (g1 : PySem.W.nsIn K mainGlobals "BY_INPUTS" = some (some (.int (0) t1))) (g2 : PySem.W.nsIn K mainGlobals "BY_SORTS" = some (some (.int (1) t2))) (g3 : PySem.W.nsIn K mainGlobals "PLUS" = some (some (.int (2) t3))) :
    ∃ fd : FuncData, (∀ (s : Shared) (v : Value), BindsTo s fd ⟨[v], []⟩ [("_law_script", v)]) ∧ ∀ base : Heap, K.In base → base.Ns mainGlobals mg → FnOk l.prog w K mg base CX0 7 fa fd ["_law_script"] (spLaw K) := by
  have e := hfa.symm.trans (PySem.W.mg_of X G a17)
  cases e
  have F1 := fun_mk (st := sTape) l1 c1 k1
  have b1 := F1.binds (ps := ["_law_script"]) fun _ _ _ _ _ _ us hl => match us, hl with | [_], _ => rfl
  have m1 := PySem.W.mg_of X G a1
  have F2 := fun_mk (st := sDraw) l2 c2 k2
  have b2 := F2.binds (ps := ["_law_tape_here", "_law_many"]) fun _ _ _ _ _ _ us hl => match us, hl with | [_, _], _ => rfl
  have m2 := PySem.W.mg_of X G a2
  have F3 := fun_mk (st := sWh) l3 c3 k3
  have b3 := F3.binds (ps := ["thing"]) fun _ _ _ _ _ _ us hl => match us, hl with | [_], _ => rfl
  have m3 := PySem.W.mg_of X G a3
  have F4 := fun_mk (st := sAdded) l4 c4 k4
  have b4 := F4.binds (ps := ["one", "other"]) fun _ _ _ _ _ _ us hl => match us, hl with | [_, _], _ => rfl
  have m4 := PySem.W.mg_of X G a4
  have F5 := fun_mk (st := sOften) l5 c5 k5
  have b5 := F5.binds (ps := ["form", "times"]) fun _ _ _ _ _ _ us hl => match us, hl with | [_, _], _ => rfl
  have m5 := PySem.W.mg_of X G a5
  have F6 := fun_mk (st := sWeighed) l6 c6 k6
  have b6 := F6.binds (ps := ["forms", "weights"]) fun _ _ _ _ _ _ us hl => match us, hl with | [_, _], _ => rfl
  have m6 := PySem.W.mg_of X G a6
  have F7 := fun_mk (st := sWeight) l7 c7 k7
  have b7 := F7.binds (ps := ["thing"]) fun _ _ _ _ _ _ us hl => match us, hl with | [_], _ => rfl
  have m7 := PySem.W.mg_of X G a7
  have F8 := fun_mk (st := sWeights) l8 c8 k8
  have b8 := F8.binds (ps := ["thing"]) fun _ _ _ _ _ _ us hl => match us, hl with | [_], _ => rfl
  have m8 := PySem.W.mg_of X G a8
  have F9 := fun_mk (st := sSh) l9 c9 k9
  have b9 := F9.binds (ps := ["forms", "thing"]) fun _ _ _ _ _ _ us hl => match us, hl with | [_, _], _ => rfl
  have m9 := PySem.W.mg_of X G a9
  have F10 := fun_mk (st := sOd) l10 c10 k10
  have b10 := F10.binds (ps := ["_law_tape_here"]) fun _ _ _ _ _ _ us hl => match us, hl with | [_], _ => rfl
  have m10 := PySem.W.mg_of X G a10
  have F11 := fun_mk (st := sBt) l11 c11 k11
  have b11 := F11.binds (ps := ["_law_tape_here", "_law_thing"]) fun _ _ _ _ _ _ us hl => match us, hl with | [_, _], _ => rfl
  have m11 := PySem.W.mg_of X G a11
  have F12 := fun_mk (st := sSf) l12 c12 k12
  have b12 := F12.binds (ps := ["_law_tape_here", "_law_inputs", "_law_sorts"]) fun _ _ _ _ _ _ us hl => match us, hl with | [_, _, _], _ => rfl
  have m12 := PySem.W.mg_of X G a12
  have F13 := fun_mk (st := sCl) l13 c13 k13
  have b13 := F13.binds (ps := ["_law_tape_here", "_law_forms"]) fun _ _ _ _ _ _ us hl => match us, hl with | [_, _], _ => rfl
  have m13 := PySem.W.mg_of X G a13
  have F14 := fun_mk (st := sLw) l14 c14 k14
  have b14 := F14.binds (ps := ["_law_thing", "_law_many"]) fun _ _ _ _ _ _ us hl => match us, hl with | [_, _], _ => rfl
  have m14 := PySem.W.mg_of X G a14
  have F15 := fun_mk (st := sLs) l15 c15 k15
  have b15 := F15.binds (ps := ["_law_forms", "_law_thing"]) fun _ _ _ _ _ _ us hl => match us, hl with | [_, _], _ => rfl
  have m15 := PySem.W.mg_of X G a15
  have F16 := fun_mk (st := sOt) l16 c16 k16
  have b16 := F16.binds (ps := ["_law_tape_here", "_law_weights", "_law_many"]) fun _ _ _ _ _ _ us hl => match us, hl with | [_, _, _], _ => rfl
  have m16 := PySem.W.mg_of X G a16
  have F17 := fun_mk (st := sLaw) l17 c17 k17
  have y1 := PySem.W.mg_none_of X G z1
  have y2 := PySem.W.mg_none_of X G z2
  have y3 := PySem.W.mg_none_of X G z3
  have y4 := PySem.W.mg_none_of X G z4
  have y5 := PySem.W.mg_none_of X G z5
  have y6 := PySem.W.mg_none_of X G z6
  have y7 := PySem.W.mg_none_of X G z7
  have y8 := PySem.W.mg_none_of X G z8
  have y9 := PySem.W.mg_none_of X G z9
  have y10 := PySem.W.mg_none_of X G z10
  have y11 := PySem.W.mg_none_of X G z11
  have y12 := PySem.W.mg_none_of X G z12
  have y13 := PySem.W.mg_none_of X G z13
  have B : Blt mg := ⟨y1, y2, y3, y4, y5, y6, y7, y8, y9, y10, y11, y12, y13, ⟨_, PySem.W.mg_of X G g1⟩, ⟨_, PySem.W.mg_of X G g2⟩, ⟨_, PySem.W.mg_of X G g3⟩⟩
  refine ⟨PySem.W.fnOf "law" "law" (defArgs sLaw) (defBody sLaw) (defScope sLaw) .none kV17 dc17 pm17 an17 cd17 ct17, fun s v => .of_eq rfl, fun base _ _ => ?_⟩
  have H1 : Has l.prog w K mg base 1 "_law_tape" ["_law_script"] (spTape K) := ⟨_, _, ok_tape F1, m1, k1, b1⟩
  have H2 : Has l.prog w K mg base 1 "_law_draw" ["_law_tape_here", "_law_many"] spDraw := ⟨_, _, ok_draw B F2, m2, k2, b2⟩
  have H3 : Has l.prog w K mg base 1 "is_whole" ["thing"] spWh := ⟨_, _, ok_Wh B F3, m3, k3, b3⟩
  have H4 : Has l.prog w K mg base 1 "added" ["one", "other"] spAdded := ⟨_, _, ok_Added B F4, m4, k4, b4⟩
  have H5 : Has l.prog w K mg base 1 "so_often" ["form", "times"] spOften := ⟨_, _, ok_Often B F5, m5, k5, b5⟩
  have H6 : Has l.prog w K mg base 2 "form_weighed" ["forms", "weights"] spWeighed := ⟨_, _, ok_Weighed H5 H4 F6, m6, k6, b6⟩
  have H7 : Has l.prog w K mg base 2 "is_weight" ["thing"] spIw := ⟨_, _, ok_Weight B H3 F7, m7, k7, b7⟩
  have H8 : Has l.prog w K mg base 3 "is_weights" ["thing"] spIws := ⟨_, _, ok_Weights B H7 F8, m8, k8, b8⟩
  have H9 : Has l.prog w K mg base 4 "shuts" ["forms", "thing"] spSh := ⟨_, _, ok_Sh B H8 H6 F9, m9, k9, b9⟩
  have H10 : Has l.prog w K mg base 2 "_law_odd" ["_law_tape_here"] spOd := ⟨_, _, ok_Od B H2 F10, m10, k10, b10⟩
  have H12 : Has l.prog w K mg base 2 "_law_small_form" ["_law_tape_here", "_law_inputs", "_law_sorts"] spSf := ⟨_, _, ok_Sf B H2 F12, m12, k12, b12⟩
  have H13 : Has l.prog w K mg base 2 "_law_closed" ["_law_tape_here", "_law_forms"] spCl := ⟨_, _, ok_Cl B H2 F13, m13, k13, b13⟩
  have H14 : Has l.prog w K mg base 1 "_law_is_weights" ["_law_thing", "_law_many"] spLw := ⟨_, _, ok_Lw B F14, m14, k14, b14⟩
  have H15 : Has l.prog w K mg base 2 "_law_shut" ["_law_forms", "_law_thing"] spSh := ⟨_, _, ok_Ls B H14 F15, m15, k15, b15⟩
  have HB0 : Has l.prog w K mg base 2 "_law_bent" ["_law_tape_here", "_law_thing"] (spBt 0) := ⟨_, _, fn_no, m11, k11, b11⟩
  have HB1 : Has l.prog w K mg base 3 "_law_bent" ["_law_tape_here", "_law_thing"] (spBt 1) := ⟨_, _, ok_Bt B H2 H10 HB0 F11, m11, k11, b11⟩
  have HB2 : Has l.prog w K mg base 4 "_law_bent" ["_law_tape_here", "_law_thing"] (spBt 2) := ⟨_, _, ok_Bt B H2 H10 HB1 F11, m11, k11, b11⟩
  have HB3 : Has l.prog w K mg base 5 "_law_bent" ["_law_tape_here", "_law_thing"] (spBt 3) := ⟨_, _, ok_Bt B H2 H10 HB2 F11, m11, k11, b11⟩
  have H16 : Has l.prog w K mg base 6 "_law_others" ["_law_tape_here", "_law_weights", "_law_many"] spOt := ⟨_, _, ok_Ot B H10 HB3 F16, m16, k16, b16⟩
  exact ok_Law B H1 H2 H12 H13 H16 H9 H15 F17
theorem walk {l : PySem.W.OpenLaw} {q : Program} {loose : List Str} {XP : (Str → Option Value) → Heap → Prop} {YP : World → Heap → Prop} {d : DefRec} {K : Params → PySem.W.Frag} (hn : l.most = some 63) (hdf : d.params.defaults = [])
    (hY : ∀ (w : World) (h : Heap), YP w h → (K w.params).In h)
    (F : ∀ (w : World) (mg : Str → Option Value) (fa : Addr) (h : Heap), (K w.params).In h → h.Ns mainGlobals mg → mg d.name = some (.ref fa) →
      ∃ fd : FuncData, (∀ (s : Shared) (u : Value), BindsTo s fd ⟨[u], []⟩ [("_law_script", u)]) ∧ ∀ base : Heap, (K w.params).In base → base.Ns mainGlobals mg → FnOk l.prog w (K w.params) mg base CX0 7 fa fd ["_law_script"] (spLaw (K w.params))) :
    PySem.W.WalkO q loose XP YP l.row.toRowW d [] (fun f vs => PySem.call f vs) :=
  L2.walk_of (n := 63) (k := 7) (x := "_law_script") (CX := fun _ => CX0) (sp := fun w => spLaw (K w.params)) hn (by decide) hdf ⟨rfl, by decide, by decide, rfl⟩ hY F (fun _ H a ns hl hO hS => ⟨a, ns, rfl, SqF.of hO hS, hl, fun _ => rfl⟩) fun _ _ _ _ _ z => z
end K27
open PySem PySem.W PyProof.Rows
set_option maxRecDepth 100000 in
set_option maxHeartbeats 0 in
theorem PySem.Challenge.cw_dropsums_k27_what_shuts_holds : PySem.Challenge.rw_dropsums_k27_what_shuts.Holds := by
  w_on; o_law; k_head; (case hw => w_witness2)
  k_fill
  refine K27.walk (l := PySem.Challenge.rw_dropsums_k27_what_shuts) rfl rfl (fun w h Y => PySem.W.kIn_of Y) ?F
  case F =>
    intro w mg fa h KX G hmg
    refine' K27.all_mk KX G hmg ?a1 ?l1 ?c1 ?k1 ?a2 ?l2 ?c2 ?k2 ?a3 ?l3 ?c3 ?k3 ?a4 ?l4 ?c4 ?k4 ?a5 ?l5 ?c5 ?k5 ?a6 ?l6 ?c6 ?k6 ?a7 ?l7 ?c7 ?k7 ?a8 ?l8 ?c8 ?k8 ?a9 ?l9 ?c9 ?k9 ?a10 ?l10 ?c10 ?k10 ?a11 ?l11 ?c11 ?k11 ?a12 ?l12 ?c12 ?k12 ?a13 ?l13 ?c13 ?k13 ?a14 ?l14 ?c14 ?k14 ?a15 ?l15 ?c15 ?k15 ?a16 ?l16 ?c16 ?k16 ?a17 ?l17 ?c17 ?k17 ?z1 ?z2 ?z3 ?z4 ?z5 ?z6 ?z7 ?z8 ?z9 ?z10 ?z11 ?z12 ?z13 ?g1 ?g2 ?g3
    (case a1 => k_is)
    (case l1 => k_is)
    (case c1 => k_is)
    (case k1 => k_is)
    (case a2 => k_is)
    (case l2 => k_is)
    (case c2 => k_is)
    (case k2 => k_is)
    (case a3 => k_is)
    (case l3 => k_is)
    (case c3 => k_is)
    (case k3 => k_is)
    (case a4 => k_is)
    (case l4 => k_is)
    (case c4 => k_is)
    (case k4 => k_is)
    (case a5 => k_is)
    (case l5 => k_is)
    (case c5 => k_is)
    (case k5 => k_is)
    (case a6 => k_is)
    (case l6 => k_is)
    (case c6 => k_is)
    (case k6 => k_is)
    (case a7 => k_is)
    (case l7 => k_is)
    (case c7 => k_is)
    (case k7 => k_is)
    (case a8 => k_is)
    (case l8 => k_is)
    (case c8 => k_is)
    (case k8 => k_is)
    (case a9 => k_is)
    (case l9 => k_is)
    (case c9 => k_is)
    (case k9 => k_is)
    (case a10 => k_is)
    (case l10 => k_is)
    (case c10 => k_is)
    (case k10 => k_is)
    (case a11 => k_is)
    (case l11 => k_is)
    (case c11 => k_is)
    (case k11 => k_is)
    (case a12 => k_is)
    (case l12 => k_is)
    (case c12 => k_is)
    (case k12 => k_is)
    (case a13 => k_is)
    (case l13 => k_is)
    (case c13 => k_is)
    (case k13 => k_is)
    (case a14 => k_is)
    (case l14 => k_is)
    (case c14 => k_is)
    (case k14 => k_is)
    (case a15 => k_is)
    (case l15 => k_is)
    (case c15 => k_is)
    (case k15 => k_is)
    (case a16 => k_is)
    (case l16 => k_is)
    (case c16 => k_is)
    (case k16 => k_is)
    (case a17 => k_is)
    (case l17 => k_is)
    (case c17 => k_is)
    (case k17 => k_is)
    (case z1 => k_is)
    (case z2 => k_is)
    (case z3 => k_is)
    (case z4 => k_is)
    (case z5 => k_is)
    (case z6 => k_is)
    (case z7 => k_is)
    (case z8 => k_is)
    (case z9 => k_is)
    (case z10 => k_is)
    (case z11 => k_is)
    (case z12 => k_is)
    (case z13 => k_is)
    (case g1 => k_is)
    (case g2 => k_is)
    (case g3 => k_is)

