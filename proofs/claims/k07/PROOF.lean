import PyProof.Rows.All
import Wide.All
import OpenK.AllK
import Wide.FinOn
import Lean
import PyProof.EqAt
import PyProof.EqKinds
import PyProof.TupleCall
import PyProof.Rows.SumAny
import PyProof.Draws
import PyProof.ZipIter
import PyProof.EnumMake
import PyProof.Rows.ZipGen
import PyProof.FitsInt
import PyProof.ReprLen
import KE.IntBitsLaws
import PyProof.NeData
import PyProof.ConsumeWalk
import PyProof.WalkInts
import PyProof.NsDelKeeps
import PyProof.RulesAs
import KE.KIsAll
import PyProof.Rows.SeqMore
import PyProof.ListMulRoad
import PyProof.DictUpdate
import KE.KRevSl
import PySem.Challenge.RW_dropsums_k07_orders_walked
-- CHANGE: your row's module here, as the last of these rows
set_option Elab.async false
set_option linter.all false
set_option maxRecDepth 100000
/-! THE HAND LAYER, for ints, bools, texts, own classes, LISTS and tuples (index, slices, in, append, pop ..), calls, loops. Paste it whole ahead of your own text; what your proof does not reach may be deleted. -/
namespace L2
open PySem PySem.Spec PyProof.Rows

/-- a key: an int or a str -/
abbrev Key := Sum Int Str
def keyIs : Key → Value → Bool
  | .inl k, v => Value.isInt k v
  | .inr x, v => Value.isStrOf x v
def keyH (w : World) : Key → Int
  | .inl k => hashInt k
  | .inr x => hashStr w x
theorem keyIs_shape : ∀ {k : Key} {v : Value}, keyIs k v = true → (∃ i t, k = Sum.inl i ∧ v = Value.int i t) ∨ (∃ x t, k = Sum.inr x ∧ v = Value.str x t)
  | .inl i, v, h => by
    obtain ⟨t, e⟩ := Value.isInt_shape (k := i) (v := v) h
    exact .inl ⟨i, t, rfl, e⟩
  | .inr x, v, h => by
    obtain ⟨t, e⟩ := Value.isStrOf_shape (x := x) (v := v) h
    exact .inr ⟨x, t, rfl, e⟩
theorem key_ll (a b : Int) : decide ((Sum.inl a : Key) = Sum.inl b) = (a == b) := by
  by_cases e : a = b
  · subst e; simp
  · have h : ¬ (Sum.inl a : Key) = Sum.inl b := fun q => e (Sum.inl.inj q)
    rw [decide_eq_false h]
    exact (beq_eq_false_iff_ne.mpr e).symm
theorem key_rr (a b : Str) : decide ((Sum.inr a : Key) = Sum.inr b) = decide (a = b) := by
  by_cases e : a = b
  · subst e; simp
  · have h : ¬ (Sum.inr a : Key) = Sum.inr b := fun q => e (Sum.inr.inj q)
    rw [decide_eq_false h, decide_eq_false e]
theorem key_lr (a : Int) (b : Str) : decide ((Sum.inl a : Key) = Sum.inr b) = false := decide_eq_false (fun q => nomatch q)
theorem key_rl (a : Str) (b : Int) : decide ((Sum.inr a : Key) = Sum.inl b) = false := decide_eq_false (fun q => nomatch q)

def mixKind (prog : Program) (w : World) : PySem.KeyKind prog w Key where
  is := keyIs
  hash := keyH w
  inj := fun v a b ha hb => by
    rcases keyIs_shape ha with ⟨i, t, rfl, rfl⟩ | ⟨x, t, rfl, rfl⟩
    · rcases keyIs_shape hb with ⟨j, u, rfl, e⟩ | ⟨y, u, rfl, e⟩
      · injection e with e1 _; rw [e1]
      · exact nomatch e
    · rcases keyIs_shape hb with ⟨j, u, rfl, e⟩ | ⟨y, u, rfl, e⟩
      · exact nomatch e
      · injection e with e1 _; rw [e1]
  byValue := fun k v h => by
    rcases keyIs_shape h with ⟨i, t, rfl, rfl⟩ | ⟨x, t, rfl, rfl⟩ <;> rfl
  pyHash := fun hv h => by
    rcases keyIs_shape hv with ⟨i, t, rfl, rfl⟩ | ⟨x, t, rfl, rfl⟩
    · exact wpAny_pyHash_int h
    · exact wpAny_pyHash_str h
  eqBool := fun hu hv h => by
    rcases keyIs_shape hu with ⟨i, t, rfl, rfl⟩ | ⟨x, t, rfl, rfl⟩
    · rcases keyIs_shape hv with ⟨j, u, rfl, rfl⟩ | ⟨y, u, rfl, rfl⟩
      · rw [key_ll] at h; exact wpAny_eqBool_int h
      · rw [key_lr] at h; exact SeqAt.EqAt.int_str i t y u _ _ _ _ h
    · rcases keyIs_shape hv with ⟨j, u, rfl, rfl⟩ | ⟨y, u, rfl, rfl⟩
      · rw [key_rl] at h; exact SeqAt.EqAt.str_int x t j u _ _ _ _ h
      · rw [key_rr] at h; exact wpAny_eqBool_str h
  «strs» := fun k x t v h => by
    rcases keyIs_shape h with ⟨i, u, rfl, e⟩ | ⟨y, u, rfl, e⟩
    · exact nomatch e
    · injection e with e1 _
      subst e1
      cases v <;> rfl

end L2

namespace L2
open PySem PySem.Spec PyProof.Rows

/-- a value, without the heap -/
inductive V where
  | non | bl (b : Bool) | int (i : Int) | str (x : Str) | byt (b : Array UInt8) | flt (b : UInt64) | ref (a : Addr) | ty (n : String)
  deriving DecidableEq

def RelV : V → Value → Prop
  | .non, u => u = Value.none
  | .bl b, u => u = Value.bool b
  | .int i, u => ∃ t, u = Value.int i t
  | .str x, u => ∃ t, u = Value.str x t
  | .byt b, u => ∃ t, u = Value.bytes b t
  | .flt b, u => ∃ t, u = Value.float b t
  | .ref a, u => u = Value.ref a
  | .ty n, u => u = Value.type n

abbrev Vals : List V → List Value → Prop := Paired RelV
theorem Vals.length {xs : List V} {us : List Value} (r : Vals xs us) : xs.length = us.length := Paired.length r
theorem Vals.get : ∀ {xs : List V} {us : List Value} {i : Nat} {x : V}, Vals xs us → xs[i]? = some x → ∃ u, us[i]? = some u ∧ RelV x u
  | _, _, _, _, .nil, e => by simp at e
  | _, _, 0, _, .cons r _, e => by simp at e; subst e; exact ⟨_, rfl, r⟩
  | _, _, i + 1, x, .cons _ t, e => by
    obtain ⟨u, h1, h2⟩ := Vals.get (i := i) (x := x) t (by simpa using e)
    exact ⟨u, by simpa using h1, h2⟩
theorem Vals.set {x : V} {u : Value} (r : RelV x u) : ∀ {xs : List V} {us : List Value} (i : Nat), Vals xs us → Vals (xs.set i x) (us.set i u)
  | _, _, _, .nil => .nil
  | _, _, 0, .cons _ t => .cons r t
  | _, _, i + 1, .cons q t => .cons q (Vals.set r i t)
theorem Vals.append : ∀ {xs ys : List V} {us ws : List Value}, Vals xs us → Vals ys ws → Vals (xs ++ ys) (us ++ ws)
  | _, _, _, _, .nil, s => s
  | _, _, _, _, .cons r t, s => .cons r (Vals.append t s)
theorem Vals.take : ∀ {xs : List V} {us : List Value} (n : Nat), Vals xs us → Vals (xs.take n) (us.take n)
  | _, _, 0, _ => .nil
  | _, _, _ + 1, .nil => .nil
  | _, _, n + 1, .cons r t => .cons r (Vals.take n t)
theorem Vals.drop : ∀ {xs : List V} {us : List Value} (n : Nat), Vals xs us → Vals (xs.drop n) (us.drop n)
  | _, _, 0, r => r
  | _, _, _ + 1, .nil => .nil
  | _, _, n + 1, .cons _ t => Vals.drop n t

def RelO : Option V → Option Value → Prop
  | some v, some u => RelV v u
  | none, none => True
  | _, _ => False
def KV {κ : Type} : List (κ × V) → List (κ × Value) → Prop := Paired fun (p : κ × V) (q : κ × Value) => p.1 = q.1 ∧ RelV p.2 q.2

/-- a key of a dict (00_mix): an int or a text -/
def kV : Key → V
  | .inl i => .int i
  | .inr x => .str x

/-- what stands at a tracked address -/
inductive HO where
  /-- a list -/
  | lst (xs : List V)
  /-- a tuple (never changes) -/
  | tup (xs : List V)
  /-- a dict whose keys are ints and texts; one whose keys are tuples of ints and texts (the empty one is both) -/
  | dK (kvs : List (Key × V)) | dT (kvs : List (List Key × V))
  /-- a set of ints: its members, its size -/
  | set (S : Int → Bool) (n : Nat)
  /-- an instance of the class at C, its dict at dx, its attributes -/
  | ins (C dx : Addr) (fs : List (Str × V))
  /-- the dict of the instance at x -/
  | own (x : Addr)
  /-- the dict of an exception -/
  | xd (fs : List (Str × V))
  /-- a bound method, f of x -/
  | met (f x : Addr)
  /-- a range object lo, lo + 1, .. below hi -/
  | rng (lo hi : Int)
  /-- a thing that is known to the object (the script; a dict while a loop walks it): read, never written while it is so -/
  | frz (o : Obj) (u : HO)
  /-- a code object's table -/
  | tbl (ps : Array Value)
  /-- any other thing, by what is true of its one object (a def of one's own: SetO a S n := HO.ext fun h => ..) -/
  | ext (φ : Heap → Prop)

abbrev Hp := Addr → Option HO
def upd (H : Hp) (a : Addr) (o : HO) : Hp := fun b => if b = a then some o else H b
theorem upd_same {H : Hp} {a : Addr} {o : HO} : upd H a o a = some o := by unfold upd; rw [if_pos rfl]
theorem upd_ne {H : Hp} {a b : Addr} {o : HO} (h : b ≠ a) : upd H a o b = H b := by unfold upd; rw [if_neg h]
theorem upd_upd {H : Hp} {a : Addr} {o u : HO} : upd (upd H a o) a u = upd H a u := by
  funext b; unfold upd; split <;> rfl
/-- two objects of different content stand apart -/
theorem ne_of {H : Hp} {a b : Addr} {o u : HO} (h : H a = some o) (h' : H b = some u) (d : o ≠ u) : a ≠ b := by
  intro e; subst e; rw [h] at h'; exact d (Option.some.inj h')
theorem ne_of_none {H : Hp} {a b : Addr} {o : HO} (h : H a = some o) (h' : H b = none) : a ≠ b := by
  intro e; subst e; rw [h] at h'; cases h'

section
variable (P : Program) (w : World)
def ObjOk (H : Hp) (h : Heap) (a : Addr) : HO → Prop
  | .lst xs => xs.length ≤ sizeLine ∧ ∃ (its : List Value) (n : Nat), Vals xs its ∧ h.get? a = some { cls := .type "list", data := .seq its.toArray n }
  | .tup xs => xs.length ≤ sizeLine ∧ ∃ its : List Value, Vals xs its ∧ IsTup h a its.toArray
  | .dK kvs => kvs.length ≤ sizeLine ∧ (a == sysModules) = false ∧ ∃ vs, KV kvs vs ∧ h.DictOf (mixKind P w) a vs
  | .dT kvs => kvs.length ≤ sizeLine ∧ (a == sysModules) = false ∧ ∃ xs : List (List Key × Addr × Value),
      Paired (fun (p : List Key × V) (q : List Key × Addr × Value) => p.1 = q.1 ∧ H q.2.1 = some (.tup (p.1.map kV)) ∧ RelV p.2 q.2.2) kvs xs ∧
      ∃ o es ep, h.get? a = some o ∧ o.ExactDict ∧ o.data = .dict es ep ∧ es.toList = xs.map (entryOfKey (tupleKind (mixKind P w))) ∧ (xs.map (·.1)).Nodup
  | .set S n => h.SetOf (intKind P w) a S n
  | .ins C dx fs => H dx = some (.own a) ∧ fs.length ≤ 1000 ∧ dx ≠ a ∧ h.get? a = some (PySem.W.instObj C dx) ∧
      ∃ mA, h.Ns1 dx mA ∧ (∀ f, RelO (fs.lookup f) (mA f)) ∧ PySem.Within mA (fs.map (·.1))
  | .own _ => ∃ o, h.get? a = some o
  | .xd fs => ∃ mA, h.Ns1 a mA ∧ ∀ f, RelO (fs.lookup f) (mA f)
  | .rng lo hi => ∃ t u v, h.get? a = some { cls := .type "range", data := .fields #[.int lo t, .int hi u, .int 1 v] }
  | .frz o u => h.get? a = some o ∧ ObjOk H h a u
  | .tbl ps => h.get? a = some { cls := .none, data := .fields ps }
  | .met f x => h.get? a = some (PySem.W.methodObj (.ref f) (.ref x))
  | .ext φ => φ h ∧ (∃ o, h.get? a = some o) ∧ ∀ h1 h2 : Heap, φ h1 → (∀ o, h1.get? a = some o → h2.get? a = some o) → φ h2
/-- the abstract heap is held -/
def HOk (H : Hp) (h : Heap) : Prop := ∀ a o, H a = some o → ObjOk P w H h a o
end

section
variable {P : Program} {w : World} {H H' : Hp} {h h' : Heap} {a : Addr} {o : HO}
theorem ObjOk.lt (x : ObjOk P w H h a o) : a < h.objs.size := by
  cases o with
  | lst xs => obtain ⟨_, _, _, _, e⟩ := x; exact Heap.lt_size e
  | tup xs => obtain ⟨_, _, _, p⟩ := x; exact p.lt
  | dK kvs => obtain ⟨_, _, _, _, o, _, _, e, _⟩ := x; exact Heap.lt_size e
  | dT kvs => obtain ⟨_, _, _, _, o, _, _, e, _⟩ := x; exact Heap.lt_size e
  | set S n => obtain ⟨o, _, _, _, e, _⟩ := x; exact Heap.lt_size e
  | ins C dx fs => obtain ⟨_, _, _, e, _⟩ := x; exact Heap.lt_size e
  | own y => obtain ⟨_, e⟩ := x; exact Heap.lt_size e
  | xd fs => obtain ⟨_, ⟨_, _, _, e, _⟩, _⟩ := x; exact Heap.lt_size e
  | rng lo hi => obtain ⟨_, _, _, e⟩ := x; exact Heap.lt_size e
  | frz ob u => obtain ⟨e, _⟩ := x; exact Heap.lt_size e
  | tbl ps => exact Heap.lt_size (show h.get? a = some _ from x)
  | met f y => exact Heap.lt_size (show h.get? a = some _ from x)
  | ext φ => obtain ⟨_, ⟨_, e⟩, _⟩ := x; exact Heap.lt_size e
theorem Paired.mapP {α β : Type} {F G : α → β → Prop} : ∀ {l₁ : List α} {l₂ : List β}, Paired F l₁ l₂ → (∀ a b, F a b → G a b) → Paired G l₁ l₂
  | _, _, .nil, _ => .nil
  | _, _, .cons r t, f => .cons (f _ _ r) (Paired.mapP t f)
/-- what an object's description leans on: its own object, its own dict, the tuples -/
theorem ObjOk.stay (x : ObjOk P w H h a o) (k : ∀ b u, (b = a ∨ H b = some (.own a)) → h.get? b = some u → h'.get? b = some u)
    (ho : ∀ b, H b = some (.own a) → H' b = some (.own a)) (ht : ∀ b xs, H b = some (.tup xs) → H' b = some (.tup xs)) : ObjOk P w H' h' a o := by
  induction o with
  | lst xs => obtain ⟨z, its, n, r, e⟩ := x; exact ⟨z, its, n, r, k _ _ (.inl rfl) e⟩
  | tup xs => obtain ⟨z, its, r, ob, e, c⟩ := x; exact ⟨z, its, r, ob, k _ _ (.inl rfl) e, c⟩
  | dK kvs => obtain ⟨z, y, vs, r, ob, es, ep, e, c⟩ := x; exact ⟨z, y, vs, r, ob, es, ep, k _ _ (.inl rfl) e, c⟩
  | dT kvs =>
    obtain ⟨z, y, xs, r, ob, es, ep, e, c⟩ := x
    exact ⟨z, y, xs, Paired.mapP r fun p q z => ⟨z.1, ht _ _ z.2.1, z.2.2⟩, ob, es, ep, k _ _ (.inl rfl) e, c⟩
  | set S n => obtain ⟨ob, es, ep, t, e, c⟩ := x; exact ⟨ob, es, ep, t, k _ _ (.inl rfl) e, c⟩
  | ins C dx fs =>
    obtain ⟨d, z, ne, e, mA, ⟨od, es, ep, e2, c⟩, r⟩ := x
    exact ⟨ho _ d, z, ne, k _ _ (.inl rfl) e, mA, ⟨od, es, ep, k _ _ (.inr d) e2, c⟩, r⟩
  | own y => obtain ⟨ob, e⟩ := x; exact ⟨ob, k _ _ (.inl rfl) e⟩
  | xd fs => obtain ⟨mA, ⟨od, es, ep, e, c⟩, r⟩ := x; exact ⟨mA, ⟨od, es, ep, k _ _ (.inl rfl) e, c⟩, r⟩
  | rng lo hi => obtain ⟨t, u, v, e⟩ := x; exact ⟨t, u, v, k _ _ (.inl rfl) e⟩
  | frz ob u ih => obtain ⟨e, q⟩ := x; exact ⟨k _ _ (.inl rfl) e, ih q⟩
  | tbl ps =>
    have e : h.get? a = some { cls := .none, data := .fields ps } := x
    show h'.get? a = some { cls := .none, data := .fields ps }
    exact k a _ (.inl rfl) e
  | met f y =>
    have e : h.get? a = some (PySem.W.methodObj (.ref f) (.ref y)) := x
    show h'.get? a = some (PySem.W.methodObj (.ref f) (.ref y))
    exact k a _ (.inl rfl) e
  | ext φ => obtain ⟨p, ⟨o, e⟩, st⟩ := x; exact ⟨st _ _ p fun o q => k _ _ (.inl rfl) q, ⟨o, k _ _ (.inl rfl) e⟩, st⟩
theorem HOk.lt (x : HOk P w H h) (e : H a = some o) : a < h.objs.size := (x a o e).lt
theorem HOk.fresh (x : HOk P w H h) (e : h.objs.size ≤ a) : H a = none := by
  cases q : H a with
  | none => rfl
  | some u => exact absurd (Nat.lt_of_lt_of_le (x.lt q) e) (Nat.lt_irrefl _)
/-- every object of the heap is kept -/
theorem HOk.kept (x : HOk P w H h) (k : ∀ b u, h.get? b = some u → h'.get? b = some u) : HOk P w H h' := fun a o e =>
  (x a o e).stay (fun b u _ q => k b u q) (fun _ q => q) fun _ _ q => q
/-- a new object is laid and tracked -/
theorem HOk.laid (x : HOk P w H h) (k : ∀ b u, h.get? b = some u → h'.get? b = some u) (hp : h.objs.size ≤ a) (new : ObjOk P w (upd H a o) h' a o) : HOk P w (upd H a o) h' := fun b u e => by
  have hn := x.fresh hp
  by_cases hb : b = a
  · subst hb; rw [upd_same] at e; cases e; exact new
  · rw [upd_ne hb] at e
    exact (x b u e).stay (fun c v _ q => k c v q) (fun c q => by rw [upd_ne (ne_of_none q hn)]; exact q) fun c xs q => by rw [upd_ne (ne_of_none q hn)]; exact q
end

/-- what may be read as u: it is u, or a known u -/
def Rd (H : Hp) (a : Addr) (u : HO) : Prop := H a = some u ∨ ∃ o, H a = some (.frz o u)
theorem Rd.of {H : Hp} {a : Addr} {u : HO} (h : H a = some u) : Rd H a u := .inl h
theorem Rd.ok {P : Program} {w : World} {H : Hp} {h : Heap} {a : Addr} {u : HO} (r : Rd H a u) (x : HOk P w H h) : ObjOk P w H h a u := by
  rcases r with r | ⟨o, r⟩
  · exact x a u r
  · obtain ⟨_, q⟩ := x a _ r
    exact q
/-- what may be written -/
def Mut : Option HO → Prop
  | some (.lst _) => True
  | some (.dK _) => True
  | some (.dT _) => True
  | some (.set _ _) => True
  | some (.ins _ _ _) => True
  | some (.ext _) => True
  | _ => False
section
variable {P : Program} {w : World} {H : Hp} {h h' : Heap} {x e : Addr} {o' : HO}
/-- the object at e is changed: x itself, or the dict of the instance x -/
theorem HOk.write (ok : HOk P w H h) (mu : Mut (H x)) (he : e = x ∨ H e = some (.own x)) (k : ∀ b u, b ≠ e → h.get? b = some u → h'.get? b = some u) (heo : ∃ u, h'.get? e = some u)
    (new : ObjOk P w (upd H x o') h' x o') : HOk P w (upd H x o') h' := fun b u q => by
  have nown : ∀ c y, H c = some (.own y) → c ≠ x := fun c y r z => by subst z; rw [r] at mu; exact mu
  have ntup : ∀ c xs, H c = some (.tup xs) → c ≠ x := fun c xs r z => by subst z; rw [r] at mu; exact mu
  by_cases hb : b = x
  · subst hb; rw [upd_same] at q; cases q; exact new
  · rw [upd_ne hb] at q
    by_cases hbe : b = e
    · have q' : H b = some (.own x) := by
        rcases he with z | z
        · exact absurd (hbe.trans z) hb
        · rw [hbe]; exact z
      rw [q] at q'; cases q'
      obtain ⟨v, hv⟩ := heo
      exact ⟨v, by rw [hbe]; exact hv⟩
    · refine (ok b u q).stay (fun c v hc r => k c v ?_ r) (fun c r => by rw [upd_ne (nown c b r)]; exact r) fun c xs r => by rw [upd_ne (ntup c xs r)]; exact r
      rcases hc with rfl | hc
      · exact hbe
      · rintro rfl
        rcases he with z | z
        · exact nown c b hc z
        · rw [hc] at z; cases z; exact hb rfl
end

/-! ### kept unless tracked; of the frames at fs (the callers') the slots may change (an exception that passes writes there); of the records at ex (iterators) nothing is said -/
structure Un (fs ex : List Addr) (H H' : Hp) (h h' : Heap) : Prop where
  keep : ∀ b o, h.get? b = some o → H b = none → b ∉ fs → b ∉ ex → h'.get? b = some o
  slot : ∀ b o, h.get? b = some o → H b = none → b ∈ fs → b ∉ ex → ∃ sl, h'.get? b = some { o with slots := sl }
  free : ∀ b o, h.get? b = some o → H b = none → b ∉ ex → H' b = none
  there : ∀ b o, h.get? b = some o → b ∉ ex → ∃ o', h'.get? b = some o'
  tups : ∀ b xs, H b = some (.tup xs) → H' b = some (.tup xs)
  frzs : ∀ b o u, H b = some (.frz o u) → H' b = some (.frz o u)
  tbls : ∀ b ps, H b = some (.tbl ps) → ∃ more, H' b = some (.tbl (ps ++ more))
section
variable {fs fs' ex ex' : List Addr} {H H1 H2 : Hp} {h h1 h2 h' : Heap} {a x e : Addr} {o : HO}
theorem Un.any (u : Un fs ex H H1 h h1) {b : Addr} {ob : Obj} (q : h.get? b = some ob) (n : H b = none) (hx : b ∉ ex) : ∃ sl, h1.get? b = some { ob with slots := sl } := by
  by_cases hb : b ∈ fs
  · exact u.slot b ob q n hb hx
  · exact ⟨ob.slots, u.keep b ob q n hb hx⟩
theorem Un.trans (a : Un fs ex H H1 h h1) (b : Un fs ex H1 H2 h1 h2) : Un fs ex H H2 h h2 where
  keep := fun c ob q n hc hx => b.keep c ob (a.keep c ob q n hc hx) (a.free c ob q n hx) hc hx
  slot := fun c ob q n hc hx => by
    obtain ⟨sl, e1⟩ := a.slot c ob q n hc hx
    obtain ⟨sl', e2⟩ := b.slot c _ e1 (a.free c ob q n hx) hc hx
    exact ⟨sl', e2⟩
  free := fun c ob q n hx => by
    obtain ⟨o', e1⟩ := a.there c ob q hx
    exact b.free c o' e1 (a.free c ob q n hx) hx
  there := fun c ob q hx => by
    obtain ⟨o', e1⟩ := a.there c ob q hx
    exact b.there c o' e1 hx
  tups := fun c xs q => b.tups c xs (a.tups c xs q)
  frzs := fun c ob xs q => b.frzs c ob xs (a.frzs c ob xs q)
  tbls := fun c ps q => by
    obtain ⟨m1, e1⟩ := a.tbls c ps q
    obtain ⟨m2, e2⟩ := b.tbls c _ e1
    exact ⟨m1 ++ m2, by rw [e2, Array.append_assoc]⟩
theorem Un.kept (k : ∀ b u, h.get? b = some u → h'.get? b = some u) : Un fs ex H H h h' :=
  ⟨fun b ob q _ _ _ => k b ob q, fun b ob q _ _ _ => ⟨ob.slots, k b ob q⟩, fun _ _ _ n _ => n, fun b ob q _ => ⟨ob, k b ob q⟩, fun _ _ q => q, fun _ _ _ q => q, fun _ ps q => ⟨#[], by rw [q]; simp⟩⟩
theorem Un.refl : Un fs ex H H h h := Un.kept fun _ _ q => q
theorem Un.laid (k : ∀ b u, h.get? b = some u → h'.get? b = some u) (hp : h.objs.size ≤ a) (hn : H a = none) : Un fs ex H (upd H a o) h h' where
  keep := fun b u q _ _ _ => k b u q
  slot := fun b u q _ _ _ => ⟨u.slots, k b u q⟩
  free := fun b u q n _ => by rw [upd_ne (Nat.ne_of_lt (Nat.lt_of_lt_of_le (Heap.lt_size q) hp))]; exact n
  there := fun b u q _ => ⟨u, k b u q⟩
  tups := fun b xs q => by rw [upd_ne (ne_of_none q hn)]; exact q
  frzs := fun b u xs q => by rw [upd_ne (ne_of_none q hn)]; exact q
  tbls := fun b ps q => ⟨#[], by rw [upd_ne (ne_of_none q hn), q]; simp⟩
theorem Un.write (mu : Mut (H x)) (he : e = x ∨ H e = some (.own x)) (k : ∀ b u, b ≠ e → h.get? b = some u → h'.get? b = some u) (heo : ∃ u, h'.get? e = some u) : Un fs ex H (upd H x o) h h' := by
  have hx : ∀ b, H b = none → b ≠ x := fun b n z => by subst z; rw [n] at mu; exact mu
  have hb : ∀ b, H b = none → b ≠ e := fun b n z => by
    subst z
    rcases he with r | r
    · exact hx b n r
    · rw [n] at r; cases r
  have hm : ∀ b u, H b = some u → ¬ Mut (some u) → b ≠ x := fun b u q nm z => by subst z; rw [q] at mu; exact nm mu
  refine ⟨fun b u q n _ _ => k b u (hb b n) q, fun b u q n _ _ => ⟨u.slots, k b u (hb b n) q⟩, fun b u q n _ => by rw [upd_ne (hx b n)]; exact n, fun b u q _ => ?_,
    fun b xs q => by rw [upd_ne (hm b _ q fun z => z)]; exact q, fun b u xs q => by rw [upd_ne (hm b _ q fun z => z)]; exact q, fun b ps q => ⟨#[], by rw [upd_ne (hm b _ q fun z => z), q]; simp⟩⟩
  by_cases hbe : b = e
  · subst hbe; exact heo
  · exact ⟨u, k b u hbe q⟩
theorem Un.mono (u : Un fs ex H H1 h h1) (hs : ∀ b ∈ fs, b ∈ fs') (hx : ∀ b ∈ ex, b ∈ ex') : Un fs' ex' H H1 h h1 :=
  ⟨fun b ob q n hb he => u.keep b ob q n (fun z => hb (hs b z)) fun z => he (hx b z), fun _ _ q n _ he => u.any q n fun z => he (hx _ z), fun b ob q n he => u.free b ob q n fun z => he (hx b z), fun b ob q he => u.there b ob q fun z => he (hx b z), u.tups, u.frzs, u.tbls⟩
end

/-! ### the heap without what is tracked -/
def trk (h : Heap) (H : Hp) : List Addr := (List.range h.objs.size).filter fun a => (H a).isSome
def hidT (h : Heap) (H : Hp) : Heap := PySem.W.hideAll h (trk h H)
theorem hidT_size (h : Heap) (H : Hp) : (hidT h H).objs.size = h.objs.size := PySem.W.hideAll_size _ _
theorem hidT_get {h : Heap} {H : Hp} {b : Addr} {o : Obj} (e : h.get? b = some o) (n : H b = none) : (hidT h H).get? b = some o :=
  PySem.W.hideAll_get _ e fun hm => by
    have q : (H b).isSome = true := (List.mem_filter.mp hm).2
    rw [n] at q; simp at q
theorem of_hidT {h : Heap} {H : Hp} {b : Addr} {o : Obj} (e : (hidT h H).get? b = some o) : h.get? b = some o ∧ H b = none := by
  have e' : h.get? b = some o := PySem.W.of_hideAll (trk h H) e
  refine ⟨e', ?_⟩
  cases q : H b with
  | none => rfl
  | some x =>
    have hm : b ∈ trk h H := List.mem_filter.mpr ⟨List.mem_range.mpr (Heap.lt_size e'), by simp [q]⟩
    have z : (hidT h H).get? b = none := PySem.W.hideAll_none (trk h H) hm
    rw [z] at e; cases e

/-! ### OpenK's ledger, filled with every new object but one -/
def allNews (g h : Heap) (L : Addr) : List (Addr × Obj) := (List.range h.objs.size).filterMap fun a => if a = L ∨ (g.get? a).isSome = true then none else (h.get? a).map fun o => (a, o)
def rest (g h : Heap) (L d : Addr) : List (Addr × Obj) := (allNews g h L).filter fun p => decide (p.1 ≠ d)
end L2

namespace L2
open PySem PySem.Spec PyProof.Rows

/-- the module's facts, over the base: the heap at the law's entry without what is tracked there -/
structure Mod (K : PySem.W.Frag) (mg : Str → Option Value) (base : Heap) : Prop where
  kin : K.In base
  glob : base.Ns mainGlobals mg
  blt : ∃ mb, base.Ns builtinsNs mb ∧ ∀ x : Str, x ≠ "__name__" → mb x = bootBuiltins x
  nolimit : base.NoLimit

/-- the context: a def's body (or a comprehension's block) running. base: fixed through the whole law; s₀, H₀: the entry; outer: the frames whose slots others may change (a def's callers); stack: all frames that run;
   ex: iterators that were made ahead of the entry and are walked here (a comprehension's); fn: the names whose cells were made at the entry (a def: all; a comprehension's block: its own); calm: not within an except suite; pn: pins that every state bears; xe: what is wanted of an exception that leaves the code -/
structure Cx where
  prog : Program
  w : World
  K : PySem.W.Frag
  mg : Str → Option Value
  base : Heap
  A : Around
  N : List Str
  s₀ : Shared
  H₀ : Hp
  env : Env
  outer : List Env
  stack : List Env
  ex : List Addr
  fn : Str → Bool
  calm : Bool
  pn : List (Addr × Obj)
  xe : Value → Shared → Prop
/-- the callers' frames -/
def frs (l : List Env) : List Addr := l.filterMap (·.frame)
abbrev Cx.fs (X : Cx) : List Addr := frs X.outer

def Vis (sc : Scope) (x : Str) : Prop := sc.names.lookup x = some .local ∨ sc.names.lookup x = some .cell ∨ sc.names.lookup x = some .free
def Loc (sc : Scope) (x : Str) : Prop := sc.names.lookup x = some .local ∨ sc.names.lookup x = some .cell
def Look (env : Env) (h : Heap) (m : Str → Option Value) (x : Str) (u : Value) : Prop :=
  (env.kindOf x = some .local ∧ m x = some u) ∨ ((env.kindOf x = some .cell ∨ env.kindOf x = some .free) ∧ ∃ c, env.cells.lookup x = some c ∧ h.IsCell c (some u))

structure Cx.Ok (X : Cx) : Prop where
  mod : Mod X.K X.mg X.base
  kind : X.env.scope.kind = .function
  glob : X.env.globals = mainGlobals
  blt : X.env.builtins = builtinsNs
  above : X.s₀.heap.objs.size ≤ X.env.locals
  inj : ∀ x y c, X.env.cells.lookup x = some c → X.env.cells.lookup y = some c → x = y
  has : ∀ x, (X.env.kindOf x = some .cell ∨ X.env.kindOf x = some .free) → ∃ c, X.env.cells.lookup x = some c
  cab : ∀ x c, X.fn x = true → X.env.cells.lookup x = some c → X.s₀.heap.objs.size ≤ c
  hd : X.calm = true → X.A.handled = none
  frames : X.A.frames = some X.stack
  stk : X.stack = X.outer ∨ (X.stack = X.env :: X.outer ∧ X.env.frame = some X.env.locals)
  exf : ∀ b ∈ X.ex, b ≠ X.env.locals ∧ ∀ x c, X.env.cells.lookup x = some c → c ≠ b
  bs : ∀ b o, X.base.get? b = some o → X.s₀.heap.get? b = some o ∧ X.H₀ b = none
  bsz : X.base.objs.size ≤ X.s₀.heap.objs.size
  noex : ∀ b o, X.base.get? b = some o → b ∉ X.ex
  exfs : ∀ b ∈ X.ex, b ∉ X.fs
  funs : X.s₀.heap.FunFrames X.base X.outer
  frf : ∀ b ∈ X.fs, X.H₀ b = none

structure Inv (X : Cx) (pins : List (Addr × Obj)) (σ : List (Option V)) (H : Hp) (s : Shared) : Prop where
  ok : X.Ok
  os : s.os = X.s₀.os
  bare : AllBare s.gens
  base : Un X.fs X.ex X.H₀ H X.s₀.heap s.heap
  loc : ∃ m, s.heap.Ns X.env.locals m ∧ ∀ (i : Nat) (x : Str) (v : V), X.N[i]? = some x → σ[i]? = some (some v) → Vis X.env.scope x → ∃ u, RelV v u ∧ Look X.env s.heap m x u
  cell : ∀ x c, X.env.cells.lookup x = some c → ∃ v, s.heap.IsCell c v
  free : H X.env.locals = none
  freeC : ∀ x c, X.env.cells.lookup x = some c → H c = none
  pin : ∀ p ∈ X.pn ++ pins, s.heap.get? p.1 = some p.2 ∧ H p.1 = none ∧ p.1 ≠ X.env.locals ∧ p.1 ∉ X.fs ∧ ∀ v, p.2.data ≠ .cell v
  hok : HOk X.prog X.w H s.heap
  len : σ.length = X.N.length

section
variable {X : Cx} {pins : List (Addr × Obj)} {σ : List (Option V)} {H H' : Hp} {s : Shared} {h' : Heap}

theorem Cx.Ok.nofr (ok : X.Ok) {b : Addr} {o : Obj} (e : X.base.get? b = some o) : b ∉ X.fs := fun hb => by
  have := (ok.funs.mem hb).1
  rw [e] at this; cases this
theorem Inv.bs (I : Inv X pins σ H s) : ∀ b o, X.base.get? b = some o → s.heap.get? b = some o ∧ H b = none := fun b o e =>
  ⟨I.base.keep b o (I.ok.bs b o e).1 (I.ok.bs b o e).2 (I.ok.nofr e) (I.ok.noex b o e), I.base.free b o (I.ok.bs b o e).1 (I.ok.bs b o e).2 (I.ok.noex b o e)⟩
theorem Inv.bk (I : Inv X pins σ H s) : ∀ b o, X.base.get? b = some o → s.heap.get? b = some o := fun b o e => (I.bs b o e).1
theorem Inv.mod (I : Inv X pins σ H s) : Mod X.K X.mg X.base := I.ok.mod
theorem Inv.kIn (I : Inv X pins σ H s) : X.K.In s.heap := I.ok.mod.kin.keeps I.bk
theorem Inv.nolimit (I : Inv X pins σ H s) : s.heap.NoLimit := I.ok.mod.nolimit.keeps I.bk
/-- the frame over the base: for OpenK's rules (K.In X.base is I.mod.kin) -/
theorem Inv.fr (I : Inv X pins σ H s) : ∃ m, Fr X.base X.env.locals s.heap m :=
  let ⟨m, hn, _⟩ := I.loc
  ⟨m, hn, I.bk, Nat.le_trans I.ok.bsz I.ok.above⟩
theorem Inv.lt (I : Inv X pins σ H s) : X.env.locals < s.heap.objs.size := let ⟨_, hn, _⟩ := I.loc; hn.lt
theorem Inv.sz (I : Inv X pins σ H s) : X.s₀.heap.objs.size ≤ s.heap.objs.size := Nat.le_trans I.ok.above (Nat.le_of_lt I.lt)
theorem Inv.nofs (I : Inv X pins σ H s) {a : Addr} (h : s.heap.objs.size ≤ a) : a ∉ X.fs := fun hb => by
  obtain ⟨_, o, ho, _⟩ := I.ok.funs.mem hb
  exact absurd (Nat.lt_of_lt_of_le (Heap.lt_size ho) (Nat.le_trans I.sz h)) (Nat.lt_irrefl _)
theorem Inv.cne (I : Inv X pins σ H s) : ∀ x c, X.env.cells.lookup x = some c → c ≠ X.env.locals := fun x c e z => by
  obtain ⟨v, o, ho, hd⟩ := I.cell x c e
  obtain ⟨m, ⟨o', es, ep, ho', hd', _⟩, _⟩ := I.loc
  rw [z, ho'] at ho; cases ho; rw [hd'] at hd; cases hd
theorem Inv.funs (I : Inv X pins σ H s) : s.heap.FunFrames X.base X.outer := by
  have all : ∀ (l : List Env), (∀ b ∈ frs l, b ∈ X.fs) → X.s₀.heap.FunFrames X.base l → s.heap.FunFrames X.base l := by
    intro l
    induction l with
    | nil => intro _ _; trivial
    | cons env r ih =>
      intro hs hl
      obtain ⟨hk, ⟨L, o, hf, hn, ho, hd⟩, hr⟩ := hl
      have hL : L ∈ X.fs := hs L (by unfold frs; rw [List.filterMap_cons, hf]; exact List.mem_cons_self)
      obtain ⟨sl, e⟩ := I.base.slot L o ho (I.ok.frf L hL) hL fun z => I.ok.exfs L z hL
      exact ⟨hk, ⟨L, _, hf, hn, e, hd⟩, ih (fun b hb => hs b (by unfold frs; rw [List.filterMap_cons, hf]; exact List.mem_cons_of_mem _ hb)) hr⟩
  exact all X.outer (fun _ hb => hb) I.ok.funs

/-- the frames that run, for a call -/
theorem Inv.stack (I : Inv X pins σ H s) : s.heap.FunFrames X.base X.stack := by
  rcases I.ok.stk with e | ⟨e, hf⟩
  · rw [e]; exact I.funs
  · rw [e]
    obtain ⟨m, hn, _⟩ := I.loc
    refine .cons (by rw [I.ok.kind]; decide) hf hn ?_ I.funs
    exact Heap.get?_none_of_le (Nat.le_trans I.ok.bsz I.ok.above)
theorem Inv.stkSub (I : Inv X pins σ H s) : ∀ b ∈ frs X.stack, b ∈ X.env.locals :: X.fs := fun b hb => by
  rcases I.ok.stk with e | ⟨e, hf⟩
  · rw [e] at hb; exact List.mem_cons_of_mem _ hb
  · rw [e] at hb
    unfold frs at hb
    rw [List.filterMap_cons, hf] at hb
    exact hb
theorem Inv.stkFree (I : Inv X pins σ H s) : ∀ b ∈ frs X.stack, H b = none := fun b hb => by
  rcases List.mem_cons.mp (I.stkSub b hb) with e | hb
  · rw [e]; exact I.free
  · obtain ⟨_, o, ho, _⟩ := I.ok.funs.mem hb
    exact I.base.free b o ho (I.ok.frf b hb) fun z => I.ok.exfs b z hb

/-- THE STEP: the untracked objects but the frame and the records at ch are kept (the callers' frames up to slots), the frame's map is kept, the new abstract heap is held -/
theorem Inv.step {g' : Array GenState} {t' : Nat} {d' : Drawn} {ch : List Addr} (I : Inv X pins σ H s)
    (hch : ∀ b ∈ ch, (b ∈ X.ex ∨ X.s₀.heap.objs.size ≤ b) ∧ b ≠ X.env.locals ∧ (∀ x c, X.env.cells.lookup x = some c → c ≠ b) ∧ ∀ p ∈ X.pn ++ pins, p.1 ≠ b)
    (keep : ∀ b o, b ≠ X.env.locals → b ∉ X.fs → b ∉ ch → s.heap.get? b = some o → H b = none → h'.get? b = some o)
    (slot : ∀ b o, b ≠ X.env.locals → b ∈ X.fs → b ∉ ch → s.heap.get? b = some o → H b = none → ∃ sl, h'.get? b = some { o with slots := sl }) (free : ∀ b o, b ∉ ch → s.heap.get? b = some o → H b = none → H' b = none)
    (there : ∀ b o, b ∉ ch → s.heap.get? b = some o → ∃ o', h'.get? b = some o')
    (tups : ∀ b xs, H b = some (.tup xs) → H' b = some (.tup xs)) (frzs : ∀ b o u, H b = some (.frz o u) → H' b = some (.frz o u)) (tbls : ∀ b ps, H b = some (.tbl ps) → ∃ more, H' b = some (.tbl (ps ++ more)))
    (ns : ∀ m, s.heap.Ns X.env.locals m → h'.Ns X.env.locals m) (hok : HOk X.prog X.w H' h') (hg : AllBare g') :
    Inv X pins σ H' { s with heap := h', gens := g', drawn := d', toks := t' } := by
  have neL : ∀ b o, X.s₀.heap.get? b = some o → b ≠ X.env.locals := fun b o e => Nat.ne_of_lt (Nat.lt_of_lt_of_le (Heap.lt_size e) I.ok.above)
  have neC : ∀ b o, X.s₀.heap.get? b = some o → b ∉ X.ex → b ∉ ch := fun b o e hx hb => by
    rcases (hch b hb).1 with z | z
    · exact hx z
    · exact absurd (Nat.lt_of_lt_of_le (Heap.lt_size e) z) (Nat.lt_irrefl _)
  have cellK : ∀ x c, X.env.cells.lookup x = some c → ∀ v, s.heap.IsCell c v → h'.IsCell c v := fun x c e v ⟨o, ho, hd⟩ => by
    have nch : c ∉ ch := fun z => (hch c z).2.2.1 x c e rfl
    by_cases hc : c ∈ X.fs
    · obtain ⟨sl, q⟩ := slot c o (I.cne x c e) hc nch ho (I.freeC x c e)
      exact ⟨_, q, hd⟩
    · exact ⟨o, keep c o (I.cne x c e) hc nch ho (I.freeC x c e), hd⟩
  refine ⟨I.ok, I.os, hg, ⟨fun b o e n hb hx => ?_, fun b o e n hb hx => ?_, fun b o e n hx => ?_, fun b o e hx => ?_, fun b xs e => tups b xs (I.base.tups b xs e), fun b o xs e => frzs b o xs (I.base.frzs b o xs e), fun b ps e => ?_⟩, ?_, fun x c e => ?_, ?_, fun x c e => ?_, fun p hp => ?_, hok, I.len⟩
  · exact keep b o (neL b o e) hb (neC b o e hx) (I.base.keep b o e n hb hx) (I.base.free b o e n hx)
  · obtain ⟨sl, e1⟩ := I.base.slot b o e n hb hx
    obtain ⟨sl', e2⟩ := slot b _ (neL b o e) hb (neC b o e hx) e1 (I.base.free b o e n hx)
    exact ⟨sl', e2⟩
  · obtain ⟨o', e1⟩ := I.base.there b o e hx
    exact free b o' (neC b o e hx) e1 (I.base.free b o e n hx)
  · obtain ⟨o', e1⟩ := I.base.there b o e hx
    exact there b o' (neC b o e hx) e1
  · obtain ⟨m1, e1⟩ := I.base.tbls b ps e
    obtain ⟨m2, e2⟩ := tbls b _ e1
    exact ⟨m1 ++ m2, by rw [e2, Array.append_assoc]⟩
  · obtain ⟨m, hn, hl⟩ := I.loc
    refine ⟨m, ns m hn, fun i x v e1 e2 e3 => ?_⟩
    obtain ⟨u, r, l⟩ := hl i x v e1 e2 e3
    refine ⟨u, r, ?_⟩
    rcases l with l | ⟨k, c, e, z⟩
    · exact .inl l
    · exact .inr ⟨k, c, e, cellK x c e _ z⟩
  · obtain ⟨v, z⟩ := I.cell x c e
    exact ⟨v, cellK x c e v z⟩
  · obtain ⟨m, ⟨o, _, _, ho, _⟩, _⟩ := I.loc
    exact free _ o (fun z => (hch _ z).2.1 rfl) ho I.free
  · obtain ⟨v, o, ho, hd⟩ := I.cell x c e
    exact free c o (fun z => (hch c z).2.2.1 x c e rfl) ho (I.freeC x c e)
  · obtain ⟨e, n, ne, nf, d⟩ := I.pin p hp
    have nch : p.1 ∉ ch := fun z => (hch p.1 z).2.2.2 p hp rfl
    exact ⟨keep p.1 p.2 ne nf nch e n, free p.1 p.2 nch e n, ne, nf, d⟩
/-- .. where the frame's own object is kept too -/
theorem Inv.un {t' : Nat} (I : Inv X pins σ H s) (u : Un X.fs [] H H' s.heap h') (hok : HOk X.prog X.w H' h') : Inv X pins σ H' { s with heap := h', toks := t' } := by
  obtain ⟨m, ⟨o, es, ep, ho, r⟩, _⟩ := id I.loc
  obtain ⟨sl, hL⟩ := u.any ho I.free (by simp)
  exact I.step (g' := s.gens) (d' := s.drawn) (ch := []) (fun _ z => nomatch z) (fun b o _ hb _ e n => u.keep b o e n hb (by simp)) (fun b o _ hb _ e n => u.slot b o e n hb (by simp)) (fun b o _ e n => u.free b o e n (by simp)) (fun b o _ e => u.there b o e (by simp)) u.tups u.frzs u.tbls (fun m' hm => by
    obtain ⟨o', es', ep', ho', r'⟩ := hm
    rw [ho] at ho'; cases ho'
    exact ⟨_, es', ep', hL, r'⟩) hok I.bare
/-- behind a call (or a comprehension's block): the slots of this frame may have changed too, the records at ch may have turned -/
theorem Inv.call {g' : Array GenState} {t' : Nat} {d' : Drawn} {ch : List Addr} (I : Inv X pins σ H s) (u : Un (frs X.stack) ch H H' s.heap h') (hok : HOk X.prog X.w H' h') (hg : AllBare g')
    (hch : ∀ b ∈ ch, (b ∈ X.ex ∨ X.s₀.heap.objs.size ≤ b) ∧ b ≠ X.env.locals ∧ (∀ x c, X.env.cells.lookup x = some c → c ≠ b) ∧ ∀ p ∈ X.pn ++ pins, p.1 ≠ b) :
    Inv X pins σ H' { s with heap := h', gens := g', drawn := d', toks := t' } := by
  obtain ⟨m, ⟨o, es, ep, ho, r⟩, _⟩ := id I.loc
  obtain ⟨sl, hL⟩ := u.any ho I.free fun z => (hch _ z).2.1 rfl
  exact I.step (ch := ch) hch (fun b o hL hb hc e n => u.keep b o e n (fun z => (List.mem_cons.mp (I.stkSub b z)).elim hL hb) hc) (fun b o _ _ hc e n => u.any e n hc) (fun b o hc e n => u.free b o e n hc) (fun b o hc e => u.there b o e hc) u.tups u.frzs u.tbls (fun m' hm => by
    obtain ⟨o', es', ep', ho', r'⟩ := hm
    rw [ho] at ho'; cases ho'
    exact ⟨_, es', ep', hL, r'⟩) hok hg
/-- an untracked record of ours (an iterator) has turned -/
theorem Inv.turned {t' : Nat} {it : Addr} (I : Inv X pins σ H s) (k : ∀ b o, b ≠ it → s.heap.get? b = some o → h'.get? b = some o) (hn : H it = none) (hL : it ≠ X.env.locals)
    (h1 : it ∈ X.ex ∨ X.s₀.heap.objs.size ≤ it) (h2 : ∀ x c, X.env.cells.lookup x = some c → c ≠ it) (h3 : ∀ p ∈ X.pn ++ pins, p.1 ≠ it) : Inv X pins σ H { s with heap := h', toks := t' } := by
  have nit : ∀ b u, H b = some u → b ≠ it := fun b u e z => by rw [z, hn] at e; cases e
  refine I.step (g' := s.gens) (d' := s.drawn) (ch := [it]) (fun b hb => ?_) (fun b o _ _ hc e _ => k b o (fun z => hc (by simp [z])) e) (fun b o _ _ hc e _ => ⟨o.slots, k b o (fun z => hc (by simp [z])) e⟩) (fun _ _ _ _ n => n)
    (fun b o hc e => ⟨o, k b o (fun z => hc (by simp [z])) e⟩) (fun _ _ e => e) (fun _ _ _ e => e) (fun b ps e => ⟨#[], by rw [e]; simp⟩) (fun m hm => ?_) (fun b u e => ?_) I.bare
  · have e : b = it := by simpa using hb
    subst e
    exact ⟨h1, hL, h2, h3⟩
  · obtain ⟨o, es, ep, ho, r⟩ := hm
    exact ⟨o, es, ep, k _ o (Ne.symm hL) ho, r⟩
  · refine (I.hok b u e).stay (fun c v hc q => k c v ?_ q) (fun _ q => q) fun _ _ q => q
    rcases hc with z | z
    · rw [z]; exact nit b u e
    · exact nit c _ z
theorem Inv.tok (I : Inv X pins σ H s) (t : Nat) : Inv X pins σ H { s with toks := t } := I.un (h' := s.heap) (t' := t) Un.refl I.hok
/-- all objects kept -/
theorem Inv.kept {t' : Nat} (I : Inv X pins σ H s) (k : ∀ b u, s.heap.get? b = some u → h'.get? b = some u) : Inv X pins σ H { s with heap := h', toks := t' } := I.un (Un.kept k) (I.hok.kept k)
/-- a new object laid and tracked -/
theorem Inv.laid {a : Addr} {o : HO} {t' : Nat} (I : Inv X pins σ H s) (k : ∀ b u, s.heap.get? b = some u → h'.get? b = some u) (hp : s.heap.objs.size ≤ a) (new : ObjOk X.prog X.w (upd H a o) h' a o) :
    Inv X pins σ (upd H a o) { s with heap := h', toks := t' } := I.un (Un.laid k hp (I.hok.fresh hp)) (I.hok.laid k hp new)
/-- an object written -/
theorem Inv.write {x e : Addr} {o : HO} {t' : Nat} (I : Inv X pins σ H s) (mu : Mut (H x)) (he : e = x ∨ H e = some (.own x)) (k : ∀ b u, b ≠ e → s.heap.get? b = some u → h'.get? b = some u) (heo : ∃ u, h'.get? e = some u)
    (new : ObjOk X.prog X.w (upd H x o) h' x o) : Inv X pins σ (upd H x o) { s with heap := h', toks := t' } := I.un (Un.write mu he k heo) (I.hok.write mu he k heo new)
theorem Inv.pins_of {pins' : List (Addr × Obj)} (I : Inv X pins σ H s) (h : ∀ p ∈ pins', s.heap.get? p.1 = some p.2 ∧ H p.1 = none ∧ p.1 ≠ X.env.locals ∧ p.1 ∉ X.fs ∧ ∀ v, p.2.data ≠ .cell v) : Inv X pins' σ H s :=
  ⟨I.ok, I.os, I.bare, I.base, I.loc, I.cell, I.free, I.freeC, fun p hp => (List.mem_append.mp hp).elim (fun z => I.pin p (List.mem_append_left _ z)) (h p), I.hok, I.len⟩

theorem nodup_ix {N : List Str} (hN : N.Nodup) {i j : Nat} {x : Str} (a : N[i]? = some x) (b : N[j]? = some x) : i = j := by
  obtain ⟨h1, e1⟩ := List.getElem?_eq_some_iff.mp a
  obtain ⟨h2, e2⟩ := List.getElem?_eq_some_iff.mp b
  exact (List.getElem_inj hN).mp (e1.trans e2.symm)

/-- a name is stored; what changed -/
theorem store_ok2 {M : Model} {A : Around} {E : Value → Shared → Prop} {i : Nat} {x : Str} {v : V} {u : Value} {Q : Unit → Shared → Prop} (I : Inv X pins σ H s) (hN : X.N.Nodup) (hi : X.N[i]? = some x) (hx : Loc X.env.scope x) (r : RelV v u)
    (h : ∀ s', Inv X pins (σ.set i (some v)) H s' → (∃ a, Heap.SameBut a s.heap s'.heap ∧ (a = X.env.locals ∨ X.env.cells.lookup x = some a)) → Q () s') (hf : X.fn x = true ∨ X.env.scope.names.lookup x = some .local := by first | exact .inl rfl | exact .inr rfl | assumption) : wpAny M A (storeName X.env x u) Q E s := by
  obtain ⟨m, hn, hl⟩ := id I.loc
  have hcls : (X.env.scope.kind == .class || (X.env.scope.kind == .module && X.env.locals != X.env.globals)) = false := by rw [I.ok.kind]; rfl
  have hiσ : i < σ.length := by rw [I.len]; exact (List.getElem?_eq_some_iff.mp hi).1
  have cne := I.cne
  have tracked : ∀ {a : Addr} {h' : Heap}, (∃ o, s.heap.get? a = some o ∧ H a = none) → Heap.SameBut a s.heap h' → HOk X.prog X.w H h' := fun {a h'} ha hs b ob e => by
    obtain ⟨_, _, hfree⟩ := ha
    refine (I.hok b ob e).stay (fun c w' hc q => (hs.2 c ?_).trans q) (fun _ q => q) fun _ _ q => q
    rintro rfl
    rcases hc with rfl | hc
    · rw [hfree] at e; cases e
    · rw [hfree] at hc; cases hc
  rcases hx with hk | hk
  · refine wpAny_storeName_local hk hn (fun h' hn' hs => ?_) hcls
    obtain ⟨oL, _, _, hoL, _⟩ := id hn
    refine h _ ⟨I.ok, I.os, I.bare, ⟨fun b o e n hb hx => ?_, fun b o e n hb hx => ?_, I.base.free, fun b o e hx => ?_, I.base.tups, I.base.frzs, I.base.tbls⟩, ⟨_, hn', fun j y v' e1 e2 e3 => ?_⟩, fun y c e => ?_, I.free, I.freeC, fun p hp => ?_, tracked ⟨oL, hoL, I.free⟩ hs, by simpa using I.len⟩ ⟨_, hs, .inl rfl⟩
    · exact (hs.2 b (Nat.ne_of_lt (Nat.lt_of_lt_of_le (Heap.lt_size e) I.ok.above))).trans (I.base.keep b o e n hb hx)
    · obtain ⟨sl, e1⟩ := I.base.slot b o e n hb hx
      exact ⟨sl, (hs.2 b (Nat.ne_of_lt (Nat.lt_of_lt_of_le (Heap.lt_size e) I.ok.above))).trans e1⟩
    · obtain ⟨o', e1⟩ := I.base.there b o e hx
      exact ⟨o', (hs.2 b (Nat.ne_of_lt (Nat.lt_of_lt_of_le (Heap.lt_size e) I.ok.above))).trans e1⟩
    · by_cases hj : j = i
      · subst hj
        rw [hi] at e1; cases e1
        rw [List.getElem?_set_self hiσ] at e2
        cases e2
        exact ⟨u, r, .inl ⟨hk, by simp⟩⟩
      · rw [List.getElem?_set_ne (Ne.symm hj)] at e2
        obtain ⟨u', r', q⟩ := hl j y v' e1 e2 e3
        refine ⟨u', r', ?_⟩
        rcases q with ⟨k, e⟩ | ⟨k, c, e, z⟩
        · refine .inl ⟨k, ?_⟩
          have : y ≠ x := fun e => hj (nodup_ix hN e1 (e ▸ hi))
          simp [this, e]
        · exact .inr ⟨k, c, e, z.sameBut hs (cne y c e)⟩
    · obtain ⟨w', z⟩ := I.cell y c e
      exact ⟨w', z.sameBut hs (cne y c e)⟩
    · obtain ⟨e, n, ne, nf, d⟩ := I.pin p hp
      exact ⟨(hs.2 p.1 ne).trans e, n, ne, nf, d⟩
  · have hfn : X.fn x = true := by
      rcases hf with z | z
      · exact z
      · rw [z] at hk; cases hk
    obtain ⟨c, hc⟩ := I.ok.has x (.inl hk)
    obtain ⟨w', z⟩ := I.cell x c hc
    refine wpAny_storeName_cell I.ok.kind hk hc z (fun h' hc' hs => ?_)
    obtain ⟨oc, hoc, hocd⟩ := id z
    refine h { s with heap := h' } ⟨I.ok, I.os, I.bare, ⟨fun b o e n hb hx => ?_, fun b o e n hb hx => ?_, I.base.free, fun b o e hx => ?_, I.base.tups, I.base.frzs, I.base.tbls⟩, ⟨m, hn.sameBut hs (Ne.symm (cne x c hc)), fun j y v' e1 e2 e3 => ?_⟩, fun y c' e => ?_, I.free, I.freeC, fun p hp => ?_, tracked ⟨oc, hoc, I.freeC x c hc⟩ hs, by simpa using I.len⟩ ⟨c, hs, .inr hc⟩
    · exact (hs.2 b (Nat.ne_of_lt (Nat.lt_of_lt_of_le (Heap.lt_size e) (I.ok.cab x c hfn hc)))).trans (I.base.keep b o e n hb hx)
    · obtain ⟨sl, e1⟩ := I.base.slot b o e n hb hx
      exact ⟨sl, (hs.2 b (Nat.ne_of_lt (Nat.lt_of_lt_of_le (Heap.lt_size e) (I.ok.cab x c hfn hc)))).trans e1⟩
    · obtain ⟨o', e1⟩ := I.base.there b o e hx
      exact ⟨o', (hs.2 b (Nat.ne_of_lt (Nat.lt_of_lt_of_le (Heap.lt_size e) (I.ok.cab x c hfn hc)))).trans e1⟩
    · by_cases hj : j = i
      · subst hj
        rw [hi] at e1; cases e1
        rw [List.getElem?_set_self hiσ] at e2
        cases e2
        exact ⟨u, r, .inr ⟨.inl hk, c, hc, hc'⟩⟩
      · rw [List.getElem?_set_ne (Ne.symm hj)] at e2
        obtain ⟨u', r', q⟩ := hl j y v' e1 e2 e3
        refine ⟨u', r', ?_⟩
        rcases q with q | ⟨k, c', e, z'⟩
        · exact .inl q
        · refine .inr ⟨k, c', e, z'.sameBut hs ?_⟩
          rintro rfl
          exact hj (nodup_ix hN e1 (I.ok.inj _ _ _ e hc ▸ hi))
    · by_cases hcc : c' = c
      · subst hcc; exact ⟨_, hc'⟩
      · obtain ⟨w2, z2⟩ := I.cell y c' e
        exact ⟨w2, z2.sameBut hs hcc⟩
    · obtain ⟨e, n, ne, nf, d⟩ := I.pin p hp
      refine ⟨(hs.2 p.1 ?_).trans e, n, ne, nf, d⟩
      intro q
      rw [q, hoc] at e
      have q' : oc = p.2 := Option.some.inj e
      exact d w' (by rw [← q']; exact hocd)
theorem store_ok {M : Model} {A : Around} {E : Value → Shared → Prop} {i : Nat} {x : Str} {v : V} {u : Value} {Q : Unit → Shared → Prop} (I : Inv X pins σ H s) (hN : X.N.Nodup) (hi : X.N[i]? = some x) (hx : Loc X.env.scope x) (r : RelV v u)
    (h : ∀ s', Inv X pins (σ.set i (some v)) H s' → Q () s') (hf : X.fn x = true ∨ X.env.scope.names.lookup x = some .local := by first | exact .inl rfl | exact .inr rfl | assumption) : wpAny M A (storeName X.env x u) Q E s :=
  store_ok2 I hN hi hx r (fun s' I' _ => h s' I') hf
/-- behind a call or a block, the state as it is -/
theorem Inv.call' {s' : Shared} {ch : List Addr} (I : Inv X pins σ H s) (ho : s'.os = s.os) (u : Un (frs X.stack) ch H H' s.heap s'.heap) (hok : HOk X.prog X.w H' s'.heap) (hg : AllBare s'.gens)
    (hch : ∀ b ∈ ch, (b ∈ X.ex ∨ X.s₀.heap.objs.size ≤ b) ∧ b ≠ X.env.locals ∧ (∀ x c, X.env.cells.lookup x = some c → c ≠ b) ∧ ∀ p ∈ X.pn ++ pins, p.1 ≠ b) : Inv X pins σ H' s' := by
  obtain ⟨h', g', d', t', o'⟩ := s'
  have e : o' = s.os := ho
  subst e
  exact I.call (g' := g') (t' := t') (d' := d') u hok hg hch
end

/-! ### the judgements -/
/-- an exception: its class, its own dict's address (where it has one), the abstract heap behind it -/
abbrev XK := Value → Option Addr → Hp → Prop
abbrev St := List (Option V)
abbrev VK := V → Hp → Prop
/-- an expression's reading; a test's; an argument list's -/
abbrev TE := St → Hp → VK → Prop
abbrev TT := St → Hp → (Bool → Hp → Prop) → Prop
abbrev TA := St → Hp → (List V → Hp → Prop) → Prop
/-- what is wanted behind a statement -/
structure Ends where
  nx : St → Hp → Prop
  rt : VK
  bk : St → Hp → Prop := fun _ _ => False
  ct : St → Hp → Prop := fun _ _ => False
abbrev TS := Ends → St → Hp → Prop

def EP (X : Cx) (pins : List (Addr × Obj)) (σ : St) (Q : VK) (u : Value) (s' : Shared) : Prop := ∃ v H', Inv X pins σ H' s' ∧ RelV v u ∧ Q v H'
def TP (X : Cx) (pins : List (Addr × Obj)) (σ : St) (Q : Bool → Hp → Prop) (b : Bool) (s' : Shared) : Prop := ∃ H', Inv X pins σ H' s' ∧ Q b H'
def AP (X : Cx) (pins : List (Addr × Obj)) (σ : St) (Q : List V → Hp → Prop) (us : List Value) (s' : Shared) : Prop := ∃ vs H', Inv X pins σ H' s' ∧ Vals vs us ∧ Q vs H'
def SP (X : Cx) (pins : List (Addr × Obj)) (D : Ends) (f : Flow) (s' : Shared) : Prop :=
  match f with
  | .next => ∃ σ' H', Inv X pins σ' H' s' ∧ D.nx σ' H'
  | .brk => ∃ σ' H', Inv X pins σ' H' s' ∧ D.bk σ' H'
  | .cont => ∃ σ' H', Inv X pins σ' H' s' ∧ D.ct σ' H'
  | .ret u => ∃ v σ' H', Inv X pins σ' H' s' ∧ RelV v u ∧ D.rt v H'

def PE (X : Cx) (e : Expr) (t : TE) : Prop :=
  ∀ (pins : List (Addr × Obj)) (s : Shared) (σ : St) (H : Hp) (Q : VK), Inv X pins σ H s → t σ H Q → wpAny (model X.prog X.w) X.A (eval e X.env) (EP X pins σ Q) X.xe s
def PT (X : Cx) (e : Expr) (t : TT) : Prop :=
  ∀ (pins : List (Addr × Obj)) (s : Shared) (σ : St) (H : Hp) (Q : Bool → Hp → Prop), Inv X pins σ H s → t σ H Q → wpAny (model X.prog X.w) X.A (isTrue e X.env (eval e X.env)) (TP X pins σ Q) X.xe s
/-- a test whatever its 'whole' is (and, or) -/
def PW (X : Cx) (e : Expr) (t : TT) : Prop :=
  ∀ (whole : Sem Value) (pins : List (Addr × Obj)) (s : Shared) (σ : St) (H : Hp) (Q : Bool → Hp → Prop), Inv X pins σ H s → t σ H Q → wpAny (model X.prog X.w) X.A (isTrue e X.env whole) (TP X pins σ Q) X.xe s
theorem PW.pt {X : Cx} {e : Expr} {t : TT} (h : PW X e t) : PT X e t := h _
/-- an argument list (no star), from the left -/
def PA (X : Cx) (es : List Expr) (t : TA) : Prop :=
  ∀ (pos : Pos) (pins : List (Addr × Obj)) (s : Shared) (σ : St) (H : Hp) (Q : List V → Hp → Prop), Inv X pins σ H s → t σ H Q → wpAny (model X.prog X.w) X.A (spliced (backTo pos (starEach es X.env))) (AP X pins σ Q) X.xe s
def PS (X : Cx) (st : Stmt) (t : TS) : Prop :=
  ∀ (pins : List (Addr × Obj)) (s : Shared) (σ : St) (H : Hp) (D : Ends), Inv X pins σ H s → t D σ H → wpAny (model X.prog X.w) X.A (exec st X.env) (SP X pins D) X.xe s
def PSs (X : Cx) (st : List Stmt) (t : TS) : Prop :=
  ∀ (pins : List (Addr × Obj)) (s : Shared) (σ : St) (H : Hp) (D : Ends), Inv X pins σ H s → t D σ H → wpAny (model X.prog X.w) X.A (execs st X.env) (SP X pins D) X.xe s
/-- weaken the end -/
theorem thn {α : Type} {t : Sem α} {Q Q' : α → Shared → Prop} {M : Model} {A : Around} {E : Value → Shared → Prop} {s : Shared} (h : wpAny M A t Q E s) (hQ : ∀ a s, Q a s → Q' a s) : wpAny M A t Q' E s := wpAny_mono h hQ fun _ _ x => x
end L2

namespace L2
open PySem PySem.Spec PyProof.Rows
section
variable {X : Cx}


/-! ### names and constants -/
def tVar (i : Nat) : TE := fun σ H Q => ∃ v, σ[i]? = some (some v) ∧ Q v H
def tC (v : V) : TE := fun _ H Q => Q v H
theorem pe_var {i : Nat} {x : Str} {pos : Pos} (hN : X.N[i]? = some x) (hv : Vis X.env.scope x) (hd : (x == ("__debug__" : Str)) = false := by decide) (hcd : (x == ("__classdict__" : Str)) = false := by decide) : PE X (.Name x pos) (tVar i) := by
  intro pins s σ H Q I h
  obtain ⟨v, e, h⟩ := h
  obtain ⟨m, hn, hl⟩ := I.loc
  obtain ⟨u, r, l⟩ := hl i x v hN e hv
  have fin : EP X pins σ Q u s := ⟨v, H, I, r, h⟩
  rcases l with ⟨hk, hm⟩ | ⟨hk, c, hc, hcell⟩
  · exact wpAny_Name (wpAny_loadName_local I.ok.kind hk hn hm fin) hd
  · rcases hk with hk | hk
    · exact wpAny_Name (wpAny_loadName_cell I.ok.kind hk hc hcell fin) hd
    · exact wpAny_Name (wpAny_loadName_free I.ok.kind hk hc hcell fin hcd) hd
theorem pe_int {i j pos} : PE X (.Constant (.int i) j pos) (tC (.int i)) := fun _ _ _ H _ I h => wpAny_Constant_int ⟨.int i, H, I.tok _, ⟨_, rfl⟩, h⟩
theorem pe_bl {b j pos} : PE X (.Constant (.bool b) j pos) (tC (.bl b)) := fun _ _ _ H _ I h => Constant_bool ⟨.bl b, H, I, rfl, h⟩
theorem pe_non {j pos} : PE X (.Constant .none j pos) (tC .non) := fun _ _ _ H _ I h => Constant_none ⟨.non, H, I, rfl, h⟩
theorem pe_str {x j pos} : PE X (.Constant (.str x) j pos) (tC (.str x)) := fun _ _ _ H _ I h => Calls.Constant_str ⟨.str x, H, I.tok _, ⟨_, rfl⟩, h⟩

/-- a global name of the def -/
def Gl (X : Cx) (x : Str) : Prop := X.env.kindOf x = some .globalImplicit
theorem ld_glob {E : Value → Shared → Prop} {pins : List (Addr × Obj)} {s : Shared} {σ : St} {H : Hp} {x : Str} {u : Value} {pos : Pos} {Q : Value → Shared → Prop} (I : Inv X pins σ H s) (hg : Gl X x) (hm : X.mg x = some u) (h : Q u s)
    (hd : (x == ("__debug__" : Str)) = false := by decide) : wpAny (model X.prog X.w) X.A (eval (.Name x pos) X.env) Q E s :=
  Calls.Name_function_global I.ok.kind hg (Calls.loadGlobal_global (by rw [I.ok.glob]; exact I.mod.glob.keeps I.bk) hm h) hd
theorem ld_blt {E : Value → Shared → Prop} {pins : List (Addr × Obj)} {s : Shared} {σ : St} {H : Hp} {x : Str} {u : Value} {pos : Pos} {Q : Value → Shared → Prop} (I : Inv X pins σ H s) (hg : Gl X x) (hm : X.mg x = none) (hv : bootBuiltins x = some u) (h : Q u s)
    (hn : x ≠ "__name__" := by decide) (hd : (x == ("__debug__" : Str)) = false := by decide) : wpAny (model X.prog X.w) X.A (eval (.Name x pos) X.env) Q E s := by
  obtain ⟨mb, h1, h2⟩ := I.mod.blt
  exact Calls.Name_function_global I.ok.kind hg (Calls.loadGlobal_builtin (by rw [I.ok.glob]; exact I.mod.glob.keeps I.bk) hm (by rw [I.ok.blt]; exact h1.keeps I.bk) ((h2 x hn).trans hv) h) hd
/-- a module's constant, a class, a function, as a value -/
theorem pe_glob {x : Str} {v : V} {u : Value} {pos : Pos} (hg : Gl X x) (hm : X.mg x = some u) (r : RelV v u) (hd : (x == ("__debug__" : Str)) = false := by decide) : PE X (.Name x pos) (tC v) :=
  fun _ _ _ H _ I h => ld_glob I hg hm ⟨v, H, I, r, h⟩ hd
theorem pe_bltn {x : Str} {v : V} {u : Value} {pos : Pos} (hg : Gl X x) (hm : X.mg x = none) (hv : bootBuiltins x = some u) (r : RelV v u) (hn : x ≠ "__name__" := by decide) (hd : (x == ("__debug__" : Str)) = false := by decide) : PE X (.Name x pos) (tC v) :=
  fun _ _ _ H _ I h => ld_blt I hg hm hv ⟨v, H, I, r, h⟩ hn hd

/-! ### arithmetic -/
/-- two ints -/
def t2I (ta tb : TE) (k : Int → Int → Hp → Prop) : St → Hp → Prop := fun σ H => ta σ H fun x H1 => tb σ H1 fun y H2 => ∃ i j, x = .int i ∧ y = .int j ∧ k i j H2
def tAdd (ta tb : TE) : TE := fun σ H Q => t2I ta tb (fun i j H2 => Q (.int (i + j)) H2) σ H
def tSub (ta tb : TE) : TE := fun σ H Q => t2I ta tb (fun i j H2 => Q (.int (i - j)) H2) σ H
/-- the left factor below 2^64 -/
def tMul (ta tb : TE) : TE := fun σ H Q => t2I ta tb (fun i j H2 => (-(2 ^ 64) < i ∧ i < 2 ^ 64) ∧ Q (.int (i * j)) H2) σ H
variable {a b : Expr} {ta tb : TE} {pos : Pos}

/-! ### comparisons -/
def PC (X : Cx) (op : CmpOp) (a b : Expr) (t : TE) : Prop :=
  ∀ (pins : List (Addr × Obj)) (s : Shared) (σ : St) (H : Hp) (Q : VK), Inv X pins σ H s → t σ H Q →
    wpAny (model X.prog X.w) X.A (eval a X.env) (fun v s₁ => wpAny (model X.prog X.w) X.A (eval b X.env) (fun u s₂ => wpAny (model X.prog X.w) X.A (compareOp op v u) (EP X pins σ Q) X.xe s₂) X.xe s₁) X.xe s
def tCmp (p : Int → Int → Bool) (ta tb : TE) : TE := fun σ H Q => t2I ta tb (fun i j H2 => Q (.bl (p i j)) H2) σ H
abbrev tLt : TE → TE → TE := tCmp fun i j => decide (i < j)
abbrev tLe : TE → TE → TE := tCmp fun i j => decide (i ≤ j)
abbrev tGt : TE → TE → TE := tCmp fun i j => decide (j < i)
abbrev tGe : TE → TE → TE := tCmp fun i j => decide (j ≤ i)
abbrev tEqI : TE → TE → TE := tCmp fun i j => decide (i = j)
abbrev tNeI : TE → TE → TE := tCmp fun i j => !decide (i = j)
/-- is None -/
def tIsN (ta : TE) : TE := fun σ H Q => ta σ H fun x H1 => Q (.bl (decide (x = .non))) H1
def tNotN (ta : TE) : TE := fun σ H Q => ta σ H fun x H1 => Q (.bl (!decide (x = .non))) H1
/-- a comparison as a value, as a test -/
def tB (t : TE) : TT := fun σ H Q => t σ H fun x H1 => ∃ c, x = .bl c ∧ Q c H1
/-- an expression whose value is a bool, as a test -/
theorem pt_val {e : Expr} {t : TE} (h : PE X e t) (he : ∀ whole, isTrue e X.env whole = (do let v ← whole; standAt e.pos; holding [v] (truthy v)) := by intro _; rfl) : PT X e (tB t) := by
  intro pins s σ H Q I hw
  refine isTrue_plain (thn (h pins s σ H _ I hw) fun v s1 ⟨x, H1, I1, r1, q1⟩ => ?_) (he _)
  obtain ⟨d, rfl, q⟩ := q1
  cases r1
  exact wpAny_truthy_bool ⟨H1, I1, q⟩

/-! ### and, or, not -/
variable {tA tB' : TT} {rest : List Expr}
def tAnd (t u : TT) : TT := fun σ H Q => t σ H fun c H1 => if c = true then u σ H1 Q else Q false H1
def tOr (t u : TT) : TT := fun σ H Q => t σ H fun c H1 => if c = true then Q true H1 else u σ H1 Q
def tNot (t : TT) : TT := fun σ H Q => t σ H fun c H1 => Q (!c) H1
theorem pw_and1 (ha : PT X a tA) : PW X (.BoolOp .And [a] pos) tA := by
  intro wh pins s σ H Q I h
  refine isTrue_and (thn (ha pins s σ H Q I h) fun c s1 e => ?_)
  cases c with
  | true => exact isTrue_and_nil e
  | false => exact e
theorem pw_or1 (ha : PT X a tA) : PW X (.BoolOp .Or [a] pos) tA := by
  intro wh pins s σ H Q I h
  refine isTrue_or (thn (ha pins s σ H Q I h) fun c s1 e => ?_)
  cases c with
  | false => exact isTrue_or_nil e
  | true => exact e
theorem pw_and (ha : PT X a tA) (hb : PW X (.BoolOp .And (b :: rest) pos) tB') : PW X (.BoolOp .And (a :: b :: rest) pos) (tAnd tA tB') := by
  intro wh pins s σ H Q I h
  refine isTrue_and (thn (ha pins s σ H _ I h) fun c s1 ⟨H1, I1, q1⟩ => ?_)
  cases c with
  | true => exact hb wh pins s1 σ H1 Q I1 q1
  | false => exact ⟨H1, I1, q1⟩
theorem pw_or (ha : PT X a tA) (hb : PW X (.BoolOp .Or (b :: rest) pos) tB') : PW X (.BoolOp .Or (a :: b :: rest) pos) (tOr tA tB') := by
  intro wh pins s σ H Q I h
  refine isTrue_or (thn (ha pins s σ H _ I h) fun c s1 ⟨H1, I1, q1⟩ => ?_)
  cases c with
  | true => exact ⟨H1, I1, q1⟩
  | false => exact hb wh pins s1 σ H1 Q I1 q1
theorem pt_not (ha : PT X a tA) : PT X (.UnaryOp .Not a pos) (tNot tA) := by
  intro pins s σ H Q I h
  exact isTrue_not (ha pins s σ H (fun c H1 => Q (!c) H1) I h)
/-- .. as values (bools) -/
def tAndV (ta tb : TE) : TE := fun σ H Q => ta σ H fun x H1 => ∃ c, x = .bl c ∧ if c = true then tb σ H1 Q else Q (.bl false) H1
def tOrV (ta tb : TE) : TE := fun σ H Q => ta σ H fun x H1 => ∃ c, x = .bl c ∧ if c = true then Q (.bl true) H1 else tb σ H1 Q
def tNotV (ta : TE) : TE := fun σ H Q => ta σ H fun x H1 => ∃ c, x = .bl c ∧ Q (.bl (!c)) H1
/-- a if t else b -/
def tIf (t : TT) (ta tb : TE) : TE := fun σ H Q => t σ H fun c H1 => if c = true then ta σ H1 Q else tb σ H1 Q
theorem pe_ifExp {c : Expr} (hc : PT X c tA) (ha : PE X a ta) (hb : PE X b tb) : PE X (.IfExp c a b pos) (tIf tA ta tb) := by
  intro pins s σ H Q I h
  refine wpAny_IfExp (thn (hc pins s σ H _ I h) fun d s1 ⟨H1, I1, q1⟩ => ?_)
  cases d with
  | true => exact ha pins s1 σ H1 Q I1 q1
  | false => exact hb pins s1 σ H1 Q I1 q1
end
end L2

namespace L2
open PySem PySem.Spec PyProof.Rows

/-! ### a list, a tuple that is read: tracked, frozen, or an object of the module -/
def SqL (K : PySem.W.Frag) (H : Hp) (a : Addr) (xs : List V) : Prop :=
  Rd H a (.lst xs) ∨
    ∃ (o : Obj) (its : Array Value) (n : Nat), K.lookup a = some o ∧ o.cls = .type "list" ∧ o.dict = none ∧ o.data = .seq its n ∧ its.size ≤ sizeLine ∧ Vals xs its.toList
def SqT (K : PySem.W.Frag) (H : Hp) (a : Addr) (xs : List V) : Prop :=
  Rd H a (.tup xs) ∨
    ∃ (o : Obj) (its : Array Value) (n : Nat), K.lookup a = some o ∧ o.cls = .type "tuple" ∧ o.data = .seq its n ∧ its.size ≤ sizeLine ∧ Vals xs its.toList
def absV : Value → Option V
  | .none => some .non
  | .bool b => some (.bl b)
  | .int i _ => some (.int i)
  | .str x _ => some (.str x)
  | .bytes b _ => some (.byt b)
  | .float b _ => some (.flt b)
  | .ref a => some (.ref a)
  | .type n => some (.ty n)
  | _ => none
theorem RelV.abs {x : V} {u : Value} (r : RelV x u) : absV u = some x := by
  cases x with
  | non => cases r; rfl
  | bl _ => cases r; rfl
  | int _ => obtain ⟨t, rfl⟩ := r; rfl
  | str _ => obtain ⟨t, rfl⟩ := r; rfl
  | byt _ => obtain ⟨t, rfl⟩ := r; rfl
  | flt _ => obtain ⟨t, rfl⟩ := r; rfl
  | ref _ => cases r; rfl
  | ty _ => cases r; rfl
theorem RelV.inj {x y : V} {u : Value} (r : RelV x u) (q : RelV y u) : x = y := Option.some.inj (r.abs.symm.trans q.abs)
theorem Vals.inj : ∀ {xs ys : List V} {us : List Value}, Vals xs us → Vals ys us → xs = ys
  | _, _, _, .nil, .nil => rfl
  | _, _, _, .cons r t, .cons r' t' => by rw [r.inj r', Vals.inj t t']
section
variable {X : Cx} {pins : List (Addr × Obj)} {σ : St} {H : Hp} {s : Shared} {a : Addr} {xs ys : List V}
theorem SqL.of {K : PySem.W.Frag} (h : H a = some (.lst xs)) : SqL K H a xs := .inl (.inl h)
theorem SqT.of {K : PySem.W.Frag} (h : H a = some (.tup xs)) : SqT K H a xs := .inl (.inl h)
theorem Inv.list (I : Inv X pins σ H s) (h : SqL X.K H a xs) : ∃ its : List Value, Vals xs its ∧ PlainL s.heap a its.toArray ∧ xs.length ≤ sizeLine := by
  rcases h with h | ⟨o, its, n, hk, hc, hd, hs, hz, r⟩
  · obtain ⟨z, its, n, r, e⟩ := h.ok I.hok
    exact ⟨its, r, ⟨_, n, e, rfl, rfl, rfl⟩, z⟩
  · refine ⟨its.toList, r, ⟨o, n, I.kIn a o hk, hc, hd, by simpa using hs⟩, ?_⟩
    have e := r.length
    simp only [Array.length_toList] at e
    omega
theorem Inv.tuple (I : Inv X pins σ H s) (h : SqT X.K H a xs) : ∃ its : List Value, Vals xs its ∧ IsTup s.heap a its.toArray ∧ xs.length ≤ sizeLine := by
  rcases h with h | ⟨o, its, n, hk, hc, hs, hz, r⟩
  · obtain ⟨z, its, r, p⟩ := h.ok I.hok
    exact ⟨its, r, p, z⟩
  · refine ⟨its.toList, r, ⟨o, I.kIn a o hk, hc, n, by simpa using hs⟩, ?_⟩
    have e := r.length
    simp only [Array.length_toList] at e
    omega
theorem Inv.list_inj (I : Inv X pins σ H s) (h : SqL X.K H a xs) (h' : SqL X.K H a ys) : xs = ys := by
  obtain ⟨its, r, ⟨o, n, e, _, _, d⟩, _⟩ := I.list h
  obtain ⟨its', r', ⟨o', n', e', _, _, d'⟩, _⟩ := I.list h'
  rw [e] at e'; cases e'
  rw [d] at d'
  injection d' with d1 _
  have : its = its' := by simpa using congrArg Array.toList d1
  subst this
  exact r.inj r'
theorem Inv.tuple_inj (I : Inv X pins σ H s) (h : SqT X.K H a xs) (h' : SqT X.K H a ys) : xs = ys := by
  obtain ⟨its, r, ⟨o, e, _, n, d⟩, _⟩ := I.tuple h
  obtain ⟨its', r', ⟨o', e', _, n', d'⟩, _⟩ := I.tuple h'
  rw [e] at e'; cases e'
  rw [d] at d'
  injection d' with d1 _
  have : its = its' := by simpa using congrArg Array.toList d1
  subst this
  exact r.inj r'
end

/-! ### another wish about exceptions -/
abbrev Cx.wish (X : Cx) (E : Value → Shared → Prop) : Cx := { X with xe := E }
/-- no exception leaves -/
abbrev Cx.nox (X : Cx) : Cx := X.wish fun _ _ => False
theorem Cx.Ok.wish {X : Cx} (ok : X.Ok) (E : Value → Shared → Prop) : (X.wish E).Ok :=
  ⟨ok.mod, ok.kind, ok.glob, ok.blt, ok.above, ok.inj, ok.has, ok.cab, ok.hd, ok.frames, ok.stk, ok.exf, ok.bs, ok.bsz, ok.noex, ok.exfs, ok.funs, ok.frf⟩
theorem Cx.Ok.unwish {X : Cx} {E : Value → Shared → Prop} (ok : (X.wish E).Ok) : X.Ok :=
  ⟨ok.mod, ok.kind, ok.glob, ok.blt, ok.above, ok.inj, ok.has, ok.cab, ok.hd, ok.frames, ok.stk, ok.exf, ok.bs, ok.bsz, ok.noex, ok.exfs, ok.funs, ok.frf⟩
section
variable {X : Cx} {pins : List (Addr × Obj)} {σ : St} {H : Hp} {s : Shared} {E : Value → Shared → Prop}
theorem Inv.wish (I : Inv X pins σ H s) (E : Value → Shared → Prop) : Inv (X.wish E) pins σ H s := ⟨I.ok.wish E, I.os, I.bare, I.base, I.loc, I.cell, I.free, I.freeC, I.pin, I.hok, I.len⟩
theorem Inv.unwish (I : Inv (X.wish E) pins σ H s) : Inv X pins σ H s := ⟨I.ok.unwish, I.os, I.bare, I.base, I.loc, I.cell, I.free, I.freeC, I.pin, I.hok, I.len⟩
theorem SP.unwish {D : Ends} {f : Flow} {s' : Shared} (h : SP (X.wish E) pins D f s') : SP X pins D f s' := by
  cases f with
  | next => obtain ⟨σ', H', I, q⟩ := h; exact ⟨σ', H', I.unwish, q⟩
  | brk => obtain ⟨σ', H', I, q⟩ := h; exact ⟨σ', H', I.unwish, q⟩
  | cont => obtain ⟨σ', H', I, q⟩ := h; exact ⟨σ', H', I.unwish, q⟩
  | ret u => obtain ⟨v, σ', H', I, r, q⟩ := h; exact ⟨v, σ', H', I.unwish, r, q⟩
theorem PE.nox {e : Expr} {t : TE} (h : PE X.nox e t) : PE X e t := fun pins s σ H Q I hw =>
  wpAny_mono (h pins s σ H Q (I.wish _) hw) (fun _ _ ⟨v, H', I', r, q⟩ => ⟨v, H', I'.unwish, r, q⟩) fun _ _ z => False.elim z
theorem PT.nox {e : Expr} {t : TT} (h : PT X.nox e t) : PT X e t := fun pins s σ H Q I hw =>
  wpAny_mono (h pins s σ H Q (I.wish _) hw) (fun _ _ ⟨H', I', q⟩ => ⟨H', I'.unwish, q⟩) fun _ _ z => False.elim z
theorem PSs.nox {st : List Stmt} {t : TS} (h : PSs X.nox st t) : PSs X st t := fun pins s σ H D I hw =>
  wpAny_mono (h pins s σ H D (I.wish _) hw) (fun _ _ q => q.unwish) fun _ _ z => False.elim z
end

/-! ### blocks and small statements -/
section
variable {X : Cx} {st : Stmt} {rest : List Stmt} {t u : TS} {e : Expr} {te : TE} {pos : Pos}
def tNext : TS := fun D σ H => D.nx σ H
def tSeq (t u : TS) : TS := fun D σ H => t { D with nx := u D } σ H
theorem pss_nil : PSs X [] tNext := fun _ _ σ H _ I h => wpAny_execs_nil ⟨σ, H, I, h⟩
theorem pss_cons (h1 : PS X st t) (h2 : PSs X rest u) : PSs X (st :: rest) (tSeq t u) := by
  intro pins s σ H D I h
  refine wpAny_execs_cons (thn (h1 pins s σ H { D with nx := u D } I h) fun f s1 q => ?_)
  cases f with
  | next =>
    obtain ⟨σ', H', I', q⟩ := q
    exact h2 pins s1 σ' H' D I' q
  | ret v => exact q
  | brk => exact q
  | cont => exact q
theorem pss_one (h1 : PS X st t) : PSs X [st] t := by
  intro pins s σ H D I h
  refine wpAny_execs_cons (thn (h1 pins s σ H D I h) fun f s1 q => ?_)
  cases f with
  | next => exact wpAny_execs_nil q
  | ret v => exact q
  | brk => exact q
  | cont => exact q
def tBreak : TS := fun D σ H => D.bk σ H
def tCont : TS := fun D σ H => D.ct σ H
/-- in a def's body nothing is shown -/
theorem Inv.quiet {pins : List (Addr × Obj)} {σ : St} {H : Hp} {s : Shared} (I : Inv X pins σ H s) : interactive X.env = false := by simp [interactive, I.ok.kind]
/-- an expression whose value is dropped -/
def tDrop (te : TE) : TS := fun D σ H => te σ H fun _ H1 => D.nx σ H1
theorem ps_expr (he : PE X e te) (hs : swapsWith e none pos.line X.env = pure false := by rfl) : PS X (.Expr e pos) (tDrop te) := by
  intro pins s σ H D I h
  exact wpAny_Expr_any (thn (he pins s σ H _ I h) fun v s1 ⟨x, H1, I1, r1, q1⟩ => ⟨σ, H1, I1, q1⟩) I.quiet hs
def tRet (te : TE) : TS := fun D σ H => te σ H D.rt
theorem ps_ret (he : PE X e te) : PS X (.Return (some e) pos) (tRet te) := by
  intro pins s σ H D I h
  exact wpAny_Return_some (thn (he pins s σ H _ I h) fun v s1 ⟨x, H1, I1, r1, q1⟩ => ⟨x, σ, H1, I1, r1, q1⟩)
def tRetN : TS := fun D _ H => D.rt .non H
def tIfS (c : TT) (t u : TS) : TS := fun D σ H => c σ H fun b H1 => if b = true then t D σ H1 else u D σ H1
theorem ps_if {c : Expr} {a b : List Stmt} {tc : TT} (hc : PT X c tc) (ha : PSs X a t) (hb : PSs X b u) : PS X (.If c a b pos) (tIfS tc t u) := by
  intro pins s σ H D I h
  refine wpAny_If (thn (hc pins s σ H _ I h) fun d s1 ⟨H1, I1, q1⟩ => ?_)
  cases d with
  | true => exact ha pins s1 σ H1 D I1 q1
  | false => exact hb pins s1 σ H1 D I1 q1
/-- code that the proof never comes to -/
def tNever : TS := fun _ _ _ => False
end

/-! ### targets -/
abbrev TG := V → St → Hp → (St → Hp → Prop) → Prop
abbrev TGs := List V → St → Hp → (St → Hp → Prop) → Prop
def PG (X : Cx) (target : Expr) (t : TG) : Prop :=
  ∀ (pins : List (Addr × Obj)) (s : Shared) (σ : St) (H : Hp) (v : V) (u : Value) (Q : St → Hp → Prop), Inv X pins σ H s → RelV v u → t v σ H Q →
    wpAny (model X.prog X.w) X.A (assign target X.env u) (fun _ s' => ∃ σ' H', Inv X pins σ' H' s' ∧ Q σ' H') X.xe s
/-- several targets, one after another -/
def PGs (X : Cx) (ts : List Expr) (t : TGs) : Prop :=
  ∀ (pins : List (Addr × Obj)) (s : Shared) (σ : St) (H : Hp) (vs : List V) (us : List Value) (Q : St → Hp → Prop), Inv X pins σ H s → Vals vs us → t vs σ H Q →
    wpAny (model X.prog X.w) X.A (assignInOrder ((assignEach ts X.env).map (·.2)) us) (fun _ s' => ∃ σ' H', Inv X pins σ' H' s' ∧ Q σ' H') X.xe s
/-- o[i] = v, by values -/
abbrev TSet := V → V → V → Hp → (Hp → Prop) → Prop
def PSet (X : Cx) (t : TSet) : Prop :=
  ∀ (pins : List (Addr × Obj)) (s : Shared) (σ : St) (H : Hp) (o i v : V) (ov iv u : Value) (Q : Hp → Prop), Inv X pins σ H s → RelV o ov → RelV i iv → RelV v u → t o i v H Q →
    wpAny (model X.prog X.w) X.A (setItem ov iv u) (fun _ s' => ∃ H', Inv X pins σ H' s' ∧ Q H') X.xe s
/-- a op= b, by values -/
abbrev TIp := V → V → Hp → VK → Prop
def PIp (X : Cx) (op : Operator) (t : TIp) : Prop :=
  ∀ (pins : List (Addr × Obj)) (s : Shared) (σ : St) (H : Hp) (x y : V) (v u : Value) (Q : VK), Inv X pins σ H s → RelV x v → RelV y u → t x y H Q →
    wpAny (model X.prog X.w) X.A (inplaceOp op v u) (EP X pins σ Q) X.xe s
section
variable {X : Cx} {pos : Pos}
def gName (i : Nat) : TG := fun v σ H Q => Q (σ.set i (some v)) H
theorem pg_name {i : Nat} {x : Str} (hN : X.N.Nodup) (hi : X.N[i]? = some x) (hx : Loc X.env.scope x) (hf : X.fn x = true ∨ X.env.scope.names.lookup x = some .local := by first | exact .inl rfl | exact .inr rfl | assumption) : PG X (.Name x pos) (gName i) := by
  intro pins s σ H v u Q I r h
  exact wpAny_assign_Name (store_ok I hN hi hx r (fun s' I' => ⟨_, H, I', h⟩) hf)
def gNil : TGs := fun vs σ H Q => vs = [] ∧ Q σ H
def gCons (t : TG) (u : TGs) : TGs := fun vs σ H Q => ∃ v r, vs = v :: r ∧ t v σ H fun σ' H' => u r σ' H' Q
theorem pgs_nil : PGs X [] gNil := by
  intro pins s σ H vs us Q I r h
  obtain ⟨e, h⟩ := h
  subst e
  cases r
  exact assignInOrder_nil ⟨σ, H, I, h⟩
theorem pgs_cons {e : Expr} {es : List Expr} {t : TG} {u : TGs} (h1 : PG X e t) (h2 : PGs X es u)
    (hs : (assignEach (e :: es) X.env).map (·.2) = assign e X.env :: (assignEach es X.env).map (·.2) := by rfl) : PGs X (e :: es) (gCons t u) := by
  intro pins s σ H vs us Q I r h
  obtain ⟨v, vr, e1, h⟩ := h
  subst e1
  cases r with
  | cons r rr =>
    rw [hs]
    refine assignInOrder_cons (thn (h1 pins s σ H _ _ _ I r h) fun _ s1 ⟨σ1, H1, I1, q1⟩ => ?_)
    exact h2 pins s1 σ1 H1 _ _ Q I1 rr q1
/-- (a, b, ..) = a tuple of that length -/
def gTup (K : PySem.W.Frag) (n : Nat) (t : TGs) : TG := fun v σ H Q => ∃ a xs, v = .ref a ∧ SqT K H a xs ∧ xs.length = n ∧ t xs σ H Q
theorem pg_tup {es : List Expr} {k : Nat} {t : TGs} {n : Nat} (hc : X.calm = true) (h : PGs X es t)
    (hn : (assignEach es X.env).length = n := by rfl) (hst : (assignEach es X.env).findIdx? (·.1) = none := by rfl) : PG X (.Tuple es k pos) (gTup X.K n t) := by
  intro pins s σ H v u Q I r hw
  obtain ⟨a, xs, e1, hq, hl, hw⟩ := hw
  subst e1
  cases r
  obtain ⟨its, rv, ht, hz⟩ := I.tuple hq
  refine assign_Tuple_tuple (I.ok.hd hc) ht (by simp [hn, ← hl, rv.length]) hst fun h' hx => ?_
  have I1 : Inv X pins σ H { s with heap := h' } := I.kept (t' := s.toks) fun b o e => hx b o (Nat.ne_of_lt (Heap.lt_size e)) e
  exact h pins _ σ H xs _ Q I1 (by simpa using rv) hw
/-- o[i] = .. -/
def gSub (to ti : TE) (t : TSet) : TG := fun v σ H Q => to σ H fun o H1 => ti σ H1 fun i H2 => t o i v H2 fun H3 => Q σ H3
theorem pg_sub {o i : Expr} {to ti : TE} {t : TSet} (ho : PE X o to) (hi : PE X i ti) (hs : PSet X t)
    (ha : ∀ v, assign (.Subscript o i pos) X.env v = (do
      let ov ← holding [v] (eval o X.env)
      let iv ← holding [v, ov] (eval i X.env)
      standAt pos
      holding [v, ov, iv] (setItem ov iv v)
      release [v, ov, iv] []) := by intro _; rfl) : PG X (.Subscript o i pos) (gSub to ti t) := by
  intro pins s σ H v u Q I r h
  rw [ha]
  refine wpAny_bind (wpAny_holding (thn (ho pins s σ H _ I h) fun ov s1 ⟨x, H1, I1, r1, q1⟩ => ?_))
  refine wpAny_bind (wpAny_holding (thn (hi pins s1 σ H1 _ I1 q1) fun iv s2 ⟨y, H2, I2, r2, q2⟩ => ?_))
  refine wpAny_bind (wpAny_standAt (wpAny_bind (wpAny_holding (thn (hs pins s2 σ H2 x y v ov iv u _ I2 r1 r2 r q2) fun _ s3 ⟨H3, I3, q3⟩ => ?_))))
  exact wpAny_release ⟨σ, H3, I3, q3⟩
/-- target = value -/
def tAsg (te : TE) (g : TG) : TS := fun D σ H => te σ H fun x H1 => g x σ H1 D.nx
theorem ps_asg {tg e : Expr} {te : TE} {g : TG} (he : PE X e te) (hg : PG X tg g) (hs : swapsWithSole [tg] e pos.line X.env = pure false := by rfl) (hw : swappedStores [tg] e X.env = pure none := by rfl)
    (h1 : (assignEach [tg] X.env).map (·.2) = [assign tg X.env] := by rfl) : PS X (.Assign [tg] e pos) (tAsg te g) := by
  intro pins s σ H D I h
  refine wpAny_Assign_stores (thn (he pins s σ H _ I h) fun v s1 ⟨x, H1, I1, r1, q1⟩ => ?_) hs hw
  rw [h1]
  exact thn (hg pins s1 σ H1 x v _ I1 r1 q1) fun _ s2 q => q
/-- name = value -/
theorem ps_set {i : Nat} {x : Str} {e : Expr} {te : TE} {pos' : Pos} (hN : X.N.Nodup) (hi : X.N[i]? = some x) (hx : Loc X.env.scope x) (he : PE X e te) (hs : swapsWith e (some (.Name x pos')) pos.line X.env = pure false := by rfl) (hf : X.fn x = true ∨ X.env.scope.names.lookup x = some .local := by first | exact .inl rfl | exact .inr rfl | assumption) :
    PS X (.Assign [.Name x pos'] e pos) (tAsg te (gName i)) := by
  intro pins s σ H D I h
  refine wpAny_Assign_Name (thn (he pins s σ H _ I h) fun v s1 ⟨y, H1, I1, r1, q1⟩ => ?_) hs
  exact store_ok I1 hN hi hx r1 (fun s2 I2 => ⟨_, H1, I2, q1⟩) hf
/-- a, b = x, y with plain local names: stored from the right; the pair itself is not tracked (the opening rows as in PyProof/Rows/TupAssign.lean:23) -/
def tPar (i j : Nat) (ta : TA) : TS := fun D σ H => ta σ H fun vs H1 => ∃ v w, vs = [v, w] ∧ D.nx ((σ.set i (some v)).set j (some w)) H1
/-- name op= e -/
def tAug (i : Nat) (te : TE) (ti : TIp) : TS := fun D σ H => ∃ x, σ[i]? = some (some x) ∧ te σ H fun y H1 => ti x y H1 fun z H2 => D.nx (σ.set i (some z)) H2
/-- o[i] op= e -/
def tAugS (to ti te : TE) (tget : V → V → Hp → VK → Prop) (tip : TIp) (tset : TSet) : TS := fun D σ H => to σ H fun o H1 => ti σ H1 fun i H2 => tget o i H2 fun x H3 => te σ H3 fun y H4 => tip x y H4 fun z H5 => tset o i z H5 fun H6 => D.nx σ H6
/-- o[i], by values -/
def PGet (X : Cx) (t : V → V → Hp → VK → Prop) : Prop :=
  ∀ (pins : List (Addr × Obj)) (s : Shared) (σ : St) (H : Hp) (o i : V) (ov iv : Value) (Q : VK), Inv X pins σ H s → RelV o ov → RelV i iv → t o i H Q →
    wpAny (model X.prog X.w) X.A (getItem ov iv) (EP X pins σ Q) X.xe s
/-- ints -/
def ipI (f : Int → Int → Int) : TIp := fun x y H Q => ∃ i j, x = .int i ∧ y = .int j ∧ Q (.int (f i j)) H
end

/-! ### while -/
section
variable {X : Cx} {pos : Pos}
/-- the invariant W with its measure -/
def tWhile (c : TT) (tb : TS) : TS := fun D σ H => ∃ W : Nat → St → Hp → Prop, (∃ m, W m σ H) ∧ ∀ m σ H, W m σ H →
  c σ H fun b H1 => if b = true then ∃ N : St → Hp → Prop, (∀ σ' H', N σ' H' → ∃ m', m' < m ∧ W m' σ' H') ∧ tb { D with nx := N, ct := N, bk := D.nx } σ H1 else D.nx σ H1
end

/-! ### what a loop or a comprehension walks -/
/-- at turn i: it yields x (the heap may grow), or it stops -/
structure It where
  go : Nat → Hp → Prop
  yld : Nat → Hp → V → Hp → Prop
  stop : Nat → Hp → Prop
/-- the iterator's own objects may turn: they are not the frame's, not pinned, younger than the entry (or a comprehension's own) -/
def FpOk (X : Cx) (pins : List (Addr × Obj)) (H : Hp) (b : Addr) : Prop :=
  H b = none ∧ b ≠ X.env.locals ∧ b ∉ X.fs ∧ (b ∈ X.ex ∨ X.s₀.heap.objs.size ≤ b) ∧ (∀ x c, X.env.cells.lookup x = some c → c ≠ b) ∧ ∀ p ∈ X.pn ++ pins, p.1 ≠ b
theorem Inv.fpOk {X : Cx} {pins : List (Addr × Obj)} {σ : St} {H H' : Hp} {s : Shared} {b : Addr} (I : Inv X pins σ H s) (hb : s.heap.objs.size ≤ b) (hn : H' b = none) : FpOk X pins H' b := by
  refine ⟨hn, Nat.ne_of_gt (Nat.lt_of_lt_of_le I.lt hb), I.nofs hb, .inr (Nat.le_trans I.sz hb), fun x c e z => ?_, fun p hp z => ?_⟩
  · obtain ⟨v, q⟩ := I.cell x c e
    exact absurd (Nat.lt_of_lt_of_le q.lt (by rw [z]; exact hb)) (Nat.lt_irrefl _)
  · exact absurd (Nat.lt_of_lt_of_le (Heap.lt_size (I.pin p hp).1) (by rw [z]; exact hb)) (Nat.lt_irrefl _)
structure Turn (P : Program) (w : World) (K : PySem.W.Frag) (tg : Expr) (J : It) (fp : List Addr) (it : Addr) (tn : Nat → Heap → Prop) : Prop where
  mem : it ∈ fp
  obj : ∀ i h, tn i h → ∀ b ∈ fp, ∃ o, h.get? b = some o ∧ ∀ v, o.data ≠ .cell v
  keep : ∀ i h h', tn i h → (∀ b ∈ fp, ∀ o, h.get? b = some o → h'.get? b = some o) → tn i h'
  item : ∀ (X : Cx), X.prog = P → X.w = w → X.K = K → X.calm = true → ∀ (i : Nat) (pins : List (Addr × Obj)) (s : Shared) (σ : St) (H : Hp) (E : Value → Shared → Prop), Inv X pins σ H s → (∀ b ∈ fp, FpOk X pins H b) → tn i s.heap → J.go i H →
    wpAny (model P w) X.A (pyNext (.ref it)) (fun r s1 => ∃ u, r = some u ∧
      wpAny (model P w) X.A (letOwnedTupleGo tg (.ref it) u) (fun _ s2 => ∃ x H', Inv X pins σ H' s2 ∧ RelV x u ∧ J.yld i H x H' ∧ tn (i + 1) s2.heap ∧ ∀ b ∈ fp, H' b = none) E s1) E s
  done : ∀ (X : Cx), X.prog = P → X.w = w → X.K = K → X.calm = true → ∀ (i : Nat) (pins : List (Addr × Obj)) (s : Shared) (σ : St) (H : Hp) (E : Value → Shared → Prop), Inv X pins σ H s → (∀ b ∈ fp, FpOk X pins H b) → tn i s.heap → J.stop i H →
    wpAny (model P w) X.A (pyNext (.ref it)) (fun r s1 => r = none ∧ Inv X pins σ H s1) E s
  self : ∀ (A : Around) (i : Nat) (s : Shared) (Q : Value → Shared → Prop) (E : Value → Shared → Prop), tn i s.heap → Q (.ref it) s → wpAny (model P w) A (pyIter (.ref it)) Q E s
abbrev TI := St → Hp → (It → Hp → Prop) → Prop
/-- an iterator has come -/
def PIE (X : Cx) (pins : List (Addr × Obj)) (σ : St) (tg : Expr) (R : It → Hp → Prop) (itv : Value) (s2 : Shared) : Prop :=
  ∃ (it : Addr) (fp : List Addr) (tn : Nat → Heap → Prop) (J : It) (H' : Hp), itv = .ref it ∧ Inv X pins σ H' s2 ∧ Turn X.prog X.w X.K tg J fp it tn ∧ tn 0 s2.heap ∧ (∀ b ∈ fp, FpOk X pins H' b) ∧ R J H'
def PI (X : Cx) (tg iter : Expr) (wi : TI) : Prop :=
  ∀ (pins : List (Addr × Obj)) (s : Shared) (σ : St) (H : Hp) (R : It → Hp → Prop), Inv X pins σ H s → wi σ H R →
    wpAny (model X.prog X.w) X.A (eval iter X.env) (fun v s1 => wpAny (model X.prog X.w) X.A (pyIter v) (PIE X pins σ tg R) X.xe s1) X.xe s

/-- the step ahead of the store is nothing for an iterator that keeps no tuple -/
theorem go_of {M : Model} {A : Around} {E : Value → Shared → Prop} {s : Shared} {tg : Expr} {it : Addr} {u : Value} {o : Obj} {n : String} {vs : Array Value} {Q : Unit → Shared → Prop} (ho : s.heap.get? it = some o) (hc : o.cls = .type n) (hd : o.data = .fields vs)
    (hn : ["enumerate", "zip", "dict_itemiterator", "dict_reverseitemiterator", "odict_iterator", "itertools.zip_longest", "itertools.pairwise"].contains n = false) (hQ : Q () s) : wpAny M A (letOwnedTupleGo tg (.ref it) u) Q E s := by
  unfold letOwnedTupleGo
  cases tg <;> first
    | exact wpAny_pure hQ
    | (cases u <;> first
        | exact wpAny_pure hQ
        | (refine wpAny_bind (wpAny_load ho ?_)
           rw [hc, hd]
           show wpAny M A (if (["enumerate", "zip", "dict_itemiterator", "dict_reverseitemiterator", "odict_iterator", "itertools.zip_longest", "itertools.pairwise"].contains n && vs[0]? == some (rawInt _)) = true then _ else _) Q E s
           rw [if_neg (by intro h; rw [hn, Bool.false_and] at h; cases h)]
           exact wpAny_pure hQ))

/-- the list at a, as it stands at each turn (a loop may append to it) -/
def Itl (K : PySem.W.Frag) (a : Addr) : It :=
  ⟨fun i H => ∃ xs x, SqL K H a xs ∧ xs[i]? = some x, fun i H x H' => H' = H ∧ ∀ xs, SqL K H a xs → xs[i]? = some x, fun i H => ∃ xs, SqL K H a xs ∧ xs.length ≤ i⟩
def Itt (K : PySem.W.Frag) (a : Addr) : It :=
  ⟨fun i H => ∃ xs x, SqT K H a xs ∧ xs[i]? = some x, fun i H x H' => H' = H ∧ ∀ xs, SqT K H a xs → xs[i]? = some x, fun i H => ∃ xs, SqT K H a xs ∧ xs.length ≤ i⟩
/-- lo, lo + 1, .. (n of them) -/
def Itr (lo : Int) (n : Nat) : It := ⟨fun i _ => i < n, fun i H x H' => H' = H ∧ x = .int (lo + i), fun i _ => n ≤ i⟩
theorem turn_list {P : Program} {w : World} {K : PySem.W.Frag} {tg : Expr} (a it : Addr) : Turn P w K tg (Itl K a) [it] it (fun i h => h.IsListIter it a i) where
  mem := by simp
  obj := fun i h st b hb => by
    have e : b = it := by simpa using hb
    subst e
    obtain ⟨o, e, c, d⟩ := st
    exact ⟨o, e, fun v z => by rw [d] at z; cases z⟩
  keep := fun i h h' st k => st.at fun o e => k it (by simp) o e
  item := by
    intro X hP hw hK hc i pins s σ H E I hf st hg
    subst hP hw hK
    obtain ⟨xs, x, hq, hx⟩ := hg
    obtain ⟨its, rv, p, hz⟩ := I.list hq
    obtain ⟨u, hu, ru⟩ := rv.get hx
    obtain ⟨f0, f1, f2, f3, f4, f5⟩ := hf it (by simp)
    refine wpAny_pyNext_list_item st p.isList (x := u) (by simpa using hu) fun h' st' sb => ?_
    have I1 : Inv X pins σ H { s with heap := h' } := I.turned (t' := s.toks) (fun b o hb e => (sb.2 b hb).trans e) f0 f1 f3 f4 f5
    obtain ⟨o, e, c, d⟩ := id st'
    exact ⟨u, rfl, go_of (s := { s with heap := h' }) e c d (by decide) ⟨x, H, I1, ru, ⟨rfl, fun ys hy => by rw [I.list_inj hy hq]; exact hx⟩, st', fun b hb => (hf b hb).1⟩⟩
  done := by
    intro X hP hw hK hc i pins s σ H E I hf st hg
    subst hP hw hK
    obtain ⟨xs, hq, hx⟩ := hg
    obtain ⟨its, rv, p, hz⟩ := I.list hq
    obtain ⟨f0, f1, f2, f3, f4, f5⟩ := hf it (by simp)
    have hl := rv.length
    exact wpAny_pyNext_list_end (I.ok.hd hc) st p.isList (by simp; omega) fun h' eb => ⟨rfl, I.turned (t' := s.toks) (fun b o hb e => eb b o hb e) f0 f1 f3 f4 f5⟩
  self := fun _ _ _ _ _ st h => wpAny_pyIter_listiter st h
theorem turn_tuple {P : Program} {w : World} {K : PySem.W.Frag} {tg : Expr} (a it : Addr) : Turn P w K tg (Itt K a) [it] it (fun i h => h.IsTupleIter it a i) where
  mem := by simp
  obj := fun i h st b hb => by
    have e : b = it := by simpa using hb
    subst e
    obtain ⟨o, e, c, d⟩ := st
    exact ⟨o, e, fun v z => by rw [d] at z; cases z⟩
  keep := fun i h h' st k => st.at fun o e => k it (by simp) o e
  item := by
    intro X hP hw hK hc i pins s σ H E I hf st hg
    subst hP hw hK
    obtain ⟨xs, x, hq, hx⟩ := hg
    obtain ⟨its, rv, p, hz⟩ := I.tuple hq
    obtain ⟨u, hu, ru⟩ := rv.get hx
    obtain ⟨f0, f1, f2, f3, f4, f5⟩ := hf it (by simp)
    refine wpAny_pyNext_tuple_item st (show s.heap.IsTuple a its.toArray from p) (x := u) (by simpa using hu) fun h' st' sb => ?_
    have I1 : Inv X pins σ H { s with heap := h' } := I.turned (t' := s.toks) (fun b o hb e => (sb.2 b hb).trans e) f0 f1 f3 f4 f5
    obtain ⟨o, e, c, d⟩ := id st'
    exact ⟨u, rfl, go_of (s := { s with heap := h' }) e c d (by decide) ⟨x, H, I1, ru, ⟨rfl, fun ys hy => by rw [I.tuple_inj hy hq]; exact hx⟩, st', fun b hb => (hf b hb).1⟩⟩
  done := by
    intro X hP hw hK hc i pins s σ H E I hf st hg
    subst hP hw hK
    obtain ⟨xs, hq, hx⟩ := hg
    obtain ⟨its, rv, p, hz⟩ := I.tuple hq
    obtain ⟨f0, f1, f2, f3, f4, f5⟩ := hf it (by simp)
    have hl := rv.length
    exact wpAny_pyNext_tuple_end (I.ok.hd hc) st (show s.heap.IsTuple a its.toArray from p) (by simp; omega) fun h' eb => ⟨rfl, I.turned (t' := s.toks) (fun b o hb e => eb b o hb e) f0 f1 f3 f4 f5⟩
  self := fun _ _ _ _ _ st h => wpAny_pyIter_tupleiter st h
theorem turn_range {P : Program} {w : World} {K : PySem.W.Frag} {tg : Expr} (it : Addr) (lo : Int) (n : Nat) : Turn P w K tg (Itr lo n) [it] it (fun i h => IsRangeIter h it (lo + (i : Nat) * 1) ((n : Int) - (i : Nat)) 1) where
  mem := by simp
  obj := fun i h st b hb => by
    have e : b = it := by simpa using hb
    subst e
    exact ⟨_, st, fun v z => by
      have z' : Data.fields _ = Data.cell v := z
      cases z'⟩
  keep := fun i h h' st k => k it (by simp) _ st
  item := by
    intro X hP hw hK hc i pins s σ H E I hf st hg
    subst hP hw hK
    obtain ⟨f0, f1, f2, f3, f4, f5⟩ := hf it (by simp)
    have W := Walks.range (prog := X.prog) (w := X.w) (I.ok.hd hc) it lo 1 n
    refine W.item i s _ _ hg st fun v h' tk hv st' kk => ?_
    obtain ⟨t, rfl⟩ := hv
    have I1 : Inv X pins σ H { s with heap := h', toks := tk } := I.turned (fun b o hb e => kk b o (by simpa using hb) e) f0 f1 f3 f4 f5
    refine ⟨_, rfl, go_of (s := { s with heap := h', toks := tk }) (n := "range_iterator") st' rfl rfl (by decide) ⟨.int (lo + i), H, I1, ⟨t, ?_⟩, ⟨rfl, rfl⟩, st', fun b hb => (hf b hb).1⟩⟩
    rw [Int.mul_one]
  done := by
    intro X hP hw hK hc i pins s σ H E I hf st hg
    subst hP hw hK
    obtain ⟨f0, f1, f2, f3, f4, f5⟩ := hf it (by simp)
    exact wpAny_pyNext_range_end (I.ok.hd hc) st (by have : n ≤ i := hg; omega) fun h' eb => ⟨rfl, I.turned (t' := s.toks) (fun b o hb e => eb b o hb e) f0 f1 f3 f4 f5⟩
  self := fun _ _ _ _ _ st h => wpAny_pyIter_rangeiter st h
end L2

namespace L2
open PySem PySem.Spec PyProof.Rows
section
variable {X : Cx} {tg : Expr}
def iList (K : PySem.W.Frag) (tl : TE) : TI := fun σ H R => tl σ H fun x H1 => ∃ a, x = .ref a ∧ (∃ xs, SqL K H1 a xs) ∧ R (Itl K a) H1
def iTup (K : PySem.W.Frag) (tl : TE) : TI := fun σ H R => tl σ H fun x H1 => ∃ a, x = .ref a ∧ (∃ xs, SqT K H1 a xs) ∧ R (Itt K a) H1
theorem pi_list {l : Expr} {tl : TE} (hl : PE X l tl) : PI X tg l (iList X.K tl) := by
  intro pins s σ H R I h
  refine thn (hl pins s σ H _ I h) fun v s1 ⟨x, H1, I1, r1, q1⟩ => ?_
  obtain ⟨a, e, ⟨xs, hq⟩, q⟩ := q1
  subst e
  cases r1
  obtain ⟨its, rv, p, hz⟩ := I1.list hq
  refine wpAny_pyIter_list p.isList ?_
  refine ⟨s1.heap.objs.size, [s1.heap.objs.size], _, _, H1, rfl, I1.kept (t' := s1.toks) fun b o e => Heap.get?_push_of_some _ e, turn_list a _, ⟨_, Heap.get?_push_size _ rfl, rfl, rfl⟩, fun b hb => ?_, q⟩
  have e : b = s1.heap.objs.size := by simpa using hb
  subst e
  exact I1.fpOk (Nat.le_refl _) (I1.hok.fresh (Nat.le_refl _))
theorem pi_tup {l : Expr} {tl : TE} (hl : PE X l tl) : PI X tg l (iTup X.K tl) := by
  intro pins s σ H R I h
  refine thn (hl pins s σ H _ I h) fun v s1 ⟨x, H1, I1, r1, q1⟩ => ?_
  obtain ⟨a, e, ⟨xs, hq⟩, q⟩ := q1
  subst e
  cases r1
  obtain ⟨its, rv, p, hz⟩ := I1.tuple hq
  refine wpAny_pyIter_tuple (show s1.heap.IsTuple a its.toArray from p) ?_
  refine ⟨s1.heap.objs.size, [s1.heap.objs.size], _, _, H1, rfl, I1.kept (t' := s1.toks) fun b o e => Heap.get?_push_of_some _ e, turn_tuple a _, ⟨_, Heap.get?_push_size _ rfl, rfl, rfl⟩, fun b hb => ?_, q⟩
  have e : b = s1.heap.objs.size := by simpa using hb
  subst e
  exact I1.fpOk (Nat.le_refl _) (I1.hok.fresh (Nat.le_refl _))
/-- a range object just made, walked -/
theorem range_it {pins : List (Addr × Obj)} {σ : St} {H : Hp} {s : Shared} {R : It → Hp → Prop} {E : Value → Shared → Prop} {lo hi : Int} {t u v : Tok} {tk : Nat} (I : Inv X pins σ H s) (h1 : -(2 ^ 62) ≤ lo) (h2 : lo < 2 ^ 62) (h3 : -(2 ^ 62) ≤ hi) (h4 : hi < 2 ^ 62)
    (q : R (Itr lo (hi - lo).toNat) H) : wpAny (model X.prog X.w) X.A (pyIter (.ref s.heap.objs.size)) (PIE X pins σ tg R) E { s with heap := s.heap.push { cls := .type "range", data := .fields #[.int lo t, .int hi u, .int 1 v] }, toks := tk } := by
  refine wpAny_pyIter_range (IsRange.new ..) (small_one h1 h2 h3 h4) ?_
  have I1 : Inv X pins σ H { s with heap := s.heap.push { cls := .type "range", data := .fields #[.int lo t, .int hi u, .int 1 v] }, toks := tk } := I.kept fun b o e => Heap.get?_push_of_some _ e
  refine ⟨(s.heap.push { cls := .type "range", data := .fields #[.int lo t, .int hi u, .int 1 v] }).objs.size, [(s.heap.push { cls := .type "range", data := .fields #[.int lo t, .int hi u, .int 1 v] }).objs.size], _, _, H, rfl,
    I1.kept (t' := tk) fun b o e => Heap.get?_push_of_some _ e, turn_range _ lo (hi - lo).toNat, ?_, fun b hb => ?_, q⟩
  · have e1 : lo + ((0 : Nat) : Int) * 1 = lo := by simp
    have e2 : (((hi - lo).toNat : Nat) : Int) - ((0 : Nat) : Int) = Builtin.Range.rangeSize lo hi 1 := by rw [rangeSize_one]; split <;> omega
    show IsRangeIter _ _ (lo + ((0 : Nat) : Int) * 1) ((((hi - lo).toNat : Nat) : Int) - ((0 : Nat) : Int)) 1
    rw [e1, e2]
    exact Heap.get?_push_size _ rfl
  · have e : b = (s.heap.push { cls := .type "range", data := .fields #[.int lo t, .int hi u, .int 1 v] }).objs.size := by simpa using hb
    subst e
    exact I1.fpOk (Nat.le_refl _) (I1.hok.fresh (Nat.le_refl _))
def iRng1 (ta : TA) : TI := fun σ H R => ta σ H fun vs H1 => ∃ j : Int, vs = [.int j] ∧ -(2 ^ 62) ≤ j ∧ j < 2 ^ 62 ∧ R (Itr 0 j.toNat) H1
def iRng2 (ta : TA) : TI := fun σ H R => ta σ H fun vs H1 => ∃ i j : Int, vs = [.int i, .int j] ∧ (-(2 ^ 62) ≤ i ∧ i < 2 ^ 62 ∧ -(2 ^ 62) ≤ j ∧ j < 2 ^ 62) ∧ R (Itr i (j - i).toNat) H1
theorem pi_range1 {a : Expr} {ta : TA} {p pos : Pos} (hg : Gl X "range") (hm : X.mg "range" = none) (ha : PA X [a] ta) (hs : starEach [a] X.env = [(false, eval a X.env)] := by rfl) : PI X tg (.Call (.Name "range" p) [a] [] pos) (iRng1 ta) := by
  intro pins s σ H R I h
  refine Call_ (ld_blt I hg hm boot_range (PyProof.Rows.callWith_type1 (thn (ha pos pins s σ H _ I h) fun us s1 ⟨vs, H1, I1, r1, q1⟩ => ?_) hs rfl))
  obtain ⟨j, e, q1, q2, q⟩ := q1
  subst e
  cases r1 with
  | cons r rr =>
    cases rr
    obtain ⟨t, rfl⟩ := r
    exact call_range_1 (range_it I1 (by omega) (by omega) q1 q2 (by simpa using q))

/-! ### for -/
/-- W: the invariant by the turn and a measure; N: what the body is to reach -/
def tFor (wi : TI) (g : TG) (tb : TS) : TS := fun D σ H => wi σ H fun J H1 => ∃ W : Nat → Nat → St → Hp → Prop, (∃ m, W 0 m σ H1) ∧ ∀ i m σ H, W i m σ H →
  (J.stop i H ∧ D.nx σ H) ∨ (J.go i H ∧ ∃ N : St → Hp → Prop, (∀ σ' H', N σ' H' → ∃ m', m' < m ∧ W (i + 1) m' σ' H') ∧ ∀ x H', J.yld i H x H' → g x σ H' fun σ2 H2 => tb { D with nx := N, ct := N, bk := D.nx } σ2 H2)
/-- the records at fp as they stand -/
def pinsAt (fp : List Addr) (h : Heap) : List (Addr × Obj) := fp.filterMap fun b => (h.get? b).map fun o => (b, o)
theorem mem_pinsAt {fp : List Addr} {h : Heap} {b : Addr} {o : Obj} (hb : b ∈ fp) (e : h.get? b = some o) : (b, o) ∈ pinsAt fp h := List.mem_filterMap.mpr ⟨b, hb, by rw [e]; rfl⟩
theorem of_pinsAt {fp : List Addr} {h : Heap} {p : Addr × Obj} (hp : p ∈ pinsAt fp h) : p.1 ∈ fp ∧ h.get? p.1 = some p.2 := by
  obtain ⟨b, hb, e⟩ := List.mem_filterMap.mp hp
  cases q : h.get? b with
  | none => rw [q] at e; cases e
  | some o =>
    rw [q] at e
    have e' : (b, o) = p := Option.some.inj e
    subst e'
    exact ⟨hb, q⟩
theorem Inv.pinned {pins : List (Addr × Obj)} {σ : St} {H : Hp} {s : Shared} {fp : List Addr} (I : Inv X pins σ H s) (hf : ∀ b ∈ fp, FpOk X pins H b) (ho : ∀ b ∈ fp, ∃ o, s.heap.get? b = some o ∧ ∀ v, o.data ≠ .cell v) : Inv X (pins ++ pinsAt fp s.heap) σ H s :=
  I.pins_of fun p hp => (List.mem_append.mp hp).elim (fun z => I.pin p (List.mem_append_right _ z)) fun z => by
    obtain ⟨hb, e⟩ := of_pinsAt z
    obtain ⟨f0, f1, f2, _⟩ := hf p.1 hb
    obtain ⟨o, e', d⟩ := ho p.1 hb
    rw [e] at e'; cases e'
    exact ⟨e, f0, f1, f2, d⟩
theorem Inv.unpinned {pins pl : List (Addr × Obj)} {σ : St} {H : Hp} {s : Shared} (I : Inv X (pins ++ pl) σ H s) : Inv X pins σ H s := I.pins_of fun p hp => I.pin p (List.mem_append_right _ (List.mem_append_left _ hp))
theorem ps_for {iter : Expr} {body : List Stmt} {wi : TI} {g : TG} {tb : TS} {pos : Pos} (hp : PassesOwn (model X.prog X.w) X.A X.env X.xe) (hc : X.calm = true) (hi : PI X tg iter wi) (hg : PG X tg g) (hb : PSs X body tb)
    (hs : ∀ x, foldedSetIterable iter X.env x = pure x := by intro _; rfl) : PS X (.For tg iter body [] pos) (tFor wi g tb) := by
  intro pins s σ H D I h
  refine wpAny_For (thn (hi pins s σ H _ I h) fun v s1 h1 => thn h1 fun itv s2 h2 => ?_) hs
  obtain ⟨it, fp, tn, J, H2, e, I2, T, st2, f2, W, ⟨m0, w0⟩, turn⟩ := h2
  subst e
  -- what stays true of the iterator's objects through the loop
  have stat : ∀ {H' : Hp}, (∀ b ∈ fp, H' b = none) → ∀ b ∈ fp, FpOk X pins H' b := fun hn b hb => ⟨hn b hb, (f2 b hb).2⟩
  refine codeAny_forLoop_any (fun n s' => ∃ i σ' H', Inv X pins σ' H' s' ∧ tn i s'.heap ∧ (∀ b ∈ fp, H' b = none) ∧ W i n σ' H') ?_ m0 ⟨0, σ, H2, I2, st2, fun b hb => (f2 b hb).1, w0⟩
  rintro n s3 ⟨i, σ3, H3, I3, st3, fr3, w3⟩
  rcases turn i n σ3 H3 w3 with ⟨stop, qn⟩ | ⟨go, N, hN, step⟩
  · refine wpAny_passesOwn hp (thn (T.done X rfl rfl rfl hc i pins s3 σ3 H3 X.xe I3 (stat fr3) st3 stop) fun r s4 ⟨hr, I4⟩ => ?_)
    subst hr
    exact wpAny_execs_nil ⟨σ3, H3, I4, qn⟩
  · refine wpAny_passesOwn hp (thn (T.item X rfl rfl rfl hc i pins s3 σ3 H3 X.xe I3 (stat fr3) st3 go) fun r s4 ⟨u, hr, h4⟩ => ?_)
    subst hr
    refine wpAny_passesOwn hp (thn h4 fun _ s5 ⟨x, H5, I5, r5, y5, st5, fr5⟩ => ?_)
    have I5' := I5.pinned (stat fr5) (T.obj _ _ st5)
    refine wpAny_passesOwn hp (thn (hg _ s5 σ3 H5 x u _ I5' r5 (step x H5 y5)) fun _ s6 ⟨σ6, H6, I6, q6⟩ => ?_)
    refine wpAny_passesOwn hp (thn (hb _ s6 σ6 H6 _ I6 q6) fun f s7 q7 => ?_)
    have again : ∀ {σ7 : St} {H7 : Hp}, Inv X (pins ++ pinsAt fp s5.heap) σ7 H7 s7 → N σ7 H7 → ∃ m, m < n ∧ ∃ i σ' H', Inv X pins σ' H' s7 ∧ tn i s7.heap ∧ (∀ b ∈ fp, H' b = none) ∧ W i m σ' H' := fun {σ7 H7} I7 n7 => by
      obtain ⟨m', hm, w7⟩ := hN σ7 H7 n7
      refine ⟨m', hm, i + 1, σ7, H7, I7.unpinned, T.keep _ _ _ st5 fun b hb o e => (I7.pin (b, o) (List.mem_append_right _ (List.mem_append_right _ (mem_pinsAt hb e)))).1, fun b hb => ?_, w7⟩
      obtain ⟨o, e, d⟩ := T.obj _ _ st5 b hb
      exact (I7.pin (b, o) (List.mem_append_right _ (List.mem_append_right _ (mem_pinsAt hb e)))).2.1
    cases f with
    | next => obtain ⟨σ7, H7, I7, n7⟩ := q7; exact again I7 n7
    | cont => obtain ⟨σ7, H7, I7, n7⟩ := q7; exact again I7 n7
    | brk => obtain ⟨σ7, H7, I7, q7⟩ := q7; exact ⟨σ7, H7, I7.unpinned, q7⟩
    | ret v => obtain ⟨x7, σ7, H7, I7, r7, q7⟩ := q7; exact ⟨x7, σ7, H7, I7.unpinned, r7, q7⟩
end

/-! ### the forms one uses -/
/-- over a list that the body leaves as it is -/
theorem for_list {K : PySem.W.Frag} {a : Addr} {xs : List V} {g : TG} {tb : TS} {D : Ends} {σ : St} {H : Hp} (Pv : Nat → St → Hp → Prop) (h0 : Pv 0 σ H) (hl : ∀ i σ H, i ≤ xs.length → Pv i σ H → SqL K H a xs)
    (hs : ∀ i x σ H, xs[i]? = some x → Pv i σ H → g x σ H fun σ2 H2 => tb { D with nx := Pv (i + 1), ct := Pv (i + 1), bk := D.nx } σ2 H2) (hd : ∀ σ H, Pv xs.length σ H → D.nx σ H) :
    ∃ W : Nat → Nat → St → Hp → Prop, (∃ m, W 0 m σ H) ∧ ∀ i m σ H, W i m σ H →
      ((Itl K a).stop i H ∧ D.nx σ H) ∨ ((Itl K a).go i H ∧ ∃ N : St → Hp → Prop, (∀ σ' H', N σ' H' → ∃ m', m' < m ∧ W (i + 1) m' σ' H') ∧ ∀ x H', (Itl K a).yld i H x H' → g x σ H' fun σ2 H2 => tb { D with nx := N, ct := N, bk := D.nx } σ2 H2) := by
  refine ⟨fun i m σ H => m = xs.length - i ∧ i ≤ xs.length ∧ Pv i σ H, ⟨xs.length, by simp, Nat.zero_le _, h0⟩, ?_⟩
  rintro i m σ H ⟨rfl, hi, p⟩
  have q := hl i σ H hi p
  by_cases hlt : i < xs.length
  · refine .inr ⟨⟨xs, xs[i], q, by simp [hlt]⟩, Pv (i + 1), fun σ' H' p' => ⟨xs.length - (i + 1), by omega, rfl, hlt, p'⟩, fun x H' y => ?_⟩
    obtain ⟨e, y⟩ := y
    subst e
    exact hs i x σ _ (y xs q) p
  · have e : i = xs.length := by omega
    subst e
    exact .inl ⟨⟨xs, q, Nat.le_refl _⟩, hd σ H p⟩
theorem for_range {lo : Int} {n : Nat} {g : TG} {tb : TS} {D : Ends} {σ : St} {H : Hp} (Pv : Nat → St → Hp → Prop) (h0 : Pv 0 σ H)
    (hs : ∀ i σ H, i < n → Pv i σ H → g (.int (lo + i)) σ H fun σ2 H2 => tb { D with nx := Pv (i + 1), ct := Pv (i + 1), bk := D.nx } σ2 H2) (hd : ∀ σ H, Pv n σ H → D.nx σ H) :
    ∃ W : Nat → Nat → St → Hp → Prop, (∃ m, W 0 m σ H) ∧ ∀ i m σ H, W i m σ H →
      ((Itr lo n).stop i H ∧ D.nx σ H) ∨ ((Itr lo n).go i H ∧ ∃ N : St → Hp → Prop, (∀ σ' H', N σ' H' → ∃ m', m' < m ∧ W (i + 1) m' σ' H') ∧ ∀ x H', (Itr lo n).yld i H x H' → g x σ H' fun σ2 H2 => tb { D with nx := N, ct := N, bk := D.nx } σ2 H2) := by
  refine ⟨fun i m σ H => m = n - i ∧ i ≤ n ∧ Pv i σ H, ⟨n, by simp, Nat.zero_le _, h0⟩, ?_⟩
  rintro i m σ H ⟨rfl, hi, p⟩
  by_cases hlt : i < n
  · refine .inr ⟨hlt, Pv (i + 1), fun σ' H' p' => ⟨n - (i + 1), by omega, rfl, hlt, p'⟩, fun x H' y => ?_⟩
    obtain ⟨e, y⟩ := y
    subst e y
    exact hs i σ _ hlt p
  · have e : i = n := by omega
    subst e
    exact .inl ⟨Nat.le_refl _, hd σ H p⟩
end L2

namespace L2
open PySem PySem.Spec PyProof.Rows

abbrev R2 := V → V → Hp → VK → Prop
/-- a two-place operation on values: f is binaryOp op, inplaceOp op or compareOp op -/
def OpR (X : Cx) (f : Value → Value → Sem Value) (r : R2) : Prop :=
  ∀ (pins : List (Addr × Obj)) (s : Shared) (σ : St) (H : Hp) (x y : V) (v u : Value) (Q : VK), Inv X pins σ H s → RelV x v → RelV y u → r x y H Q →
    wpAny (model X.prog X.w) X.A (f v u) (EP X pins σ Q) X.xe s
/-- a one-place operation -/
def UnR (X : Cx) (f : Value → Sem Value) (r : V → Hp → VK → Prop) : Prop :=
  ∀ (pins : List (Addr × Obj)) (s : Shared) (σ : St) (H : Hp) (x : V) (v : Value) (Q : VK), Inv X pins σ H s → RelV x v → r x H Q →
    wpAny (model X.prog X.w) X.A (f v) (EP X pins σ Q) X.xe s
/-- a call of a value that is known (a builtin, a type) with values -/
def CallR (X : Cx) (f : Value) (r : List V → Hp → VK → Prop) : Prop :=
  ∀ (pins : List (Addr × Obj)) (s : Shared) (σ : St) (H : Hp) (xs : List V) (us : List Value) (Q : VK), Inv X pins σ H s → Vals xs us → r xs H Q →
    wpAny (model X.prog X.w) X.A (call f us) (EP X pins σ Q) X.xe s
/-- a value's truth -/
def TruR (X : Cx) (r : V → Hp → (Bool → Hp → Prop) → Prop) : Prop :=
  ∀ (pins : List (Addr × Obj)) (s : Shared) (σ : St) (H : Hp) (x : V) (v : Value) (Q : Bool → Hp → Prop), Inv X pins σ H s → RelV x v → r x H Q →
    wpAny (model X.prog X.w) X.A (truthy v) (TP X pins σ Q) X.xe s

def tOp (r : R2) (ta tb : TE) : TE := fun σ H Q => ta σ H fun x H1 => tb σ H1 fun y H2 => r x y H2 Q
def tUn (r : V → Hp → VK → Prop) (ta : TE) : TE := fun σ H Q => ta σ H fun x H1 => r x H1 Q
/-- ints in, under C, and a value out -/
def rI (C : Int → Int → Prop) (g : Int → Int → V) : R2 := fun x y H Q => ∃ i j, x = .int i ∧ y = .int j ∧ C i j ∧ Q (g i j) H
def rI0 (g : Int → Int → V) : R2 := fun x y H Q => ∃ i j, x = .int i ∧ y = .int j ∧ Q (g i j) H
def rU (g : Int → V) : V → Hp → VK → Prop := fun x H Q => ∃ i, x = .int i ∧ Q (g i) H

section
variable {X : Cx} {a b c : Expr} {ta tb tc : TE} {pos : Pos}

theorem binT (ha : PE X a ta) (hb : PE X b tb) {pins : List (Addr × Obj)} {s : Shared} {σ : St} {H : Hp} {R : V → V → Hp → Prop} (I : Inv X pins σ H s)
    (h : ta σ H fun x H1 => tb σ H1 fun y H2 => R x y H2) {Q : Value → Shared → Prop} {f : Value → Value → Sem Value}
    (hf : ∀ v u s2 x y H2, Inv X pins σ H2 s2 → RelV x v → RelV y u → R x y H2 → wpAny (model X.prog X.w) X.A (f v u) Q X.xe s2) :
    wpAny (model X.prog X.w) X.A (eval a X.env) (fun v s₁ => wpAny (model X.prog X.w) X.A (eval b X.env) (fun u s₂ => wpAny (model X.prog X.w) X.A (f v u) Q X.xe s₂) X.xe s₁) X.xe s := by
  refine thn (ha pins s σ H _ I h) fun v s1 ⟨x, H1, I1, r1, q1⟩ => ?_
  refine thn (hb pins s1 σ H1 _ I1 q1) fun u s2 ⟨y, H2, I2, r2, q2⟩ => ?_
  exact hf v u s2 x y H2 I2 r1 r2 q2

theorem pe_op {op : Operator} {r : R2} (ho : OpR X (binaryOp op) r) (ha : PE X a ta) (hb : PE X b tb) : PE X (.BinOp a op b pos) (tOp r ta tb) := by
  intro pins s σ H Q I h
  exact wpAny_BinOp (binT ha hb I h fun v u s2 x y H2 I2 rx ry q => ho pins s2 σ H2 x y v u Q I2 rx ry q)
theorem pe_un {op : UnaryOp} {r : V → Hp → VK → Prop} (ho : UnR X (unaryOp op) r) (ha : PE X a ta) : PE X (.UnaryOp op a pos) (tUn r ta) := by
  intro pins s σ H Q I h
  exact UnaryOp_ (thn (ha pins s σ H _ I h) fun v s1 ⟨x, H1, I1, r1, q1⟩ => ho pins s1 σ H1 x v Q I1 r1 q1)

/-! ### ints -/
theorem opI {f : Value → Value → Sem Value} {C : Int → Int → Prop} {g : Int → Int → Int}
    (rule : ∀ (i j : Int) (t u : Tok) (s : Shared) (Q : Value → Shared → Prop) (E : Value → Shared → Prop), C i j → Q (.int (g i j) s.toks) { s with toks := s.toks + 1 } → wpAny (model X.prog X.w) X.A (f (.int i t) (.int j u)) Q E s) :
    OpR X f (rI C fun i j => .int (g i j)) := by
  intro pins s σ H x y v u Q I rx ry h
  obtain ⟨i, j, rfl, rfl, hc, q⟩ := h
  obtain ⟨t, rfl⟩ := rx
  obtain ⟨t', rfl⟩ := ry
  exact rule i j t t' s _ _ hc ⟨.int (g i j), H, I.tok _, ⟨_, rfl⟩, q⟩
theorem opI0 {f : Value → Value → Sem Value} {g : Int → Int → Int}
    (rule : ∀ (i j : Int) (t u : Tok) (s : Shared) (Q : Value → Shared → Prop) (E : Value → Shared → Prop), Q (.int (g i j) s.toks) { s with toks := s.toks + 1 } → wpAny (model X.prog X.w) X.A (f (.int i t) (.int j u)) Q E s) :
    OpR X f (rI0 fun i j => .int (g i j)) := by
  intro pins s σ H x y v u Q I rx ry h
  obtain ⟨i, j, rfl, rfl, q⟩ := h
  obtain ⟨t, rfl⟩ := rx
  obtain ⟨t', rfl⟩ := ry
  exact rule i j t t' s _ _ ⟨.int (g i j), H, I.tok _, ⟨_, rfl⟩, q⟩
theorem opB0 {f : Value → Value → Sem Value} {g : Int → Int → Bool}
    (rule : ∀ (i j : Int) (t u : Tok) (s : Shared) (Q : Value → Shared → Prop) (E : Value → Shared → Prop), Q (.bool (g i j)) s → wpAny (model X.prog X.w) X.A (f (.int i t) (.int j u)) Q E s) :
    OpR X f (rI0 fun i j => .bl (g i j)) := by
  intro pins s σ H x y v u Q I rx ry h
  obtain ⟨i, j, rfl, rfl, q⟩ := h
  obtain ⟨t, rfl⟩ := rx
  obtain ⟨t', rfl⟩ := ry
  exact rule i j t t' s _ _ ⟨.bl (g i j), H, I, rfl, q⟩

def CDiv (i j : Int) : Prop := 0 < j ∧ j < 1073741824
def CDivN (i j : Int) : Prop := j ≠ 0 ∧ j.natAbs < 1073741824
def CPow (i j : Int) : Prop := 0 ≤ j ∧ j ≤ 1000000 ∧ i.natAbs < 2 ^ 64
def CMul (i j : Int) : Prop := (-(2 ^ 64) < i ∧ i < 2 ^ 64) ∨ (-(2 ^ 64) < j ∧ j < 2 ^ 64)
theorem CMul.ok {i j : Int} (h : CMul i j) : IntMulOk i j := by
  rcases h with ⟨h1, h2⟩ | ⟨h1, h2⟩
  · exact .of_left (intBits_le_64 h1 h2)
  · exact .of_right (intBits_le_64 h1 h2)

theorem op_add : OpR X (binaryOp .Add) (rI0 fun i j => .int (i + j)) := opI0 fun _ _ _ _ _ _ _ q => add_int q
theorem op_sub : OpR X (binaryOp .Sub) (rI0 fun i j => .int (i - j)) := opI0 fun _ _ _ _ _ _ _ q => sub_int q
theorem op_mul : OpR X (binaryOp .Mult) (rI CMul fun i j => .int (i * j)) := opI fun _ _ _ _ _ _ _ hc q => mul_int q hc.ok
/-- // by a positive divisor -/
theorem op_fdiv : OpR X (binaryOp .FloorDiv) (rI CDiv fun i j => .int (i / j)) := opI fun i j _ _ _ _ _ hc q => by
  have h1 : (0 : Int) < j := hc.1
  have h2 : j < 1073741824 := hc.2
  exact floordiv_int (by omega) (by rw [Int.fdiv_eq_ediv_of_nonneg i (by omega)]; exact q) (.inl (PyProof.noPylong_small (by omega)))
/-- % by a positive divisor of any size -/
theorem op_mod : OpR X (binaryOp .Mod) (rI (fun _ j => 0 < j) fun i j => .int (i % j)) := opI fun i j _ _ _ _ _ hc q => by
  have h1 : (0 : Int) < j := hc
  exact mod_int' (by omega) (by rw [Int.fmod_eq_emod_of_nonneg i (by omega)]; exact q)
theorem op_pow : OpR X (binaryOp .Pow) (rI CPow fun i j => .int (i ^ j.toNat)) := opI fun _ _ _ _ _ _ _ hc q => pow_int_small hc.1 hc.2.1 hc.2.2 q


theorem unI {f : Value → Sem Value} {g : Int → Int}
    (rule : ∀ (i : Int) (t : Tok) (s : Shared) (Q : Value → Shared → Prop) (E : Value → Shared → Prop), Q (.int (g i) s.toks) { s with toks := s.toks + 1 } → wpAny (model X.prog X.w) X.A (f (.int i t)) Q E s) :
    UnR X f (rU fun i => .int (g i)) := by
  intro pins s σ H x v Q I rx h
  obtain ⟨i, rfl, q⟩ := h
  obtain ⟨t, rfl⟩ := rx
  exact rule i t s _ _ ⟨.int (g i), H, I.tok _, ⟨_, rfl⟩, q⟩
theorem un_neg : UnR X (unaryOp .USub) (rU fun i => .int (-i)) := unI fun _ _ _ _ _ q => neg_int q

/-! ### bools among ints: n += (a < b) -/
end

/-! ### comparisons -/
/-- the scalars that == tells apart as data does -/
def scal : V → V → Bool
  | .non, .non => true | .non, .int _ => true | .int _, .non => true | .non, .bl _ => true | .bl _, .non => true | .non, .str _ => true | .str _, .non => true
  | .int _, .int _ => true | .bl _, .bl _ => true | .str _, .str _ => true | .byt _, .byt _ => true
  | .int _, .str _ => true | .str _, .int _ => true | .bl _, .str _ => true | .str _, .bl _ => true
  | _, _ => false
def rEq : R2 := fun x y H Q => scal x y = true ∧ Q (.bl (decide (x = y))) H
def rNe : R2 := fun x y H Q => scal x y = true ∧ Q (.bl (!decide (x = y))) H

theorem dec_int {i j : Int} : decide (V.int i = V.int j) = (i == j) := by
  rw [Bool.eq_iff_iff]
  simp
theorem dec_bl {i j : Bool} : decide (V.bl i = V.bl j) = (i == j) := by
  rw [Bool.eq_iff_iff]
  simp
theorem dec_str {i j : Str} : decide (V.str i = V.str j) = (i == j) := by
  rw [Bool.eq_iff_iff]
  simp
theorem dec_byt {i j : Array UInt8} : decide (V.byt i = V.byt j) = (i.toList == j.toList) := by
  rw [Bool.eq_iff_iff]
  cases i
  cases j
  simp

section
variable {X : Cx} {a b c : Expr} {ta tb tc : TE} {pos : Pos}
theorem fin_bl {pins : List (Addr × Obj)} {σ : St} {H : Hp} {s : Shared} {Q : VK} {k k' : Bool} (I : Inv X pins σ H s) (q : Q (.bl k) H) (e : k = k') : EP X pins σ Q (.bool k') s := by
  subst e
  exact ⟨.bl k, H, I, rfl, q⟩
theorem op_eq : OpR X (compareOp .Eq) rEq := by
  intro pins s σ H x y v u Q I rx ry h
  obtain ⟨hs, q⟩ := h
  cases x with
  | non =>
    cases rx
    cases y with
    | non => cases ry; exact PySem.EqNone.eq_none_none (fin_bl I q (by simp))
    | bl j => cases ry; exact PySem.EqNone.eq_none_bool (fin_bl I q (by simp))
    | int j => obtain ⟨t', rfl⟩ := ry; exact PySem.EqNone.eq_none_int (fin_bl I q (by simp))
    | str j => obtain ⟨t', rfl⟩ := ry; exact PySem.EqNone.eq_none_str (fin_bl I q (by simp))
    | _ => exact absurd (show false = true from hs) Bool.false_ne_true
  | bl i =>
    cases rx
    cases y with
    | non => cases ry; exact PySem.EqNone.eq_bool_none (fin_bl I q (by simp))
    | bl j => cases ry; exact eq_bool (fin_bl I q dec_bl)
    | str j => obtain ⟨t', rfl⟩ := ry; exact PySem.EqMixed.eq_bool_str (fin_bl I q (by simp))
    | _ => exact absurd (show false = true from hs) Bool.false_ne_true
  | int i =>
    obtain ⟨t, rfl⟩ := rx
    cases y with
    | non => cases ry; exact PySem.EqNone.eq_int_none (fin_bl I q (by simp))
    | int j => obtain ⟨t', rfl⟩ := ry; exact eq_int (fin_bl I q dec_int)
    | str j => obtain ⟨t', rfl⟩ := ry; exact PySem.EqMixed.eq_int_str (fin_bl I q (by simp))
    | _ => exact absurd (show false = true from hs) Bool.false_ne_true
  | str i =>
    obtain ⟨t, rfl⟩ := rx
    cases y with
    | non => cases ry; exact PySem.EqNone.eq_str_none (fin_bl I q (by simp))
    | bl j => cases ry; exact PySem.EqMixed.eq_str_bool (fin_bl I q (by simp))
    | int j => obtain ⟨t', rfl⟩ := ry; exact PySem.EqMixed.eq_str_int (fin_bl I q (by simp))
    | str j => obtain ⟨t', rfl⟩ := ry; exact eq_str (fin_bl I q dec_str)
    | _ => exact absurd (show false = true from hs) Bool.false_ne_true
  | byt i =>
    obtain ⟨t, rfl⟩ := rx
    cases y with
    | byt j => obtain ⟨t', rfl⟩ := ry; exact PySem.W.eq_bytes (fin_bl I q dec_byt)
    | _ => exact absurd (show false = true from hs) Bool.false_ne_true
  | _ => cases y <;> exact absurd (show false = true from hs) Bool.false_ne_true
theorem op_ne : OpR X (compareOp .NotEq) rNe := by
  intro pins s σ H x y v u Q I rx ry h
  obtain ⟨hs, q⟩ := h
  cases x with
  | non =>
    cases rx
    cases y with
    | non => cases ry; exact PySem.EqNone.ne_none_none (fin_bl I q (by simp))
    | bl j => cases ry; exact PySem.EqNone.ne_none_bool (fin_bl I q (by simp))
    | int j => obtain ⟨t', rfl⟩ := ry; exact PySem.EqNone.ne_none_int (fin_bl I q (by simp))
    | str j => obtain ⟨t', rfl⟩ := ry; exact PySem.EqNone.ne_none_str (fin_bl I q (by simp))
    | _ => exact absurd (show false = true from hs) Bool.false_ne_true
  | bl i =>
    cases rx
    cases y with
    | non => cases ry; exact PySem.EqNone.ne_bool_none (fin_bl I q (by simp))
    | bl j => cases ry; exact ne_bool (fin_bl I q (congrArg not dec_bl))
    | str j => obtain ⟨t', rfl⟩ := ry; exact PySem.EqMixed.ne_bool_str (fin_bl I q (by simp))
    | _ => exact absurd (show false = true from hs) Bool.false_ne_true
  | int i =>
    obtain ⟨t, rfl⟩ := rx
    cases y with
    | non => cases ry; exact PySem.EqNone.ne_int_none (fin_bl I q (by simp))
    | int j => obtain ⟨t', rfl⟩ := ry; exact ne_int (fin_bl I q (congrArg not dec_int))
    | str j => obtain ⟨t', rfl⟩ := ry; exact PySem.EqMixed.ne_int_str (fin_bl I q (by simp))
    | _ => exact absurd (show false = true from hs) Bool.false_ne_true
  | str i =>
    obtain ⟨t, rfl⟩ := rx
    cases y with
    | non => cases ry; exact PySem.EqNone.ne_str_none (fin_bl I q (by simp))
    | bl j => cases ry; exact PySem.EqMixed.ne_str_bool (fin_bl I q (by simp))
    | int j => obtain ⟨t', rfl⟩ := ry; exact PySem.EqMixed.ne_str_int (fin_bl I q (by simp))
    | str j => obtain ⟨t', rfl⟩ := ry; exact ne_str (fin_bl I q (congrArg not dec_str))
    | _ => exact absurd (show false = true from hs) Bool.false_ne_true
  | byt i =>
    obtain ⟨t, rfl⟩ := rx
    cases y with
    | byt j => obtain ⟨t', rfl⟩ := ry; exact PySem.W.ne_bytes (fin_bl I q (congrArg not dec_byt))
    | _ => exact absurd (show false = true from hs) Bool.false_ne_true
  | _ => cases y <;> exact absurd (show false = true from hs) Bool.false_ne_true

theorem op_lt : OpR X (compareOp .Lt) (rI0 fun i j => .bl (decide (i < j))) := opB0 fun _ _ _ _ _ _ _ q => lt_int q
theorem op_le : OpR X (compareOp .LtE) (rI0 fun i j => .bl (decide (i ≤ j))) := opB0 fun _ _ _ _ _ _ _ q => le_int q
theorem op_gt : OpR X (compareOp .Gt) (rI0 fun i j => .bl (decide (j < i))) := opB0 fun _ _ _ _ _ _ _ q => gt_int q
theorem op_ge : OpR X (compareOp .GtE) (rI0 fun i j => .bl (decide (j ≤ i))) := opB0 fun _ _ _ _ _ _ _ q => ge_int q

/-- is None, is not None: the right side a value none -/
theorem op_isN : OpR X (compareOp .Is) (fun x y H Q => y = .non ∧ Q (.bl (decide (x = .non))) H) := by
  intro pins s σ H x y v u Q I rx ry h
  obtain ⟨rfl, q⟩ := h
  cases ry
  refine is_none_gen (fin_bl I q ?_)
  cases x <;> first
    | (cases rx; rfl)
    | (obtain ⟨t, rfl⟩ := rx; rfl)
theorem op_notN : OpR X (compareOp .IsNot) (fun x y H Q => y = .non ∧ Q (.bl (!decide (x = .non))) H) := by
  intro pins s σ H x y v u Q I rx ry h
  obtain ⟨rfl, q⟩ := h
  cases ry
  refine isnot_none_gen (fin_bl I q ?_)
  cases x <;> first
    | (cases rx; rfl)
    | (obtain ⟨t, rfl⟩ := rx; rfl)

/-- is, is not of two objects that are tracked lists or instances -/
def isObj : HO → Bool
  | .lst _ => true
  | .ins _ _ _ => true
  | _ => false

/-- two rules for one operation: by cases -/
theorem OpR.or {f : Value → Value → Sem Value} {r r' : R2} (h : OpR X f r) (h' : OpR X f r') : OpR X f (fun x y H Q => r x y H Q ∨ r' x y H Q) := by
  intro pins s σ H x y v u Q I rx ry q
  rcases q with q | q
  · exact h pins s σ H x y v u Q I rx ry q
  · exact h' pins s σ H x y v u Q I rx ry q

theorem nomark (b : Expr) {op : CmpOp} (h : op ≠ .In := by decide) (h2 : op ≠ .NotIn := by decide) : behindInMarks op b = false := by
  have e1 : (op == CmpOp.In) = false := by cases op <;> first | rfl | exact absurd rfl h
  have e2 : (op == CmpOp.NotIn) = false := by cases op <;> first | rfl | exact absurd rfl h2
  cases b <;> simp [behindInMarks, e1, e2]
/-- a comparison as a value; hm: nomark b, or (for in, not in) by with_unfolding_all rfl -/
theorem pe_cmpR {op : CmpOp} {r : R2} (ho : OpR X (compareOp op) r) (ha : PE X a ta) (hb : PE X b tb) (hm : behindInMarks op b = false) : PE X (.Compare a [op] [b] pos) (tOp r ta tb) := by
  intro pins s σ H Q I h
  exact wpAny_Compare1 (binT ha hb I h fun v u s2 x y H2 I2 rx ry q => ho pins s2 σ H2 x y v u Q I2 rx ry q) hm
/-- a reading of a value as a test -/
def tTest (t : TE) : TT := fun σ H Q => t σ H fun x H' => ∃ k, x = .bl k ∧ Q k H'
theorem pt_cmpR {op : CmpOp} {r : R2} (ho : OpR X (compareOp op) r) (ha : PE X a ta) (hb : PE X b tb) (hm : behindInMarks op b = false) : PT X (.Compare a [op] [b] pos) (tTest (tOp r ta tb)) := by
  intro pins s σ H Q I h
  refine wpAny_isTrue_Compare1 (thn (ha pins s σ H _ I h) fun v s1 ⟨x, H1, I1, r1, q1⟩ => thn (hb pins s1 σ H1 _ I1 q1) fun u s2 ⟨y, H2, I2, r2, q2⟩ =>
    thn (ho pins s2 σ H2 x y v u _ I2 r1 r2 q2) fun c s3 ⟨z, H3, I3, r3, k, e, q3⟩ => ?_) hm
  subst e
  cases r3
  exact wpAny_truthy_bool ⟨H3, I3, q3⟩
/-- a op1 b op2 c -/
def tChain (r r' : R2) (ta tb tc : TE) : TE := fun σ H Q => ta σ H fun x H1 => tb σ H1 fun y H2 => r x y H2 fun z H3 => ∃ k, z = .bl k ∧
  (if k = true then tc σ H3 fun w' H4 => r' y w' H4 Q else Q (.bl false) H3)
theorem pt_chain {op op' : CmpOp} {r r' : R2} (ho : OpR X (compareOp op) r) (ho' : OpR X (compareOp op') r') (ha : PE X a ta) (hb : PE X b tb) (hc : PE X c tc)
    (hm : lastMarks [op, op'] [b, c] = false := by with_unfolding_all rfl) : PT X (.Compare a [op, op'] [b, c] pos) (tTest (tChain r r' ta tb tc)) := by
  intro pins s σ H Q I h
  refine isTrue_chain (thn (ha pins s σ H _ I h) fun v s1 ⟨x, H1, I1, r1, q1⟩ => test_link (thn (hb pins s1 σ H1 _ I1 q1) fun u s2 ⟨y, H2, I2, r2, q2⟩ =>
    thn (ho pins s2 σ H2 x y v u _ I2 r1 r2 q2) fun d s3 ⟨z, H3, I3, r3, k, e, q3⟩ => ?_)) hm
  subst e
  cases r3
  refine wpAny_truthy_bool ?_
  cases k with
  | false =>
    obtain ⟨k', e', q'⟩ := q3
    cases e'
    exact ite_ff ⟨H3, I3, q'⟩
  | true =>
    refine ite_tt (test_last (thn (hc pins s3 σ H3 _ I3 q3) fun w' s4 ⟨z', H4, I4, r4, q4⟩ => thn (ho' pins s4 σ H4 y z' u w' _ I4 r2 r4 q4) fun d' s5 ⟨z2, H5, I5, r5, k2, e2, q5⟩ => ?_))
    subst e2
    cases r5
    exact wpAny_truthy_bool ⟨H5, I5, q5⟩

/-! ### truth -/
/-- a value's truth by the abstract heap -/
def TruV (K : PySem.W.Frag) (x : V) (H : Hp) (k : Bool) : Prop :=
  match x with
  | .non => k = false
  | .bl b => k = b
  | .int i => k = (i != 0)
  | .str y => y.length ≤ sizeLine ∧ k = ((y.length : Int) != 0)
  | .byt y => y.size ≤ sizeLine ∧ k = ((y.size : Int) != 0)
  | .ref p => (∃ xs, SqL K H p xs ∧ k = !xs.isEmpty) ∨ (∃ xs, SqT K H p xs ∧ k = !xs.isEmpty) ∨ ∃ kvs, H p = some (.dK kvs) ∧ k = !kvs.isEmpty
  | _ => False
theorem line63 : (sizeLine : Nat) < 2 ^ 63 := by rw [sizeLine_eq]; decide

/-! ### strs and bytes -/

def PlainIxT (b : Expr) : Prop := ∀ o i, subscripted b false o i = operate [o, i] (getItem o i)

/-! ### scalar builtins, by CallR -/
theorem vals1 {x : V} {us : List Value} (r : Vals [x] us) : ∃ u, us = [u] ∧ RelV x u := by
  cases r with
  | cons r1 r2 => cases r2; exact ⟨_, rfl, r1⟩
theorem vals2 {x y : V} {us : List Value} (r : Vals [x, y] us) : ∃ u w', us = [u, w'] ∧ RelV x u ∧ RelV y w' := by
  cases r with
  | cons r1 r2 =>
    cases r2 with
    | cons r3 r4 => cases r4; exact ⟨_, _, rfl, r1, r3⟩
theorem call_min2 (hc : X.calm = true) : CallR X (.builtin "min") (fun xs H Q => ∃ i j, xs = [.int i, .int j] ∧ Q (.int (if j < i then j else i)) H) := by
  intro pins s σ H xs us Q I r h
  obtain ⟨i, j, rfl, q⟩ := h
  obtain ⟨u, w', rfl, ⟨t, rfl⟩, ⟨t', rfl⟩⟩ := vals2 r
  refine min_two_ints (I.ok.hd hc) fun h' tk k => ⟨_, H, I.kept k, ?_, q⟩
  by_cases hj : j < i
  · rw [if_pos hj, if_pos hj]; exact ⟨_, rfl⟩
  · rw [if_neg hj, if_neg hj]; exact ⟨_, rfl⟩
theorem call_int1 : CallR X (.type "int") (fun xs H Q => (∃ i, xs = [.int i] ∧ Q (.int i) H) ∨ ∃ k, xs = [.bl k] ∧ Q (.int (if k then 1 else 0)) H) := by
  intro pins s σ H xs us Q I r h
  rcases h with ⟨i, rfl, q⟩ | ⟨k, rfl, q⟩
  · obtain ⟨u, rfl, t, rfl⟩ := vals1 r
    exact call_int_int ⟨.int i, H, I, ⟨_, rfl⟩, q⟩
  · obtain ⟨u, rfl, r1⟩ := vals1 r
    cases r1
    exact call_int_bool ⟨.int (if k then 1 else 0), H, I.tok _, ⟨_, rfl⟩, q⟩
/-- len of a str, a bytes, a list, a tuple -/
def LenV (K : PySem.W.Frag) (x : V) (H : Hp) (n : Nat) : Prop :=
  match x with
  | .str y => y.length ≤ sizeLine ∧ n = y.length
  | .byt y => y.size ≤ sizeLine ∧ n = y.size
  | .ref p => (∃ xs, SqL K H p xs ∧ n = xs.length) ∨ ∃ xs, SqT K H p xs ∧ n = xs.length
  | _ => False
end
end L2

namespace L2
open PySem PySem.Spec PyProof.Rows

/-! ### an instance, its attributes a map -/
structure ObjM (h : Heap) (x dx C : Addr) (mA : Str → Option Value) : Prop where
  obj : h.get? x = some (PySem.W.instObj C dx)
  ns : h.Ns1 dx mA
  ne : dx ≠ x

theorem lookIn_ns {h : Heap} {dx : Addr} {mA : Str → Option Value} (n : h.Ns1 dx mA) : ∃ od, h.get? dx = some od ∧ ∀ name, PySem.W.lookIn name od = some (mA name) := by
  obtain ⟨o, es, ep, ho, hd, hk, _, hm⟩ := n
  refine ⟨o, ho, fun name => ?_⟩
  have e := hm name
  unfold nsFind findBy at e
  rw [← Array.find?_toList] at e
  unfold PySem.W.lookIn
  rw [hd]
  dsimp only
  split
  · rename_i y q
    rw [q] at e
    exact congrArg some e
  · rename_i q
    rw [q] at e
    have a : es.toList.any (·.refKey) = false := by
      rw [List.any_eq_false]
      intro y hy
      obtain ⟨z, t, hkey⟩ := hk y (Array.mem_toList_iff.mp hy)
      simp [DictEntry.refKey, hkey]
    have a' : ¬ es.toList.any (·.refKey) = true := by rw [a]; exact Bool.false_ne_true
    rw [if_neg a']
    exact congrArg some e

theorem ObjM.look {h : Heap} {x dx C : Addr} {mA : Str → Option Value} (I : ObjM h x dx C mA) : ∃ od, PySem.W.InstAt h x (PySem.W.instObj C dx) C (some od) ∧ ∀ name, PySem.W.lookIn name od = some (mA name) :=
  let ⟨od, ho, hl⟩ := lookIn_ns I.ns
  ⟨od, ⟨I.obj, rfl, rfl, ho⟩, hl⟩

section
variable {prog : Program} {w : World} {A : Around} {E : Value → Shared → Prop} {s : Shared} {K : PySem.W.Frag} {x dx C f : Addr} {mA : Str → Option Value} {name : Str} {v : Value}





end

/-! ### the attributes as a list of pairs -/
def putF (f : Str) (v : V) : List (Str × V) → List (Str × V)
  | [] => [(f, v)]
  | (g, x) :: r => if g = f then (g, v) :: r else (g, x) :: putF f v r
theorem lookup_putF (f g : Str) (v : V) : ∀ fs : List (Str × V), (putF f v fs).lookup g = if g = f then some v else fs.lookup g
  | [] => by
    show List.lookup g [(f, v)] = _
    by_cases h : g = f
    · have hb : (g == f) = true := beq_iff_eq.mpr h
      simp only [List.lookup, hb, if_pos h]
    · have hb : (g == f) = false := beq_eq_false_iff_ne.mpr h
      simp only [List.lookup, hb, if_neg h]
  | (k, x) :: r => by
    have ih := lookup_putF f g v r
    rw [show putF f v ((k, x) :: r) = (if k = f then (k, v) :: r else (k, x) :: putF f v r) from rfl]
    by_cases hk : k = f
    · rw [if_pos hk]
      by_cases h : g = k
      · have hb : (g == k) = true := beq_iff_eq.mpr h
        simp only [List.lookup, hb, if_pos (h.trans hk)]
      · have hb : (g == k) = false := beq_eq_false_iff_ne.mpr h
        simp only [List.lookup, hb, if_neg (fun e : g = f => h (e.trans hk.symm))]
    · rw [if_neg hk]
      by_cases h : g = k
      · have hb : (g == k) = true := beq_iff_eq.mpr h
        simp only [List.lookup, hb, if_neg (fun e : g = f => hk (h.symm.trans e))]
      · have hb : (g == k) = false := beq_eq_false_iff_ne.mpr h
        simp only [List.lookup, hb]
        exact ih
theorem keys_putF (f : Str) (v : V) : ∀ fs : List (Str × V), f ∈ (putF f v fs).map (·.1) ∧ ∀ g, g ∈ fs.map (·.1) → g ∈ (putF f v fs).map (·.1)
  | [] => ⟨by simp [putF], fun g h => by simp at h⟩
  | (k, x) :: r => by
    obtain ⟨i1, i2⟩ := keys_putF f v r
    rw [show putF f v ((k, x) :: r) = (if k = f then (k, v) :: r else (k, x) :: putF f v r) from rfl]
    by_cases hk : k = f
    · rw [if_pos hk]
      subst hk
      exact ⟨by simp, fun g h => by simpa using h⟩
    · rw [if_neg hk]
      refine ⟨?_, fun g h => ?_⟩
      · rw [List.map_cons]
        exact List.mem_cons_of_mem _ i1
      · rw [List.map_cons] at h ⊢
        rcases List.mem_cons.mp h with e | e
        · exact List.mem_cons.mpr (.inl e)
        · exact List.mem_cons_of_mem _ (i2 g e)

theorem RelO.some_of {v : V} {o : Option Value} (r : RelO (some v) o) : ∃ u, o = some u ∧ RelV v u := by
  cases o with
  | none => exact (show False from r).elim
  | some u => exact ⟨u, rfl, r⟩
theorem handed_of {v : V} {u : Value} (r : RelV v u) : PySem.W.handedIn u = true := by
  cases v with
  | non => cases (show u = Value.none from r); rfl
  | bl b => cases (show u = Value.bool b from r); rfl
  | int i => obtain ⟨t, e⟩ := (show ∃ t, u = Value.int i t from r); cases e; rfl
  | str x => obtain ⟨t, e⟩ := (show ∃ t, u = Value.str x t from r); cases e; rfl
  | byt b => obtain ⟨t, e⟩ := (show ∃ t, u = Value.bytes b t from r); cases e; rfl
  | flt b => obtain ⟨t, e⟩ := (show ∃ t, u = Value.float b t from r); cases e; rfl
  | ref a => cases (show u = Value.ref a from r); rfl
  | ty n => cases (show u = Value.type n from r); rfl

section
variable {P : Program} {w : World} {H H' : Hp} {h h' : Heap} {a C dx : Addr} {fs fs' : List (Str × V)}
theorem ins_get (hok : HOk P w H h) (e : H a = some (.ins C dx fs)) : ∃ mA, ObjM h a dx C mA ∧ (∀ f, RelO (fs.lookup f) (mA f)) ∧ PySem.Within mA (fs.map (·.1)) ∧ fs.length ≤ 1000 ∧ H dx = some (.own a) := by
  obtain ⟨d, z, ne, ob, mA, n, r, q⟩ := (show ObjOk P w H h a (.ins C dx fs) from hok a _ e)
  exact ⟨mA, ⟨ob, n, ne⟩, r, q, z, d⟩
end

/-! ### what of the text a class must have -/
structure Cls (K : PySem.W.Frag) (C : Addr) : Prop where
  pg : PySem.W.plainGet K C Str.empty = true
  hd : PySem.W.hasDictIn K C = true
  po : PySem.W.plainOver K C = true
  sa : PySem.W.findIn K (.ref C) "__setattr__" = some (some (.builtin "object.__setattr__"))
theorem Cls.get {K : PySem.W.Frag} {C : Addr} (c : Cls K C) (f : Str) : PySem.W.plainGet K C f = true := c.pg
/-- no class of it has the name -/
def NoAttr (K : PySem.W.Frag) (C : Addr) (f : Str) : Prop := PySem.W.findIn K (.ref C) f = some none
/-- a constant of the class -/
structure Con (K : PySem.W.Frag) (C : Addr) (f : Str) (v : V) (u : Value) : Prop where
  at_ : PySem.W.findIn K (.ref C) f = some (some u)
  rel : RelV v u
  get : PySem.W.specialIn K u "__get__" = some none
  cp : PySem.W.copiedNames.contains f = false
/-- a method: a plain def of the class or of one above it -/
structure Meth (K : PySem.W.Frag) (C : Addr) (m : Str) (f : Addr) : Prop where
  at_ : PySem.W.findIn K (.ref C) m = some (some (.ref f))
  fn : PySem.W.isFn K (.ref f) = true
  kp : PySem.W.keepIn K (.ref f) = true

section
variable {X : Cx} {pins : List (Addr × Obj)} {σ : St} {H : Hp} {s : Shared} {a C dx : Addr} {fs : List (Str × V)} {f : Str} {v : V} {A : Around} {E : Value → Shared → Prop}





/-- a new instance, tracked, without attributes -/
theorem Inv.made (I : Inv X pins σ H s) : Inv X pins σ (upd (upd H s.heap.objs.size (.own (s.heap.objs.size + 1))) (s.heap.objs.size + 1) (.ins C s.heap.objs.size []))
    { s with heap := (s.heap.push PySem.W.emptyDict).push (PySem.W.instObj C s.heap.objs.size) } := by
  have e1 : (s.heap.push PySem.W.emptyDict).get? s.heap.objs.size = some PySem.W.emptyDict := Heap.get?_push_size s.heap rfl
  have e2 : ((s.heap.push PySem.W.emptyDict).push (PySem.W.instObj C s.heap.objs.size)).get? (s.heap.objs.size + 1) = some (PySem.W.instObj C s.heap.objs.size) := by
    have := Heap.get?_push_size (s.heap.push PySem.W.emptyDict) (o := PySem.W.instObj C s.heap.objs.size) rfl
    rwa [Heap.size_push] at this
  have e3 : (s.heap.push PySem.W.emptyDict).Ns s.heap.objs.size (fun _ => none) := ⟨PySem.W.emptyDict, #[], _, e1, rfl, (fun e he => absurd he (by simp)), fun _ => rfl⟩
  have I1 := I.laid (a := s.heap.objs.size) (o := .own (s.heap.objs.size + 1)) (h' := s.heap.push PySem.W.emptyDict) (t' := s.toks) (fun b u q => Heap.get?_push_of_some _ q) (Nat.le_refl _) ⟨_, e1⟩
  refine I1.laid (a := s.heap.objs.size + 1) (o := .ins C s.heap.objs.size []) (t' := s.toks) (fun b u q => Heap.get?_push_of_some _ q) (Nat.le_of_eq (Heap.size_push _ _)) ?_
  have ne : s.heap.objs.size ≠ s.heap.objs.size + 1 := Nat.ne_of_lt (Nat.lt_succ_self _)
  refine ⟨by rw [upd_ne ne, upd_same], Nat.zero_le _, ne, e2, fun _ => none, (Heap.Ns1.of_empty e3).at fun o q => Heap.get?_push_of_some _ q, fun _ => True.intro, fun y hy => absurd rfl hy⟩

/-- e.f where nothing but the object is asked: through attributeBase (super) and the last hold -/
theorem attr_of {prog : Program} {w : World} {env : Env} {e : Expr} {f : Str} {pos : Pos} {s : Shared} {Q : Value → Shared → Prop} (hb : attributeBase e f env (eval e env) = eval e env)
    (h : wpAny (model prog w) A (eval e env) (fun o s₁ => wpAny (model prog w) A (getAttr o f true) Q E s₁) E s) : wpAny (model prog w) A (eval (.Attribute e f pos) env) Q E s :=
  Attribute_any_ h (by rw [arm_eval_Attribute, hb])
end

/-! ### readings and rules -/
/-- e.f, an attribute of the instance -/
def tFld (K : PySem.W.Frag) (ta : TE) (f : Str) : TE := fun σ H Q => ta σ H fun x H1 => ∃ a C dx fs v, x = .ref a ∧ H1 a = some (.ins C dx fs) ∧ Cls K C ∧ NoAttr K C f ∧ fs.lookup f = some v ∧ Q v H1
/-- e.f, a constant of the class -/
def tCon (K : PySem.W.Frag) (ta : TE) (f : Str) : TE := fun σ H Q => ta σ H fun x H1 => ∃ a C dx fs v u, x = .ref a ∧ H1 a = some (.ins C dx fs) ∧ Cls K C ∧ Con K C f v u ∧ fs.lookup f = none ∧ Q v H1
/-- e.f = value -/
def sFld (K : PySem.W.Frag) (ta tv : TE) (f : Str) : TS := fun D σ H => tv σ H fun y H1 => ta σ H1 fun x H2 => ∃ a C dx fs, x = .ref a ∧ H2 a = some (.ins C dx fs) ∧ Cls K C ∧ NoAttr K C f ∧ fs.length < 1000 ∧
  D.nx σ (upd H2 a (.ins C dx (putF f y fs)))
/-- an augmented operator on two values -/
def InOp (X : Cx) (op : Operator) (rd : V → V → Hp → VK → Prop) : Prop :=
  ∀ (pins : List (Addr × Obj)) (s : Shared) (σ : St) (H : Hp) (x y : V) (u v : Value) (Q : VK), Inv X pins σ H s → RelV x u → RelV y v → rd x y H Q → wpAny (model X.prog X.w) X.A (inplaceOp op u v) (EP X pins σ Q) X.xe s
/-- e.f op= value -/
def sFldAug (K : PySem.W.Frag) (ta tv : TE) (rd : V → V → Hp → VK → Prop) (f : Str) : TS := fun D σ H => ta σ H fun x H1 => ∃ a C dx fs v, x = .ref a ∧ H1 a = some (.ins C dx fs) ∧ Cls K C ∧ NoAttr K C f ∧ fs.lookup f = some v ∧
  tv σ H1 fun y H2 => rd v y H2 fun z H3 => ∃ dx' fs', H3 a = some (.ins C dx' fs') ∧ fs'.length < 1000 ∧ D.nx σ (upd H3 a (.ins C dx' (putF f z fs')))

section
variable {X : Cx} {o e value : Expr} {f : Str} {pos pos' tpos : Pos} {ta tv : TE}
def rAdd : V → V → Hp → VK → Prop := fun x y H Q => ∃ i j, x = .int i ∧ y = .int j ∧ Q (.int (i + j)) H
def rSub : V → V → Hp → VK → Prop := fun x y H Q => ∃ i j, x = .int i ∧ y = .int j ∧ Q (.int (i - j)) H

end

/-! ### isinstance -/
section
variable {X : Cx} {pins : List (Addr × Obj)} {σ : St} {H : Hp} {s : Shared} {A : Around} {E : Value → Shared → Prop} {Q : Value → Shared → Prop} {c : Value} {b : Bool}
/-- the type of a value, as the fragment's deciders take it; for an instance its class -/
inductive TyOf (K : PySem.W.Frag) (H : Hp) : V → Value → Prop where
  | non : TyOf K H .non (.type "NoneType")
  | bl (x : Bool) : TyOf K H (.bl x) (.type "bool")
  | int (i : Int) : TyOf K H (.int i) (.type "int")
  | str (x : Str) : TyOf K H (.str x) (.type "str")
  | flt (x : UInt64) : TyOf K H (.flt x) (.type "float")
  | lst {a : Addr} {xs : List V} (e : H a = some (.lst xs)) : TyOf K H (.ref a) (.type "list")
  | frz {a : Addr} {o : Obj} {xs : List V} (e : H a = some (.frz o (.lst xs))) : TyOf K H (.ref a) (.type "list")
  | tup {a : Addr} {xs : List V} (e : H a = some (.tup xs)) : TyOf K H (.ref a) (.type "tuple")
  | dK {a : Addr} {kvs : List (Key × V)} (e : H a = some (.dK kvs)) : TyOf K H (.ref a) (.type "dict")
  | dT {a : Addr} {kvs : List (List Key × V)} (e : H a = some (.dT kvs)) : TyOf K H (.ref a) (.type "dict")
  | ins {a C dx : Addr} {fs : List (Str × V)} (e : H a = some (.ins C dx fs)) (cl : Cls K C) (ha : PySem.W.findIn K (.ref C) "__class__" = some (some (.builtin "object.__class__")))
      (hn : PySem.W.specialIn K (.builtin "object.__class__") "__get__" = some (some (.builtin "getset_descriptor.__get__"))) (htk : PySem.W.takesIn K (.builtin "object.__class__") = some true)
      (hm : PySem.W.mroIn K C (.type "object") = some true) : TyOf K H (.ref a) (.ref C)
/-- isinstance(x, c) for one class c, a built-in or an own one: kitOne's answer -/
theorem isinst_ok {x : V} {u t : Value} (I : Inv X pins σ H s) (rx : RelV x u) (ty : TyOf X.K H x t) (e : PySem.W.kitOne X.K t c = some b) (h : ∀ tk, Q (.bool b) { s with toks := tk }) :
    wpAny (model X.prog X.w) A (call (.builtin "isinstance") [u, c]) Q E s := by
  cases ty with
  | non => cases (show u = Value.none from rx); exact PySem.W.kia_one PySem.W.kitx_none I.kIn True.intro e (fun z => nomatch z) h
  | bl y => cases (show u = Value.bool y from rx); exact PySem.W.kia_one PySem.W.kitx_bool I.kIn True.intro e (fun z => nomatch z) h
  | int i => obtain ⟨t, q⟩ := (show ∃ t, u = Value.int i t from rx); cases q; exact PySem.W.kia_one PySem.W.kitx_int I.kIn True.intro e (fun z => nomatch z) h
  | str y => obtain ⟨t, q⟩ := (show ∃ t, u = Value.str y t from rx); cases q; exact PySem.W.kia_one PySem.W.kitx_str I.kIn True.intro e (fun z => nomatch z) h
  | flt y => obtain ⟨t, q⟩ := (show ∃ t, u = Value.float y t from rx); cases q; exact PySem.W.kia_one PySem.W.kitx_float I.kIn True.intro e (fun z => nomatch z) h
  | @lst a xs ea =>
    cases (show u = Value.ref a from rx)
    obtain ⟨_, _, n, _, h1⟩ := (show ObjOk X.prog X.w H s.heap a (.lst xs) from I.hok a _ ea)
    exact PySem.W.kia_one PySem.W.kitx_list I.kIn ⟨_, h1, rfl⟩ e (fun z => nomatch z) h
  | @frz a ob xs ea =>
    cases (show u = Value.ref a from rx)
    obtain ⟨_, _, _, n, _, h1⟩ := (show ObjOk X.prog X.w H s.heap a (.frz ob (.lst xs)) from I.hok a _ ea)
    exact PySem.W.kia_one PySem.W.kitx_list I.kIn ⟨_, h1, rfl⟩ e (fun z => nomatch z) h
  | @tup a xs ea =>
    cases (show u = Value.ref a from rx)
    obtain ⟨_, _, _, p⟩ := (show ObjOk X.prog X.w H s.heap a (.tup xs) from I.hok a _ ea)
    obtain ⟨o, h1, h2, _⟩ := p
    exact PySem.W.kia_one PySem.W.kitx_tuple I.kIn ⟨o, h1, h2⟩ e (fun z => nomatch z) h
  | @dK a kvs ea =>
    cases (show u = Value.ref a from rx)
    obtain ⟨_, _, vs, _, p⟩ := (show ObjOk X.prog X.w H s.heap a (.dK kvs) from I.hok a _ ea)
    obtain ⟨o, es, ep, h1, h2, _⟩ := p
    exact PySem.W.kia_one PySem.W.kitx_dict I.kIn ⟨o, h1, h2.1⟩ e (fun z => nomatch z) h
  | @dT a kvs ea =>
    cases (show u = Value.ref a from rx)
    obtain ⟨_, _, xs, _, o, es, ep, h1, h2, _⟩ := (show ObjOk X.prog X.w H s.heap a (.dT kvs) from I.hok a _ ea)
    exact PySem.W.kia_one PySem.W.kitx_dict I.kIn ⟨o, h1, h2.1⟩ e (fun z => nomatch z) h
  | @ins a C dx fs ea cl ha hn htk hm =>
    cases (show u = Value.ref a from rx)
    obtain ⟨mA, O, _⟩ := ins_get I.hok ea
    obtain ⟨od, J, _⟩ := O.look
    exact PySem.W.kia_one (PySem.W.kitx_own (cl.get _) cl.hd ha hn htk hm) I.kIn J e (fun z => nomatch z) h
end
end L2

namespace L2
open PySem PySem.Spec PyProof.Rows

/-! ### room -/
structure Room (k : Nat) (A : Around) : Prop where
  hd : A.handled = none
  dp : A.depth + 3 * k + 5 < recursionLimit
  un : A.units + 16 * k + 200 < cLine
  gd : A.guards = some []
theorem Room.mono {j k : Nat} {A : Around} (r : Room k A) (h : j ≤ k) : Room j A := ⟨r.hd, by have := r.dp; omega, by have := r.un; omega, r.gd⟩
theorem Room.deeper {k : Nat} {A : Around} (r : Room (k + 1) A) (env : Env) : Room k (A.deeper env) :=
  ⟨r.hd, by have := r.dp; show A.depth + 1 + 3 * k + 5 < _; omega, by have := r.un; show A.units + 3 + 16 * k + 200 < _; omega, r.gd⟩
theorem Room.in1 {k : Nat} {A : Around} (r : Room (k + 1) A) : Room k A.in1 :=
  ⟨r.hd, by have := r.dp; show A.depth + 3 * k + 5 < _; omega, by have := r.un; show A.units + 1 + 16 * k + 200 < _; omega, r.gd⟩
theorem make_depth {A : Around} {C : Addr} {us : List Value} {kw : List (Str × Value)} : (A.under (.builtin "type.__call__" ⟨.ref C :: us, kw⟩)).depth = A.depth + 1 := by
  first | rfl | simp [Around.under, Code.weight, Code.isCreation, Code.isGuard, Code.isCaller, Code.frames, Code.isFrame, guardIds]
theorem make_units {A : Around} {C : Addr} {us : List Value} {kw : List (Str × Value)} : (A.under (.builtin "type.__call__" ⟨.ref C :: us, kw⟩)).units = A.units + 1 := by
  first | rfl | simp [Around.under, Code.cUnits, Code.frames, Code.isFrame]
theorem Room.make {k : Nat} {A : Around} (r : Room (k + 1) A) (C : Addr) (us : List Value) (kw : List (Str × Value)) : Room k (A.under (.builtin "type.__call__" ⟨.ref C :: us, kw⟩)) :=
  ⟨r.hd, by have := r.dp; rw [make_depth]; omega, by have := r.un; rw [make_units]; omega, by first | exact r.gd | simpa [Around.under, Code.isGuard, Code.isFrame, guardIds] using r.gd⟩
theorem Room.depth {k : Nat} {A : Around} (r : Room k A) : A.depth < recursionLimit := by have := r.dp; omega
theorem Room.units {k : Nat} {A : Around} (r : Room k A) : A.units + 64 < cLine := by have := r.un; omega

/-! ### argument lists and displays -/
def tNil : TA := fun _ H Q => Q [] H
def tCons (ta : TE) (tr : TA) : TA := fun σ H Q => ta σ H fun x H1 => tr σ H1 fun xs H2 => Q (x :: xs) H2
section
variable {X : Cx} {e : Expr} {es : List Expr} {te : TE} {t : TA} {pos : Pos}
theorem pa_nil : PA X [] tNil := fun _ _ _ _ H Q I h => Calls.spliced_nil ⟨[], H, I, .nil, h⟩
theorem pa_cons (ha : PE X e te) (hr : PA X es t) (hs : starEach (e :: es) X.env = (false, eval e X.env) :: starEach es X.env := by rfl) : PA X (e :: es) (tCons te t) := by
  intro pos pins s σ H Q I h
  rw [hs]
  show wpAny _ _ (spliced ((false, eval e X.env) :: backTo pos (starEach es X.env))) _ _ s
  refine Calls.spliced_cons (thn (ha pins s σ H _ I h) fun u s1 ⟨x, H1, I1, r1, q1⟩ => ?_)
  exact thn (hr pos pins s1 σ H1 _ I1 q1) fun us s2 ⟨xs, H2, I2, r2, q2⟩ => ⟨x :: xs, H2, I2, .cons r1 r2, q2⟩

/-- a tuple, a list of written items -/
def tTup (t : TA) : TE := fun σ H Q => t σ H fun xs H1 => xs.length ≤ sizeLine ∧ ∀ p, H1 p = none → Q (.ref p) (upd H1 p (.tup xs))
def tLst (t : TA) : TE := fun σ H Q => t σ H fun xs H1 => xs.length ≤ sizeLine ∧ ∀ p, H1 p = none → Q (.ref p) (upd H1 p (.lst xs))
theorem pe_tup {x1} (h : PA X es t) : PE X (.Tuple es x1 pos) (tTup t) := by
  intro pins s σ H Q I hq
  refine wpAny_Tuple_spliced (thn (h pos pins s σ H _ I hq) fun us s1 ⟨xs, H1, I1, r, z, q⟩ => ⟨by rw [← r.length]; exact z, ?_⟩)
  have hf : H1 s1.heap.objs.size = none := I1.hok.fresh (Nat.le_refl _)
  refine ⟨.ref s1.heap.objs.size, upd H1 s1.heap.objs.size (.tup xs), I1.laid (t' := s1.toks) (fun b u e => Heap.get?_push_of_some _ e) (Nat.le_refl _) ?_, rfl, q _ hf⟩
  exact ⟨z, us, r, ⟨_, Heap.get?_push_size _ rfl, rfl, _, rfl⟩⟩
theorem pe_lst (h : PA X es t) : PE X (.List es pos) (tLst t) := by
  intro pins s σ H Q I hq
  refine wpAny_List_spliced (thn (h pos pins s σ H _ I hq) fun us s1 ⟨xs, H1, I1, r, z, q⟩ => ⟨by rw [← r.length]; exact z, ?_⟩)
  have hf : H1 s1.heap.objs.size = none := I1.hok.fresh (Nat.le_refl _)
  refine ⟨.ref s1.heap.objs.size, upd H1 s1.heap.objs.size (.lst xs), I1.laid (t' := s1.toks) (fun b u e => Heap.get?_push_of_some _ e) (Nat.le_refl _) ?_, rfl, q _ hf⟩
  exact ⟨z, us, 0, r, Heap.get?_push_size _ rfl⟩
end

/-! ### what a def promises -/
/-- a def's promise: the bound arguments in the parameters' order, the heap, the wanted end, the wanted exception -/
abbrev Sp := List V → Hp → VK → XK → Prop
/-- how an exception lies behind a call (file 08 gives it): the callers' frames, abstract heap and state ahead of the call, the wish, the exception, the state -/
abbrev CXT := List Env → Hp → Shared → XK → Value → Shared → Prop

/-- the state at a call -/
structure Env0 (P : Program) (w : World) (K : PySem.W.Frag) (mg : Str → Option Value) (base : Heap) (A : Around) (outer : List Env) (s : Shared) (H : Hp) : Prop where
  frames : A.frames = some outer
  mod : Mod K mg base
  bs : ∀ b o, base.get? b = some o → s.heap.get? b = some o ∧ H b = none
  bsz : base.objs.size ≤ s.heap.objs.size
  funs : s.heap.FunFrames base outer
  frf : ∀ b ∈ frs outer, H b = none
  hok : HOk P w H s.heap
  bare : AllBare s.gens
/-- a call's end -/
def CE (outer : List Env) (P : Program) (w : World) (H : Hp) (s : Shared) (Q : VK) (u : Value) (s' : Shared) : Prop :=
  ∃ v H', s'.os = s.os ∧ AllBare s'.gens ∧ Un (frs outer) [] H H' s.heap s'.heap ∧ HOk P w H' s'.heap ∧ RelV v u ∧ Q v H'
def CR (CX : CXT) (outer : List Env) (P : Program) (w : World) (H : Hp) (s : Shared) (Q : VK) (E : XK) (r : Result) (s' : Shared) : Prop :=
  match r with
  | .ok (.ret u) => CE outer P w H s Q u s'
  | .ok _ => False
  | .error e => CX outer H s E e s'
structure FnOk (P : Program) (w : World) (K : PySem.W.Frag) (mg : Str → Option Value) (base : Heap) (CX : CXT) (k : Nat) (f : Addr) (fd : FuncData) (ps : List Str) (sp : Sp) : Prop where
  len : ∀ vs H Q E, sp vs H Q E → vs.length = ps.length
  run : ∀ (A : Around) (outer : List Env) (s : Shared) (H : Hp) (args : Args) (us : List Value) (vs : List V) (Q : VK) (E : XK), Room k A → Env0 P w K mg base A outer s H → BindsTo s fd args (ps.zip us) → Vals vs us → sp vs H Q E →
    codeAny (model P w) A (.call (.ref f) args) (CR CX outer P w H s Q E) s
theorem FnOk.mono {P : Program} {w : World} {K : PySem.W.Frag} {mg : Str → Option Value} {base : Heap} {CX : CXT} {j k : Nat} {f : Addr} {fd : FuncData} {ps : List Str} {sp : Sp} (F : FnOk P w K mg base CX j f fd ps sp) (h : j ≤ k) :
    FnOk P w K mg base CX k f fd ps sp := ⟨F.len, fun A outer s H args us vs Q E hr => F.run A outer s H args us vs Q E (hr.mono h)⟩

theorem Env0.make {P : Program} {w : World} {K : PySem.W.Frag} {mg : Str → Option Value} {base : Heap} {A : Around} {outer : List Env} {s : Shared} {H : Hp} (e : Env0 P w K mg base A outer s H) (C : Addr) (us : List Value) (kw : List (Str × Value)) :
    Env0 P w K mg base (A.under (.builtin "type.__call__" ⟨.ref C :: us, kw⟩)) outer s H := ⟨by first | exact e.frames | (simpa [Around.under, Code.envs, Code.isFrame, pushEnvs] using e.frames), e.mod, e.bs, e.bsz, e.funs, e.frf, e.hok, e.bare⟩
theorem Env0.in1 {P : Program} {w : World} {K : PySem.W.Frag} {mg : Str → Option Value} {base : Heap} {A : Around} {outer : List Env} {s : Shared} {H : Hp} (e : Env0 P w K mg base A outer s H) :
    Env0 P w K mg base A.in1 outer s H := ⟨e.frames, e.mod, e.bs, e.bsz, e.funs, e.frf, e.hok, e.bare⟩

section
variable {X : Cx} {pins : List (Addr × Obj)} {σ : St} {H : Hp} {s s' : Shared}
/-- from a body: what a callee wants -/
theorem Inv.env0 (I : Inv X pins σ H s) : Env0 X.prog X.w X.K X.mg X.base X.A X.stack s H :=
  ⟨I.ok.frames, I.ok.mod, I.bs, Nat.le_trans I.ok.bsz I.sz, I.stack, I.stkFree, I.hok, I.bare⟩
/-- behind a call -/
theorem Inv.after {Q : VK} {u : Value} (I : Inv X pins σ H s) (h : CE X.stack X.prog X.w H s Q u s') : EP X pins σ Q u s' := by
  obtain ⟨v, H', os, bare, un, hok, r, q⟩ := h
  obtain ⟨hh, g, d, t, os'⟩ := s'
  obtain rfl : os' = s.os := os
  exact ⟨v, H', I.call (h' := hh) (g' := g) (d' := d) (t' := t) (ch := []) un hok bare (fun b z => absurd z (by simp)), r, q⟩
end

/-! ### calls -/
/-- f(..): the written arguments, then the defaults dvs; E: what is wanted of an exception -/
def tCall (sp : Sp) (dvs : List V) (E : XK) (t : TA) : TE := fun σ H Q => t σ H fun vs H1 => sp (vs ++ dvs) H1 Q E
/-- o.m(..) of an instance of the class at C -/
def tMeth (C : Addr) (m : Str) (sp : Sp) (dvs : List V) (E : XK) (ta : TE) (t : TA) : TE := fun σ H Q => ta σ H fun x H1 => ∃ a dx fs, x = .ref a ∧ H1 a = some (.ins C dx fs) ∧ fs.lookup m = none ∧
  t σ H1 fun vs H2 => sp (x :: (vs ++ dvs)) H2 Q E
/-- C(..): a new instance and its dict, then __init__ -/
def tMake (C : Addr) (sp : Sp) (dvs : List V) (E : XK) (t : TA) : TE := fun σ H Q => t σ H fun vs H1 => ∀ x dx, H1 x = none → H1 dx = none → dx ≠ x →
  sp (.ref x :: (vs ++ dvs)) (upd (upd H1 dx (.own x)) x (.ins C dx [])) (fun v H2 => v = .non ∧ Q (.ref x) H2) E

/-- how the parameters are bound: us the positional arguments, kw the keywords' values by name, ds the defaults that fill up -/
def Binds (K : PySem.W.Frag) (fd : FuncData) (ps : List Str) (ds : List Value) : Prop :=
  ∀ (s : Shared) (us : List Value), K.In s.heap → (us ++ ds).length = ps.length → BindsTo s fd ⟨us, []⟩ (ps.zip (us ++ ds))
/-- every parameter is given -/
theorem Binds.all {K : PySem.W.Frag} {fd : FuncData} {ps : List Str} (h : ∀ us : List Value, us.length = ps.length → bindArgs fd ⟨us, []⟩ = pure (ps.zip us)) : Binds K fd ps [] := fun s us _ hl => by
  rw [List.append_nil] at hl ⊢
  exact .of_eq (h us hl)

/-- an exception of a callee reaches what this body wants of exceptions -/
def Passes (CX : CXT) (X : Cx) (E : XK) : Prop := ∀ (pins : List (Addr × Obj)) (σ : St) (H : Hp) (s : Shared) (e : Value) (s' : Shared), Inv X pins σ H s → CX X.stack H s E e s' → X.xe e s'

section
variable {X : Cx} {CX : CXT} {k : Nat} {f C : Addr} {fd : FuncData} {ps : List Str} {sp : Sp} {dvs : List V} {ds : List Value} {E : XK} {x m : Str} {p pos apos : Pos} {e o : Expr} {es : List Expr} {ta : TE} {t : TA}

/-- the callee runs -/
theorem run_fn {pins : List (Addr × Obj)} {σ : St} {H : Hp} {s : Shared} {Q : VK} {us : List Value} {vs : List V} (F : FnOk X.prog X.w X.K X.mg X.base CX k f fd ps sp) (hr : Room k X.A) (hb : Binds X.K fd ps ds) (hd : Vals dvs ds) (hx : Passes CX X E)
    (I : Inv X pins σ H s) (r : Vals vs us) (h : sp (vs ++ dvs) H Q E) : wpAny (model X.prog X.w) X.A (call (.ref f) us) (EP X pins σ Q) X.xe s := by
  have r2 : Vals (vs ++ dvs) (us ++ ds) := r.append hd
  have hl : (us ++ ds).length = ps.length := by rw [← r2.length]; exact F.len _ _ _ _ h
  refine wpAny_call (codeAny_mono (F.run X.A X.stack s H ⟨us, []⟩ (us ++ ds) (vs ++ dvs) Q E hr I.env0 (hb s us I.kIn hl) r2 h) fun r s' hq => ?_)
  cases r with
  | error e => exact hx pins σ H s e s' I hq
  | ok fl =>
    cases fl with
    | ret u => exact I.after hq
    | next => exact False.elim hq
    | brk => exact False.elim hq
    | cont => exact False.elim hq

theorem pe_call (F : FnOk X.prog X.w X.K X.mg X.base CX k f fd ps sp) (hr : Room k X.A) (hg : Gl X x) (hm : X.mg x = some (.ref f)) (hk : PySem.W.keepIn X.K (.ref f) = true) (hb : Binds X.K fd ps ds) (hd : Vals dvs ds) (hx : Passes CX X E)
    (ha : PA X (e :: es) t) (hdb : (x == ("__debug__" : Str)) = false := by decide) (he : starEach (e :: es) X.env = (false, eval e X.env) :: starEach es X.env := by rfl) (hpl : (backTo pos (starEach es X.env)).any (·.1) = false := by rfl) :
    PE X (.Call (.Name x p) (e :: es) [] pos) (tCall sp dvs E t) := by
  intro pins s σ H Q I h
  refine wpAny_Call_Name_kw (ld_glob I hg hm ?_ hdb)
  refine PySem.W.callWith_K (h₀ := X.base) I.ok.mod.kin hk (thn (ha pos pins s σ H _ I h) fun us s1 ⟨vs, H1, I1, r, q⟩ => ⟨I1.kIn, ?_⟩) he hpl
  exact run_fn F hr hb hd hx I1 r q


/-- what a class must have to be made -/
structure Mk (K : PySem.W.Frag) (C f : Addr) : Prop where
  makes : PySem.W.makesIn K C = true
  init : PySem.W.findIn K (.ref C) "__init__" = some (some (.ref f))
  fn : PySem.W.isFn K (.ref f) = true
  kp : PySem.W.keepIn K (.ref C) = true

end

/-! ### keywords -/
/-- the values of the keywords, from the left -/
def PK (X : Cx) (kws : List Keyword) (t : TA) : Prop :=
  ∀ (pos : Pos) (pins : List (Addr × Obj)) (s : Shared) (σ : St) (H : Hp) (Q : List V → Hp → Prop), Inv X pins σ H s → t σ H Q → wpAny (model X.prog X.w) X.A (evalAll ((backToKw pos (keywordEach kws X.env)).map (·.2))) (AP X pins σ Q) X.xe s
section
variable {X : Cx} {CX : CXT} {k : Nat} {f C : Addr} {fd : FuncData} {ps ks : List Str} {sp : Sp} {E : XK} {x m : Str} {p pos apos kpos : Pos} {e o : Expr} {es : List Expr} {kws : List Keyword} {te ta : TE} {t tk : TA} {nm : Option Str}

/-- how a call with keywords binds: g puts the positional values us and the keywords' values ws (names ks) in the parameters' order, defaults among them -/
structure KBinds (K : PySem.W.Frag) (fd : FuncData) (ps ks : List Str) (g : List Value → List Value → List Value) (gV : List V → List V → List V) : Prop where
  to : ∀ (s : Shared) (us ws : List Value), K.In s.heap → (g us ws).length = ps.length → BindsTo s fd ⟨us, ks.zip ws⟩ (ps.zip (g us ws))
  rel : ∀ {vs : List V} {us : List Value} {zs : List V} {ws : List Value}, Vals vs us → Vals zs ws → Vals (gV vs zs) (g us ws)
def tCallK (sp : Sp) (gV : List V → List V → List V) (E : XK) (t tk : TA) : TE := fun σ H Q => t σ H fun vs H1 => tk σ H1 fun zs H2 => sp (gV vs zs) H2 Q E
variable {g : List Value → List Value → List Value} {gV : List V → List V → List V}
end

/-! ### a def's body keeps its promise -/
/-- names: the parameters first -/
structure FnScope (N P : List Str) (sc : Scope) : Prop where
  kind : sc.kind = .function
  co : sc.isCoroutine = false
  gen : sc.isGenerator = false
  nd : N.Nodup
  pre : N.take P.length = P
  par : ∀ x ∈ P, sc.names.lookup x = some .local ∨ sc.names.lookup x = some .cell
  nofree : ∀ y ∈ sc.names, y.2 ≠ .free

theorem bindL_out {kindOf : Str → Option NameKind} {x : Str} : ∀ {binds : List (Str × Value)} {m : Str → Option Value}, (∀ v, (x, v) ∉ binds) → bindL kindOf binds m x = m x
  | [], _, _ => rfl
  | (n, v) :: r, m, h => by
    unfold bindL
    rw [bindL_out fun w hw => h w (List.mem_cons_of_mem _ hw)]
    split
    · have : x ≠ n := by rintro rfl; exact h v List.mem_cons_self
      simp [this]
    · rfl
theorem bindC_out {kindOf : Str → Option NameKind} {x : Str} : ∀ {binds : List (Str × Value)} {m : Str → Option Value}, (∀ v, (x, v) ∉ binds) → bindC kindOf binds m x = m x
  | [], _, _ => rfl
  | (n, v) :: r, m, h => by
    unfold bindC
    rw [bindC_out fun w hw => h w (List.mem_cons_of_mem _ hw)]
    split
    · rfl
    · have : x ≠ n := by rintro rfl; exact h v List.mem_cons_self
      simp [this]
theorem bindL_get {kindOf : Str → Option NameKind} {x : Str} {v : Value} : ∀ {P : List Str} {vs : List Value} {i : Nat} {m : Str → Option Value}, P.Nodup → P[i]? = some x → vs[i]? = some v → kindOf x = some .local →
    bindL kindOf (P.zip vs) m x = some v
  | [], _, _, _, _, h, _, _ => by simp at h
  | _ :: _, [], _, _, _, _, h, _ => by simp at h
  | p :: P, w :: vs, 0, m, nd, h1, h2, hk => by
    simp at h1 h2; subst h1; subst h2
    show bindL kindOf ((p, w) :: P.zip vs) m p = _
    unfold bindL
    rw [bindL_out fun v hv => (List.nodup_cons.mp nd).1 (List.of_mem_zip hv).1, if_pos hk]
    simp
  | p :: P, w :: vs, i + 1, m, nd, h1, h2, hk => by
    show bindL kindOf ((p, w) :: P.zip vs) m x = _
    unfold bindL
    exact bindL_get (i := i) (List.nodup_cons.mp nd).2 (by simpa using h1) (by simpa using h2) hk
theorem bindC_get {kindOf : Str → Option NameKind} {x : Str} {v : Value} : ∀ {P : List Str} {vs : List Value} {i : Nat} {m : Str → Option Value}, P.Nodup → P[i]? = some x → vs[i]? = some v → kindOf x ≠ some .local →
    bindC kindOf (P.zip vs) m x = some v
  | [], _, _, _, _, h, _, _ => by simp at h
  | _ :: _, [], _, _, _, _, h, _ => by simp at h
  | p :: P, w :: vs, 0, m, nd, h1, h2, hk => by
    simp at h1 h2; subst h1; subst h2
    show bindC kindOf ((p, w) :: P.zip vs) m p = _
    unfold bindC
    rw [bindC_out fun v hv => (List.nodup_cons.mp nd).1 (List.of_mem_zip hv).1, if_neg hk]
    simp
  | p :: P, w :: vs, i + 1, m, nd, h1, h2, hk => by
    show bindC kindOf ((p, w) :: P.zip vs) m x = _
    unfold bindC
    exact bindC_get (i := i) (List.nodup_cons.mp nd).2 (by simpa using h1) (by simpa using h2) hk

/-- the names' values at the entry -/
def start (N : List Str) (vs : List V) : St := vs.map some ++ List.replicate (N.length - vs.length) none

/-- the context of a def's body, at its entry; an exception leaves the frame, then lies as CX says -/
def cxOf (CX : CXT) (P : Program) (w : World) (K : PySem.W.Frag) (mg : Str → Option Value) (base : Heap) (N : List Str) (qual : Str) (scope : Scope) (f : Addr) (cd : Value) (A : Around) (outer : List Env) (s : Shared) (H : Hp) (E : XK) : Cx where
  prog := P
  w := w
  K := K
  mg := mg
  base := base
  A := A.deeper (envOfC qual scope s.heap.objs.size f cd)
  N := N
  s₀ := s
  H₀ := H
  env := envOfC qual scope s.heap.objs.size f cd
  outer := outer
  stack := envOfC qual scope s.heap.objs.size f cd :: outer
  ex := []
  calm := true
  fn := fun _ => true
  pn := []
  xe := fun e s' => wpAny (model P w) (A.deeper (envOfC qual scope s.heap.objs.size f cd)) (leaving (envOfC qual scope s.heap.objs.size f cd) e) (fun _ s'' => CX outer H s E e s'') (fun e' s'' => CX outer H s E e' s'') s'

theorem cell_has {sc : Scope} {n : Nat} {x : Str} (h : sc.names.lookup x = some .cell) : ∃ c, (cellsFrom n sc.names []).lookup x = some c := by
  have q := PySem.W.cellsFrom_some sc.names n [] (.inl h)
  exact Option.isSome_iff_exists.mp q

theorem inv_start {CX : CXT} {P : Program} {w : World} {K : PySem.W.Frag} {mg : Str → Option Value} {base : Heap} {N ps : List Str} {qual : Str} {scope : Scope} {f : Addr} {cd : Value} {A : Around} {outer : List Env} {s s1 : Shared} {H : Hp} {E : XK} {us : List Value} {vs : List V}
    (S : FnScope N ps scope) (hd : A.handled = none) (e0 : Env0 P w K mg base A outer s H) (hl : vs.length = ps.length) (r : Vals vs us)
    (x : InCallC s s.heap.objs.size (bindL (envOfC qual scope s.heap.objs.size f cd).kindOf (ps.zip us) fun _ => none) (cellsFrom (s.heap.objs.size + 1) scope.names []) (bindC (envOfC qual scope s.heap.objs.size f cd).kindOf (ps.zip us) fun _ => none) s1) :
    Inv (cxOf CX P w K mg base N qual scope f cd A outer s H E) [] (start N vs) H s1 := by
  have hpl : ps.length ≤ N.length := by have := congrArg List.length S.pre; rw [List.length_take] at this; omega
  obtain ⟨h1, tk, rfl, hk⟩ := x.done
  have noA : ∀ b : Addr, b ∉ (cxOf CX P w K mg base N qual scope f cd A outer s H E).ex := fun b z => absurd (show b ∈ ([] : List Addr) from z) (by simp)
  refine ⟨⟨e0.mod, S.kind, rfl, rfl, Nat.le_refl _, fun y z c h1 h2 => ?_, fun y hy => ?_, fun y c _ h => ?_, fun _ => hd, Around.frames_deeper e0.frames, .inr ⟨rfl, rfl⟩, fun b z => absurd z (noA b), e0.bs, e0.bsz, fun b _ _ => noA b, fun b z => absurd z (noA b), e0.funs, e0.frf⟩,
    rfl, e0.bare, Un.kept hk, ⟨_, x.toInCall.ns, fun i y v h1 h2 h3 => ?_⟩, fun y c h => ⟨_, x.cell y c h⟩, e0.hok.fresh (Nat.le_refl _), fun y c h => ?_, fun p hp => absurd (show p ∈ ([] : List (Addr × Obj)) from hp) (by simp), e0.hok.kept hk, ?_⟩
  · exact name_of_addr x.apart (PySem.mem_of_lookup h1) (PySem.mem_of_lookup h2)
  · have hy : scope.names.lookup y = some .cell ∨ scope.names.lookup y = some .free := hy
    rcases hy with hy | hy
    · exact cell_has hy
    · exact absurd rfl (S.nofree _ (PySem.mem_of_lookup hy))
  · exact Nat.le_of_lt (x.above y c (PySem.mem_of_lookup h))
  · have hi : i < vs.length := by
      unfold start at h2
      by_cases hi : i < vs.length
      · exact hi
      · rw [List.getElem?_append_right (by simpa using hi)] at h2
        rw [List.getElem?_replicate] at h2
        split at h2 <;> cases h2
    have ha : vs[i]? = some v := by
      unfold start at h2
      rw [List.getElem?_append_left (by simpa using hi), List.getElem?_map] at h2
      cases e : vs[i]? with
      | none => rw [e] at h2; cases h2
      | some a => rw [e] at h2; cases h2; rfl
    obtain ⟨u, hu, rv⟩ := r.get ha
    have hp : ps[i]? = some y := by
      rw [← S.pre, List.getElem?_take_of_lt (by omega)]; exact h1
    have ndP : ps.Nodup := by rw [← S.pre]; exact S.nd.sublist (List.take_sublist _ _)
    refine ⟨u, rv, ?_⟩
    rcases S.par y (List.mem_of_getElem? hp) with k | k
    · exact .inl ⟨k, bindL_get ndP hp hu k⟩
    · obtain ⟨c, e⟩ := cell_has (n := s.heap.objs.size + 1) k
      refine .inr ⟨.inl k, c, e, ?_⟩
      have q := x.cell y c e
      rw [bindC_get ndP hp hu (by show scope.names.lookup y ≠ _; rw [k]; decide)] at q
      exact q
  · exact e0.hok.fresh (Nat.le_of_lt (x.above y c (PySem.mem_of_lookup h)))
  · unfold start
    show _ = N.length
    rw [List.length_append, List.length_map, List.length_replicate]
    omega

/-- THE RULE: a def (or a method) of the text, by its body. The body's reading t is chosen for each entry; it is run at the parameters' values -/
theorem fn_of {CX : CXT} {P : Program} {w : World} {K : PySem.W.Frag} {mg : Str → Option Value} {base : Heap} {k : Nat} {f : Addr} {name qual : Str} {params : Arguments} {body : List Stmt} {scope : Scope} {dV kV doc pm cdv ct oc : Value} {an od : Option Addr}
    {osl : Array (Option Value)} {N ps : List Str} {sp : Sp} (lk : K.lookup f = some ⟨oc, od, .func (PySem.W.fnOf name qual params body scope dV kV doc pm an cdv ct), osl⟩) (hcd : PySem.W.codeIn K cdv qual = true) (S : FnScope N ps scope)
    (len : ∀ vs H Q E, sp vs H Q E → vs.length = ps.length)
    (hbody : ∀ (A : Around) (outer : List Env) (s : Shared) (H : Hp) (vs : List V) (Q : VK) (E : XK), Room k (A.deeper (envOfC qual scope s.heap.objs.size f cdv)) → sp vs H Q E →
      ∃ t, PSs (cxOf CX P w K mg base N qual scope f cdv A outer s H E) body t ∧ t { nx := fun _ H' => Q .non H', rt := Q } (start N vs) H) :
    FnOk P w K mg base CX (k + 1) f (PySem.W.fnOf name qual params body scope dV kV doc pm an cdv ct) ps sp := by
  refine ⟨len, fun A outer s H args us vs Q E hr e0 hb r hsp => ?_⟩
  have hl := len _ _ _ _ hsp
  have KX : K.In s.heap := e0.mod.kin.keeps fun b o e => (e0.bs b o e).1
  have lim : s.heap.NoLimit := e0.mod.nolimit.keeps fun b o e => (e0.bs b o e).1
  have hkind : ∀ y ∈ ps.zip us, scope.names.lookup y.1 = some .local ∨ (scope.names.lookup y.1 = some .cell ∧ ((cellsFrom (s.heap.objs.size + 1) scope.names []).lookup y.1).isSome = true) := fun ⟨n, v⟩ hy => by
    rcases S.par n (List.of_mem_zip hy).1 with q | q
    · exact .inl q
    · exact .inr ⟨q, PySem.W.cellsFrom_some _ _ _ (.inl q)⟩
  refine codeAny_call_function hr.depth (KX _ _ lk) rfl S.co S.gen rfl (PySem.W.codeRec_of KX hcd) (hb _ _ _ _ ?_)
  refine wpAny_newFunctionEnv_cells S.kind hkind fun env he s1 x => ?_
  subst he
  refine ⟨lim.keeps x.toInCall.keep, codeAny_func ?_⟩
  obtain ⟨t, ht, hq⟩ := hbody A outer s H vs Q E (hr.deeper _) hsp
  have I : Inv (cxOf CX P w K mg base N qual scope f cdv A outer s H E) [] (start N vs) H s1 := inv_start S hr.hd e0 hl r x
  refine wpAny_mono (ht [] s1 (start N vs) H _ I hq) (fun fl s' hs => ?_) fun e s' hs => hs
  have fin : ∀ {σ' : St} {H' : Hp} {v : V} {u : Value}, Inv (cxOf CX P w K mg base N qual scope f cdv A outer s H E) [] σ' H' s' → RelV v u → Q v H' → CE outer P w H s Q u s' :=
    fun {σ' H' v u} J rv q => ⟨v, H', J.os, J.bare, J.base, J.hok, rv, q⟩
  cases fl with
  | ret u =>
    obtain ⟨v, σ', H', J, rv, q⟩ := hs
    exact fin J rv q
  | next =>
    obtain ⟨σ', H', J, q⟩ := hs
    exact fin (v := V.non) (u := Value.none) J rfl q
  | brk =>
    obtain ⟨_, _, _, q⟩ := hs
    exact False.elim q
  | cont =>
    obtain ⟨_, _, _, q⟩ := hs
    exact False.elim q
end L2

namespace L2
open PySem PySem.Spec PyProof.Rows
section
variable {X : Cx} {x : Str} {p pos : Pos} {e : Expr} {es : List Expr} {t : TA} {id T : String} {r : List V → Hp → VK → Prop}

def tCB (r : List V → Hp → VK → Prop) (t : TA) : TE := fun σ H Q => t σ H fun vs H1 => r vs H1 Q
/-- f(e, ..), f a built-in function -/
theorem pe_callB (hc : CallR X (.builtin id) r) (hg : Gl X x) (hm : X.mg x = none) (hv : bootBuiltins x = some (.builtin id)) (ha : PA X (e :: es) t) (hn : x ≠ "__name__" := by decide) (hdb : (x == ("__debug__" : Str)) = false := by decide)
    (he : starEach (e :: es) X.env = (false, eval e X.env) :: starEach es X.env := by rfl) (hpl : (backTo pos (starEach es X.env)).any (·.1) = false := by rfl) : PE X (.Call (.Name x p) (e :: es) [] pos) (tCB r t) := by
  intro pins s σ H Q I h
  refine wpAny_Call_Name_kw (ld_blt I hg hm hv ?_ hn hdb)
  exact PyProof.Rows.callWith_builtin1 (thn (ha pos pins s σ H _ I h) fun us s1 ⟨vs, H1, I1, r1, q1⟩ => hc pins s1 σ H1 vs us Q I1 r1 q1) he hpl
/-- T(e, ..), T a built-in type -/
theorem pe_callTy (hc : CallR X (.type T) r) (hg : Gl X x) (hm : X.mg x = none) (hv : bootBuiltins x = some (.type T)) (ha : PA X (e :: es) t) (hn : x ≠ "__name__" := by decide) (hdb : (x == ("__debug__" : Str)) = false := by decide)
    (he : starEach (e :: es) X.env = (false, eval e X.env) :: starEach es X.env := by rfl) (hpl : (backTo pos (starEach es X.env)).any (·.1) = false := by rfl) : PE X (.Call (.Name x p) (e :: es) [] pos) (tCB r t) := by
  intro pins s σ H Q I h
  refine wpAny_Call_Name_kw (ld_blt I hg hm hv ?_ hn hdb)
  exact PyProof.Rows.callWith_type1 (thn (ha pos pins s σ H _ I h) fun us s1 ⟨vs, H1, I1, r1, q1⟩ => hc pins s1 σ H1 vs us Q I1 r1 q1) he hpl
end
end L2

namespace HT
open PySem PyProof.Rows

/-- t < u of tuples of ints -/
def lexLt : List Int → List Int → Bool
  | [], [] => false
  | [], _ :: _ => true
  | _ :: _, [] => false
  | x :: xs, y :: ys => if x = y then lexLt xs ys else decide (x < y)


section
open PySem.SeqAt
open PySem.AutoSeq1 (wpAny_loadPart')
open PySem.MeetsSeq PySem.MeetsSeq2 PySem.MeetsSeq3

end

section
variable {prog : Program} {w : World} {A : Around} {E : Value → Shared → Prop} {s : Shared}



/-! ### t[a:b], not the whole -/
/-- a slice's bound as a place among n (d where it is left out) -/
def sIx (n d : Nat) : Option Int → Nat
  | none => d
  | some v => if v < 0 then (v + (n : Int)).toNat else min v.toNat n

end
end HT

namespace L2
open PySem PySem.Spec PyProof.Rows

/-! ### the parts of a slice -/
abbrev TO := St → Hp → (Option Int → Hp → Prop) → Prop
/-- a slice's part (left out, or an int) -/
def PO (X : Cx) (e : Option Expr) (t : TO) : Prop :=
  ∀ (pins : List (Addr × Obj)) (s : Shared) (σ : St) (H : Hp) (Q : Option Int → Hp → Prop), Inv X pins σ H s → t σ H Q →
    wpAny (model X.prog X.w) X.A (evalPart e X.env) (fun u s' => ∃ o H', Inv X pins σ H' s' ∧ IsPart u o ∧ Q o H') X.xe s
def tNoPart : TO := fun _ H Q => Q none H
def tPart (t : TE) : TO := fun σ H Q => t σ H fun x H1 => ∃ i, x = .int i ∧ Q (some i) H1


section
variable {X : Cx} {e : Expr} {te : TE} {lo hi : Option Expr} {tl th : TO} {pos p2 : Pos}

theorem po_none : PO X none tNoPart := by
  intro pins s σ H Q I h
  rw [evalPart_none]
  exact wpAny_pure ⟨none, H, I, .none, h⟩
theorem po_some (h : PE X e te) : PO X (some e) (tPart te) := by
  intro pins s σ H Q I hw
  rw [evalPart_some]
  refine thn (h pins s σ H _ I hw) fun u s1 ⟨x, H1, I1, r1, q1⟩ => ?_
  obtain ⟨i, rfl, q⟩ := q1
  obtain ⟨t, rfl⟩ := r1
  exact ⟨some i, H1, I1, .int i t, q⟩

/-- what a slice of a value is, by values: the slice object stands at sl -/
def SlR (X : Cx) (r : V → Option Int → Option Int → Hp → VK → Prop) : Prop :=
  ∀ (pins : List (Addr × Obj)) (s : Shared) (σ : St) (H : Hp) (x : V) (v vl vu : Value) (lo hi : Option Int) (sl : Addr) (Q : VK), Inv X pins σ H s → RelV x v → s.heap.IsSliceOf sl vl vu .none → IsPart vl lo → IsPart vu hi → r x lo hi H Q →
    ∃ T id, typeLookup (.type T) "__getitem__" = pure (some (.builtin id)) ∧ s.TypeIs v T ∧ wpAny (model X.prog X.w) X.A (getItem v (.ref sl)) (EP X pins σ Q) X.xe s
theorem SlR.or {r r' : V → Option Int → Option Int → Hp → VK → Prop} (h : SlR X r) (h' : SlR X r') : SlR X (fun x lo hi H Q => r x lo hi H Q ∨ r' x lo hi H Q) := by
  intro pins s σ H x v vl vu lo hi sl Q I rx hs pl pu q
  rcases q with q | q
  · exact h pins s σ H x v vl vu lo hi sl Q I rx hs pl pu q
  · exact h' pins s σ H x v vl vu lo hi sl Q I rx hs pl pu q
def tSl (r : V → Option Int → Option Int → Hp → VK → Prop) (te : TE) (tl th : TO) : TE := fun σ H Q => te σ H fun x H1 => tl σ H1 fun l H2 => th σ H2 fun u H3 => r x l u H3 Q
/-- a[lo:hi], any a -/
theorem pe_slice {r : V → Option Int → Option Int → Hp → VK → Prop} (hr : SlR X r) (he : PE X e te) (hl : PO X lo tl) (hu : PO X hi th) : PE X (.Subscript e (.Slice lo hi none p2) pos) (tSl r te tl th) := by
  intro pins s σ H Q I h
  refine Subscript_ (thn (he pins s σ H _ I h) fun v s1 ⟨x, H1, I1, r1, q1⟩ => ?_)
  refine wpAny_Slice (thn (hl pins s1 σ H1 _ I1 q1) fun vl s2 ⟨l, H2, I2, pl, q2⟩ => thn (hu pins s2 σ H2 _ I2 q2) fun vu s3 ⟨u, H3, I3, pu, q3⟩ => ?_)
  rw [evalPart_none]
  refine wpAny_pure ?_
  have I4 : Inv X pins σ H3 { s3 with heap := s3.heap.push { cls := .type "slice", data := .fields #[vl, vu, .none] } } := I3.kept (t' := s3.toks) fun b ob q => Heap.get?_push_of_some _ q
  obtain ⟨T, id, hT, ht, hg⟩ := hr pins { s3 with heap := s3.heap.push { cls := .type "slice", data := .fields #[vl, vu, .none] } } σ H3 x v vl vu l u s3.heap.objs.size Q I4 r1 (Heap.IsSliceOf.new ..) pl pu q3
  show wpAny (model X.prog X.w) X.A (subscriptTail e (.Slice lo hi none p2) v (.ref s3.heap.objs.size)) (EP X pins σ Q) X.xe { s3 with heap := s3.heap.push { cls := .type "slice", data := .fields #[vl, vu, .none] } }
  exact tail_any (ops := [.ref s3.heap.objs.size, v]) ht hT hg (by with_unfolding_all rfl)

/-- the items of xs[lo:hi] -/
def cutV (xs : List V) (lo hi : Option Int) : List V := (xs.drop (HT.sIx xs.length 0 lo)).take (HT.sIx xs.length xs.length hi - HT.sIx xs.length 0 lo)
theorem cutV_length (xs : List V) (lo hi : Option Int) : (cutV xs lo hi).length ≤ xs.length := by
  unfold cutV
  rw [List.length_take, List.length_drop]
  omega
/-- t[lo:hi], not the whole of it (the whole would be t itself) -/
def rSlT (K : PySem.W.Frag) : V → Option Int → Option Int → Hp → VK → Prop := fun x lo hi H Q => ∃ a xs, x = .ref a ∧ SqT K H a xs ∧
  ¬ (HT.sIx xs.length 0 lo = 0 ∧ HT.sIx xs.length xs.length hi = xs.length) ∧ ∀ p, H p = none → Q (.ref p) (upd H p (.tup (cutV xs lo hi)))

/-! ### t < u, t + u -/
def rLtT (K : PySem.W.Frag) : R2 := fun x y H Q => ∃ a b ns ms, x = .ref a ∧ y = .ref b ∧ SqT K H a (ns.map V.int) ∧ SqT K H b (ms.map V.int) ∧ Q (.bl (HT.lexLt ns ms)) H
/-- t + u, t not empty: u empty gives t itself -/
def rCatT (K : PySem.W.Frag) : R2 := fun x y H Q => ∃ a b xs ys, x = .ref a ∧ y = .ref b ∧ SqT K H a xs ∧ SqT K H b ys ∧ xs ≠ [] ∧ xs.length + ys.length ≤ sizeLine ∧
  (ys = [] → Q (.ref a) H) ∧ (ys ≠ [] → ∀ p, H p = none → Q (.ref p) (upd H p (.tup (xs ++ ys))))
theorem Vals.nil_iff {xs : List V} {us : List Value} (r : Vals xs us) : us = [] ↔ xs = [] := by
  cases r with
  | nil => simp
  | cons _ _ => simp
end
end L2

namespace L2
open PySem PySem.Spec PyProof.Rows

/-! ### places -/
/-- the place that an index of any sign means -/
def ixN (n : Nat) (i : Int) : Option Nat := if 0 ≤ i then (if i < n then some i.toNat else none) else if -(n : Int) ≤ i then some (i + n).toNat else none
def atI {α : Type} (xs : List α) (i : Int) : Option α := (ixN xs.length i).bind fun j => xs[j]?
theorem ixN_seq {n : Nat} {i : Int} {j : Nat} (h : ixN n i = some j) : seqIndex? i n = some j ∧ j < n ∧ -(n : Int) ≤ i ∧ i < n := by
  unfold ixN at h
  by_cases h0 : 0 ≤ i
  · rw [if_pos h0] at h
    by_cases h1 : i < n
    · rw [if_pos h1] at h
      have e : i.toNat = j := Option.some.inj h
      exact ⟨by rw [seqIndex_of h0 h1, e], by omega, by omega, h1⟩
    · rw [if_neg h1] at h; cases h
  · rw [if_neg h0] at h
    by_cases h1 : -(n : Int) ≤ i
    · rw [if_pos h1] at h
      have e : (i + n).toNat = j := Option.some.inj h
      exact ⟨by rw [seqIndex_neg (by omega) h1, e], by omega, h1, by omega⟩
    · rw [if_neg h1] at h; cases h
theorem atI_get {α : Type} {xs : List α} {i : Int} {v : α} (h : atI xs i = some v) : ∃ j, seqIndex? i xs.length = some j ∧ xs[j]? = some v ∧ j < xs.length ∧ -(xs.length : Int) ≤ i ∧ i < xs.length := by
  unfold atI at h
  cases e : ixN xs.length i with
  | none => rw [e] at h; cases h
  | some j =>
    rw [e] at h
    obtain ⟨h1, h2, h3, h4⟩ := ixN_seq e
    exact ⟨j, h1, h, h2, h3, h4⟩
theorem atI_nat {α : Type} {xs : List α} {j : Nat} {v : α} (h : xs[j]? = some v) : atI xs (j : Int) = some v := by
  have hj : j < xs.length := (List.getElem?_eq_some_iff.mp h).1
  have e : ixN xs.length (j : Int) = some j := by
    unfold ixN
    rw [if_pos (by omega), if_pos (by omega)]; simp
  unfold atI; rw [e]; exact h
theorem atI_last {α : Type} (xs : List α) (v : α) : atI (xs ++ [v]) (-1) = some v := by
  have hl : (xs ++ [v]).length = xs.length + 1 := by simp
  have e : ixN (xs ++ [v]).length (-1) = some xs.length := by
    unfold ixN
    rw [hl, if_neg (by decide), if_pos (by omega)]
    congr 1
    omega
  unfold atI
  rw [e]
  show (xs ++ [v])[xs.length]? = some v
  simp

/-! ### what may be subscripted -/
/-- what stands as an index of a plain subscript -/
def PlainIx (b : Expr) : Prop := ∀ o i, subscripted b false o i = operate [o, i] (getItem o i)
/-- a subscript by values -/
def IxR (X : Cx) (r : R2) : Prop :=
  ∀ (value slice : Expr) (pins : List (Addr × Obj)) (s : Shared) (σ : St) (H : Hp) (x y : V) (v u : Value) (Q : VK), Inv X pins σ H s → RelV x v → RelV y u → r x y H Q →
    subscripted slice false v u = operate [v, u] (getItem v u) → wpAny (model X.prog X.w) X.A (subscriptTail value slice v u) (EP X pins σ Q) X.xe s
/-- a call of a builtin's method by values: the receiver, the arguments -/
def MtR (X : Cx) (id : String) (r : V → List V → Hp → VK → Prop) : Prop :=
  ∀ (pins : List (Addr × Obj)) (s : Shared) (σ : St) (H : Hp) (x : V) (xs : List V) (v : Value) (us : List Value) (Q : VK), Inv X pins σ H s → RelV x v → Vals xs us → r x xs H Q →
    wpAny (model X.prog X.w) X.A (call (.builtin id) (v :: us)) (EP X pins σ Q) X.xe s
section
variable {X : Cx} {a b : Expr} {ta tb : TE} {pos : Pos}
theorem IxR.or {r r' : R2} (h : IxR X r) (h' : IxR X r') : IxR X (fun x y H Q => r x y H Q ∨ r' x y H Q) := by
  intro value slice pins s σ H x y v u Q I rx ry q hs
  rcases q with q | q
  · exact h value slice pins s σ H x y v u Q I rx ry q hs
  · exact h' value slice pins s σ H x y v u Q I rx ry q hs
theorem MtR.or {id : String} {r r' : V → List V → Hp → VK → Prop} (h : MtR X id r) (h' : MtR X id r') : MtR X id (fun x xs H Q => r x xs H Q ∨ r' x xs H Q) := by
  intro pins s σ H x xs v us Q I rx rs q
  rcases q with q | q
  · exact h pins s σ H x xs v us Q I rx rs q
  · exact h' pins s σ H x xs v us Q I rx rs q
/-- a[b] -/
theorem pe_ix {r : R2} (hr : IxR X r) (ha : PE X a ta) (hb : PE X b tb) (hs : PlainIx b) : PE X (.Subscript a b pos) (tOp r ta tb) := by
  intro pins s σ H Q I h
  exact Subscript_ (binT ha hb I h fun v u s2 x y H2 I2 rx ry q => hr a b pins s2 σ H2 x y v u Q I2 rx ry q (hs _ _))

def rIxL (K : PySem.W.Frag) : R2 := fun x y H Q => ∃ p xs i v, x = .ref p ∧ y = .int i ∧ SqL K H p xs ∧ atI xs i = some v ∧ Q v H
def rIxT (K : PySem.W.Frag) : R2 := fun x y H Q => ∃ p xs i v, x = .ref p ∧ y = .int i ∧ SqT K H p xs ∧ atI xs i = some v ∧ Q v H
def rIxS : R2 := fun x y H Q => ∃ z i c, x = .str z ∧ y = .int i ∧ z.length ≤ sizeLine ∧ atI z.cps.toList i = some c ∧ Q (.str ⟨#[c]⟩) H
theorem ix_list : IxR X (rIxL X.K) := by
  intro value slice pins s σ H x y v u Q I rx ry h hs
  obtain ⟨p, xs, i, z, rfl, rfl, hq, he, q⟩ := h
  cases rx
  obtain ⟨t, rfl⟩ := ry
  obtain ⟨its, r, pl, hz⟩ := I.list hq
  obtain ⟨j, h1, h2, h3, h4, h5⟩ := atI_get he
  obtain ⟨w, ew, rw'⟩ := r.get h2
  have hl := r.length
  have hn := line63
  have fin : EP X pins σ Q w s := ⟨z, H, I, rw', q⟩
  by_cases h0 : 0 ≤ i
  · have hj : i.toNat = j := by
      rw [seqIndex_of h0 h5] at h1
      exact Option.some.inj h1
    exact item_listR pl.isList h0 (by omega) (by rw [hj]; simpa using ew) fin hs
  · have hj : (i + (its.toArray.size : Int)).toNat = j := by
      rw [seqIndex_neg (by omega) h4] at h1
      rw [List.size_toArray, ← hl]
      exact Option.some.inj h1
    exact subscriptTail_builtinR (x := w) pl.isList.typeIs slot_list_getitem.lookup
      (wpAny_getItem_list_neg (Q := fun r s' => r = w ∧ EP X pins σ Q r s') pl.isList (by omega) (by rw [List.size_toArray] <;> omega) (by omega) (by rw [hj]; simpa using ew) ⟨rfl, fin⟩) hs
theorem ix_tup : IxR X (rIxT X.K) := by
  intro value slice pins s σ H x y v u Q I rx ry h hs
  obtain ⟨p, xs, i, z, rfl, rfl, hq, he, q⟩ := h
  cases rx
  obtain ⟨t, rfl⟩ := ry
  obtain ⟨its, r, pl, hz⟩ := I.tuple hq
  obtain ⟨j, h1, h2, h3, h4, h5⟩ := atI_get he
  obtain ⟨w, ew, rw'⟩ := r.get h2
  have hl := r.length
  have hn := line63
  have fin : EP X pins σ Q w s := ⟨z, H, I, rw', q⟩
  exact subscriptTail_builtinR (x := w) pl.typeIs slot_tuple_getitem.lookup
    (getItem_tuple (j := j) (Q := fun r s' => r = w ∧ EP X pins σ Q r s') pl (by omega) (by omega) (by rw [List.size_toArray, ← hl]; exact h1) (by simpa using ew) ⟨rfl, fin⟩) hs
theorem ix_str : IxR X rIxS := by
  intro value slice pins s σ H x y v u Q I rx ry h hs
  obtain ⟨z, i, c, rfl, rfl, hz, he, q⟩ := h
  obtain ⟨t, rfl⟩ := rx
  obtain ⟨t', rfl⟩ := ry
  obtain ⟨j, h1, h2, h3, h4, h5⟩ := atI_get he
  have hl : z.cps.toList.length = z.length := by simp [Str.length]
  rw [hl] at h1 h4 h5
  have hn := line63
  exact tail_any (typeIs_str s z t) slot_str_getitem.lookup (getItem_str (c := c) (by
    have e1 : decide (i < -(2 ^ 63 : Int)) = false := decide_eq_false (by omega)
    have e2 : decide (i ≥ 2 ^ 63) = false := decide_eq_false (by omega)
    rw [e1, e2, Bool.or_false]) (by rw [h1]; simpa using h2) ⟨.str ⟨#[c]⟩, H, I.tok _, ⟨_, rfl⟩, q⟩) hs
/-- list, tuple or str -/
def rIx (K : PySem.W.Frag) : R2 := fun x y H Q => rIxL K x y H Q ∨ rIxT K x y H Q ∨ rIxS x y H Q
theorem ix_seq : IxR X (rIx X.K) := ix_list.or (ix_tup.or ix_str)

/-! ### xs[i] = v, any sign -/
/-- the list's object behind a store -/
theorem mapSeq_set (its : List Value) (n j : Nat) (u : Value) : Obj.mapSeq (·.setIfInBounds j u) { cls := .type "list", data := .seq its.toArray n } = { cls := .type "list", data := .seq (its.set j u).toArray n } := by
  simp [Obj.mapSeq]
theorem Inv.lst {pins : List (Addr × Obj)} {σ : St} {H : Hp} {s : Shared} {p : Addr} {xs : List V} (I : Inv X pins σ H s) (h : H p = some (.lst xs)) :
    ∃ (its : List Value) (n : Nat), Vals xs its ∧ s.heap.get? p = some { cls := .type "list", data := .seq its.toArray n } ∧ xs.length ≤ sizeLine := by
  obtain ⟨z, its, n, r, e⟩ := I.hok p _ h
  exact ⟨its, n, r, e, z⟩
/-- the list at p is written by an update of its object -/
theorem Inv.lstUpd {pins : List (Addr × Obj)} {σ : St} {H : Hp} {s : Shared} {p : Addr} {xs ys : List V} {its its' : List Value} {n n' : Nat} {f : Obj → Obj} (I : Inv X pins σ H s) (h : H p = some (.lst xs))
    (ho : s.heap.get? p = some { cls := .type "list", data := .seq its.toArray n }) (hf : f { cls := .type "list", data := .seq its.toArray n } = { cls := .type "list", data := .seq its'.toArray n' }) (r : Vals ys its') (hz : ys.length ≤ sizeLine) (t : Nat) :
    Inv X pins σ (upd H p (.lst ys)) { s with heap := s.heap.update p f, toks := t } := by
  have e : (s.heap.update p f).get? p = some { cls := .type "list", data := .seq its'.toArray n' } := by
    rw [Heap.get?_update_self f ho (by rw [hf] <;> rfl), hf]
  refine I.write (x := p) (e := p) (by rw [h]; trivial) (.inl rfl) (fun b u hb q => (Heap.get?_update_other _ _ (Ne.symm hb)).trans q) ⟨_, e⟩ ?_
  exact ⟨hz, its', n', r, e⟩
def rSetL : V → V → V → Hp → (Hp → Prop) → Prop := fun o i v H Q => ∃ p xs k j, o = .ref p ∧ i = .int k ∧ H p = some (.lst xs) ∧ ixN xs.length k = some j ∧ Q (upd H p (.lst (xs.set j v)))
theorem set_list : PSet X rSetL := by
  intro pins s σ H o i v ov iv u Q I ro ri rv h
  obtain ⟨p, xs, k, j, rfl, rfl, hp, hj, q⟩ := h
  cases ro
  obtain ⟨t, rfl⟩ := ri
  obtain ⟨its, n, r, ho, hz⟩ := I.lst hp
  obtain ⟨h1, h2, h3, h4⟩ := ixN_seq hj
  have hl := r.length
  have hn := line63
  have I' : Inv X pins σ (upd H p (.lst (xs.set j v))) { s with heap := s.heap.update p (Obj.mapSeq (·.setIfInBounds j u)) } :=
    I.lstUpd hp ho (mapSeq_set its n j u) (r.set rv j) (by rw [List.length_set]; exact hz) s.toks
  by_cases h0 : 0 ≤ k
  · have hk : k.toNat = j := by
      rw [seqIndex_of h0 h4] at h1
      exact Option.some.inj h1
    exact PySem.W.ki_setAt ho h0 (by omega) (by rw [List.size_toArray, ← hl]; exact h4) (by rw [hk]; exact ⟨_, I', q⟩)
  · have hk : (k + (its.toArray.size : Int)).toNat = j := by
      rw [seqIndex_neg (by omega) h3] at h1
      rw [List.size_toArray, ← hl]
      exact Option.some.inj h1
    exact PySem.W.ki_setBack ho (by omega) (by rw [List.size_toArray, ← hl]; exact h3) (by omega) (by rw [hk]; exact ⟨_, I', q⟩)

/-! ### slices -/
theorem slice_bounds (lo hi : Option Int) (n : Nat) : (sliceBounds lo hi none n).1 = ((HT.sIx n 0 lo : Nat) : Int) ∧ (sliceBounds lo hi none n).2.1 = ((HT.sIx n n hi : Nat) : Int) ∧ (sliceBounds lo hi none n).2.2 = 1 := by
  refine ⟨?_, ?_, rfl⟩
  · cases lo with
    | none => simp [sliceBounds, HT.sIx]
    | some i =>
      simp only [sliceBounds, HT.sIx, Option.getD_none, show (1 : Int) > 0 by decide, if_true]
      by_cases h : i < 0
      · simp only [h, if_true] <;> omega
      · simp only [h, if_false] <;> omega
  · cases hi with
    | none => simp [sliceBounds, HT.sIx]
    | some i =>
      simp only [sliceBounds, HT.sIx, Option.getD_none, show (1 : Int) > 0 by decide, if_true]
      by_cases h : i < 0
      · simp only [h, if_true] <;> omega
      · simp only [h, if_false] <;> omega
theorem slicePick_cut (its : List Value) (lo hi : Option Int) : slicePick its.toArray lo hi none = ((its.drop (HT.sIx its.length 0 lo)).take (HT.sIx its.length its.length hi - HT.sIx its.length 0 lo)).toArray := by
  obtain ⟨h1, h2, h3⟩ := slice_bounds lo hi its.toArray.size
  unfold slicePick
  rw [h1, h2, h3]
  simp only [sliceRange_one, pick_run, List.size_toArray] <;> rfl
/-- xs[lo:hi] of a list: a new list -/
def rSlL (K : PySem.W.Frag) : V → Option Int → Option Int → Hp → VK → Prop := fun x lo hi H Q => ∃ a xs, x = .ref a ∧ SqL K H a xs ∧ ∀ p, H p = none → Q (.ref p) (upd H p (.lst (cutV xs lo hi)))
theorem sl_list : SlR X (rSlL X.K) := by
  intro pins s σ H x v vl vu lo hi sl Q I rx hs pl pu h
  obtain ⟨a, xs, rfl, hx, q⟩ := h
  cases rx
  obtain ⟨its, r, ht, hz⟩ := I.list hx
  have hlen := r.length
  refine ⟨"list", _, slot_list_getitem.lookup, ht.isList.typeIs, ?_⟩
  refine wpAny_getItem_list_slice ht.isList hs pl pu .none (by simp) ?_ (by rw [List.size_toArray] <;> omega)
  rw [slicePick_cut, ← hlen]
  refine ⟨.ref s.heap.objs.size, _, I.laid (t' := s.toks) (o := .lst (cutV xs lo hi)) (fun b ob q => Heap.get?_push_of_some _ q) (Nat.le_refl _) ?_, rfl, q _ (I.hok.fresh (Nat.le_refl _))⟩
  exact ⟨Nat.le_trans (cutV_length xs lo hi) hz, _, 0, (r.drop (HT.sIx xs.length 0 lo)).take (HT.sIx xs.length xs.length hi - HT.sIx xs.length 0 lo), Heap.get?_push_size _ rfl⟩

/-! ### in, not in: flat items -/
def flatV : V → Bool
  | .non => true
  | .bl _ => true
  | .int _ => true
  | .str _ => true
  | _ => false
/-- == of flat values -/
def eqV : V → V → Bool
  | .non, .non => true
  | .bl a, .bl b => a == b
  | .bl a, .int b => (if a then 1 else 0) == b
  | .int a, .bl b => a == (if b then 1 else 0)
  | .int a, .int b => a == b
  | .str a, .str b => a == b
  | _, _ => false
/-- the items' answers, read off the values (a value's own answer does not lean on its token) -/
def eqU (x : V) (u : Value) : Bool := match u with
  | .none => eqV .non x
  | .bool b => eqV (.bl b) x
  | .int i _ => eqV (.int i) x
  | .str z _ => eqV (.str z) x
  | _ => false
def inV (x : V) (xs : List V) : Bool := xs.any fun y => eqV y x
/-- x in a list or tuple of flat items -/
def rIn (K : PySem.W.Frag) (neg : Bool) : R2 := fun x y H Q => ∃ p xs, y = .ref p ∧ (SqL K H p xs ∨ SqT K H p xs) ∧ flatV x = true ∧ xs.all flatV = true ∧ Q (.bl (if neg then !inV x xs else inV x xs)) H

/-! ### len, list(x), tuple(x) of any list or tuple that is read -/
theorem call_len_seq : CallR X (.builtin "len") (fun xs H Q => ∃ p ys, xs = [.ref p] ∧ (SqL X.K H p ys ∨ SqT X.K H p ys) ∧ Q (.int ys.length) H) := by
  intro pins s σ H xs us Q I r h
  obtain ⟨p, ys, rfl, hq, q⟩ := h
  obtain ⟨u, rfl, rx⟩ := vals1 r
  cases rx
  have hn := line63
  rcases hq with hq | hq
  · obtain ⟨its, r', pl, hz⟩ := I.list hq
    have hlen := r'.length
    exact Calls.call_len_list pl.isList (by simp only [List.size_toArray] <;> omega) ⟨.int ys.length, H, I.tok _, ⟨s.toks + 1, by rw [List.size_toArray, hlen]⟩, q⟩
  · obtain ⟨its, r', pl, hz⟩ := I.tuple hq
    have hlen := r'.length
    exact len_tuple pl (by simp only [List.size_toArray] <;> omega) ⟨.int ys.length, H, I.tok _, ⟨s.toks + 1, by rw [List.size_toArray, hlen]⟩, q⟩
theorem CallR.or {f : Value} {r r' : List V → Hp → VK → Prop} (h : CallR X f r) (h' : CallR X f r') : CallR X f (fun xs H Q => r xs H Q ∨ r' xs H Q) := by
  intro pins s σ H xs us Q I rs q
  rcases q with q | q
  · exact h pins s σ H xs us Q I rs q
  · exact h' pins s σ H xs us Q I rs q
theorem call_list_of : CallR X (.type "list") (fun xs H Q => ∃ p ys, xs = [.ref p] ∧ (SqL X.K H p ys ∨ SqT X.K H p ys) ∧ ∀ l, H l = none → Q (.ref l) (upd H l (.lst ys))) := by
  intro pins s σ H xs us Q I r h
  obtain ⟨p, ys, rfl, hq, q⟩ := h
  obtain ⟨u, rfl, rx⟩ := vals1 r
  cases rx
  have fin : ∀ (its : List Value), Vals ys its → ys.length ≤ sizeLine → ∀ (h' : Heap) (c' : Nat), (∀ b o', s.heap.get? b = some o' → h'.get? b = some o') →
      h'.get? s.heap.objs.size = some { cls := .type "list", dict := none, data := .seq its.toArray c', slots := #[] } → EP X pins σ Q (.ref s.heap.objs.size) { s with heap := h' } := fun its r' hz h' c' kp e =>
    ⟨.ref s.heap.objs.size, _, I.laid (t' := s.toks) kp (Nat.le_refl _) (show ObjOk X.prog X.w _ h' _ (.lst ys) from ⟨hz, its, c', r', e⟩), rfl, q _ (I.hok.fresh (Nat.le_refl _))⟩
  rcases hq with hq | hq
  · obtain ⟨its, r', pl, hz⟩ := I.list hq
    have hlen := r'.length
    obtain ⟨o, ho, hc, n, hd⟩ := pl.isList
    exact call_list_seq p (.inl rfl) ho hc hd (fun h' c' kp e => fin its r' hz h' c' kp e) (by simp only [List.size_toArray] <;> omega)
  · obtain ⟨its, r', pl, hz⟩ := I.tuple hq
    have hlen := r'.length
    obtain ⟨o, ho, hc, n, hd⟩ := pl
    exact call_list_seq p (.inr rfl) ho hc hd (fun h' c' kp e => fin its r' hz h' c' kp e) (by simp only [List.size_toArray] <;> omega)
theorem call_tuple_of : CallR X (.type "tuple") (fun xs H Q => ∃ p ys, xs = [.ref p] ∧ ((SqL X.K H p ys ∧ ∀ l, H l = none → Q (.ref l) (upd H l (.tup ys))) ∨ (SqT X.K H p ys ∧ Q (.ref p) H))) := by
  intro pins s σ H xs us Q I r h
  obtain ⟨p, ys, rfl, h⟩ := h
  obtain ⟨u, rfl, rx⟩ := vals1 r
  cases rx
  rcases h with ⟨hq, q⟩ | ⟨hq, q⟩
  · obtain ⟨its, r', pl, hz⟩ := I.list hq
    have hlen := r'.length
    refine call_tuple_list pl.isList (fun h' kp => ?_) (by simp only [List.size_toArray] <;> omega)
    have I1 : Inv X pins σ H { s with heap := h' } := I.kept (t' := s.toks) kp
    have I2 : Inv X pins σ (upd H h'.objs.size (.tup ys)) { s with heap := h'.push { cls := .type "tuple", data := .seq its.toArray } } :=
      I1.laid (t' := s.toks) (fun b o e => Heap.get?_push_of_some _ e) (Nat.le_refl _) (show ObjOk X.prog X.w _ _ _ (.tup ys) from ⟨hz, its, r', IsTup.new _ _⟩)
    exact ⟨.ref h'.objs.size, _, I2, rfl, q _ (I1.hok.fresh (Nat.le_refl _))⟩
  · obtain ⟨its, r', pl, hz⟩ := I.tuple hq
    exact call_tuple_same pl ⟨.ref p, H, I, rfl, q⟩

/-! ### the call of a builtin's method: o.m(..) -/
/-- the value is of that builtin type -/
def tyV (K : PySem.W.Frag) (T : String) (x : V) (H : Hp) : Prop := match x with
  | .str _ => T = "str"
  | .int _ => T = "int"
  | .ref p => (T = "list" ∧ ∃ xs, SqL K H p xs) ∨ (T = "tuple" ∧ ∃ o, K.lookup p = some o ∧ o.cls = .type "tuple" ∧ o.dict = none) ∨
      (T = "dict" ∧ ((∃ kvs, H p = some (.dK kvs)) ∨ ∃ kvs, H p = some (.dT kvs))) ∨ (T = "set" ∧ ∃ S n, H p = some (.set S n))
  | _ => False
theorem tyV_is {pins : List (Addr × Obj)} {σ : St} {H : Hp} {s : Shared} {T : String} {x : V} {v : Value} (I : Inv X pins σ H s) (r : RelV x v) (ty : tyV X.K T x H) :
    s.TypeIs v T ∧ ∀ a, v = .ref a → ∃ ob, s.heap.get? a = some ob ∧ ob.dict = none := by
  cases x with
  | str z =>
    obtain ⟨t, rfl⟩ := r
    cases (show T = "str" from ty)
    exact ⟨typeIs_str s z t, fun _ e => nomatch e⟩
  | int i =>
    obtain ⟨t, rfl⟩ := r
    cases (show T = "int" from ty)
    exact ⟨typeIs_int s i t, fun _ e => nomatch e⟩
  | ref p =>
    cases r
    rcases ty with ⟨rfl, xs, hq⟩ | ⟨rfl, o, hk, hc, hd⟩ | ⟨rfl, hk⟩ | ⟨rfl, S, n, hk⟩
    · obtain ⟨its, _, pl, _⟩ := I.list hq
      refine ⟨pl.isList.typeIs, fun a e => ?_⟩
      cases e
      obtain ⟨o, n, e, c, hd, _⟩ := pl
      exact ⟨o, e, hd⟩
    · refine ⟨⟨o, I.kIn p o hk, hc⟩, fun a e => ?_⟩
      cases e
      exact ⟨o, I.kIn _ o hk, hd⟩
    · have z : ∃ o, s.heap.get? p = some o ∧ o.ExactDict := by
        rcases hk with ⟨kvs, hk⟩ | ⟨kvs, hk⟩
        · obtain ⟨_, _, _, _, o, _, _, e, ex, _⟩ := I.hok p _ hk
          exact ⟨o, e, ex⟩
        · obtain ⟨_, _, _, _, o, _, _, e, ex, _⟩ := I.hok p _ hk
          exact ⟨o, e, ex⟩
      obtain ⟨o, e, ex⟩ := z
      refine ⟨⟨o, e, ex.1⟩, fun a e2 => ?_⟩
      cases e2
      exact ⟨o, e, ex.2.1⟩
    · obtain ⟨o, _, _, _, e, ex, _⟩ := I.hok p _ hk
      refine ⟨⟨o, e, ex.1⟩, fun a e2 => ?_⟩
      cases e2
      exact ⟨o, e, ex.2.1⟩
  | _ => exact False.elim ty
def tBM0 (K : PySem.W.Frag) (T : String) (r : V → List V → Hp → VK → Prop) (to : TE) : TE := fun σ H Q => to σ H fun x H1 => tyV K T x H1 ∧ r x [] H1 Q
def tBM (K : PySem.W.Frag) (T : String) (r : V → List V → Hp → VK → Prop) (to : TE) (t : TA) : TE := fun σ H Q => to σ H fun x H1 => tyV K T x H1 ∧ t σ H1 fun xs H2 => r x xs H2 Q
variable {o e : Expr} {es : List Expr} {to : TE} {t : TA} {name : Str} {apos cpos : Pos} {T id : String} {r : V → List V → Hp → VK → Prop}
theorem pe_bm0 (pa : PlainAttrs T) (slot : Slot T name id) (hty : typeOf (.builtin id) = pure (.type "method_descriptor")) (hm : MtR X id r) (ho : PE X o to)
    (hbase : attributeBase o name X.env (eval o X.env) = eval o X.env := by rfl) (hline : (apos.endLine == cpos.line) = true := by rfl) : PE X (.Call (.Attribute o name apos) [] [] cpos) (tBM0 X.K T r to) := by
  intro pins s σ H Q I h
  refine wpAny_Call_method0_late hbase hline (thn (ho pins s σ H _ I h) fun v s1 ⟨x, H1, I1, r1, ty, q1⟩ => ?_)
  obtain ⟨h1, h2⟩ := tyV_is I1 r1 ty
  exact ⟨T, id, pa, slot, hty, h1, h2, Calls.callWith_builtin rfl (PySem.evalArgs_none (hm pins s1 σ H1 x [] v [] Q I1 r1 .nil q1))⟩
theorem pe_bm (pa : PlainAttrs T) (slot : Slot T name id) (hty : typeOf (.builtin id) = pure (.type "method_descriptor")) (hm : MtR X id r) (ho : PE X o to) (ha : PA X (e :: es) t)
    (hbase : attributeBase o name X.env (eval o X.env) = eval o X.env := by rfl)
    (hfew : ((backTo cpos (starEach (e :: es) X.env)).all (fun x => !x.1) && (backToKw cpos (keywordEach [] X.env)).all (fun x => x.1.isSome)
      && decide ((e :: es).length + ([] : List Keyword).length + (if ([] : List Keyword).isEmpty then 0 else 1) < 30)) = true := by rfl)
    (hline : (apos.endLine == cpos.line) = true := by rfl) (hs : starEach (e :: es) X.env = (false, eval e X.env) :: starEach es X.env := by rfl) (hplain : (backTo cpos (starEach es X.env)).any (·.1) = false := by rfl) :
    PE X (.Call (.Attribute o name apos) (e :: es) [] cpos) (tBM X.K T r to t) := by
  intro pins s σ H Q I h
  refine wpAny_Call_method_late hbase hfew hline rfl (thn (ho pins s σ H _ I h) fun v s1 ⟨x, H1, I1, r1, ty, q1⟩ => ?_)
  obtain ⟨h1, h2⟩ := tyV_is I1 r1 ty
  refine ⟨T, id, pa, slot, hty, h1, h2, ?_⟩
  have hA := ha cpos pins s1 σ H1 _ I1 q1
  rw [hs] at hA ⊢
  refine Calls.callWith_builtin (by show (false || (backTo cpos (starEach es X.env)).any (·.1)) = false; rw [hplain] <;> rfl) (Calls.evalArgs_plain ?_)
  exact thn hA fun us s2 ⟨vs, H2, I2, r2, q2⟩ => hm pins s2 σ H2 x vs v us Q I2 r1 r2 q2
/- xs.append(e), list.index on a module's tuple .. are MtR facts of 06m -/
end
end L2

namespace L2
open PySem PySem.Spec PyProof.Rows

def MtM (X : Cx) (id : String) (r : V → List V → Hp → VK → Prop) : Prop :=
  ∀ (pins : List (Addr × Obj)) (s : Shared) (σ : St) (H : Hp) (x : V) (xs : List V) (v : Value) (us : List Value) (Q : VK), Inv X pins σ H s → RelV x v → Vals xs us → r x xs H Q →
    wpAny (model X.prog X.w) X.A (call (.builtin id) (v :: us)) (EP X pins σ Q) X.xe s

/-! ### lists of values -/
theorem Vals.one : ∀ {x : V} {us : List Value}, Vals [x] us → ∃ u, us = [u] ∧ RelV x u
  | _, _, .cons r .nil => ⟨_, rfl, r⟩
theorem Vals.two : ∀ {x y : V} {us : List Value}, Vals [x, y] us → ∃ u v, us = [u, v] ∧ RelV x u ∧ RelV y v
  | _, _, _, .cons r (.cons q .nil) => ⟨_, _, rfl, r, q⟩
theorem Vals.zero : ∀ {us : List Value}, Vals [] us → us = []
  | _, .nil => rfl
theorem Vals.dropLast {xs : List V} {us : List Value} (h : Vals xs us) : Vals xs.dropLast us.dropLast := by
  induction h with
  | nil => exact .nil
  | cons r t ih =>
    cases t with
    | nil => exact .nil
    | cons q t' => exact .cons r ih
theorem Vals.eraseIdx : ∀ {xs : List V} {us : List Value} (i : Nat), Vals xs us → Vals (xs.eraseIdx i) (us.eraseIdx i)
  | _, _, _, .nil => .nil
  | _, _, 0, .cons _ t => t
  | _, _, i + 1, .cons r t => .cons r (Vals.eraseIdx i t)
theorem Vals.reverse {xs : List V} {us : List Value} (h : Vals xs us) : Vals xs.reverse us.reverse := by
  induction h with
  | nil => exact .nil
  | cons r t ih => rw [List.reverse_cons, List.reverse_cons]; exact Vals.append ih (.cons r .nil)
theorem len_erase {α : Type} : ∀ (l : List α) (i : Nat), (l.eraseIdx i).length ≤ l.length
  | [], _ => Nat.le_refl _
  | _ :: _, 0 => Nat.le_succ _
  | _ :: r, i + 1 => Nat.succ_le_succ (len_erase r i)

section
variable {X : Cx} {pins : List (Addr × Obj)} {σ : St} {H : Hp} {s : Shared} {l b : Addr} {xs ys zs : List V}

/-! ### the two steps: a tracked list is rewritten, a new list is laid -/
theorem Inv.lset {its its' : List Value} {n : Nat} {f : Array Value → Array Value} {t' : Nat} (I : Inv X pins σ H s) (hH : H l = some (.lst xs))
    (e : s.heap.get? l = some { cls := .type "list", data := .seq its.toArray n }) (hf : f its.toArray = its'.toArray) (hv : Vals ys its') (hz : ys.length ≤ sizeLine) :
    Inv X pins σ (upd H l (.lst ys)) { s with heap := s.heap.update l (Obj.mapSeq f), toks := t' } := by
  have q := PySem.IsL.update e f
  rw [hf] at q
  refine I.write (x := l) (e := l) (by rw [hH]; exact trivial) (.inl rfl) (fun b' u hb hu => (Heap.get?_update_other s.heap (Obj.mapSeq f) (Ne.symm hb)).trans hu) ⟨_, q⟩ ?_
  exact ⟨hz, its', _, hv, q⟩
theorem Inv.lnew {its : List Value} {t' : Nat} (I : Inv X pins σ H s) (hv : Vals ys its) (hz : ys.length ≤ sizeLine) :
    Inv X pins σ (upd H s.heap.objs.size (.lst ys)) { s with heap := s.heap.push { cls := .type "list", data := .seq its.toArray }, toks := t' } :=
  I.laid (fun _ _ q => Heap.get?_push_of_some _ q) (Nat.le_refl _) ⟨hz, its, 0, hv, Heap.get?_push_size _ rfl⟩
theorem Inv.fresh (I : Inv X pins σ H s) : H s.heap.objs.size = none := I.hok.fresh (Nat.le_refl _)
theorem Inv.lstM (I : Inv X pins σ H s) (hH : H l = some (.lst xs)) : xs.length ≤ sizeLine ∧ ∃ (its : List Value) (n : Nat), Vals xs its ∧ xs.length = its.length ∧ s.heap.get? l = some { cls := .type "list", data := .seq its.toArray n } := by
  obtain ⟨z, its, n, r, e⟩ := I.hok l _ hH
  exact ⟨z, its, n, r, r.length, e⟩

end

section
variable {X : Cx}

/-! ### methods -/
def rAppend : V → List V → Hp → VK → Prop := fun x vs H Q => ∃ l xs y, x = .ref l ∧ vs = [y] ∧ H l = some (.lst xs) ∧ xs.length < sizeLine ∧ Q .non (upd H l (.lst (xs ++ [y])))
theorem mt_append : MtM X "list.append" rAppend := by
  intro pins s σ H x vs v us Q I rx rv h
  obtain ⟨l, xs, y, rfl, rfl, hH, hz, q⟩ := h
  cases rx
  obtain ⟨u, rfl, ru⟩ := rv.one
  obtain ⟨z, its, n, r, hl, e⟩ := I.lstM hH
  refine call_meets F.slot_list_append ⟨_, e, rfl⟩ F.entry_list_append (F.args_list_append_2 _ _) (PySem.list_append l its.toArray n u (by rw [List.size_toArray]; omega)) ⟨e, ?_⟩
  refine ⟨.non, _, I.lset (its' := its ++ [u]) hH e (by simp) (r.append (.cons ru .nil)) ?_, rfl, q⟩
  rw [List.length_append, List.length_singleton]
  omega

def rExtend : V → List V → Hp → VK → Prop := fun x vs H Q => ∃ l b xs zs, x = .ref l ∧ vs = [.ref b] ∧ H l = some (.lst xs) ∧ H b = some (.lst zs) ∧ xs.length + zs.length ≤ sizeLine ∧ Q .non (upd H l (.lst (xs ++ zs)))

def rPop : V → List V → Hp → VK → Prop := fun x vs H Q => ∃ l xs y, x = .ref l ∧ vs = [] ∧ H l = some (.lst xs) ∧ xs[xs.length - 1]? = some y ∧ Q y (upd H l (.lst xs.dropLast))

def rPopAt : V → List V → Hp → VK → Prop := fun x vs H Q => ∃ l xs i k y, x = .ref l ∧ vs = [.int i] ∧ H l = some (.lst xs) ∧ -(2 ^ 63) ≤ i ∧ i < 2 ^ 63 ∧ seqIndex? i xs.length = some k ∧ xs[k]? = some y ∧ Q y (upd H l (.lst (xs.eraseIdx k)))
theorem mt_popAt : MtM X "list.pop" rPopAt := by
  intro pins s σ H x vs v us Q I rx rv h
  obtain ⟨l, xs, i, k, y, rfl, rfl, hH, h1, h2, hk, hy, q⟩ := h
  cases rx
  obtain ⟨u, rfl, ru⟩ := rv.one
  obtain ⟨t, rfl⟩ := ru
  obtain ⟨z, its, n, r, hl, e⟩ := I.lstM hH
  obtain ⟨w, hw, rw'⟩ := r.get hy
  refine call_meets F.slot_list_pop ⟨_, e, rfl⟩ F.entry_list_pop (F.args_list_pop_2 _ _)
    (MeetsSeq.list_pop_at l its.toArray n i t k w (fitsIndex_both h1 h2) (by rw [List.size_toArray, ← hl]; exact hk) (by rw [← Array.getElem?_toList]; exact hw) (by rw [List.size_toArray]; omega)) ⟨e, ?_⟩
  refine ⟨y, _, I.lset (its' := its.eraseIdx k) hH e ?_ (r.eraseIdx k) ?_, rw', q⟩
  · show its.toArray.eraseIdxIfInBounds k = (its.eraseIdx k).toArray
    rw [List.eraseIdxIfInBounds_toArray]
  · have := len_erase xs k
    omega

def rReverse : V → List V → Hp → VK → Prop := fun x vs H Q => ∃ l xs, x = .ref l ∧ vs = [] ∧ H l = some (.lst xs) ∧ Q .non (upd H l (.lst xs.reverse))

def rClear : V → List V → Hp → VK → Prop := fun x vs H Q => ∃ l xs, x = .ref l ∧ vs = [] ∧ H l = some (.lst xs) ∧ Q .non (upd H l (.lst []))
theorem mt_clear : MtM X "list.clear" rClear := by
  intro pins s σ H x vs v us Q I rx rv h
  obtain ⟨l, xs, rfl, rfl, hH, q⟩ := h
  cases rx
  have hus := rv.zero
  subst hus
  obtain ⟨z, its, n, r, hl, e⟩ := I.lstM hH
  refine call_meets F.slot_list_clear ⟨_, e, rfl⟩ F.entry_list_clear (F.args_list_clear_1 _) (AutoSeq1.list_clear_list_0 l its.toArray n (by rw [List.size_toArray]; omega)) ⟨e, ?_⟩
  exact ⟨.non, _, I.lset (its' := []) (ys := []) hH e rfl .nil (Nat.zero_le _), rfl, q⟩

/-! ### list + list, list += list, list * int -/
def rCat : R2 := fun x y H Q => ∃ l b xs zs, x = .ref l ∧ y = .ref b ∧ H l = some (.lst xs) ∧ H b = some (.lst zs) ∧ xs.length + zs.length ≤ sizeLine ∧ ∀ p, H p = none → Q (.ref p) (upd H p (.lst (xs ++ zs)))
theorem op_cat : OpR X (binaryOp .Add) rCat := by
  intro pins s σ H x y v u Q I rx ry h
  obtain ⟨l, b, xs, zs, rfl, rfl, hH, hB, hz, q⟩ := h
  cases rx
  cases ry
  obtain ⟨z, its, n, r, hl, e⟩ := I.lstM hH
  obtain ⟨z2, its2, n2, r2, hl2, e2⟩ := I.lstM hB
  refine PySem.P.add_list e e2 ?_ (by rw [List.size_toArray, List.size_toArray]; omega)
  have ea : its.toArray ++ its2.toArray = (its ++ its2).toArray := by simp
  rw [ea]
  exact ⟨.ref _, _, I.lnew (t' := s.toks) (r.append r2) (by rw [List.length_append]; omega), rfl, q _ I.fresh⟩
/-- a list times an int (a negative one is nothing) -/
def rRep : R2 := fun x y H Q => ∃ l k xs, x = .ref l ∧ y = .int k ∧ H l = some (.lst xs) ∧ -(2 ^ 63) ≤ k ∧ k < 2 ^ 63 ∧ xs.length * k.toNat ≤ sizeLine ∧
  ∀ p, H p = none → Q (.ref p) (upd H p (.lst (List.replicate k.toNat xs).flatten))

/-! ### del xs[i] -/
end

/-! ### xs[a:b] = ys -/
section
variable {prog : Program} {w : World} {A : Around} {E : Value → Shared → Prop} {s : Shared}
end

section
variable {X : Cx}
end
end L2

namespace Att
open PySem PySem.W PySem.Calls PyProof.Rows

/-! ### the script -/
theorem ints_of_wellAll {P : Params} {h : Heap} : ∀ (ns : List Int) (vs : List Value), WellAll P h vs (ns.map WData.int) → IntsAre vs ns := by
  intro ns
  induction ns with
  | nil =>
    intro vs w
    rw [List.map_nil] at w
    cases w
    exact .nil
  | cons n ns ih =>
    intro vs w
    rw [List.map_cons] at w
    cases w with
    | cons a b =>
      cases a
      exact .cons _ _ (ih _ b)

theorem script_of {l : OpenLaw} {n : Nat} (hn : l.most = some n) {P : Params} {h : Heap} {args : List WData} {vals : List Value}
    (hpre : l.row.toRowW.claim.pre args = true) (hwl : WellAll P h vals args) :
    ∃ a vs ns, vals = [Value.ref a] ∧ args = [WData.list (ns.map WData.int)] ∧ h.get? a = some { cls := .type "list", data := .seq vs.toArray } ∧ IntsAre vs ns ∧ ns.length ≤ n := by
  have hsh : WShape.hasAll [] args [.list .int] = true := (pre_splitW hpre).1
  have hc : l.pre.holds [] { args := args } = true := (pre_splitW hpre).2
  obtain ⟨d, r, rfl, h1, h2⟩ := hasAllW_cons hsh
  obtain rfl := hasAllW_nil h2
  obtain ⟨xs, rfl, h3⟩ := hasW_list h1
  obtain ⟨ns, rfl⟩ := items_int h3
  have hlen : ns.length ≤ n := by
    unfold OpenLaw.pre at hc
    have h4 : (WTm.not (.lt (.lit (.int (n : Int))) (.len (.arg 0)))).holds [] { args := [.list (ns.map .int)] } = true := by
      have h4 := (holds_andW hc).1
      rw [hn] at h4
      exact h4
    have h5 := condW_of h4 (w_not (w_lt w_lit (w_len_list (w_arg rfl))))
    rw [List.length_map] at h5
    refine Nat.le_of_not_lt fun q => ?_
    have q' : (n : Int) < ((ns.length : Nat) : Int) := by omega
    first
      | (rw [decide_eq_true q'] at h5; exact absurd h5 (by decide))
      | (simp at h5; omega)
  cases hwl with
  | cons w1 w2 =>
    cases w2
    cases w1 with
    | list ho hall => exact ⟨_, _, ns, rfl, rfl, ho, ints_of_wellAll ns _ hall, hlen⟩

theorem post_true (l : OpenLaw) (args : List WData) : l.row.toRowW.claim.post args (.bool true) args = true :=
  postW_of (r := l.row.toRowW) (X := (true == true))
    (show WShape.has [] (.bool true) .bool = true by first | rfl | decide | simp [WShape.has, WShape.arms, WShape.armsAll])
    (show (WTm.eq .res (.lit (.bool true))).value [] { args := args, res := some (.bool true), after := args } = some (.bool (true == true)) from w_eq_bool (w_res rfl) w_lit) rfl

/-! ### the attachment: holds_open's last premise (the goal 'hc' behind k_head) from a wpAny of the law's body -/

/-- the same from a codeAny of the CALL (for a layer whose function contracts speak of calls) -/
theorem attach_call {l : OpenLaw} {n : Nat} {q : Program} {loose : List Str} {XP : (Str → Option Value) → Heap → Prop} {YP : World → Heap → Prop} {d : DefRec}
    (hn : l.most = some n) (hdf : d.params.defaults = [])
    (call : ∀ (w : World) (s₀ s₁ : Shared) (mg mb : Str → Option Value) (fa : Addr) (o : Obj) (pm cd doc : Value) (a : Addr) (vs : List Value) (ns : List Int),
      Ground q loose [] XP w s₀ mg mb s₁.heap → YP w s₁.heap →
      s₁.heap.get? fa = some o → o.data = .func (docDef d.name d.params d.body d.scope pm cd doc) → s₁.heap.CodeRec cd d.name → mg d.name = some (.ref fa) →
      s₁.heap.get? a = some { cls := .type "list", data := .seq vs.toArray } → IntsAre vs ns → ns.length ≤ n → s₁.gens = #[] →
      codeAny (model l.prog w) callerA (.call (.ref fa) ⟨[.ref a], []⟩) (fun r s' => r = .ok (.ret (.bool true)) ∧ OldK s₁.heap s'.heap ∧ s'.os = s₁.os ∧ AllBare s'.gens) s₁) :
    WalkO q loose XP YP l.row.toRowW d [] (fun f vs => PySem.call f vs) := by
  intro w s₀ s₁ mg mb G Y fa o pm cd doc dV kV ho hd hcd hD hmg hg args vals as hpre hlay hrd hwl hlo
  obtain rfl : dV = .none := Dflts.none hD hdf
  obtain rfl : kV = .none := Dflts.noKw hD
  obtain ⟨a, vs, ns, rfl, rfl, hobj, hints, hlen⟩ := script_of hn hpre hwl
  refine enter_call (codeAny_mono (call w s₀ s₁ mg mb fa o pm cd doc a vs ns G Y ho (fd_plain hd) hcd hmg hobj hints hlen hg) fun r s' hq => ?_)
  obtain ⟨rfl, h2, h3, h4⟩ := hq
  exact ⟨.inl ⟨.bool true, .bool true, [], rfl, fun _ => rfl, .bool true, post_true l _, fun _ => ⟨List.Pairwise.nil, fun _ hm => (nomatch hm)⟩⟩, h2, h3, h4⟩


/-! ### rules over ANY heap (no ledger) from facts about the written part K: the library's own take a ledger (News) for what they write -/
section
variable {prog : Program} {w : World} {A : Around} {E : Value → Shared → Prop} {s : Shared} {K : Frag}





/-! the whole heap as the ledger: makes every rule that writes through a ledger a rule over any heap -/
def noObjs (h : Heap) : Heap := { h with objs := #[] }
def ledger (h : Heap) (L d : Addr) : List (Addr × Obj) := (List.range h.objs.size).filterMap fun a => if a = L ∨ a = d then none else (h.get? a).map fun o => (a, o)

end
end Att

namespace L2
open PySem PySem.Spec PyProof.Rows

theorem vals_ints : ∀ {vs : List Value} {ns : List Int}, IntsAre vs ns → Vals (ns.map V.int) vs
  | _, _, .nil => .nil
  | _, _, .cons n t h => .cons ⟨t, rfl⟩ (vals_ints h)

/-- nothing is tracked but the script, known to the object (or it is an object of the module) -/
def Only (H : Hp) : Prop := ∀ b, H b = none ∨ ∃ o xs, H b = some (.frz o (.lst xs))

/-- THE HEAD: the law's promise, at the heap behind the top. F, the promise of the law's def, may use that base is part of the heap (so K.In base, base.Ns mainGlobals mg stand in Mod) -/
theorem law_call {P : Program} {w : World} {K : PySem.W.Frag} {mg mb : Str → Option Value} {CX : CXT} {k : Nat} {fa a : Addr} {fd : FuncData} {x : Str} {sp : Sp} {s₁ : Shared} {vs : List Value} {ns : List Int}
    (KX : K.In s₁.heap) (hns : s₁.heap.Ns mainGlobals mg) (hb : s₁.heap.Ns builtinsNs mb) (hbb : ∀ x : Str, x ≠ "__name__" → mb x = bootBuiltins x) (hlim : s₁.heap.NoLimit) (hg : s₁.gens = #[])
    (ha : s₁.heap.get? a = some { cls := .type "list", data := .seq vs.toArray }) (hi : IntsAre vs ns) (hl : ns.length ≤ sizeLine) (hr : Room k callerA)
    (F : ∀ base : Heap, K.In base → base.Ns mainGlobals mg → FnOk P w K mg base CX k fa fd [x] sp) (hbind : ∀ (s : Shared) (u : Value), BindsTo s fd ⟨[u], []⟩ [(x, u)])
    (hsp : ∀ H : Hp, Only H → SqL K H a (ns.map V.int) → sp [.ref a] H (fun v _ => v = .bl true) fun _ _ _ => False)
    (hCX : ∀ H e s', CX [] H s₁ (fun _ _ _ => False) e s' → False) :
    codeAny (model P w) callerA (.call (.ref fa) ⟨[.ref a], []⟩) (fun r s' => r = .ok (.ret (.bool true)) ∧ OldK s₁.heap s'.heap ∧ s'.os = s₁.os ∧ AllBare s'.gens) s₁ := by
  have rv := vals_ints hi
  have lenV := hi.length
  -- from an abstract heap in which nothing but the script may be tracked
  have core : ∀ H : Hp, Only H → SqL K H a (ns.map V.int) → HOk P w H s₁.heap → (∀ b, H b ≠ none → b = a) → (H a ≠ none → K.lookup a = none) →
      codeAny (model P w) callerA (.call (.ref fa) ⟨[.ref a], []⟩) (fun r s' => r = .ok (.ret (.bool true)) ∧ OldK s₁.heap s'.heap ∧ s'.os = s₁.os ∧ AllBare s'.gens) s₁ := by
    intro H hO hS hok hA hK
    have base_of : ∀ {b : Addr} {o : Obj}, s₁.heap.get? b = some o → H b = none → (hidT s₁.heap H).get? b = some o := fun e n => hidT_get e n
    have noA : ∀ {b : Addr} {o : Obj} {es : Array DictEntry} {ep : Nat}, s₁.heap.get? b = some o → o.data = .dict es ep → H b = none := fun {b o es ep} e d => by
      cases q : H b with
      | none => rfl
      | some u =>
        have e' : b = a := hA b (by rw [q]; simp)
        subst e'
        rw [ha] at e; cases e
        have d' : Data.seq vs.toArray _ = Data.dict es ep := d
        cases d'
    have nsK : ∀ {b : Addr} {m : Str → Option Value}, s₁.heap.Ns b m → (hidT s₁.heap H).Ns b m := fun {b m} ⟨o, es, ep, e, d, r⟩ => ⟨o, es, ep, base_of e (noA e d), d, r⟩
    have hKb : K.In (hidT s₁.heap H) := fun b o e => base_of (KX b o e) (by
      cases q : H b with
      | none => rfl
      | some u =>
        have e' : b = a := hA b (by rw [q]; simp)
        subst e'
        rw [hK (by rw [q]; simp)] at e; cases e)
    have hM : Mod K mg (hidT s₁.heap H) := ⟨hKb, nsK hns, ⟨mb, nsK hb, hbb⟩, let ⟨mc, h1, h2⟩ := hlim; ⟨mc, nsK h1, h2⟩⟩
    have e0 : Env0 P w K mg (hidT s₁.heap H) callerA [] s₁ H := ⟨rfl, hM, fun b o e => of_hidT e, Nat.le_of_eq (hidT_size _ _), trivial, fun b hb => absurd (show b ∈ ([] : List Addr) from hb) (by simp), hok, .of_eq hg⟩
    refine codeAny_mono ((F _ hKb (nsK hns)).run callerA [] s₁ H ⟨[.ref a], []⟩ [.ref a] [.ref a] _ _ hr e0 (hbind s₁ (.ref a)) (.cons rfl .nil) (hsp H hO hS)) fun r s' h => ?_
    cases r with
    | error e => exact (hCX H e s' h).elim
    | ok fl =>
      cases fl with
      | next => exact False.elim h
      | brk => exact False.elim h
      | cont => exact False.elim h
      | ret u =>
        obtain ⟨v, H', os, bare, un, hok', r', q⟩ := h
        have q' : v = .bl true := q
        subst q'
        obtain rfl : u = Value.bool true := r'
        refine ⟨rfl, OldK.of_keep fun b o e => ?_, os, bare⟩
        cases q : H b with
        | none => exact un.keep b o e q (by intro z; exact absurd (show b ∈ ([] : List Addr) from z) (by simp)) (by simp)
        | some u =>
          rcases hO b with z | ⟨ob, xs, z⟩
          · rw [q] at z; cases z
          · have z2 := un.frzs b ob _ z
            obtain ⟨e1, _⟩ := hok b _ z
            obtain ⟨e2, _⟩ := hok' b _ z2
            rw [e] at e1; cases e1
            exact e2
  cases hk : K.lookup a with
  | some o =>
    -- the script is one of the module's own objects
    have e := KX a o hk
    rw [ha] at e
    cases e
    refine core (fun _ => none) (fun _ => .inl rfl) (.inr ⟨_, vs.toArray, _, hk, rfl, rfl, rfl, by rw [List.size_toArray, lenV]; exact hl, by simpa using rv⟩) (fun b u z => by have z' : (none : Option HO) = some u := z; cases z') (fun b z => absurd rfl z) fun z => absurd rfl z
  | none =>
    refine core (fun b => if b = a then some (.frz { cls := .type "list", data := .seq vs.toArray } (.lst (ns.map V.int))) else none) (fun b => ?_) (.inl (.inr ⟨{ cls := .type "list", data := .seq vs.toArray }, if_pos rfl⟩)) (fun b u z => ?_) (fun b z => ?_) fun _ => hk
    · by_cases hb : b = a
      · exact .inr ⟨_, _, if_pos hb⟩
      · exact .inl (if_neg hb)
    · by_cases hb : b = a
      · have z' := (if_pos hb).symm.trans z
        cases z'
        subst hb
        exact ⟨ha, by rw [List.length_map]; exact hl, vs, _, rv, ha⟩
      · have z' := (if_neg hb).symm.trans z
        cases z'
    · by_cases hb : b = a
      · exact hb
      · exact absurd (if_neg hb) z
end L2

namespace L2
open PySem PySem.Spec PyProof.Rows

abbrev KOf {K : PySem.W.Frag} {h : Heap} (_ : K.In h) : PySem.W.Frag := K

/-- the goal that k_head leaves (case hc), from the law's promise. F gives the function object fd (K's own) once, then the promise over every base -/
theorem walk_of {l : PySem.W.OpenLaw} {n k : Nat} {q : Program} {loose : List Str} {XP : (Str → Option Value) → Heap → Prop} {YP : World → Heap → Prop} {d : DefRec} {K : Params → PySem.W.Frag} {CX : World → CXT} {sp : World → Sp} {x : Str}
    (hn : l.most = some n) (hn2 : n ≤ sizeLine) (hdf : d.params.defaults = []) (hr : Room k callerA)
    (hY : ∀ (w : World) (h : Heap), YP w h → (K w.params).In h)
    (F : ∀ (w : World) (mg : Str → Option Value) (fa : Addr) (h : Heap), (K w.params).In h → h.Ns mainGlobals mg → mg d.name = some (.ref fa) →
      ∃ fd : FuncData, (∀ (s : Shared) (u : Value), BindsTo s fd ⟨[u], []⟩ [(x, u)]) ∧
        ∀ base : Heap, (K w.params).In base → base.Ns mainGlobals mg → FnOk l.prog w (K w.params) mg base (CX w) k fa fd [x] (sp w))
    (hsp : ∀ (w : World) (H : Hp) (a : Addr) (ns : List Int), ns.length ≤ n → Only H → SqL (K w.params) H a (ns.map V.int) → sp w [.ref a] H (fun v _ => v = .bl true) fun _ _ _ => False)
    (hCX : ∀ (w : World) (H : Hp) (s : Shared) (e : Value) (s' : Shared), CX w [] H s (fun _ _ _ => False) e s' → False) :
    PySem.W.WalkO q loose XP YP l.row.toRowW d [] (fun f vs => PySem.call f vs) := by
  refine Att.attach_call hn hdf fun w s₀ s₁ mg mb fa o pm cd doc a vs ns G Y ho hd hcd hmg hobj hints hlen hg => ?_
  have KX := hY w _ Y
  obtain ⟨fd, hb, hF⟩ := F w mg fa _ KX G.T.g hmg
  exact law_call KX G.T.g G.T.b G.T.builtins G.T.nolimit hg hobj hints (Nat.le_trans hlen hn2) hr hF hb (fun H hO hS => hsp w H a ns hlen hO hS) fun H e s' => hCX w H s₁ e s'
end L2

/- THE LAST THEOREM (shape; LID, My.* are yours):
   My.Adr: a structure of the addresses that your layer names (classes, functions); My.Txt K t: a structure (Prop) of the equations over K;
   My.txt_mk : {K} {implicit addresses ..} (e1 : nsIn K mainGlobals "law" = some (some (.ref f))) (e2 : K.lookup f = some ⟨oc, od, .func (fnOf "law" "law" params body scope dV kV doc pm an cdv ct), sl⟩) (e3 : codeIn K cdv "law" = true) .. : ∃ t, My.Txt K t

set_option maxRecDepth 100000 in
set_option maxHeartbeats 0 in
theorem PySem.Challenge.cw_LID_holds : PySem.Challenge.rw_LID.Holds := by
  w_on; o_law; k_head; (case hw => w_witness2)
  k_fill
  refine L2.walk_of (l := PySem.Challenge.rw_LID) (n := 63) (k := 40) (x := "script") (CX := fun w => ..) (sp := fun _ => My.sp_law) rfl (by decide) rfl ⟨rfl, by decide, by decide⟩ (fun w h Y => PySem.W.kIn_of Y) ?F ?S ?C
  case F =>
    intro w mg fa h KX G hmg
    have T : ∃ t, My.Txt (L2.KOf KX) t := by
      dsimp only [L2.KOf]                          -- K must stand as «<heap const> w.params» for k_is
      refine' My.txt_mk ?e1 ?e2 ?e3 ..
      (case e1 => PySem.W.k_is)                    -- in the order: a name -> its address -> its object -> its parts
      (case e2 => PySem.W.k_is)
      ..
    obtain ⟨t, T⟩ := T
    have e0 := hmg.symm.trans (PySem.W.mg_of KX G T.law)
    cases e0                                       -- fa is the law's own address
    exact ⟨_, fun s u => .of_eq rfl, fun base kb nb => My.law_fn T kb nb⟩     -- if «.of_eq rfl» comes too early: refine' ⟨_, ?b, fun base kb nb => My.law_fn T kb nb⟩; exact fun s u => .of_eq rfl
  case S => exact fun w H a ns hl hO hS => ..
  case C => exact ..
(the tactic k_is has no namespace: write k_is) -/

/-! SHORT WORDS over the layer: a def of the text, its body, what a loop and a test want. -/
namespace L2
open PySem PySem.Spec PyProof.Rows

/-! ### the text by places -/
/-- the j-th statement of a class's body -/
def inClass (s : Stmt) (j : Nat) : Stmt := match s with
  | .ClassDef _ _ _ body _ _ _ _ _ _ _ => body.getD j (.Pass ⟨0, 0, 0, 0⟩)
  | _ => .Pass ⟨0, 0, 0, 0⟩
def defArgs (s : Stmt) : Arguments := match s with
  | .FunctionDef _ a _ _ _ _ _ _ _ _ => a
  | _ => { posonlyargs := [], args := [], vararg := none, kwonlyargs := [], kw_defaults := [], kwarg := none, defaults := [] }
def defBody (s : Stmt) : List Stmt := match s with
  | .FunctionDef _ _ b _ _ _ _ _ _ _ => b
  | _ => []
def defScope (s : Stmt) : Scope := match s with
  | .FunctionDef _ _ _ _ _ _ sc _ _ _ => sc
  | _ => { kind := .function, names := [], isGenerator := false, isCoroutine := false }

/-! ### no exception leaves a def -/
abbrev CX0 : CXT := fun _ _ _ _ _ _ => False
abbrev E0 : XK := fun _ _ _ => False
theorem pass0 {X : Cx} : Passes CX0 X E0 := fun _ _ _ _ _ _ _ h => h.elim

/-! ### a def (or method) of the text as it stands behind the top -/
structure Fun (K : PySem.W.Frag) (x qual : Str) (st : Stmt) (f : Addr) (fd : FuncData) : Prop where
  ex : ∃ (oc : Value) (od : Option Addr) (kV doc pm : Value) (an : Option Addr) (cdv ct : Value) (osl : Array (Option Value)),
    fd = PySem.W.fnOf x qual (defArgs st) (defBody st) (defScope st) .none kV doc pm an cdv ct ∧ K.lookup f = some ⟨oc, od, .func fd, osl⟩ ∧ PySem.W.codeIn K cdv qual = true
  kp : PySem.W.keepIn K (.ref f) = true
section
variable {P : Program} {w : World} {K : PySem.W.Frag} {mg : Str → Option Value} {base : Heap}
/-- THE RULE for a def: its body as a term of rules, and the reading of that term -/
theorem Fun.ok {x qual : Str} {st : Stmt} {f : Addr} {fd : FuncData} {N ps : List Str} {k : Nat} {sp : Sp} (F : Fun K x qual st f fd) (S : FnScope N ps (defScope st)) (len : ∀ vs H Q E, sp vs H Q E → vs.length = ps.length)
    (hbody : ∀ (cdv : Value) (A : Around) (outer : List Env) (s : Shared) (H : Hp) (vs : List V) (Q : VK) (E : XK), Room k (A.deeper (envOfC qual (defScope st) s.heap.objs.size f cdv)) → sp vs H Q E →
      ∃ t, PSs (cxOf CX0 P w K mg base N qual (defScope st) f cdv A outer s H E).nox (defBody st) t ∧ t { nx := fun _ H' => Q .non H', rt := Q } (start N vs) H) : FnOk P w K mg base CX0 (k + 1) f fd ps sp := by
  obtain ⟨oc, od, kV, doc, pm, an, cdv, ct, osl, rfl, lk, hcd⟩ := F.ex
  refine fn_of lk hcd S len fun A outer s H vs Q E hr hsp => ?_
  obtain ⟨t, h, q⟩ := hbody cdv A outer s H vs Q E hr hsp
  exact ⟨t, h.nox, q⟩
/-- how its arguments bind (no defaults): h is «fun _ _ _ _ _ _ us hl => match us, hl with | [_, _], _ => rfl», one _ a parameter -/
theorem Fun.binds {x qual : Str} {st : Stmt} {f : Addr} {fd : FuncData} {ps : List Str} (F : Fun K x qual st f fd)
    (h : ∀ (kV doc pm : Value) (an : Option Addr) (cdv ct : Value) (us : List Value), us.length = ps.length → bindArgs (PySem.W.fnOf x qual (defArgs st) (defBody st) (defScope st) .none kV doc pm an cdv ct) ⟨us, []⟩ = pure (ps.zip us)) : Binds K fd ps [] := by
  obtain ⟨oc, od, kV, doc, pm, an, cdv, ct, osl, rfl, lk, hcd⟩ := F.ex
  exact .all (h kV doc pm an cdv ct)
theorem fun_mk {x qual : Str} {st : Stmt} {f : Addr} {oc : Value} {od an : Option Addr} {osl : Array (Option Value)} {kV doc pm cdv ct : Value} (l : K.lookup f = some ⟨oc, od, .func (PySem.W.fnOf x qual (defArgs st) (defBody st) (defScope st) .none kV doc pm an cdv ct), osl⟩)
    (c : PySem.W.codeIn K cdv qual = true) (k : PySem.W.keepIn K (.ref f) = true) : Fun K x qual st f (PySem.W.fnOf x qual (defArgs st) (defBody st) (defScope st) .none kV doc pm an cdv ct) := ⟨⟨oc, od, kV, doc, pm, an, cdv, ct, osl, rfl, l, c⟩, k⟩
end
theorem small1000 {n : Nat} (h : n ≤ 1000) : n < sizeLine := Nat.lt_of_le_of_lt h (by decide)

/-! ### expressions in short: the name that stands in the i-th slot -/
section
variable {X : Cx}
theorem pv (i : Nat) {x : Str} {pos : Pos} (hN : X.N[i]? = some x := by rfl) (hv : Vis X.env.scope x := by first | exact Or.inl rfl | exact Or.inr (Or.inl rfl) | exact Or.inr (Or.inr rfl)) (hd : (x == ("__debug__" : Str)) = false := by decide)
    (hcd : (x == ("__classdict__" : Str)) = false := by decide) : PE X (.Name x pos) (tVar i) := pe_var hN hv hd hcd
end

/-! ### tests -/
theorem iteF {A B : Prop} (h : B) : if false = true then A else B := by
  rw [if_neg Bool.false_ne_true]
  exact h
theorem iteT {A B : Prop} (h : A) : if true = true then A else B := by
  rw [if_pos rfl]
  exact h
theorem iteNS {c A B : Prop} [Decidable c] (hc : c) (h : B) : if (!decide c) = true then A else B := by
  rw [decide_eq_true hc]
  exact iteF h

/-! ### heaps -/
/-- all that was tracked is as it was -/
def Same (H H' : Hp) : Prop := ∀ b o, H b = some o → H' b = some o
theorem Same.refl (H : Hp) : Same H H := fun _ _ h => h
theorem Same.trans {H H1 H2 : Hp} (a : Same H H1) (b : Same H1 H2) : Same H H2 := fun c o h => b c o (a c o h)
theorem Same.free {H H' : Hp} (e : Same H H') {l : Addr} (h : H' l = Option.none) : H l = Option.none := by
  cases q : H l with
  | none => rfl
  | some o =>
    rw [e l o q] at h
    cases h
theorem Same.seq {K : PySem.W.Frag} {H H' : Hp} {a : Addr} {xs : List V} (e : Same H H') (h : SqL K H a xs) : SqL K H' a xs := by
  rcases h with (h | ⟨o, h⟩) | h
  · exact .inl (.inl (e _ _ h))
  · exact .inl (.inr ⟨o, e _ _ h⟩)
  · exact .inr h

end L2

set_option Elab.async false
set_option linter.all false
set_option maxRecDepth 100000
namespace L2
open PySem PySem.Spec PyProof.Rows

/-! ### comprehensions -/
section
variable {P : Program} {w : World} {A : Around} {R : Result → Shared → Prop} {s : Shared}
/-- the loop of a comprehension, the step ahead of the store with it -/
theorem comp_loop {elt tgt iter : Expr} {ifs : List Expr} {scope : Scope} {pos : Pos} {it acc : Value} {env : Env} (J : Nat → Shared → Prop)
    (turn : ∀ n s, J n s → wpAny (model P w) A (pyNext it) (fun r c₁ => match r with
      | none => R (.ok .next) c₁
      | some v => wpAny (model P w) A (letOwnedTupleGo tgt it v) (fun _ d₁ => wpAny (model P w) A (assign tgt env v) (fun _ c₂ =>
          wpAny (model P w) A (forIn ifs true fun c r => if r = true then do let ok ← isTrue c env (eval c env); pure (ForInStep.yield ok) else pure (ForInStep.yield r)) (fun ok c₃ =>
            if ok = true then wpAny (model P w) A (eval elt env) (fun x c₄ =>
              wpAny (model P w) A (call (.builtin "list.append") [acc, x]) (fun _ c₅ => ∃ m, m < n ∧ J m c₅) (notedBy (model P w) A env fun e s' => R (.error e) s') c₄) (notedBy (model P w) A env fun e s' => R (.error e) s') c₃
            else ∃ m, m < n ∧ J m c₃) (notedBy (model P w) A env fun e s' => R (.error e) s') c₂) (notedBy (model P w) A env fun e s' => R (.error e) s') d₁) (notedBy (model P w) A env fun e s' => R (.error e) s') c₁) (notedBy (model P w) A env fun e s' => R (.error e) s') s)
    (n : Nat) (hn : J n s) :
    codeAny (model P w) A (.compLoop (.ListComp elt [⟨tgt, iter, ifs, 0⟩] scope pos) 0 it acc env) R s := by
  refine codeAny_loop rfl J (fun n s hJ => ?_) n hn
  show wpAny _ A ((compTurn (.ListComp elt [⟨tgt, iter, ifs, 0⟩] scope pos) 0 it acc env).onRaise (fun x => do noteFrame x env; theTreesLotGoes x)) _ _ s
  refine wpAny_noted ?_
  rw [compTurn_list]
  refine wpAny_bind (wpAny_standAt (wpAny_bind (wpAny_mono (turn n s hJ) (fun r c₁ e₁ => ?_) fun _ _ z => z)))
  cases r with
  | none => exact wpAny_pure e₁
  | some v =>
    refine wpAny_bind (wpAny_mono e₁ (fun _ d₁ f₁ => ?_) fun _ _ z => z)
    refine wpAny_bind (wpAny_mono f₁ (fun _ c₂ e₂ => wpAny_bind (wpAny_mono e₂ (fun ok c₃ e₃ => ?_) fun _ _ z => z)) fun _ _ z => z)
    cases ok with
    | false => exact wpAny_pure ⟨rfl, e₃⟩
    | true =>
      exact wpAny_bind (wpAny_bind (wpAny_mono e₃ (fun x c₄ e₄ => wpAny_bind (wpAny_mono e₄ (fun _ c₅ e₅ => wpAny_pure (wpAny_pure ⟨rfl, e₅⟩)) fun _ _ z => z)) fun _ _ z => z))
end

/-- the cells that a block is given -/
def cloF (env : Env) : List (Str × NameKind) → List (Str × Addr) → List (Str × Addr)
  | [], acc => acc
  | (n, k) :: r, acc => if k = .free then cloF env r ((n, (env.cells.lookup n).getD 0) :: acc) else cloF env r acc
theorem closure_go {env : Env} : ∀ (names : List (Str × NameKind)) (acc : List (Str × Addr)), (∀ x ∈ names, x.2 = .free → ∃ c, env.cells.lookup x.1 = some c) →
    (forIn names acc (fun (x : Str × NameKind) (cs : List (Str × Addr)) => (if (x.2 == NameKind.free) = true then do let a ← cellOf env x.1; pure (ForInStep.yield ((x.1, a) :: cs)) else pure (ForInStep.yield cs) : Sem (ForInStep (List (Str × Addr))))) : Sem (List (Str × Addr))) = pure (cloF env names acc)
  | [], acc, _ => by simp [cloF]
  | (n, k) :: r, acc, h => by
    have ih := fun acc => closure_go (env := env) r acc fun x hx => h x (List.mem_cons_of_mem _ hx)
    rw [List.forIn_cons]
    by_cases hk : k = .free
    · subst hk
      obtain ⟨c, hc⟩ := h (n, .free) List.mem_cons_self rfl
      have hc' : env.cells.lookup n = some c := hc
      have e : cellOf env n = pure c := by unfold cellOf; rw [hc']
      simp only [cloF, if_true, hc', Option.getD_some, beq_self_eq_true, e, pure_bind]
      exact ih _
    · have hb : (k == NameKind.free) = false := by simpa using hk
      simp only [cloF, hk, if_false, hb, Bool.false_eq_true, pure_bind]
      exact ih _
theorem closure_eq {env : Env} {scope : Scope} (h : ∀ x ∈ scope.names, x.2 = .free → ∃ c, env.cells.lookup x.1 = some c) : closureFor scope env = pure (cloF env scope.names []) := by
  rw [← closure_go scope.names [] h]
  unfold closureFor
  simp only [bind_pure]
theorem cloF_lookup {env : Env} {y : Str} : ∀ (names : List (Str × NameKind)) (acc : List (Str × Addr)), (cloF env names acc).lookup y = if (y, NameKind.free) ∈ names then some ((env.cells.lookup y).getD 0) else acc.lookup y
  | [], acc => by simp [cloF]
  | (n, k) :: r, acc => by
    unfold cloF
    by_cases hk : k = .free
    · subst hk
      rw [if_pos rfl, cloF_lookup r]
      by_cases hy : y = n
      · subst hy
        simp [List.lookup_cons]
      · have hb : (y == n) = false := by simpa using hy
        simp [List.lookup_cons, hb, hy]
    · rw [if_neg hk, cloF_lookup r]
      have : ¬ ((y, NameKind.free) = (n, k)) := by
        intro e
        exact hk (Prod.mk.inj e).2.symm
      simp [this]

/-- what a block's scope is like: o the def's own scope, TN the targets' names, F the def's names that the block reads -/
structure CScope (o sc : Scope) (TN F : List Str) : Prop where
  okind : o.kind = .function
  kind : sc.kind = .function
  nocell : ∀ y ∈ sc.names, y.2 ≠ .cell
  names : ∀ y ∈ sc.names, y.2 = .local → sc.names.lookup y.1 = some .local
  fr : ∀ y ∈ sc.names, y.2 = .free → o.names.lookup y.1 = some .cell ∧ sc.names.lookup y.1 = some .free
  ff : ∀ y ∈ F, (y, NameKind.free) ∈ sc.names

theorem relabel_free {env : Env} {y : Str} (hk : env.scope.kind = .function) (hc : env.kindOf y = some .cell) : ∀ {names : List (Str × NameKind)}, names.lookup y = some .free →
    (names.map fun (n, k) => if (k == NameKind.free && env.scope.kind == .function && env.kindOf n == some .cell) then (n, NameKind.cell) else (n, k)).lookup y = some .cell
  | [], h => by simp at h
  | (n, k) :: r, h => by
    have ih := @relabel_free env y hk hc r
    show List.lookup y ((if (k == NameKind.free && env.scope.kind == .function && env.kindOf n == some .cell) = true then (n, NameKind.cell) else (n, k)) :: _) = _
    cases hx : y == n with
    | true =>
      rw [List.lookup_cons, hx] at h
      cases h
      have e : y = n := by simpa using hx
      subst e
      rw [if_pos (by simp [hk, hc])]
      simp [List.lookup_cons]
    | false =>
      rw [List.lookup_cons, hx] at h
      by_cases hc' : (k == NameKind.free && env.scope.kind == .function && env.kindOf n == some .cell) = true
      · rw [if_pos hc']; simp only [List.lookup_cons, hx]; exact ih h
      · rw [if_neg hc']; simp only [List.lookup_cons, hx]; exact ih h
theorem relabel_from {env : Env} {y : Str} : ∀ {names : List (Str × NameKind)}, (∀ z ∈ names, z.2 ≠ .cell) →
    ((names.map fun (n, k) => if (k == NameKind.free && env.scope.kind == .function && env.kindOf n == some .cell) then (n, NameKind.cell) else (n, k)).lookup y = some .cell ∨
     (names.map fun (n, k) => if (k == NameKind.free && env.scope.kind == .function && env.kindOf n == some .cell) then (n, NameKind.cell) else (n, k)).lookup y = some .free) → (y, NameKind.free) ∈ names
  | [], _, h => by simp at h
  | (n, k) :: r, hn, h => by
    have ih := @relabel_from env y r fun z hz => hn z (List.mem_cons_of_mem _ hz)
    have h' : List.lookup y ((if (k == NameKind.free && env.scope.kind == .function && env.kindOf n == some .cell) = true then (n, NameKind.cell) else (n, k)) :: (r.map fun (n, k) => if (k == NameKind.free && env.scope.kind == .function && env.kindOf n == some .cell) then (n, NameKind.cell) else (n, k))) = some .cell ∨
      List.lookup y ((if (k == NameKind.free && env.scope.kind == .function && env.kindOf n == some .cell) = true then (n, NameKind.cell) else (n, k)) :: (r.map fun (n, k) => if (k == NameKind.free && env.scope.kind == .function && env.kindOf n == some .cell) then (n, NameKind.cell) else (n, k))) = some .free := h
    clear h
    cases hx : y == n with
    | true =>
      have e : y = n := by simpa using hx
      subst e
      by_cases hc' : (k == NameKind.free && env.scope.kind == .function && env.kindOf y == some .cell) = true
      · have hk : k = .free := by
          have := (Bool.and_eq_true _ _ ▸ (Bool.and_eq_true _ _ ▸ hc').1).1
          simpa using this
        subst hk
        exact List.mem_cons_self
      · rw [if_neg hc'] at h'
        simp only [List.lookup_cons, beq_self_eq_true] at h'
        rcases h' with h' | h'
        · cases h'
          exact absurd rfl (hn _ List.mem_cons_self)
        · cases h'
          exact List.mem_cons_self
    | false =>
      by_cases hc' : (k == NameKind.free && env.scope.kind == .function && env.kindOf n == some .cell) = true
      · rw [if_pos hc'] at h'; simp only [List.lookup_cons, hx] at h'; exact List.mem_cons_of_mem _ (ih h')
      · rw [if_neg hc'] at h'; simp only [List.lookup_cons, hx] at h'; exact List.mem_cons_of_mem _ (ih h')

/-- the context of a comprehension's block -/
def cxC (X : Cx) (N : List Str) (sc : Scope) (cl : List (Str × Addr)) (C : Addr) (fp : List Addr) (s₃ : Shared) (H₃ : Hp) (xe : Value → Shared → Prop) : Cx :=
  { X with N := N, s₀ := s₃, H₀ := H₃, env := compEnvC sc cl C X.env, outer := X.stack, ex := fp, fn := fun _ => false, pn := [], xe := xe }
/-- the def's names that a block reads -/
def sub (ix : List Nat) (σ : St) : St := ix.map fun i => (σ[i]?).join

theorem inv_comp {X : Cx} {pins : List (Addr × Obj)} {σ : St} {H : Hp} {s : Shared} {sc : Scope} {TN F : List Str} {ix : List Nat} {fp : List Addr} {h4 : Heap} {tk : Nat} {m : Str → Option Value} {xe : Value → Shared → Prop}
    (S : CScope X.env.scope sc TN F) (hix : ix.map (fun i => X.N[i]?) = F.map some) (I : Inv X pins σ H s) (hf : ∀ b ∈ fp, FpOk X pins H b) (ho : ∀ b ∈ fp, ∃ o, s.heap.get? b = some o)
    (hk : ∀ b o, s.heap.get? b = some o → h4.get? b = some o) (hn : h4.Ns s.heap.objs.size m) :
    Inv (cxC X (TN ++ F) sc (cloF X.env sc.names []) s.heap.objs.size fp s H xe) [] (List.replicate TN.length none ++ sub ix σ) H { s with heap := h4, toks := tk } := by
  have cl : ∀ x c, (cloF X.env sc.names []).lookup x = some c → X.env.cells.lookup x = some c := fun x c e => by
    rw [cloF_lookup] at e
    by_cases hx : (x, NameKind.free) ∈ sc.names
    · rw [if_pos hx] at e
      obtain ⟨c', hc'⟩ := I.ok.has x (.inl (S.fr _ hx rfl).1)
      rw [hc'] at e ⊢
      exact e
    · rw [if_neg hx] at e
      cases e
  have cl' : ∀ x, (x, NameKind.free) ∈ sc.names → (cloF X.env sc.names []).lookup x = X.env.cells.lookup x := fun x hx => by
    rw [cloF_lookup, if_pos hx]
    obtain ⟨c', hc'⟩ := I.ok.has x (.inl (S.fr _ hx rfl).1)
    rw [hc']
    rfl
  have hlen : ix.length = F.length := by
    have := congrArg List.length hix
    simpa using this
  refine ⟨⟨I.ok.mod, S.kind, I.ok.glob, I.ok.blt, Nat.le_refl _, fun x y c h1 h2 => I.ok.inj x y c (cl x c h1) (cl y c h2), fun x hx => ?_, fun x c z => (nomatch z), I.ok.hd, I.ok.frames, .inl rfl, fun b hb => ⟨?_, fun x c e => (hf b hb).2.2.2.2.1 x c (cl x c e)⟩,
    I.bs, Nat.le_trans I.ok.bsz I.sz, fun b o e hb => ?_, fun b hb hfs => ?_, I.stack, I.stkFree⟩, rfl, I.bare, Un.kept hk, ⟨m, hn, fun i x v h1 h2 h3 => ?_⟩, fun x c e => ?_, I.hok.fresh (Nat.le_refl _), fun x c e => I.freeC x c (cl x c e), fun p hp => absurd (show p ∈ ([] : List (Addr × Obj)) from hp) (by simp), I.hok.kept hk, ?_⟩
  · have hx' : (x, NameKind.free) ∈ sc.names := relabel_from (env := X.env) S.nocell hx
    obtain ⟨c, hc⟩ := I.ok.has x (.inl (S.fr _ hx' rfl).1)
    exact ⟨c, (cl' x hx').trans hc⟩
  · obtain ⟨o, e⟩ := ho b hb
    exact Nat.ne_of_lt (Heap.lt_size e)
  · rcases (hf b hb).2.2.2.1 with z | z
    · exact I.ok.noex b o e z
    · exact absurd (Nat.lt_of_lt_of_le (Heap.lt_size e) (Nat.le_trans I.ok.bsz z)) (Nat.lt_irrefl _)
  · rcases List.mem_cons.mp (I.stkSub b hfs) with z | z
    · exact (hf b hb).2.1 z
    · exact (hf b hb).2.2.1 z
  · have hi : TN.length ≤ i := by
      apply Nat.le_of_not_lt
      intro hlt
      rw [List.getElem?_append_left (by simpa using hlt), List.getElem?_replicate] at h2
      split at h2 <;> cases h2
    rw [List.getElem?_append_right (by simpa using hi), List.length_replicate] at h2
    have h1' : F[i - TN.length]? = some x := by
      have : (TN ++ F)[i]? = some x := h1
      rw [List.getElem?_append_right hi] at this
      exact this
    have e3 := congrArg (fun l => l[i - TN.length]?) hix
    simp only [List.getElem?_map, h1', Option.map_some] at e3
    unfold sub at h2
    rw [List.getElem?_map] at h2
    cases ej : ix[i - TN.length]? with
    | none => rw [ej] at h2; cases h2
    | some k =>
      rw [ej] at h2 e3
      have h2' : (σ[k]?).join = some v := Option.some.inj h2
      have e3' : X.N[k]? = some x := Option.some.inj e3
      have hσ : σ[k]? = some (some v) := by
        cases e : σ[k]? with
        | none => rw [e] at h2'; cases h2'
        | some q =>
          rw [e] at h2'
          have : q = some v := h2'
          rw [this]
      have hfr := S.ff x (List.mem_of_getElem? h1')
      have hcell := (S.fr _ hfr rfl).1
      obtain ⟨m0, hn0, hl0⟩ := I.loc
      obtain ⟨u, r, l⟩ := hl0 k x v e3' hσ (.inr (.inl hcell))
      refine ⟨u, r, ?_⟩
      rcases l with ⟨l1, _⟩ | ⟨_, c, hc, o, ho', hd⟩
      · have l1' : X.env.scope.names.lookup x = some .local := l1
        rw [hcell] at l1'
        cases l1'
      · exact .inr ⟨.inl (relabel_free (env := X.env) S.okind hcell (S.fr _ hfr rfl).2), c, (cl' x hfr).trans hc, o, hk c o ho', hd⟩
  · obtain ⟨v, o, ho', hd⟩ := I.cell x c (cl x c e)
    exact ⟨v, o, hk c o ho', hd⟩
  · show _ = (TN ++ F).length
    rw [List.length_append, List.length_append, List.length_replicate]
    unfold sub
    rw [List.length_map, hlen]

/-- the tests of a comprehension -/
def PTs (X : Cx) (ifs : List Expr) (tc : TT) : Prop :=
  ∀ (pins : List (Addr × Obj)) (s : Shared) (σ : St) (H : Hp) (Q : Bool → Hp → Prop), Inv X pins σ H s → tc σ H Q →
    wpAny (model X.prog X.w) X.A (forIn ifs true fun c r => if r = true then do let ok ← isTrue c X.env (eval c X.env); pure (ForInStep.yield ok) else pure (ForInStep.yield r)) (TP X pins σ Q) X.xe s
def tAll : TT := fun _ H Q => Q true H
theorem pts_nil {X : Cx} : PTs X [] tAll := fun _ _ _ H _ I h => wpAny_tests_nil ⟨H, I, h⟩
theorem pts_one {X : Cx} {c : Expr} {tc : TT} (hc : PT X c tc) : PTs X [c] tc := fun pins s σ H Q I h => wpAny_tests_one (hc pins s σ H Q I h)

/-- how a block goes: W by the turn, a measure, the block's names, the items so far, the heap -/
def CGo (J : It) (D : Addr) (g : TG) (tc : TT) (te : TE) (Q : VK) (σ : St) (H : Hp) : Prop :=
  ∃ W : Nat → Nat → St → List V → Hp → Prop, (∃ m, W 0 m σ [] (upd H D (.lst []))) ∧ ∀ i m τ ys H, W i m τ ys H → H D = some (.lst ys) ∧
    ((J.stop i H ∧ Q (.ref D) H) ∨ (J.go i H ∧ ∀ v H', J.yld i H v H' → g v τ H' fun τ2 H2 => tc τ2 H2 fun b H3 =>
      if b = true then te τ2 H3 fun y H4 => H4 D = some (.lst ys) ∧ ys.length < sizeLine ∧ ∃ m', m' < m ∧ W (i + 1) m' τ2 (ys ++ [y]) (upd H4 D (.lst (ys ++ [y])))
      else ∃ m', m' < m ∧ W (i + 1) m' τ2 ys H3))
def tComp (wi : TI) (n : Nat) (ix : List Nat) (g : TG) (tc : TT) (te : TE) : TE := fun σ H Q => wi σ H fun J H1 => ∀ D, H1 D = none → CGo J D g tc te Q (List.replicate n none ++ sub ix σ) H1

theorem append_ok {X : Cx} {pins : List (Addr × Obj)} {σ : St} {H : Hp} {s : Shared} {D : Addr} {ys : List V} {y : V} {u : Value} {Q : Value → Shared → Prop} {E : Value → Shared → Prop} (I : Inv X pins σ H s) (hD : H D = some (.lst ys)) (hz : ys.length < sizeLine) (r : RelV y u)
    (h : ∀ s', Inv X pins σ (upd H D (.lst (ys ++ [y]))) s' → Q .none s') : wpAny (model X.prog X.w) X.A (call (.builtin "list.append") [.ref D, u]) Q E s := by
  obtain ⟨z, its, n, rr, hl, e⟩ := I.lstM hD
  refine call_meets F.slot_list_append ⟨_, e, rfl⟩ F.entry_list_append (F.args_list_append_2 _ _) (PySem.list_append D its.toArray n u (by rw [List.size_toArray]; omega)) ⟨e, ?_⟩
  refine h _ (I.lset (its' := its ++ [u]) hD e (by simp) (rr.append (.cons r .nil)) ?_)
  rw [List.length_append, List.length_singleton]
  omega

theorem comp_block {X : Cx} {pins : List (Addr × Obj)} {σ : St} {H : Hp} {s : Shared} {sc : Scope} {TN F : List Str} {ix : List Nat} {elt tg iter : Expr} {ifs : List Expr} {pos : Pos} {g : TG} {tc : TT} {te : TE} {J : It} {fp : List Addr} {it : Addr} {tn : Nat → Heap → Prop} {Q : VK}
    {RR : Value → Addr → Result → Shared → Prop} {E : Value → Shared → Prop}
    (S : CScope X.env.scope sc TN F) (hix : ix.map (fun i => X.N[i]?) = F.map some) (hc : X.calm = true) (I : Inv X pins σ H s) (T : Turn X.prog X.w X.K tg J fp it tn) (st : tn 0 s.heap) (hf : ∀ b ∈ fp, FpOk X pins H b)
    (hg : ∀ cl C fp s3 H3 xe, PG (cxC X (TN ++ F) sc cl C fp s3 H3 xe) tg g) (ht : ∀ cl C fp s3 H3 xe, PTs (cxC X (TN ++ F) sc cl C fp s3 H3 xe) ifs tc) (he : ∀ cl C fp s3 H3 xe, PE (cxC X (TN ++ F) sc cl C fp s3 H3 xe) elt te)
    (hW : ∀ D, H D = none → CGo J D g tc te Q (List.replicate TN.length none ++ sub ix σ) H)
    (fin : ∀ D C H' s', Inv X pins σ H' s' → (∃ m, s'.heap.Ns C m) → H' C = none → C ≠ X.env.locals → X.s₀.heap.objs.size ≤ C → (∀ x c, X.env.cells.lookup x = some c → c ≠ C) → (∀ p ∈ X.pn ++ pins, p.1 ≠ C) → Q (.ref D) H' → RR (.ref D) C (.ok .next) s') :
    wpAny (model X.prog X.w) X.A (newList []) (fun acc s₃ => wpAny (model X.prog X.w) X.A (newFunctionEnv sc X.env.globals (cloF X.env sc.names []) [] X.env.qual none .none (some X.env)) (fun cenv s₄ =>
      codeAny (model X.prog X.w) X.A (.compStart (.ListComp elt [⟨tg, iter, ifs, 0⟩] sc pos) 0 (.ref it) acc { cenv with scope := relabel sc X.env }) (RR acc cenv.locals) s₄) E s₃) E s := by
  have hfo : ∀ b ∈ fp, ∃ o, s.heap.get? b = some o := fun b hb => let ⟨o, e, _⟩ := T.obj 0 _ st b hb; ⟨o, e⟩
  refine wpAny_newObj_type ?_
  obtain ⟨W, ⟨m0, w0⟩, go⟩ := hW s.heap.objs.size I.fresh
  have I3 : Inv X pins σ (upd H s.heap.objs.size (.lst [])) { s with heap := s.heap.push { cls := .type "list", data := .seq ([] : List Value).toArray } } := I.lnew (its := []) (ys := []) (t' := s.toks) .nil (Nat.zero_le _)
  generalize hs3 : ({ s with heap := s.heap.push { cls := .type "list", data := .seq ([] : List Value).toArray } } : Shared) = s3 at I3
  have hk3 : ∀ b o, s.heap.get? b = some o → s3.heap.get? b = some o := fun b o e => by
    rw [← hs3]
    exact Heap.get?_push_of_some _ e
  have hf3 : ∀ b ∈ fp, FpOk X pins (upd H s.heap.objs.size (.lst [])) b := fun b hb => by
    obtain ⟨o, e⟩ := hfo b hb
    exact ⟨by rw [upd_ne (Nat.ne_of_lt (Heap.lt_size e))]; exact (hf b hb).1, (hf b hb).2⟩
  have st3 : tn 0 s3.heap := T.keep 0 _ _ st fun b hb o e => hk3 b o e
  show wpAny _ _ _ _ _ s3
  refine wpAny_newFunctionEnv S.nocell (by intro y hy; simp at hy) (fun h4 hn4 hsb => ?_) S.kind
  have hk4 : ∀ b o, s3.heap.get? b = some o → h4.get? b = some o := fun b o e => (hsb.2 b (Nat.ne_of_lt (Heap.lt_size e))).trans (Heap.get?_push_of_some _ e)
  generalize hR : RR (.ref s.heap.objs.size) s3.heap.objs.size = R
  have loop : ∀ s4 : Shared, s4 = { s3 with heap := h4, toks := s3.toks + ([] : List (Str × Value)).length } →
      codeAny (model X.prog X.w) X.A (.compLoop (.ListComp elt [⟨tg, iter, ifs, 0⟩] sc pos) 0 (.ref it) (.ref s.heap.objs.size) (compEnvC sc (cloF X.env sc.names []) s3.heap.objs.size X.env)) R s4 := by
    rintro s4 rfl
    let X' : Cx := cxC X (TN ++ F) sc (cloF X.env sc.names []) s3.heap.objs.size fp s3 (upd H s.heap.objs.size (.lst [])) (notedBy (model X.prog X.w) X.A (compEnvC sc (cloF X.env sc.names []) s3.heap.objs.size X.env) fun e s' => R (.error e) s')
    have I4 : Inv X' [] (List.replicate TN.length none ++ sub ix σ) (upd H s.heap.objs.size (.lst [])) { s3 with heap := h4, toks := s3.toks + ([] : List (Str × Value)).length } :=
      inv_comp S hix I3 hf3 (fun b hb => let ⟨o, e⟩ := hfo b hb; ⟨o, hk3 b o e⟩) hk4 hn4
    have fpx : ∀ {H' : Hp}, (∀ b ∈ fp, H' b = none) → ∀ b ∈ fp, FpOk X' [] H' b := fun {H'} hn b hb => by
      refine ⟨hn b hb, (I4.ok.exf b hb).1, fun z => I4.ok.exfs b hb z, .inl hb, fun x c e => (I4.ok.exf b hb).2 x c e, fun p hp => absurd (show p ∈ ([] : List (Addr × Obj)) from hp) (by simp)⟩
    refine comp_loop (fun n s' => ∃ i τ ys H', Inv X' [] τ H' s' ∧ tn i s'.heap ∧ (∀ b ∈ fp, H' b = none) ∧ W i n τ ys H') ?_ m0 ⟨0, _, [], _, I4, T.keep 0 _ _ st3 fun b hb o e => hk4 b o e, fun b hb => (hf3 b hb).1, w0⟩
    rintro n s5 ⟨i, τ, ys, H5, I5, st5, fr5, w5⟩
    obtain ⟨hD, hgo⟩ := go i n τ ys H5 w5
    rcases hgo with ⟨stop, q⟩ | ⟨hgo, step⟩
    · refine thn (T.done X' rfl rfl rfl hc i [] s5 τ H5 X'.xe I5 (fpx fr5) st5 stop) fun r s6 ⟨hr, I6⟩ => ?_
      subst hr
      show R (.ok .next) s6
      rw [← hR]
      have J6 : Inv X pins σ H5 s6 := I3.call' (ch := fp) I6.os I6.base I6.hok I6.bare fun b hb => ⟨(hf3 b hb).2.2.2.1, (hf3 b hb).2.1, (hf3 b hb).2.2.2.2.1, (hf3 b hb).2.2.2.2.2⟩
      refine fin s.heap.objs.size s3.heap.objs.size H5 s6 J6 (let ⟨m, hn, _⟩ := I6.loc; ⟨m, hn⟩) I6.free (Nat.ne_of_gt I3.lt) I3.sz (fun x c e z => ?_) (fun p hp z => ?_) q
      · obtain ⟨v, o, ho, _⟩ := I3.cell x c e
        exact absurd (Heap.lt_size ho) (by rw [z]; exact Nat.lt_irrefl _)
      · exact absurd (Heap.lt_size (I3.pin p hp).1) (by rw [z]; exact Nat.lt_irrefl _)
    · refine thn (T.item X' rfl rfl rfl hc i [] s5 τ H5 X'.xe I5 (fpx fr5) st5 hgo) fun r s6 ⟨u, hr, h6⟩ => ?_
      subst hr
      refine thn h6 fun _ s7 ⟨v, H7, I7, r7, y7, st7, fr7⟩ => ?_
      have I7' := I7.pinned (fpx fr7) (T.obj _ _ st7)
      refine thn (hg _ _ _ _ _ _ _ s7 τ H7 v u _ I7' r7 (step v H7 y7)) fun _ s8 ⟨τ8, H8, I8, q8⟩ => ?_
      refine thn (ht _ _ _ _ _ _ _ s8 τ8 H8 _ I8 q8) fun ok s9 ⟨H9, I9, q9⟩ => ?_
      have again : ∀ {ys' : List V} {H' : Hp} {s' : Shared}, Inv X' ([] ++ pinsAt fp s7.heap) τ8 H' s' → (∃ m', m' < n ∧ W (i + 1) m' τ8 ys' H') → ∃ m, m < n ∧ ∃ i τ ys H'', Inv X' [] τ H'' s' ∧ tn i s'.heap ∧ (∀ b ∈ fp, H'' b = none) ∧ W i m τ ys H'' := fun {ys' H' s'} I' ⟨m', hm, w'⟩ => by
        refine ⟨m', hm, i + 1, τ8, ys', H', I'.unpinned, T.keep _ _ _ st7 fun b hb o e => (I'.pin (b, o) (List.mem_append_right _ (List.mem_append_right _ (mem_pinsAt hb e)))).1, fun b hb => ?_, w'⟩
        obtain ⟨o, e, d⟩ := T.obj _ _ st7 b hb
        exact (I'.pin (b, o) (List.mem_append_right _ (List.mem_append_right _ (mem_pinsAt hb e)))).2.1
      cases ok with
      | false =>
        exact again I9 q9
      | true =>
        refine thn (he _ _ _ _ _ _ _ s9 τ8 H9 _ I9 q9) fun x s10 ⟨y, H10, I10, r10, hD10, hz10, q10⟩ => ?_
        exact append_ok (X := X') I10 hD10 hz10 r10 fun s11 I11 => again I11 q10
  subst hR
  exact codeAny_compStart_list (loop _ rfl) (T.self X.A 0 _ _ _ (T.keep 0 _ _ st3 fun b hb o e => hk4 b o e) (loop _ rfl))

section
variable {X : Cx} {sc : Scope} {TN F : List Str} {ix : List Nat} {elt tg iter : Expr} {ifs : List Expr} {pos : Pos} {g : TG} {tc : TT} {te : TE} {wi : TI}
theorem closure_of (S : CScope X.env.scope sc TN F) {pins : List (Addr × Obj)} {σ : St} {H : Hp} {s : Shared} (I : Inv X pins σ H s) : closureFor sc X.env = pure (cloF X.env sc.names []) :=
  closure_eq fun x hx hk => I.ok.has x.1 (.inl (S.fr x hx hk).1)
/-- [elt for tg in iter ..] -/
theorem pe_comp (S : CScope X.env.scope sc TN F) (hix : ix.map (fun i => X.N[i]?) = F.map some) (hc : X.calm = true) (hi : PI X tg iter wi)
    (hg : ∀ cl C fp s3 H3 xe, PG (cxC X (TN ++ F) sc cl C fp s3 H3 xe) tg g) (ht : ∀ cl C fp s3 H3 xe, PTs (cxC X (TN ++ F) sc cl C fp s3 H3 xe) ifs tc) (he : ∀ cl C fp s3 H3 xe, PE (cxC X (TN ++ F) sc cl C fp s3 H3 xe) elt te)
    (hs : ∀ x, foldedSetIterable iter X.env x = pure x := by intro _; rfl) : PE X (.ListComp elt [⟨tg, iter, ifs, 0⟩] sc pos) (tComp wi TN.length ix g tc te) := by
  intro pins s σ H Q I h
  rw [eval_ListComp]
  refine wpAny_comprehension_free (use := none) rfl hs (closure_of S I) S.kind S.names (thn (hi pins s σ H _ I h) fun v s1 h1 => thn h1 fun itv s2 h2 => ?_)
  obtain ⟨it, fp, tn, J, H2, e, I2, T, st2, f2, q2⟩ := h2
  subst e
  refine comp_block (RR := fun acc C => compPost (model X.prog X.w) X.A X.xe none (EP X pins σ Q) acc C) S hix hc I2 T st2 f2 hg ht he q2 fun D C H' s' I' hn hC1 hC2 hC3 hC4 hC5 q => ?_
  obtain ⟨m, hn⟩ := hn
  exact ⟨m, hn, fun h' hs' => ⟨.ref D, H', I'.turned (t' := s'.toks) (fun b o hb e => (hs'.2 b hb).trans e) hC1 hC2 (.inr hC3) hC4 hC5, rfl, q⟩⟩
/-- y = [elt for tg in iter ..], y a plain name of the def on the comprehension's own line -/
theorem ps_setC {i : Nat} {y : Str} {py spos : Pos} (hN : X.N.Nodup) (hiy : X.N[i]? = some y) (hy : X.env.scope.names.lookup y = some .local) (S : CScope X.env.scope sc TN F) (hix : ix.map (fun i => X.N[i]?) = F.map some) (hc : X.calm = true) (hi : PI X tg iter wi)
    (hg : ∀ cl C fp s3 H3 xe, PG (cxC X (TN ++ F) sc cl C fp s3 H3 xe) tg g) (ht : ∀ cl C fp s3 H3 xe, PTs (cxC X (TN ++ F) sc cl C fp s3 H3 xe) ifs tc) (he : ∀ cl C fp s3 H3 xe, PE (cxC X (TN ++ F) sc cl C fp s3 H3 xe) elt te)
    (hsw : swapsWith (.ListComp elt [⟨tg, iter, ifs, 0⟩] sc pos) (some (.Name y py)) spos.line X.env = pure true := by rfl)
    (hs : ∀ x, foldedSetIterable iter X.env x = pure x := by intro _; rfl) : PS X (.Assign [.Name y py] (.ListComp elt [⟨tg, iter, ifs, 0⟩] sc pos) spos) (tAsg (tComp wi TN.length ix g tc te) (gName i)) := by
  intro pins s σ H D I h
  rw [exec_Assign_Name_used _ _ _ _ hsw]; refine wpAny_bind (wpAny_standAt (wpAny_bind ?_))
  show wpAny _ X.A (do let _ ← comprehension (.ListComp elt [⟨tg, iter, ifs, 0⟩] sc pos) sc X.env _ (newList []) false (eval iter X.env) (some (assign (.Name y py) X.env))) _ _ s
  refine wpAny_bind (wpAny_mono (wpAny_comprehension_free (use := some (assign (.Name y py) X.env)) (Q := fun _ s' => SP X pins D .next s') rfl hs (closure_of S I) S.kind S.names
    (thn (hi pins s σ H _ I h) fun v s1 h1 => thn h1 fun itv s2 h2 => ?_)) (fun _ s' hq => wpAny_pure (wpAny_pure hq)) fun _ _ e => e)
  obtain ⟨it, fp, tn, J, H2, e, I2, T, st2, f2, q2⟩ := h2
  subst e
  refine comp_block (RR := fun acc C => compPost (model X.prog X.w) X.A X.xe (some (assign (.Name y py) X.env)) (fun _ s' => SP X pins D .next s') acc C) S hix hc I2 T st2 f2 hg ht he q2 fun Dl C H' s' I' hn hC1 hC2 hC3 hC4 hC5 q => ?_
  obtain ⟨m, hn⟩ := hn
  show wpAny _ X.A (assign (.Name y py) X.env (.ref Dl)) _ _ _
  refine wpAny_assign_Name (store_ok2 I' hN hiy (.inl hy) (show RelV (.ref Dl) (.ref Dl) from rfl) (fun s'' I'' ⟨a, hsb, ha⟩ => ?_) (.inr hy))
  have haC : C ≠ a := by
    rcases ha with z | z
    · rw [z]; exact hC2
    · exact fun z' => hC4 y a z z'.symm
  refine ⟨m, hn.sameBut hsb haC, fun h' hs' => ?_⟩
  exact ⟨_, H', I''.turned (t' := s''.toks) (fun b o hb e => (hs'.2 b hb).trans e) hC1 hC2 (.inr hC3) hC4 hC5, q⟩
end
end L2

set_option Elab.async false
set_option linter.all false
set_option maxRecDepth 100000
namespace L2
open PySem PySem.Spec PyProof.Rows
/-! ### readings that reckon -/
def seqAt (H : Hp) (p : Addr) : Option (List V) := match H p with
  | some (.lst xs) => some xs
  | some (.tup xs) => some xs
  | _ => none
def dAt (H : Hp) (x y : V) : Option V := match x, y with
  | .ref p, .int i => (seqAt H p).bind fun xs => atI xs i
  | _, _ => none
def rIxd : R2 := fun x y H Q => ∃ v, dAt H x y = some v ∧ Q v H
section
variable {X : Cx}
theorem ix_d : IxR X rIxd := by
  intro value slice pins s σ H x y v u Q I rx ry h hs
  refine ix_seq value slice pins s σ H x y v u Q I rx ry ?_ hs
  obtain ⟨z, e, q⟩ := h
  unfold dAt at e
  split at e
  case h_2 => cases e
  case h_1 p i =>
    unfold seqAt at e
    split at e
    case h_1 xs hp => exact .inl ⟨_, xs, _, z, rfl, rfl, SqL.of hp, e, q⟩
    case h_2 xs hp => exact .inr (.inl ⟨_, xs, _, z, rfl, rfl, SqT.of hp, e, q⟩)
    case h_3 => cases e
def dSet (H : Hp) (o i v : V) : Option Hp := match o, i with
  | .ref p, .int k => match H p with
    | some (.lst xs) => (ixN xs.length k).map fun j => upd H p (.lst (xs.set j v))
    | _ => none
  | _, _ => none
def rSetd : V → V → V → Hp → (Hp → Prop) → Prop := fun o i v H Q => ∃ H', dSet H o i v = some H' ∧ Q H'
theorem set_d : PSet X rSetd := by
  intro pins s σ H o i v ov iv u Q I ro ri rv h
  refine set_list pins s σ H o i v ov iv u Q I ro ri rv ?_
  obtain ⟨H', e, q⟩ := h
  unfold dSet at e
  split at e
  case h_2 => cases e
  case h_1 p k =>
    split at e
    case h_2 => cases e
    case h_1 xs hp =>
      cases ej : ixN xs.length k with
      | none => rw [ej] at e; cases e
      | some j =>
        rw [ej] at e
        cases e
        exact ⟨p, xs, k, j, rfl, rfl, hp, ej, q⟩
end
end L2
namespace L2
open PySem PySem.Spec PyProof.Rows
/-! ### steps of a reading -/
section
variable {σ : St} {H : Hp} {Q : VK} {D : Ends} {t u : TS} {te ta tb : TE} {tr : TA} {g : TG} {r : R2} {x y v : V} {c : TT} {QB : Bool → Hp → Prop} {QL : List V → Hp → Prop} {QG : St → Hp → Prop} {n : Nat}
theorem w_seq (h : t { D with nx := u D } σ H) : tSeq t u D σ H := h
theorem w_next (h : D.nx σ H) : tNext D σ H := h
theorem w_asg (h : te σ H fun x H1 => g x σ H1 D.nx) : tAsg te g D σ H := h
theorem w_gname {i : Nat} (h : QG (σ.set i (some v)) H) : gName i v σ H QG := h
theorem w_op (h : ta σ H fun x H1 => tb σ H1 fun y H2 => r x y H2 Q) : tOp r ta tb σ H Q := h
theorem w_var {i : Nat} (e : σ[i]? = some (some v)) (h : Q v H) : tVar i σ H Q := ⟨v, e, h⟩
theorem w_c (h : Q v H) : tC v σ H Q := h
theorem w_rI0 {k : Int → Int → V} {i j : Int} (h : Q (k i j) H) : rI0 k (.int i) (.int j) H Q := ⟨i, j, rfl, rfl, h⟩
theorem w_rI {C : Int → Int → Prop} {k : Int → Int → V} {i j : Int} (hc : C i j) (h : Q (k i j) H) : rI C k (.int i) (.int j) H Q := ⟨i, j, rfl, rfl, hc, h⟩
theorem w_ifs {b : TS} (h : c σ H fun b' H1 => if b' = true then t D σ H1 else b D σ H1) : tIfS c t b D σ H := h
theorem w_ife (h : c σ H fun b' H1 => if b' = true then ta σ H1 Q else tb σ H1 Q) : tIf c ta tb σ H Q := h
theorem w_test (h : te σ H fun x H' => ∃ k, x = .bl k ∧ QB k H') : tTest te σ H QB := h
theorem w_tb (h : te σ H fun x H' => ∃ k, x = .bl k ∧ QB k H') : tB te σ H QB := h
theorem w_bl {b : Bool} {P : Bool → Prop} (h : P b) : ∃ k, V.bl b = .bl k ∧ P k := ⟨b, rfl, h⟩
theorem w_not (h : c σ H fun b H1 => QB (!b) H1) : tNot c σ H QB := h
theorem w_ret (h : te σ H D.rt) : tRet te D σ H := h
theorem w_nil (h : QL [] H) : tNil σ H QL := h
theorem w_cons (h : te σ H fun x H1 => tr σ H1 fun xs H2 => QL (x :: xs) H2) : tCons te tr σ H QL := h
theorem w_lst (h : tr σ H fun xs H1 => xs.length ≤ sizeLine ∧ ∀ p, H1 p = none → Q (.ref p) (upd H1 p (.lst xs))) : tLst tr σ H Q := h
theorem w_tup (h : tr σ H fun xs H1 => xs.length ≤ sizeLine ∧ ∀ p, H1 p = none → Q (.ref p) (upd H1 p (.tup xs))) : tTup tr σ H Q := h
theorem w_cb {r : List V → Hp → VK → Prop} (h : tr σ H fun vs H1 => r vs H1 Q) : tCB r tr σ H Q := h
theorem w_call {sp : Sp} {dvs : List V} {E : XK} (h : tr σ H fun vs H1 => sp (vs ++ dvs) H1 Q E) : tCall sp dvs E tr σ H Q := h
theorem w_gsub {to ti : TE} {ts : TSet} (h : to σ H fun o H1 => ti σ H1 fun i H2 => ts o i v H2 fun H3 => QG σ H3) : gSub to ti ts v σ H QG := h
theorem w_ixL {p : Addr} {xs : List V} {i : Int} (hp : H p = some (.lst xs)) (e : atI xs i = some v) (h : Q v H) : rIxd (.ref p) (.int i) H Q := ⟨v, by simp only [dAt, seqAt, hp, Option.bind_some, e], h⟩
theorem w_ixT {p : Addr} {xs : List V} {i : Int} (hp : H p = some (.tup xs)) (e : atI xs i = some v) (h : Q v H) : rIxd (.ref p) (.int i) H Q := ⟨v, by simp only [dAt, seqAt, hp, Option.bind_some, e], h⟩
theorem w_set {p : Addr} {xs : List V} {i : Int} {j : Nat} {QH : Hp → Prop} (hp : H p = some (.lst xs)) (e : ixN xs.length i = some j) (h : QH (upd H p (.lst (xs.set j v)))) : rSetd (.ref p) (.int i) v H QH :=
  ⟨_, by simp only [dSet, hp, e, Option.map_some], h⟩
theorem w_and {c d : TT} (h : c σ H fun b H1 => if b = true then d σ H1 QB else QB false H1) : tAnd c d σ H QB := h
theorem w_or {c d : TT} (h : c σ H fun b H1 => if b = true then QB true H1 else d σ H1 QB) : tOr c d σ H QB := h
theorem iteD {p A B : Prop} [Decidable p] (h1 : p → A) (h2 : ¬ p → B) : if decide p = true then A else B := by
  by_cases h : p
  · rw [decide_eq_true h, if_pos rfl]
    exact h1 h
  · rw [decide_eq_false h, if_neg Bool.false_ne_true]
    exact h2 h
theorem iteDN {p A B : Prop} [Decidable p] (h1 : ¬ p → A) (h2 : p → B) : if (!decide p) = true then A else B := by
  by_cases h : p
  · rw [decide_eq_true h]
    exact iteF (h2 h)
  · rw [decide_eq_false h]
    exact iteT (h1 h)
end
end L2
namespace L2
open PySem PySem.Spec PyProof.Rows
/-- a def of the text that is there and keeps its promise -/
def Has (P : Program) (w : World) (K : PySem.W.Frag) (mg : Str → Option Value) (base : Heap) (k : Nat) (x : Str) (ps : List Str) (sp : Sp) : Prop :=
  ∃ f fd, FnOk P w K mg base CX0 k f fd ps sp ∧ mg x = some (.ref f) ∧ PySem.W.keepIn K (.ref f) = true ∧ Binds K fd ps []
theorem pe_fn {X : Cx} {k j : Nat} {x : Str} {ps : List Str} {sp : Sp} {e : Expr} {es : List Expr} {t : TA} {p pos : Pos} (h : Has X.prog X.w X.K X.mg X.base k x ps sp) (hr : Room j X.A) (hkj : k ≤ j) (ha : PA X (e :: es) t) (hg : Gl X x := by rfl)
    (hdb : (x == ("__debug__" : Str)) = false := by decide) (he : starEach (e :: es) X.env = (false, eval e X.env) :: starEach es X.env := by rfl) (hpl : (backTo pos (starEach es X.env)).any (·.1) = false := by rfl) :
    PE X (.Call (.Name x p) (e :: es) [] pos) (tCall sp [] E0 t) := by
  obtain ⟨f, fd, F, hm, hk, hb⟩ := h
  exact pe_call F (hr.mono hkj) hg hm hk hb .nil pass0 ha hdb he hpl
section
variable {lo : Int} {n : Nat} {D : Addr} {te : TE} {tc : TT} {Q : VK} {ρ : St} {H : Hp}
/-- a block over a range, one name -/
theorem cgo_range (Pv : Nat → List V → Hp → Prop) (h0 : Pv 0 [] (upd H D (.lst [])))
    (hs : ∀ i ys H', i < n → Pv i ys H' → H' D = some (.lst ys) → ∀ (R : V → Hp → Prop) (S : Hp → Prop), (∀ y H4, H4 D = some (.lst ys) → ys.length < sizeLine → Pv (i + 1) (ys ++ [y]) (upd H4 D (.lst (ys ++ [y]))) → R y H4) → (∀ H3, H3 D = some (.lst ys) → Pv (i + 1) ys H3 → S H3) →
      tc (some (.int (lo + i)) :: ρ) H' fun b H3 => if b = true then te (some (.int (lo + i)) :: ρ) H3 R else S H3)
    (hd : ∀ ys H', Pv n ys H' → H' D = some (.lst ys) → Q (.ref D) H') : CGo (Itr lo n) D (gName 0) tc te Q (none :: ρ) H := by
  refine ⟨fun i m τ ys H' => m = n - i ∧ i ≤ n ∧ (∃ tv, τ = tv :: ρ) ∧ Pv i ys H' ∧ H' D = some (.lst ys), ⟨n, by omega, Nat.zero_le _, ⟨_, rfl⟩, h0, upd_same⟩, ?_⟩
  rintro i m τ ys H' ⟨rfl, hi, ⟨tv, rfl⟩, hp, hD⟩
  refine ⟨hD, ?_⟩
  by_cases hlt : i < n
  · refine .inr ⟨hlt, ?_⟩
    rintro v H'' ⟨rfl, rfl⟩
    show tc (some (.int (lo + i)) :: ρ) _ _
    exact hs i ys _ hlt hp hD _ _ (fun y H4 a b c => ⟨a, b, n - (i + 1), by omega, rfl, hlt, ⟨_, rfl⟩, c, upd_same⟩) fun H3 a c => ⟨n - (i + 1), by omega, rfl, hlt, ⟨_, rfl⟩, c, a⟩
  · have e : i = n := by omega
    subst e
    exact .inl ⟨Nat.le_refl _, hd ys _ hp hD⟩
/-- a block over a tuple, one name -/
theorem cgo_tup {K : PySem.W.Frag} {a : Addr} {xs : List V} (Pv : Nat → List V → Hp → Prop) (h0 : Pv 0 [] (upd H D (.lst []))) (hl : ∀ i ys H', i ≤ xs.length → Pv i ys H' → SqT K H' a xs)
    (hs : ∀ i x ys H', xs[i]? = some x → Pv i ys H' → H' D = some (.lst ys) → ∀ (R : V → Hp → Prop) (S : Hp → Prop), (∀ y H4, H4 D = some (.lst ys) → ys.length < sizeLine → Pv (i + 1) (ys ++ [y]) (upd H4 D (.lst (ys ++ [y]))) → R y H4) → (∀ H3, H3 D = some (.lst ys) → Pv (i + 1) ys H3 → S H3) →
      tc (some x :: ρ) H' fun b H3 => if b = true then te (some x :: ρ) H3 R else S H3)
    (hd : ∀ ys H', Pv xs.length ys H' → H' D = some (.lst ys) → Q (.ref D) H') : CGo (Itt K a) D (gName 0) tc te Q (none :: ρ) H := by
  refine ⟨fun i m τ ys H' => m = xs.length - i ∧ i ≤ xs.length ∧ (∃ tv, τ = tv :: ρ) ∧ Pv i ys H' ∧ H' D = some (.lst ys), ⟨xs.length, by omega, Nat.zero_le _, ⟨_, rfl⟩, h0, upd_same⟩, ?_⟩
  rintro i m τ ys H' ⟨rfl, hi, ⟨tv, rfl⟩, hp, hD⟩
  refine ⟨hD, ?_⟩
  have sq := hl i ys H' hi hp
  by_cases hlt : i < xs.length
  · refine .inr ⟨⟨xs, xs[i], sq, by simp [hlt]⟩, ?_⟩
    rintro v H'' ⟨rfl, hv⟩
    have hv' := hv xs sq
    show tc (some v :: ρ) _ _
    exact hs i v ys _ hv' hp hD _ _ (fun y H4 a b c => ⟨a, b, xs.length - (i + 1), by omega, rfl, hlt, ⟨_, rfl⟩, c, upd_same⟩) fun H3 a c => ⟨xs.length - (i + 1), by omega, rfl, hlt, ⟨_, rfl⟩, c, a⟩
  · have e : i = xs.length := by omega
    subst e
    exact .inl ⟨⟨xs, sq, Nat.le_refl _⟩, hd ys _ hp hD⟩
end
theorem w_all {σ : St} {H : Hp} {Q : Bool → Hp → Prop} (h : Q true H) : tAll σ H Q := h
end L2
namespace L2
open PySem PySem.Spec PyProof.Rows
def relabelS (sc o : Scope) : Scope :=
  { sc with names := sc.names.map fun (n, k) => if (k == .free && o.kind == .function && o.names.lookup n == some .cell) then (n, .cell) else (n, k) }
instance {sc : Scope} {x : Str} : Decidable (Vis sc x) := by unfold Vis; infer_instance
/-- a block's scope, with all that its names want; G: the module's names that it reads -/
structure BScope (o sc : Scope) (TN F G : List Str) : Prop extends CScope o sc TN F where
  nd : (TN ++ F).Nodup
  vis : ∀ x ∈ TN ++ F, Vis (relabelS sc o) x
  loc : ∀ x ∈ TN, (relabelS sc o).names.lookup x = some .local
  gl : ∀ x ∈ G, (relabelS sc o).names.lookup x = some .globalImplicit
section
variable {X : Cx} {sc : Scope} {TN F G : List Str} {cl : List (Str × Addr)} {C : Addr} {fp : List Addr} {s3 : Shared} {H3 : Hp} {xe : Value → Shared → Prop} {x : Str} {pos : Pos}
theorem pvb (S : BScope X.env.scope sc TN F G) (i : Nat) (hN : (TN ++ F)[i]? = some x := by rfl) (hd : (x == ("__debug__" : Str)) = false := by decide) (hcd : (x == ("__classdict__" : Str)) = false := by decide) : PE (cxC X (TN ++ F) sc cl C fp s3 H3 xe) (.Name x pos) (tVar i) :=
  pe_var hN (S.vis x (List.mem_of_getElem? hN)) hd hcd
theorem pgb (S : BScope X.env.scope sc TN F G) (i : Nat) (hN : (TN ++ F)[i]? = some x := by rfl) (hT : TN[i]? = some x := by rfl) : PG (cxC X (TN ++ F) sc cl C fp s3 H3 xe) (.Name x pos) (gName i) :=
  pg_name S.nd hN (.inl (S.loc x (List.mem_of_getElem? hT))) (.inr (S.loc x (List.mem_of_getElem? hT)))
theorem BScope.g (S : BScope X.env.scope sc TN F G) (i : Nat) (hG : G[i]? = some x := by rfl) : Gl (cxC X (TN ++ F) sc cl C fp s3 H3 xe) x := S.gl x (List.mem_of_getElem? hG)
end
end L2
namespace L2
open PySem PySem.Spec PyProof.Rows
/-! ### rows of written constants -/
def constV : Expr → Option V
  | .Constant (.int n) _ _ => some (.int n)
  | .Constant (.str y) _ _ => some (.str y)
  | .Constant (.bool b) _ _ => some (.bl b)
  | .Constant .none _ _ => some .non
  | _ => none
def constsOf : List Expr → Option (List V)
  | [] => some []
  | e :: r => match constV e, constsOf r with
    | some v, some vs => some (v :: vs)
    | _, _ => none
def tVals (vs : List V) : TA := fun _ H Q => Q vs H
theorem pa_consts {X : Cx} : ∀ {es : List Expr} {vs : List V}, constsOf es = some vs → PA X es (tVals vs)
  | [], vs, h => by
    cases h
    exact pa_nil
  | e :: r, vs, h => by
    unfold constsOf at h
    split at h
    case h_2 => cases h
    case h_1 v vs' h1 h2 =>
      cases h
      have ih := pa_consts (X := X) h2
      have go : ∀ {te : TE}, PE X e te → (starEach (e :: r) X.env = (false, eval e X.env) :: starEach r X.env) → (∀ σ H Q, Q v H → te σ H Q) → PA X (e :: r) (tVals (v :: vs')) := fun {te} he hs hq => by
        have q := pa_cons he ih hs
        intro pos pins s σ H Q I hh
        exact q pos pins s σ H Q I (hq σ H _ hh)
      unfold constV at h1
      split at h1
      case h_1 => cases h1; exact go pe_int rfl fun _ _ _ h => h
      case h_2 => cases h1; exact go pe_str rfl fun _ _ _ h => h
      case h_3 => cases h1; exact go pe_bl rfl fun _ _ _ h => h
      case h_4 => cases h1; exact go pe_non rfl fun _ _ _ h => h
      case h_5 => cases h1
theorem pe_lstC {X : Cx} {es : List Expr} {pos : Pos} {vs : List V} (h : constsOf es = some vs) : PE X (.List es pos) (tLst (tVals vs)) := pe_lst (pa_consts h)
theorem w_vals {vs : List V} {σ : St} {H : Hp} {Q : List V → Hp → Prop} (h : Q vs H) : tVals vs σ H Q := h
end L2
namespace L2
open PySem PySem.Spec PyProof.Rows
instance {sc : Scope} {x : Str} : Decidable (Loc sc x) := by unfold Loc; infer_instance
/-- a def's names -/
structure Nm (N : List Str) (sc : Scope) : Prop where
  nd : N.Nodup
  loc : ∀ x ∈ N, Loc sc x
section
variable {X : Cx} {x : Str} {pos : Pos}
theorem Loc.vis {sc : Scope} (h : Loc sc x) : Vis sc x := h.elim .inl fun z => .inr (.inl z)
theorem pvd (M : Nm X.N X.env.scope) (i : Nat) (hN : X.N[i]? = some x := by rfl) (hd : (x == ("__debug__" : Str)) = false := by decide) (hcd : (x == ("__classdict__" : Str)) = false := by decide) : PE X (.Name x pos) (tVar i) :=
  pe_var hN (M.loc x (List.mem_of_getElem? hN)).vis hd hcd
theorem ps_setD {e : Expr} {te : TE} {pos' : Pos} (M : Nm X.N X.env.scope) (i : Nat) (he : PE X e te) (hi : X.N[i]? = some x := by rfl) (hs : swapsWith e (some (.Name x pos')) pos.line X.env = pure false := by rfl) (hf : X.fn x = true := by rfl) :
    PS X (.Assign [.Name x pos'] e pos) (tAsg te (gName i)) := ps_set M.nd hi (M.loc x (List.mem_of_getElem? hi)) he hs (.inl hf)
theorem pgd (M : Nm X.N X.env.scope) (i : Nat) (hi : X.N[i]? = some x := by rfl) (hf : X.fn x = true := by rfl) : PG X (.Name x pos) (gName i) := pg_name M.nd hi (M.loc x (List.mem_of_getElem? hi)) (.inl hf)
end
end L2
namespace L2
open PySem PySem.Spec PyProof.Rows
section
variable {X : Cx} {l rest : List Stmt} {st : Stmt} {t u : TS} {e e' : Expr} {te : TE}
end
end L2
namespace L2
open PySem PySem.Spec PyProof.Rows
section
variable {ta : TA} {tl : TE} {n : Nat} {ix : List Nat} {g : TG} {tc : TT} {te : TE} {σ : St} {H : Hp} {Q : VK}
theorem w_compR (h : ta σ H fun vs H1 => ∃ j : Int, vs = [.int j] ∧ -(2 ^ 62) ≤ j ∧ j < 2 ^ 62 ∧ ∀ D, H1 D = none → CGo (Itr 0 j.toNat) D g tc te Q (List.replicate n none ++ sub ix σ) H1) : tComp (iRng1 ta) n ix g tc te σ H Q := h
theorem w_compT {K : PySem.W.Frag} (h : tl σ H fun x H1 => ∃ a, x = .ref a ∧ (∃ xs, SqT K H1 a xs) ∧ ∀ D, H1 D = none → CGo (Itt K a) D g tc te Q (List.replicate n none ++ sub ix σ) H1) : tComp (iTup K tl) n ix g tc te σ H Q := h
end
end L2
namespace L2
open PySem PySem.Spec PyProof.Rows
/-- a loop's reading, the iterator J at hand -/
def ForJ (J : It) (g : TG) (tb : TS) (D : Ends) (σ : St) (H1 : Hp) : Prop := ∃ W : Nat → Nat → St → Hp → Prop, (∃ m, W 0 m σ H1) ∧ ∀ i m σ H, W i m σ H →
  (J.stop i H ∧ D.nx σ H) ∨ (J.go i H ∧ ∃ N : St → Hp → Prop, (∀ σ' H', N σ' H' → ∃ m', m' < m ∧ W (i + 1) m' σ' H') ∧ ∀ x H', J.yld i H x H' → g x σ H' fun σ2 H2 => tb { D with nx := N, ct := N, bk := D.nx } σ2 H2)
theorem w_forR {ta : TA} {g : TG} {tb : TS} {D : Ends} {σ : St} {H : Hp} (h : ta σ H fun vs H1 => ∃ j : Int, vs = [.int j] ∧ -(2 ^ 62) ≤ j ∧ j < 2 ^ 62 ∧ ForJ (Itr 0 j.toNat) g tb D σ H1) : tFor (iRng1 ta) g tb D σ H := h
theorem w_forL {K : PySem.W.Frag} {tl : TE} {g : TG} {tb : TS} {D : Ends} {σ : St} {H : Hp} (h : tl σ H fun x H1 => ∃ a, x = .ref a ∧ (∃ xs, SqL K H1 a xs) ∧ ForJ (Itl K a) g tb D σ H1) : tFor (iList K tl) g tb D σ H := h
end L2
namespace L2
open PySem PySem.Spec PyProof.Rows
/-! ### arguments, without running them -/
def isStar : Expr → Bool
  | .Starred .. => true
  | _ => false
theorem star1 {e : Expr} {es : List Expr} {env : Env} (h : isStar e = false) : starEach (e :: es) env = (false, eval e env) :: starEach es env := by
  cases e <;> first | rfl | cases h
theorem star_any {env : Env} {pos : Pos} : ∀ {es : List Expr}, es.all (fun e => !isStar e) = true → (backTo pos (starEach es env)).any (·.1) = false
  | [], _ => rfl
  | e :: es, h => by
    rw [List.all_cons, Bool.and_eq_true] at h; rw [star1 (by simpa using h.1)]
    cases es with
    | nil => rfl
    | cons a r =>
      have ih := star_any (env := env) (pos := pos) (es := a :: r) h.2
      rw [star1 (by simpa using (by simpa using h.2 : isStar a = false ∧ _).1)] at ih ⊢
      exact ih
end L2
namespace L2
open PySem PySem.Spec PyProof.Rows
section
variable {X : Cx} {e a : Expr} {es : List Expr} {te : TE} {t ta : TA} {x : Str} {p pos : Pos} {tg : Expr} {id T : String} {r : List V → Hp → VK → Prop}
theorem pa_c (ha : PE X e te) (hr : PA X es t) (h : isStar e = false := by rfl) : PA X (e :: es) (tCons te t) := pa_cons ha hr (star1 h)
theorem pi_r1 (hm : X.mg "range" = none) (ha : PA X [a] ta) (hg : Gl X "range" := by rfl) (h : isStar a = false := by rfl) : PI X tg (.Call (.Name "range" p) [a] [] pos) (iRng1 ta) := pi_range1 hg hm ha (star1 h)
theorem pe_cB (hc : CallR X (.builtin id) r) (hm : X.mg x = none) (hv : bootBuiltins x = some (.builtin id)) (ha : PA X (e :: es) t) (hg : Gl X x := by rfl) (h : isStar e = false := by rfl) (h2 : es.all (fun e => !isStar e) = true := by rfl) (hn : x ≠ "__name__" := by decide) (hdb : (x == ("__debug__" : Str)) = false := by decide) :
    PE X (.Call (.Name x p) (e :: es) [] pos) (tCB r t) := pe_callB hc hg hm hv ha hn hdb (star1 h) (star_any h2)
theorem pe_cT (hc : CallR X (.type T) r) (hm : X.mg x = none) (hv : bootBuiltins x = some (.type T)) (ha : PA X (e :: es) t) (hg : Gl X x := by rfl) (h : isStar e = false := by rfl) (h2 : es.all (fun e => !isStar e) = true := by rfl) (hn : x ≠ "__name__" := by decide) (hdb : (x == ("__debug__" : Str)) = false := by decide) :
    PE X (.Call (.Name x p) (e :: es) [] pos) (tCB r t) := pe_callTy hc hg hm hv ha hn hdb (star1 h) (star_any h2)
theorem pe_f {k j : Nat} {ps : List Str} {sp : Sp} (h : Has X.prog X.w X.K X.mg X.base k x ps sp) (hr : Room j X.A) (hkj : k ≤ j) (ha : PA X (e :: es) t) (hg : Gl X x := by rfl) (h1 : isStar e = false := by rfl) (h2 : es.all (fun e => !isStar e) = true := by rfl)
    (hdb : (x == ("__debug__" : Str)) = false := by decide) : PE X (.Call (.Name x p) (e :: es) [] pos) (tCall sp [] E0 t) := pe_fn h hr hkj ha hg hdb (star1 h1) (star_any h2)
end
end L2
namespace L2
theorem pa_1 {X : Cx} {e : PySem.Expr} {te : TE} (ha : PE X e te) (h : isStar e = false := by rfl) : PA X [e] (tCons te tNil) := pa_c ha pa_nil h
theorem pa_2 {X : Cx} {e e' : PySem.Expr} {te te' : TE} (ha : PE X e te) (hb : PE X e' te') (h : isStar e = false := by rfl) (h' : isStar e' = false := by rfl) : PA X [e, e'] (tCons te (tCons te' tNil)) := pa_c ha (pa_1 hb h') h
end L2
namespace L2
open PySem PySem.Spec PyProof.Rows
theorem w_drop {te : TE} {D : Ends} {σ : St} {H : Hp} (h : te σ H fun _ H1 => D.nx σ H1) : tDrop te D σ H := h
theorem w_bm {K : PySem.W.Frag} {T : String} {r : V → List V → Hp → VK → Prop} {to : TE} {t : TA} {σ : St} {H : Hp} {Q : VK} (h : to σ H fun x H1 => tyV K T x H1 ∧ t σ H1 fun xs H2 => r x xs H2 Q) : tBM K T r to t σ H Q := h
end L2

set_option Elab.async false
set_option linter.all false
set_option maxRecDepth 100000
namespace K7
open PySem L2
local macro_rules | `(tactic| walk_at "v") => `(tactic| repeat (with_reducible first
  | refine w_seq ?_ | refine w_asg ?_ | refine w_gname ?_ | refine w_op ?_ | refine w_var rfl ?_ | refine w_c ?_ | refine w_rI0 ?_ | refine w_ifs ?_ | refine w_ife ?_ | refine w_test ?_ | refine w_tb ?_ | refine w_bl ?_ | refine w_not ?_ | refine w_ret ?_ | refine w_retN ?_
  | refine w_nil ?_ | refine w_cons ?_ | refine w_lst ?_ | refine w_tup ?_ | refine w_cb ?_ | refine w_call ?_ | refine w_gsub ?_ | refine w_and ?_ | refine w_or ?_ | refine w_next ?_ | refine w_all ?_ | refine w_vals ?_ | refine w_compR ?_ | refine w_compT ?_ | refine w_forR ?_ | refine w_forT ?_ | refine w_forL ?_ | refine w_drop ?_ | refine w_bm ?_ | refine iteT ?_ | refine iteF ?_))
def top (i : Nat) : Stmt := PySem.Challenge.pw_dropsums_k07_orders_walked.main.body.getD i (.Pass ⟨0, 0, 0, 0⟩)
abbrev sFeed : Stmt := top 13
abbrev sDraw : Stmt := top 14
/-- a feed stands at p -/
def FeedAt (H : Hp) (p : Addr) : Prop := ∃ a b c : Int, H p = some (.lst [.int a, .int b, .int c])
theorem FeedAt.here {H : Hp} {p : Addr} {x y z : Int} : FeedAt (upd H p (.lst [.int x, .int y, .int z])) p := ⟨x, y, z, upd_same⟩
def spFeed (K : PySem.W.Frag) : Sp := fun vs H Q _ => ∃ (a : Addr) (ns : List Int) (k : Nat), vs = [.ref a, .int k] ∧ SqL K H a (ns.map V.int) ∧ ns.length ≤ 63 ∧ ∀ p x y z, H p = none → Q (.ref p) (upd H p (.lst [.int x, .int y, .int z]))
def spDraw : Sp := fun vs H Q _ => ∃ (p : Addr) (m : Int), vs = [.ref p, .int m] ∧ FeedAt H p ∧ 0 < m ∧ m < 1000000 ∧ ∀ (r x y z : Int), 0 ≤ r → r < m → Q (.int r) (upd H p (.lst [.int x, .int y, .int z]))
theorem md {i j : Int} (h : 0 < j) : 0 ≤ i % j ∧ i % j < j := ⟨Int.emod_nonneg _ (Int.ne_of_gt h), Int.emod_lt_of_pos _ h⟩
theorem mulL {i j : Int} (h1 : 0 ≤ i) (h2 : i < 4000000000) : CMul i j := .inl ⟨by omega, by omega⟩
section
variable {P : Program} {w : World} {K : PySem.W.Frag} {mg : Str → Option Value} {base : Heap}
theorem scDraw : FnScope ["_law_feed_here", "_law_many", "_law_found", "_law_mixed"] ["_law_feed_here", "_law_many"] (defScope sDraw) := ⟨rfl, rfl, rfl, by decide +kernel, rfl, by decide +kernel, by decide +kernel⟩
theorem ok_draw {f : Addr} {fd : FuncData} (F : Fun K "_law_draw" "_law_draw" sDraw f fd) : FnOk P w K mg base CX0 1 f fd ["_law_feed_here", "_law_many"] spDraw := by
  refine F.ok scDraw (fun vs H Q E h => ?_) (fun cdv A outer s H vs Q E hr h => ?_)
  · obtain ⟨p, m, rfl, _⟩ := h
    rfl
  · obtain ⟨p, m, rfl, ⟨a, b, c, hp⟩, hm, hm2, k⟩ := h
    refine ⟨_, pss_cons (ps_asg (pe_op op_add (pe_ix ix_d (pv 0) pe_int (fun _ _ => rfl)) pe_int) (pg_sub (pv 0) pe_int set_d))
      (pss_cons (ps_if (pt_cmpR op_gt (pe_ix ix_d (pv 0) pe_int (fun _ _ => rfl)) pe_int (nomark _))
        (pss_cons (ps_set (i := 2) scDraw.nd rfl (Or.inl rfl) (pe_op op_mod (pe_ix ix_d (pv 0) pe_int (fun _ _ => rfl)) (pv 1)))
        (pss_cons (ps_asg (pe_op op_fdiv (pe_ix ix_d (pv 0) pe_int (fun _ _ => rfl)) (pv 1)) (pg_sub (pv 0) pe_int set_d))
        (pss_one (ps_ret (pv 2))))) pss_nil)
      (pss_cons (ps_set (i := 3) scDraw.nd rfl (Or.inl rfl) (pe_op op_mod (pe_op op_mul (pe_op op_mod (pe_op op_add (pe_ix ix_d (pv 0) pe_int (fun _ _ => rfl)) (pe_op op_mul pe_int (pe_ix ix_d (pv 0) pe_int (fun _ _ => rfl)))) pe_int) pe_int) pe_int))
      (pss_cons (ps_set (i := 3) scDraw.nd rfl (Or.inl rfl) (pe_op op_mod (pe_op op_mul (pv 3) (pe_op op_add (pv 3) pe_int)) pe_int))
      (pss_one (ps_ret (pe_op op_mod (pe_op op_fdiv (pe_op op_mod (pe_op op_mul (pv 3) pe_int) pe_int) pe_int) (pv 1))))))), ?_⟩
    walk_at "v"
    refine w_ixL hp rfl ?_
    walk_at "v"
    refine w_set hp rfl ?_
    walk_at "v"
    refine w_ixL upd_same rfl ?_
    walk_at "v"
    refine iteD (fun _ => ?_) (fun _ => ?_)
    · walk_at "v"
      refine w_ixL upd_same rfl ?_
      walk_at "v"
      refine w_rI hm ?_
      walk_at "v"
      refine w_ixL upd_same rfl ?_
      walk_at "v"
      refine w_rI ⟨hm, by omega⟩ ?_
      walk_at "v"
      refine w_set upd_same rfl ?_
      walk_at "v"
      rw [upd_upd]
      exact k _ _ _ _ (md hm).1 (md hm).2
    · walk_at "v"
      refine w_ixL upd_same rfl ?_
      walk_at "v"
      refine w_ixL upd_same rfl ?_
      refine w_rI (mulL (by decide) (by decide)) ?_
      walk_at "v"
      refine w_rI (by decide) ?_
      walk_at "v"
      refine w_rI (mulL (md (by decide)).1 (by have := (md (i := b + 40692 * (c + 1)) (j := 2147483399) (by decide)).2; omega)) ?_
      walk_at "v"
      refine w_rI (by decide) ?_
      generalize hx : (b + 40692 * (c + 1)) % 2147483399 * 48271 % 2147483647 = x
      have h1 := md (i := (b + 40692 * (c + 1)) % 2147483399 * 48271) (j := 2147483647) (by decide)
      rw [hx] at h1
      walk_at "v"
      refine w_rI (mulL h1.1 (by omega)) ?_
      walk_at "v"
      refine w_rI (by decide) ?_
      generalize hy : x * (x + 7919) % 2147483587 = y
      have h2 := md (i := x * (x + 7919)) (j := 2147483587) (by decide)
      rw [hy] at h2
      walk_at "v"
      refine w_rI (mulL h2.1 (by omega)) ?_
      walk_at "v"
      refine w_rI (by decide) ?_
      walk_at "v"
      refine w_rI ⟨by decide, by decide⟩ ?_
      walk_at "v"
      refine w_rI hm ?_
      exact k _ _ _ _ (md hm).1 (md hm).2
theorem scFeed : FnScope ["_law_script", "_law_k", "_law_cell", "_law_left"] ["_law_script", "_law_k"] (defScope sFeed) := ⟨rfl, rfl, rfl, by decide +kernel, rfl, by decide +kernel, by decide +kernel⟩
theorem ok_feed {f : Addr} {fd : FuncData} (hlen : mg "len" = none) (F : Fun K "_law_feed" "_law_feed" sFeed f fd) : FnOk P w K mg base CX0 1 f fd ["_law_script", "_law_k"] (spFeed K) := by
  refine F.ok scFeed (fun vs H Q E h => ?_) (fun cdv A outer s H vs Q E hr h => ?_)
  · obtain ⟨a, ns, k, rfl, _⟩ := h
    rfl
  · obtain ⟨a, ns, k, rfl, hS, hl, q⟩ := h
    refine ⟨_, pss_cons (ps_set (i := 2) scFeed.nd rfl (Or.inl rfl) (pe_op op_add (pe_op op_mul pe_int (pv 1)) pe_int))
      (pss_cons (ps_if (pt_cmpR op_gt (pe_callB call_len_seq (by rfl) hlen PySem.boot_len (pa_cons (pv 0) pa_nil)) pe_int (nomark _))
        (pss_one (ps_set (i := 2) scFeed.nd rfl (Or.inl rfl) (pe_op op_add (pe_ix ix_list (pv 0) (pe_op op_mod (pv 1) (pe_callB call_len_seq (by rfl) hlen PySem.boot_len (pa_cons (pv 0) pa_nil))) (fun _ _ => rfl))
          (pe_op op_mul pe_int (pe_op op_fdiv (pv 1) (pe_callB call_len_seq (by rfl) hlen PySem.boot_len (pa_cons (pv 0) pa_nil)))))))
        pss_nil)
      (pss_cons (ps_set (i := 3) scFeed.nd rfl (Or.inl rfl) (pe_ifExp (pt_cmpR op_ge (pv 2) (pe_op op_pow pe_int pe_int) (nomark _)) (pv 2) pe_int))
      (pss_one (ps_ret (pe_lst (pa_cons (pv 3) (pa_cons (pe_op op_add (pe_op op_add (pe_op op_mod (pv 2) pe_int) (pe_op op_mul pe_int (pv 1))) pe_int) (pa_cons pe_int pa_nil)))))))), ?_⟩
    walk_at "v"
    refine w_rI (mulL (by decide) (by decide)) ?_
    walk_at "v"
    refine ⟨a, _, rfl, .inl hS, ?_⟩
    walk_at "v"
    refine iteD (fun h0 => ?_) (fun _ => ?_)
    · walk_at "v"
      refine ⟨a, _, rfl, .inl hS, ?_⟩
      rw [List.length_map] at h0 ⊢
      have h0' : 0 < ns.length := by omega
      refine w_rI h0 ?_
      obtain ⟨j, hj⟩ : ∃ j : Nat, (k : Int) % (ns.length : Int) = (j : Int) := ⟨k % ns.length, by omega⟩
      have hjl : j < ns.length := by
        have := (md (i := (k : Int)) h0).2
        omega
      refine ⟨a, _, _, .int ns[j], rfl, rfl, hS, ?_, ?_⟩
      · rw [hj]
        exact atI_nat (by simp [hjl])
      · walk_at "v"
        refine ⟨a, _, rfl, .inl hS, ?_⟩
        rw [List.length_map]
        refine w_rI ⟨h0, by omega⟩ ?_
        refine w_rI (mulL (by decide) (by decide)) ?_
        walk_at "v"
        refine w_rI ⟨by decide, by decide, by decide⟩ ?_
        walk_at "v"
        refine iteD (fun _ => ?_) (fun _ => ?_)
        all_goals
          walk_at "v"
          refine w_rI (by decide) ?_
          walk_at "v"
          refine w_rI (mulL (by decide) (by decide)) ?_
          walk_at "v"
          exact ⟨by show 3 ≤ sizeLine; decide, fun p hp => q p _ _ _ hp⟩
    · walk_at "v"
      refine w_rI ⟨by decide, by decide, by decide⟩ ?_
      walk_at "v"
      refine iteD (fun _ => ?_) (fun _ => ?_)
      all_goals
        walk_at "v"
        refine w_rI (by decide) ?_
        walk_at "v"
        refine w_rI (mulL (by decide) (by decide)) ?_
        walk_at "v"
        exact ⟨by show 3 ≤ sizeLine; decide, fun p hp => q p _ _ _ hp⟩
end
end K7

set_option Elab.async false
set_option linter.all false
set_option maxRecDepth 100000
namespace K7
open PySem L2
local macro_rules | `(tactic| walk_at "v") => `(tactic| repeat (with_reducible first
  | refine w_seq ?_ | refine w_asg ?_ | refine w_gname ?_ | refine w_op ?_ | refine w_var rfl ?_ | refine w_c ?_ | refine w_rI0 ?_ | refine w_ifs ?_ | refine w_ife ?_ | refine w_test ?_ | refine w_tb ?_ | refine w_bl ?_ | refine w_not ?_ | refine w_ret ?_ | refine w_retN ?_
  | refine w_nil ?_ | refine w_cons ?_ | refine w_lst ?_ | refine w_tup ?_ | refine w_cb ?_ | refine w_call ?_ | refine w_gsub ?_ | refine w_and ?_ | refine w_or ?_ | refine w_next ?_ | refine w_all ?_ | refine w_vals ?_ | refine w_compR ?_ | refine w_compT ?_ | refine w_forR ?_ | refine w_forT ?_ | refine w_forL ?_ | refine w_drop ?_ | refine w_bm ?_ | refine iteT ?_ | refine iteF ?_))
abbrev sNames : Stmt := top 15
def names12 : List Str := ["a", "ab", "abc", "insort", "outer", "ruler", "tone", "begins", "sort", "b", "zzzzzzzz", "x"]
def nmOf (st sp k : Nat) : Str := names12.getD ((st + sp * k) % 12) ""
/-- all that was tracked is as it was, but at p -/
def But (p : Addr) (H H' : Hp) : Prop := ∀ q o, H q = some o → q ≠ p → H' q = some o
theorem But.refl {p : Addr} {H : Hp} : But p H H := fun _ _ h _ => h
theorem But.new {p a : Addr} {H H' : Hp} {o : HO} (b : But p H H') (h : H' a = none) : But p H (upd H' a o) := fun q u e hq => by
  have e' := b q u e hq
  rw [upd_ne (ne_of_none e' h)]
  exact e'
theorem But.at {p : Addr} {H H' : Hp} {o : HO} (b : But p H H') : But p H (upd H' p o) := fun q u e hq => by
  rw [upd_ne hq]
  exact b q u e hq
theorem But.put {p a : Addr} {H H' : Hp} {o : HO} (b : But p H H') (h : H a = none) : But p H (upd H' a o) := fun q u e hq => by
  rw [upd_ne (ne_of_none e h)]
  exact b q u e hq
theorem But.trans {p : Addr} {H H1 H2 : Hp} (a : But p H H1) (b : But p H1 H2) : But p H H2 := fun q o e hq => b q o (a q o e hq) hq
theorem But.free {p a : Addr} {H H' : Hp} (b : But p H H') (hp : p ≠ a) (h : H' a = none) : H a = none := by
  cases e : H a with
  | none => rfl
  | some o => rw [b a o e (Ne.symm hp)] at h; cases h
theorem FeedAt.ne {H : Hp} {p a : Addr} (F : FeedAt H p) (h : H a = none) : p ≠ a := by
  obtain ⟨x, y, z, e⟩ := F
  exact ne_of_none e h
theorem FeedAt.new {H : Hp} {p a : Addr} {o : HO} (F : FeedAt H p) (h : p ≠ a) : FeedAt (upd H a o) p := by
  obtain ⟨x, y, z, e⟩ := F
  exact ⟨x, y, z, by rw [upd_ne h]; exact e⟩
theorem Nat.ofI {r : Int} (h : 0 ≤ r) : ∃ n : Nat, r = (n : Int) := ⟨r.toNat, by omega⟩
/-- what names there may be -/
def Names (m : Nat) (nm : List Str) : Prop := nm.length = m ∧ nm.Nodup
theorem ix_ok : ∀ st < 12, ∀ sp ∈ [1, 5, 7, 11], ∀ m < 9, ((List.range m).map fun k => (st + sp * k) % 12).Nodup := by decide +kernel
theorem names12_nd : names12.Nodup := by decide +kernel
theorem names_ok {st sp m : Nat} (h1 : st < 12) (h2 : sp ∈ [1, 5, 7, 11]) (h3 : m < 9) : ((List.range m).map (nmOf st sp)).Nodup := by
  have h := ix_ok st h1 sp h2 m h3
  have e : (List.range m).map (nmOf st sp) = ((List.range m).map fun k => (st + sp * k) % 12).map fun j => names12.getD j "" := by
    rw [List.map_map]
    rfl
  rw [e]
  refine List.Pairwise.map _ (R := fun a b => a ≠ b ∧ a < 12 ∧ b < 12) (fun a b ⟨hab, ha, hb⟩ hc => ?_) ?_
  · have hl : names12.length = 12 := rfl
    simp only [List.getD_eq_getElem?_getD, List.getElem?_eq_getElem (show a < names12.length by omega), List.getElem?_eq_getElem (show b < names12.length by omega), Option.getD_some] at hc
    exact hab ((List.getElem_inj names12_nd).mp hc)
  · refine List.Pairwise.imp_of_mem (R := fun a b => a ≠ b) (fun {a b} ha hb hab => ⟨hab, ?_, ?_⟩) h
    · obtain ⟨k, _, rfl⟩ := List.mem_map.mp ha
      omega
    · obtain ⟨k, _, rfl⟩ := List.mem_map.mp hb
      omega
def spNames : Sp := fun vs H Q _ => ∃ (p : Addr) (m : Nat), vs = [.ref p, .int m] ∧ FeedAt H p ∧ 0 < m ∧ m ≤ 8 ∧ ∀ (l : Addr) (nm : List Str) (H' : Hp), H l = none → Names m nm → FeedAt H' p → But p H H' → H' l = some (.lst (nm.map V.str)) → Q (.ref l) H'
section
variable {P : Program} {w : World} {K : PySem.W.Frag} {mg : Str → Option Value} {base : Heap}
abbrev nNames : List Str := ["_law_feed_here", "_law_many", "_law_some", "_law_start", "_law_step"]
theorem nmNames : Nm nNames (defScope sNames) := ⟨by decide +kernel, by decide +kernel⟩
theorem scNames : FnScope nNames ["_law_feed_here", "_law_many"] (defScope sNames) := ⟨rfl, rfl, rfl, by decide +kernel, rfl, by decide +kernel, by decide +kernel⟩
/-- the scope of the comprehension in the n-th statement, as a value that is returned -/
def retComp (s : Stmt) : Scope := match s with
  | .Return (some (.ListComp _ _ sc _)) _ => sc
  | _ => { kind := .function, names := [], isGenerator := false, isCoroutine := false }
abbrev cNames : Scope := retComp ((defBody sNames).getD 3 (.Pass ⟨0, 0, 0, 0⟩))
theorem bsNames : BScope (defScope sNames) cNames ["_law_k"] ["_law_some", "_law_start", "_law_step"] [] := { okind := by decide +kernel, kind := by decide +kernel, nocell := by decide +kernel, names := by decide +kernel, fr := by decide +kernel, ff := by decide +kernel, nd := by decide +kernel, vis := by decide +kernel, loc := by decide +kernel, gl := by decide +kernel }
set_option maxHeartbeats 200000 in
theorem ok_names {f : Addr} {fd : FuncData} (hrange : mg "range" = none) (D : Has P w K mg base 1 "_law_draw" ["_law_feed_here", "_law_many"] spDraw) (F : Fun K "_law_names" "_law_names" sNames f fd) : FnOk P w K mg base CX0 2 f fd ["_law_feed_here", "_law_many"] spNames := by
  refine F.ok scNames (fun vs H Q E h => ?_) (fun cdv A outer s H vs Q E hr h => ?_)
  · obtain ⟨p, m, rfl, _⟩ := h
    rfl
  · obtain ⟨p, m, rfl, hF, h1, h8, k⟩ := h
    refine' ⟨_, ?hb, ?rd⟩
    case hb =>
      refine' pss_cons ?s1 ?r1
      case' r1 => refine' pss_cons ?s2 ?r2
      case' r2 => refine' pss_cons ?s3 ?r3
      case' r3 => refine' pss_one ?s4
      case s1 =>
        refine' ps_setD nmNames 2 ?p1
        case p1 =>
          refine pe_lstC (vs := names12.map V.str) ?_
          decide +kernel
      case s2 =>
        refine' ps_setD nmNames 3 ?p2
        case p2 => exact pe_fn D hr (by decide) (pa_cons (pvd nmNames 0) (pa_cons pe_int pa_nil))
      case s3 =>
        refine' ps_setD nmNames 4 ?p3
        case p3 =>
          refine' pe_ix ix_d ?a3 (pe_fn D hr (by decide) (pa_cons (pvd nmNames 0) (pa_cons pe_int pa_nil))) (fun _ _ => rfl)
          case a3 =>
            refine pe_lstC (vs := [.int 1, .int 5, .int 7, .int 11]) ?_
            decide +kernel
      case s4 =>
        refine' ps_ret ?p4
        case p4 =>
          refine' pe_comp (ix := [2, 3, 4]) bsNames.toCScope rfl rfl ?h3 ?h4 ?h5 ?h6
          case h3 => exact pi_range1 rfl hrange (pa_cons (pvd nmNames 1) pa_nil)
          case h4 => exact fun _ _ _ _ _ _ => pgb bsNames 0
          case h5 => exact fun _ _ _ _ _ _ => pts_nil
          case h6 => exact fun _ _ _ _ _ _ => pe_ix ix_d (pvb bsNames 1) (pe_op op_mod (pe_op op_add (pvb bsNames 2) (pe_op op_mul (pvb bsNames 3) (pvb bsNames 0))) pe_int) (fun _ _ => rfl)
    case rd =>
      walk_at "v"
      refine ⟨by show 12 ≤ sizeLine; decide, fun a1 ha1 => ?_⟩
      walk_at "v"
      refine ⟨p, 12, rfl, hF.new (hF.ne ha1), by decide, by decide, fun r x y z r0 r1 => ?_⟩
      walk_at "v"
      refine ⟨by show 4 ≤ sizeLine; decide, fun a2 ha2 => ?_⟩
      walk_at "v"
      have np1 : p ≠ a1 := hF.ne ha1
      have np2 : p ≠ a2 := by
        intro e
        rw [← e, upd_same] at ha2
        cases ha2
      refine ⟨p, 4, rfl, FeedAt.here.new np2, by decide, by decide, fun r' x' y' z' r0' r1' => ?_⟩
      obtain ⟨st, rfl⟩ := Nat.ofI r0
      obtain ⟨j, rfl⟩ := Nat.ofI r0'
      obtain ⟨sp, hsp, hat⟩ : ∃ sp : Nat, sp ∈ [1, 5, 7, 11] ∧ atI ([.int 1, .int 5, .int 7, .int 11] : List V) (j : Int) = some (.int sp) := by
        have : j = 0 ∨ j = 1 ∨ j = 2 ∨ j = 3 := by omega
        rcases this with rfl | rfl | rfl | rfl
        · exact ⟨1, by decide, rfl⟩
        · exact ⟨5, by decide, rfl⟩
        · exact ⟨7, by decide, rfl⟩
        · exact ⟨11, by decide, rfl⟩
      refine w_ixL (by rw [upd_ne (Ne.symm np2), upd_same]) hat ?_
      walk_at "v"
      refine ⟨m, rfl, by omega, by omega, fun l hl => ?_⟩
      generalize hH3 : upd (upd (upd (upd H a1 (HO.lst (List.map V.str names12))) p (HO.lst [V.int x, V.int y, V.int z])) a2 (HO.lst [V.int 1, V.int 5, V.int 7, V.int 11])) p (HO.lst [V.int x', V.int y', V.int z']) = H3 at hl ⊢
      have hlp : l ≠ p := by
        intro e
        rw [e, ← hH3, upd_same] at hl
        cases hl
      have ha12 : a1 ≠ a2 := by
        intro e
        rw [← e, upd_ne (Ne.symm np1), upd_same] at ha2
        cases ha2
      have hl1 : l ≠ a1 := by
        intro e
        rw [e, ← hH3, upd_ne (Ne.symm np1), upd_ne ha12, upd_ne (Ne.symm np1), upd_same] at hl
        cases hl
      have hl2 : l ≠ a2 := by
        intro e
        rw [e, ← hH3, upd_ne (Ne.symm np2), upd_same] at hl
        cases hl
      have h3s : H3 a1 = some (.lst (names12.map V.str)) := by
        rw [← hH3, upd_ne (Ne.symm np1), upd_ne ha12, upd_ne (Ne.symm np1), upd_same]
      refine cgo_range (ρ := [some (.ref a1), some (.int st), some (.int sp)]) (fun i ys H' => ys = ((List.range i).map (nmOf st sp)).map V.str ∧ H' = upd H3 l (.lst ys)) ⟨rfl, rfl⟩ ?_ ?_
      · rintro i ys H' hi ⟨rfl, rfl⟩ hD R S kR _
        walk_at "v"
        refine w_rI (mulL (by omega) (by simp only [List.mem_cons, List.not_mem_nil, or_false] at hsp; omega)) ?_
        walk_at "v"
        refine w_rI (by decide) ?_
        have e1 : ((st : Int) + (sp : Int) * (0 + (i : Int))) % 12 = (((st + sp * i) % 12 : Nat) : Int) := by
          rw [Int.zero_add]
          norm_cast
        rw [e1]
        refine w_ixL (v := .str (nmOf st sp i)) (by rw [upd_ne (Ne.symm hl1)]; exact h3s) (atI_nat ?_) ?_
        · rw [List.getElem?_map]
          unfold nmOf
          have hlt : (st + sp * i) % 12 < names12.length := Nat.mod_lt _ (by decide)
          rw [List.getD_eq_getElem?_getD, List.getElem?_eq_getElem hlt]
          rfl
        · refine kR _ _ hD (by simp only [List.length_map, List.length_range]; exact small1000 (by omega)) ⟨?_, upd_upd⟩
          rw [List.range_succ, List.map_append, List.map_append]
          rfl
      · rintro ys H' ⟨rfl, rfl⟩ hD
        refine k l ((List.range m).map (nmOf st sp)) _ ?_ ⟨by simp, names_ok (by omega) hsp (by omega)⟩ ?_ ?_ upd_same
        · cases e : H l with
          | none => rfl
          | some o =>
            rw [← hH3, upd_ne hlp, upd_ne hl2, upd_ne hlp, upd_ne hl1, e] at hl
            cases hl
        · rw [← hH3]
          exact FeedAt.here.new (Ne.symm hlp)
        · intro q o e hq
          have hq1 : q ≠ a1 := ne_of_none e ha1
          have hq2 : q ≠ a2 := by
            intro z
            rw [← z, upd_ne hq, upd_ne hq1, e] at ha2
            cases ha2
          have hql : q ≠ l := by
            intro z
            rw [← z, ← hH3, upd_ne hq, upd_ne hq2, upd_ne hq, upd_ne hq1, e] at hl
            cases hl
          rw [upd_ne hql, ← hH3, upd_ne hq, upd_ne hq2, upd_ne hq, upd_ne hq1]
          exact e
end
end K7

set_option Elab.async false
set_option linter.all false
set_option maxRecDepth 100000
namespace L2
open PySem PySem.Spec PyProof.Rows
/-! ### data: what a value reads as -/
mutual
inductive RdV (H : Hp) : V → PyData → Prop
  | non : RdV H .non .none
  | bl (b : Bool) : RdV H (.bl b) (.bool b)
  | int (i : Int) : RdV H (.int i) (.int i)
  | str (x : Str) : RdV H (.str x) (.str x)
  | lst {p : Addr} {xs : List V} {ds : List PyData} : H p = some (.lst xs) → RdVs H xs ds → RdV H (.ref p) (.list ds)
  | tup {p : Addr} {xs : List V} {ds : List PyData} : H p = some (.tup xs) → RdVs H xs ds → RdV H (.ref p) (.tuple ds)
inductive RdVs (H : Hp) : List V → List PyData → Prop
  | nil : RdVs H [] []
  | cons {v : V} {d : PyData} {vs : List V} {ds : List PyData} : RdV H v d → RdVs H vs ds → RdVs H (v :: vs) (d :: ds)
end
section
variable {X : Cx} {pins : List (Addr × Obj)} {σ : St} {H : Hp} {s : Shared}
mutual
theorem RdV.reads (I : Inv X pins σ H s) {v : V} {d : PyData} : RdV H v d → ∀ {u : Value}, RelV v u → ∃ as, Reads s.heap u d as
  | .non, u, r => by
    cases r
    exact ⟨[], .none⟩
  | .bl b, u, r => by
    cases r
    exact ⟨[], .bool b⟩
  | .int i, u, r => by
    obtain ⟨t, rfl⟩ := r
    exact ⟨[], .int i t⟩
  | .str x, u, r => by
    obtain ⟨t, rfl⟩ := r
    exact ⟨[], .str x t⟩
  | .lst (p := p) hp h, u, r => by
    cases r
    obtain ⟨its, n, rv, e, z⟩ := I.lst hp
    obtain ⟨as, q⟩ := RdVs.reads I h rv
    exact ⟨p :: as, .list e rfl rfl (by simpa using q)⟩
  | .tup (p := p) hp h, u, r => by
    cases r
    obtain ⟨z, its, rv, o, e, c, n, d⟩ := I.hok p _ hp
    obtain ⟨as, q⟩ := RdVs.reads I h rv
    exact ⟨as, .tuple e c d (by simpa using q)⟩
theorem RdVs.reads (I : Inv X pins σ H s) {vs : List V} {ds : List PyData} : RdVs H vs ds → ∀ {us : List Value}, Vals vs us → ∃ as, ReadsAll s.heap us ds as
  | .nil, us, r => by
    cases r
    exact ⟨[], .nil⟩
  | .cons h hs, us, r => by
    cases r with
    | cons r1 r2 =>
      obtain ⟨as, q⟩ := RdV.reads I h r1
      obtain ⟨bs, q2⟩ := RdVs.reads I hs r2
      exact ⟨as ++ bs, .cons q q2⟩
end
end
theorem rdInts {H : Hp} : ∀ (ns : List Int), RdVs H (ns.map V.int) (ns.map PyData.int)
  | [] => .nil
  | n :: ns => .cons (.int n) (rdInts ns)
end L2
namespace L2
open PySem PySem.Spec PyProof.Rows
section
variable {X : Cx} {k : Nat}
def rEqD : R2 := fun x y H Q => ∃ dx dy, RdV H x dx ∧ RdV H y dy ∧ dx.canLay0 = true ∧ dy.canLay0 = true ∧ dx.depth ≤ 60 ∧ Q (.bl (PyData.eqv dx dy)) H
theorem op_eqD (hr : Room k X.A) : OpR X (compareOp .Eq) rEqD := by
  intro pins s σ H x y v u Q I rx ry h
  obtain ⟨dx, dy, hx, hy, cx, cy, hd, q⟩ := h
  obtain ⟨as, ra⟩ := hx.reads I rx
  obtain ⟨bs, rb⟩ := hy.reads I ry
  have := hr.units
  exact SeqAt.compareEq_reads ra rb cx cy (by omega) ⟨.bl _, H, I, rfl, q⟩
def rRepr : List V → Hp → VK → Prop := fun xs H Q => ∃ v d, xs = [v] ∧ RdV H v d ∧ d.showable = true ∧ d.hasDict = false ∧ d.depth ≤ 50 ∧ d.shown.length ≤ sizeLine ∧ Q (.str d.shown) H
theorem call_repr (hr : Room k X.A) : CallR X (.builtin "repr") rRepr := by
  intro pins s σ H xs us Q I r h
  obtain ⟨v, d, rfl, hv, h1, h2, h3, h4, q⟩ := h
  obtain ⟨u, rfl, ru⟩ := r.one
  have hu := hr.units
  cases hv with
  | non =>
    cases ru
    exact PySem.P.repr_of_none ⟨.str _, H, I.tok _, ⟨_, rfl⟩, q⟩
  | bl b =>
    cases ru
    exact PySem.P.repr_of_bool ⟨.str _, H, I.tok _, ⟨_, rfl⟩, q⟩
  | int i =>
    obtain ⟨t, rfl⟩ := ru
    exact PySem.P.repr_of_int (by simpa [PyData.showable] using h1) ⟨.str _, H, I.tok _, ⟨_, rfl⟩, q⟩
  | str x =>
    obtain ⟨t, rfl⟩ := ru
    exact PySem.P.repr_of_str ⟨.str _, H, I.tok _, ⟨_, rfl⟩, q⟩ h4
  | lst hp hs =>
    obtain ⟨as, ra⟩ := RdV.reads I (.lst hp hs) ru
    cases ru
    exact repr_of_reads' ra h1 (fun z => by rw [h2] at z; cases z) hr.gd (by omega) (fun _ _ e => e) (fun h' u tk hk => ⟨.str _, H, I.kept hk, ⟨_, rfl⟩, q⟩) h4
  | tup hp hs =>
    obtain ⟨as, ra⟩ := RdV.reads I (.tup hp hs) ru
    cases ru
    exact repr_of_reads' ra h1 (fun z => by rw [h2] at z; cases z) hr.gd (by omega) (fun _ _ e => e) (fun h' u tk hk => ⟨.str _, H, I.kept hk, ⟨_, rfl⟩, q⟩) h4
end
end L2
namespace L2
open PySem PySem.Spec PyProof.Rows
theorem eqv_ints : ∀ (ns ms : List Int), PyData.eqvAll (ns.map PyData.int) (ms.map PyData.int) = decide (ns = ms)
  | [], [] => by simp only [List.map_nil, PyData.eqvAll, decide_true]
  | [], m :: ms => by simp [PyData.eqvAll]
  | n :: ns, [] => by simp [PyData.eqvAll]
  | n :: ns, m :: ms => by
    simp only [List.map_cons, PyData.eqvAll, PyData.eqv, eqv_ints ns ms]
    by_cases h : n = m
    · subst h; simp
    · simp [h]
theorem lay_ints : ∀ (ns : List Int), PyData.canLayAll0 (ns.map PyData.int) = true
  | [] => rfl
  | n :: ns => by simp [PyData.canLayAll0, PyData.canLay0, lay_ints ns]
theorem depth_ints : ∀ (ns : List Int), PyData.depthAll (ns.map PyData.int) = 0
  | [] => rfl
  | n :: ns => by simp [PyData.depthAll, PyData.depth, depth_ints ns]
/-- two lists of ints -/
theorem w_eqL {H : Hp} {Q : VK} {p q : Addr} {ns ms : List Int} (hp : H p = some (.lst (ns.map V.int))) (hq : H q = some (.lst (ms.map V.int))) (h : Q (.bl (decide (ns = ms))) H) : rEqD (.ref p) (.ref q) H Q := by
  refine ⟨_, _, .lst hp (rdInts ns), .lst hq (rdInts ms), lay_ints ns, lay_ints ms, ?_, ?_⟩
  · show PyData.depthAll _ + 1 ≤ 60
    rw [depth_ints]
    decide
  · show Q (.bl (PyData.eqvAll _ _)) H
    rw [eqv_ints]
    exact h
end L2
namespace L2
open PySem PySem.Spec PyProof.Rows
section
variable {X : Cx}
theorem vals_of : ∀ {xs : List V} {us : List Value}, xs.length = us.length → (∀ (j : Nat) (x : V) (u : Value), xs[j]? = some x → us[j]? = some u → RelV x u) → Vals xs us
  | [], [], _, _ => .nil
  | [], v :: vs, h, _ => absurd h (by simp)
  | v :: vs, [], h, _ => absurd h (by simp)
  | x :: xs, u :: us, h, k => .cons (k 0 x u rfl rfl) (vals_of (by simpa using h) fun j y v e1 e2 => k (j + 1) y v (by simpa using e1) (by simpa using e2))
/-- range(n), as a thing of its own -/
def rRange : List V → Hp → VK → Prop := fun xs H Q => ∃ j : Int, xs = [.int j] ∧ ∀ r, H r = none → Q (.ref r) (upd H r (.rng 0 j))
theorem call_rangeV : CallR X (.type "range") rRange := by
  intro pins s σ H xs us Q I r h
  obtain ⟨j, rfl, q⟩ := h
  obtain ⟨u, rfl, ru⟩ := r.one
  obtain ⟨t, rfl⟩ := ru
  refine call_range_1 ⟨.ref _, _, I.laid (fun b o e => Heap.get?_push_of_some _ e) (Nat.le_refl _) ?_, rfl, q _ I.fresh⟩
  exact ⟨_, _, _, Heap.get?_push_size _ rfl⟩
def rListR : List V → Hp → VK → Prop := fun xs H Q => ∃ (p : Addr) (n : Nat), xs = [.ref p] ∧ H p = some (.rng 0 (n : Int)) ∧ n ≤ 1000 ∧ ∀ l, H l = none → Q (.ref l) (upd H l (.lst ((List.range n).map fun (i : Nat) => V.int (i : Int))))
theorem call_listRng (hc : X.calm = true) : CallR X (.type "list") rListR := by
  intro pins s σ H xs us Q I r h
  obtain ⟨p, n, rfl, hp, hn, q⟩ := h
  obtain ⟨u, rfl, ru⟩ := r.one
  cases ru
  obtain ⟨t, u, v, e⟩ := I.hok p _ hp
  refine call_list_range (n := n) (I.ok.hd hc) e (small_one (by omega) (by omega) (by omega) (by omega)) (by rw [rangeSize_one]; split <;> omega) (by omega) fun h' tk acc' c' hk hS hacc => ?_
  refine ⟨.ref _, _, I.laid (t' := tk) hk (Nat.le_refl _) ?_, rfl, q _ I.fresh⟩
  obtain ⟨hsz, hit⟩ := hacc
  refine ⟨by rw [List.length_map, List.length_range]; exact Nat.le_of_lt (small1000 hn), acc'.toList, c', vals_of (by simp [hsz]) fun j x u ex eu => ?_, hS⟩
  have hj : j < n := by
    have := (List.getElem?_eq_some_iff.mp ex).1
    simpa using this
  rw [List.getElem?_map, List.getElem?_range hj] at ex
  have ex' : V.int (j : Int) = x := Option.some.inj ex
  subst ex'
  obtain ⟨t, ht⟩ := hit j u (by simpa using eu)
  exact ⟨t, by rw [ht]; congr 1; omega⟩
end
end L2

set_option Elab.async false
set_option linter.all false
set_option maxRecDepth 100000
namespace K7
open PySem L2
local macro_rules | `(tactic| walk_at "v") => `(tactic| repeat (with_reducible first
  | refine w_seq ?_ | refine w_asg ?_ | refine w_gname ?_ | refine w_op ?_ | refine w_var rfl ?_ | refine w_c ?_ | refine w_rI0 ?_ | refine w_ifs ?_ | refine w_ife ?_ | refine w_test ?_ | refine w_tb ?_ | refine w_bl ?_ | refine w_not ?_ | refine w_ret ?_ | refine w_retN ?_
  | refine w_nil ?_ | refine w_cons ?_ | refine w_lst ?_ | refine w_tup ?_ | refine w_cb ?_ | refine w_call ?_ | refine w_gsub ?_ | refine w_and ?_ | refine w_or ?_ | refine w_next ?_ | refine w_all ?_ | refine w_vals ?_ | refine w_compR ?_ | refine w_compT ?_ | refine w_forR ?_ | refine w_forT ?_ | refine w_forL ?_ | refine w_drop ?_ | refine w_bm ?_ | refine iteT ?_ | refine iteF ?_))
abbrev sRule : Stmt := top 16
abbrev nRule : List Str := ["_law_feed_here", "_law_many", "_law_takes", "_law_gives", "_law_j", "_law_sort", "_law_way_here"]
theorem nmRule : Nm nRule (defScope sRule) := ⟨by decide +kernel, by decide +kernel⟩
theorem scRule : FnScope nRule ["_law_feed_here", "_law_many"] (defScope sRule) := ⟨rfl, rfl, rfl, by decide +kernel, rfl, by decide +kernel, by decide +kernel⟩
def asgComp (s : Stmt) : Scope := match s with
  | .Assign _ (.ListComp _ _ sc _) _ => sc
  | _ => { kind := .function, names := [], isGenerator := false, isCoroutine := false }
abbrev cRule (i : Nat) : Scope := asgComp ((defBody sRule).getD i (.Pass ⟨0, 0, 0, 0⟩))
theorem bsRule0 : BScope (defScope sRule) (cRule 0) ["_law_sort"] [] [] := { okind := by decide +kernel, kind := by decide +kernel, nocell := by decide +kernel, names := by decide +kernel, fr := by decide +kernel, ff := by decide +kernel, nd := by decide +kernel, vis := by decide +kernel, loc := by decide +kernel, gl := by decide +kernel }
theorem bsRule1 : BScope (defScope sRule) (cRule 1) ["_law_sort"] [] [] := { okind := by decide +kernel, kind := by decide +kernel, nocell := by decide +kernel, names := by decide +kernel, fr := by decide +kernel, ff := by decide +kernel, nd := by decide +kernel, vis := by decide +kernel, loc := by decide +kernel, gl := by decide +kernel }
theorem locRule : (defScope sRule).names.lookup ("_law_takes" : Str) = some .local ∧ (defScope sRule).names.lookup ("_law_gives" : Str) = some .local := by decide +kernel
/-- a row of counts stands at p -/
def Cnt (c : Int) (m : Nat) (H : Hp) (p : Addr) : Prop := ∃ ns : List Int, H p = some (.lst (ns.map V.int)) ∧ ns.length = m ∧ ∀ n ∈ ns, 0 ≤ n ∧ n ≤ c
def CntT (m : Nat) (H : Hp) (p : Addr) : Prop := ∃ ns : List Int, H p = some (.tup (ns.map V.int)) ∧ ns.length = m ∧ ∀ n ∈ ns, 0 ≤ n ∧ n ≤ 30
def RuleAt (m : Nat) (H : Hp) (r : Addr) : Prop := ∃ a b, H r = some (.tup [.ref a, .ref b]) ∧ CntT m H a ∧ CntT m H b
def spRule : Sp := fun vs H Q _ => ∃ (p : Addr) (m : Nat), vs = [.ref p, .int m] ∧ FeedAt H p ∧ 0 < m ∧ m ≤ 8 ∧ ∀ (r : Addr) (H' : Hp), H r = none → RuleAt m H' r → FeedAt H' p → But p H H' → Q (.ref r) H'

theorem w_zeros {m : Nat} {H : Hp} {Q : VK} (hm : m ≤ 1000) (h : ∀ l, H l = none → Q (.ref l) (upd H l (.lst ((List.replicate m (0 : Int)).map V.int)))) :
    ∃ j : Int, [V.int (m : Int)] = [.int j] ∧ -(2 ^ 62) ≤ j ∧ j < 2 ^ 62 ∧ ∀ D, H D = none → CGo (Itr 0 j.toNat) D (gName 0) tAll (tC (V.int 0)) Q [none] H := by
  refine ⟨m, rfl, by omega, by omega, fun l hl => ?_⟩
  refine cgo_range (ρ := []) (fun i ys H' => ys = (List.replicate i (0 : Int)).map V.int ∧ H' = upd H l (.lst ys)) ⟨rfl, rfl⟩ ?_ ?_
  · rintro i ys H' hi ⟨rfl, rfl⟩ hD R S kR _
    walk_at "v"
    have hi' : i < m := by
      rw [Int.toNat_natCast] at hi
      exact hi
    refine kR _ _ hD (by rw [List.length_map, List.length_replicate]; exact small1000 (by omega)) ⟨?_, upd_upd⟩
    rw [List.replicate_succ', List.map_append]
    rfl
  · rintro ys H' ⟨rfl, rfl⟩ hD
    rw [Int.toNat_natCast]
    exact h l hl
/-- where a rule is being made: the feed at p, the counts at a and b; H0 the heap at the entry -/
structure RS (c : Int) (m : Nat) (p a b : Addr) (H0 H : Hp) : Prop where
  fd : FeedAt H p
  ca : Cnt c m H a
  cb : Cnt c m H b
  pa : p ≠ a
  pb : p ≠ b
  ab : a ≠ b
  bt : But p H0 H
  na : H0 a = none
  nb : H0 b = none
theorem Cnt.new {k : Int} {m : Nat} {H : Hp} {a l : Addr} {o : HO} (c : Cnt k m H a) (h : a ≠ l) : Cnt k m (upd H l o) a := by
  obtain ⟨ns, e, r⟩ := c
  exact ⟨ns, by rw [upd_ne h]; exact e, r⟩
theorem Cnt.ne {k : Int} {m : Nat} {H : Hp} {a l : Addr} (c : Cnt k m H a) (h : H l = none) : a ≠ l := by
  obtain ⟨ns, e, r⟩ := c
  exact ne_of_none e h
section
variable {k : Int} {m : Nat} {p a b : Addr} {H0 H : Hp}
theorem RS.up {k' : Int} (r : RS k m p a b H0 H) (h : k ≤ k') : RS k' m p a b H0 H := by
  obtain ⟨fd, ⟨ns, e, hl, hn⟩, ⟨gs, e', hl', hn'⟩, r1, r2, r3, r4, r5, r6⟩ := r
  exact ⟨fd, ⟨ns, e, hl, fun n h' => ⟨(hn n h').1, Int.le_trans (hn n h').2 h⟩⟩, ⟨gs, e', hl', fun n h' => ⟨(hn' n h').1, Int.le_trans (hn' n h').2 h⟩⟩, r1, r2, r3, r4, r5, r6⟩
theorem RS.draw (r : RS k m p a b H0 H) {x y z : Int} : RS k m p a b H0 (upd H p (.lst [.int x, .int y, .int z])) :=
  ⟨FeedAt.here, r.ca.new (Ne.symm r.pa), r.cb.new (Ne.symm r.pb), r.pa, r.pb, r.ab, r.bt.at, r.na, r.nb⟩
theorem RS.new (r : RS k m p a b H0 H) {l : Addr} {o : HO} (h : H l = none) : RS k m p a b H0 (upd H l o) :=
  ⟨r.fd.new (r.fd.ne h), r.ca.new (r.ca.ne h), r.cb.new (r.cb.ne h), r.pa, r.pb, r.ab, r.bt.new h, r.na, r.nb⟩
theorem Cnt.put {ns : List Int} {j : Nat} {v : Int} (hl : ns.length = m) (hn : ∀ n ∈ ns, 0 ≤ n ∧ n ≤ k) (hv : 0 ≤ v ∧ v ≤ k) : Cnt k m (upd H a (.lst ((ns.map V.int).set j (.int v)))) a := by
  refine ⟨ns.set j v, by rw [upd_same, List.map_set], by rw [List.length_set]; exact hl, fun n h => ?_⟩
  rcases List.mem_or_eq_of_mem_set h with h | h
  · exact hn n h
  · rw [h]; exact hv
theorem RS.setA (r : RS k m p a b H0 H) {ns : List Int} {j : Nat} {v : Int} (hl : ns.length = m) (hn : ∀ n ∈ ns, 0 ≤ n ∧ n ≤ k) (hv : 0 ≤ v ∧ v ≤ k) : RS k m p a b H0 (upd H a (.lst ((ns.map V.int).set j (.int v)))) :=
  ⟨r.fd.new r.pa, Cnt.put hl hn hv, r.cb.new (Ne.symm r.ab), r.pa, r.pb, r.ab, r.bt.put r.na, r.na, r.nb⟩
theorem RS.setB (r : RS k m p a b H0 H) {ns : List Int} {j : Nat} {v : Int} (hl : ns.length = m) (hn : ∀ n ∈ ns, 0 ≤ n ∧ n ≤ k) (hv : 0 ≤ v ∧ v ≤ k) : RS k m p a b H0 (upd H b (.lst ((ns.map V.int).set j (.int v)))) :=
  ⟨r.fd.new r.pb, r.ca.new r.ab, Cnt.put hl hn hv, r.pa, r.pb, r.ab, r.bt.put r.nb, r.na, r.nb⟩
/-- an item of a row of counts, at a drawn place -/
theorem Cnt.item (c : Cnt k m H a) {r : Int} (h0 : 0 ≤ r) (h1 : r < m) : ∃ (ns : List Int) (n : Int) (j : Nat), H a = some (.lst (ns.map V.int)) ∧ ns.length = m ∧ (∀ n ∈ ns, 0 ≤ n ∧ n ≤ k) ∧ (0 ≤ n ∧ n ≤ k) ∧ atI (ns.map V.int) r = some (.int n) ∧ ixN (ns.map V.int).length r = some j := by
  obtain ⟨ns, e, hl, hn⟩ := c
  obtain ⟨j, rfl⟩ := Nat.ofI h0
  have hj : j < ns.length := by omega
  refine ⟨ns, ns[j], j, e, hl, hn, hn _ (List.getElem_mem hj), atI_nat (by simp [hj]), ?_⟩
  rw [List.length_map]
  unfold ixN
  rw [if_pos h0, if_pos (by omega)]
  rfl
end
section
variable {P : Program} {w : World} {K : PySem.W.Frag} {mg : Str → Option Value} {base : Heap}
structure Blt (mg : Str → Option Value) : Prop where
  len : mg "len" = none
  range : mg "range" = none
  tuple : mg "tuple" = none
  int : mg "int" = none
theorem ok_rule {f : Addr} {fd : FuncData} (B : Blt mg) (D : Has P w K mg base 1 "_law_draw" ["_law_feed_here", "_law_many"] spDraw) (F : Fun K "_law_rule" "_law_rule" sRule f fd) : FnOk P w K mg base CX0 2 f fd ["_law_feed_here", "_law_many"] spRule := by
  refine F.ok scRule (fun vs H Q E h => ?_) (fun cdv A outer s H vs Q E hr h => ?_)
  · obtain ⟨p, m, rfl, _⟩ := h
    rfl
  · obtain ⟨p, m, rfl, hF, h1, h8, k⟩ := h
    refine' ⟨_, ?hb, ?rd⟩
    case hb =>
      refine' pss_cons ?s1 ?r1
      case' r1 => refine' pss_cons ?s2 ?r2
      case' r2 => refine' pss_cons ?s3 ?r3
      case' r3 => refine' pss_cons ?s4 ?r4
      case' r4 => refine' pss_cons ?s5 ?r5
      case' r5 => refine' pss_cons ?s6 ?r6
      case' r6 => refine' pss_cons ?s7 ?r7
      case' r7 => refine' pss_cons ?s8 ?r8
      case' r8 => refine' pss_cons ?s9 ?r9
      case' r9 => refine' pss_one ?s10
      case s1 =>
        refine' ps_setC (i := 2) (ix := []) nmRule.nd rfl locRule.1 bsRule0.toCScope rfl rfl ?h3 ?h4 ?h5 ?h6
        case h3 => exact pi_range1 rfl B.range (pa_cons (pvd nmRule 1) pa_nil)
        case h4 => exact fun _ _ _ _ _ _ => pgb bsRule0 0
        case h5 => exact fun _ _ _ _ _ _ => pts_nil
        case h6 => exact fun _ _ _ _ _ _ => pe_int
      case s2 =>
        refine' ps_setC (i := 3) (ix := []) nmRule.nd rfl locRule.2 bsRule1.toCScope rfl rfl ?h3 ?h4 ?h5 ?h6
        case h3 => exact pi_range1 rfl B.range (pa_cons (pvd nmRule 1) pa_nil)
        case h4 => exact fun _ _ _ _ _ _ => pgb bsRule1 0
        case h5 => exact fun _ _ _ _ _ _ => pts_nil
        case h6 => exact fun _ _ _ _ _ _ => pe_int
      case s3 =>
        refine' ps_for PassesOwn.never rfl (pi_range1 rfl B.range (pa_cons (pe_op op_add pe_int (pe_fn D hr (by decide) (pa_cons (pvd nmRule 0) (pa_cons pe_int pa_nil)))) pa_nil)) (pgd nmRule 4) ?b3
        case b3 =>
          refine' pss_cons ?t1 ?u1
          case t1 => exact ps_setD nmRule 5 (pe_fn D hr (by decide) (pa_cons (pvd nmRule 0) (pa_cons (pvd nmRule 1) pa_nil)))
          case u1 =>
            refine' pss_one ?t2
            case t2 => exact ps_asg (pe_op op_add (pe_op op_add (pe_ix ix_d (pvd nmRule 2) (pvd nmRule 5) (fun _ _ => rfl)) pe_int) (pe_fn D hr (by decide) (pa_cons (pvd nmRule 0) (pa_cons pe_int pa_nil)))) (pg_sub (pvd nmRule 2) (pvd nmRule 5) set_d)
      case s4 =>
        refine' ps_for PassesOwn.never rfl (pi_range1 rfl B.range (pa_cons (pe_fn D hr (by decide) (pa_cons (pvd nmRule 0) (pa_cons pe_int pa_nil))) pa_nil)) (pgd nmRule 4) ?b4
        case b4 =>
          refine' pss_cons ?t1 ?u1
          case t1 => exact ps_setD nmRule 5 (pe_fn D hr (by decide) (pa_cons (pvd nmRule 0) (pa_cons (pvd nmRule 1) pa_nil)))
          case u1 =>
            refine' pss_one ?t2
            case t2 => exact ps_asg (pe_op op_add (pe_op op_add (pe_ix ix_d (pvd nmRule 3) (pvd nmRule 5) (fun _ _ => rfl)) pe_int) (pe_fn D hr (by decide) (pa_cons (pvd nmRule 0) (pa_cons pe_int pa_nil)))) (pg_sub (pvd nmRule 3) (pvd nmRule 5) set_d)
      case s5 => exact ps_setD nmRule 6 (pe_fn D hr (by decide) (pa_cons (pvd nmRule 0) (pa_cons pe_int pa_nil)))
      case s6 => exact ps_setD nmRule 5 (pe_fn D hr (by decide) (pa_cons (pvd nmRule 0) (pa_cons (pvd nmRule 1) pa_nil)))
      case s7 => exact ps_if (pt_cmpR op_lt (pvd nmRule 6) pe_int (nomark _)) (pss_one (ps_asg (pe_ix ix_d (pvd nmRule 2) (pvd nmRule 5) (fun _ _ => rfl)) (pg_sub (pvd nmRule 3) (pvd nmRule 5) set_d))) pss_nil
      case s8 => exact ps_if (pt_cmpR op_eq (pvd nmRule 6) pe_int (nomark _)) (pss_one (ps_asg pe_int (pg_sub (pvd nmRule 2) (pvd nmRule 5) set_d))) pss_nil
      case s9 => exact ps_if (pt_cmpR (op_eqD hr) (pvd nmRule 2) (pvd nmRule 3) (nomark _)) (pss_one (ps_asg (pe_ix ix_d (pe_lst (pa_cons (pe_op op_add (pe_ix ix_d (pvd nmRule 3) (pvd nmRule 5) (fun _ _ => rfl)) pe_int) (pa_cons pe_int pa_nil)))
          (pe_callTy call_int1 rfl B.int PyProof.Rows.boot_int (pa_cons (pe_cmpR op_eq (pe_ix ix_d (pvd nmRule 2) (pvd nmRule 5) (fun _ _ => rfl)) pe_int (nomark _)) pa_nil)) (fun _ _ => rfl)) (pg_sub (pvd nmRule 3) (pvd nmRule 5) set_d))) pss_nil
      case s10 => exact ps_ret (pe_tup (pa_cons (pe_callTy call_tuple_of rfl B.tuple PyProof.Rows.boot_tuple (pa_cons (pvd nmRule 2) pa_nil)) (pa_cons (pe_callTy call_tuple_of rfl B.tuple PyProof.Rows.boot_tuple (pa_cons (pvd nmRule 3) pa_nil)) pa_nil)))
    case rd =>
      have hm : ((m : Nat) : Int) < 1000000 := by omega
      have hm0 : (0 : Int) < (m : Int) := by omega
      walk_at "v"
      refine w_zeros (m := m) (by omega) fun a ha => ?_
      walk_at "v"
      refine w_zeros (m := m) (by omega) fun b hb => ?_
      have zc : ∀ {H : Hp} {l : Addr}, Cnt 0 m (upd H l (.lst ((List.replicate m (0 : Int)).map V.int))) l := fun {H l} => ⟨_, upd_same, List.length_replicate, fun n h => by rw [List.eq_of_mem_replicate h]; exact ⟨by decide, by decide⟩⟩
      have hpa : p ≠ a := hF.ne ha
      have hpb : p ≠ b := (hF.new hpa).ne hb
      have hab : a ≠ b := Cnt.ne zc hb
      have R0 : RS 0 m p a b H (upd (upd H a (.lst ((List.replicate m (0 : Int)).map V.int))) b (.lst ((List.replicate m (0 : Int)).map V.int))) :=
        ⟨(hF.new hpa).new hpb, zc.new hab, zc, hpa, hpb, hab, (But.refl.new ha).new hb, ha, by rw [upd_ne (Ne.symm hab)] at hb; exact hb⟩
      generalize upd (upd H a (.lst ((List.replicate m (0 : Int)).map V.int))) b (.lst ((List.replicate m (0 : Int)).map V.int)) = H1 at R0 ⊢
      walk_at "v"
      refine ⟨p, 3, rfl, R0.fd, by decide, by decide, fun r x y z r0 r1 => ?_⟩
      have R1 := R0.draw (x := x) (y := y) (z := z)
      generalize upd H1 p (.lst [.int x, .int y, .int z]) = H2 at R1 ⊢
      walk_at "v"
      refine ⟨_, rfl, by omega, by omega, ?_⟩
      refine for_range (fun i σ H' => ∃ u v, σ = [some (.ref p), some (.int m), some (.ref a), some (.ref b), u, v, none] ∧ RS (2 * (i : Int)) m p a b H H') ⟨none, none, rfl, R1.up (by omega)⟩ ?_ ?_
      · rintro i σ H' hi ⟨u, v, rfl, R⟩
        walk_at "v"
        refine ⟨p, m, rfl, R.fd, hm0, hm, fun r x y z r0 r1 => ?_⟩
        have R' := R.draw (x := x) (y := y) (z := z)
        generalize upd H' p (.lst [.int x, .int y, .int z]) = H2 at R' ⊢
        walk_at "v"
        obtain ⟨ns, n, j, e, hl, hn, h0, ea, ei⟩ := R'.ca.item r0 r1
        refine w_ixL e ea ?_
        walk_at "v"
        refine ⟨p, 2, rfl, R'.fd, by decide, by decide, fun r2 x2 y2 z2 r20 r21 => ?_⟩
        have R2 := R'.draw (x := x2) (y := y2) (z := z2)
        have e2 : upd H2 p (.lst [.int x2, .int y2, .int z2]) a = some (.lst (ns.map V.int)) := by rw [upd_ne (Ne.symm R'.pa)]; exact e
        generalize upd H2 p (.lst [.int x2, .int y2, .int z2]) = H3 at R2 e2 ⊢
        walk_at "v"
        refine w_set e2 ei ?_
        exact ⟨_, _, rfl, (R2.up (k' := 2 * ((i + 1 : Nat) : Int)) (by omega)).setA hl (fun y hy => ⟨(hn y hy).1, by have := (hn y hy).2; omega⟩) ⟨by omega, by omega⟩⟩
      · rintro σ H' ⟨u, v, rfl, R⟩
        clear R0 R1
        walk_at "v"
        refine ⟨p, 4, rfl, R.fd, by decide, by decide, fun r x y z r0 r1 => ?_⟩
        have R1 := R.draw (x := x) (y := y) (z := z)
        generalize upd H' p (.lst [.int x, .int y, .int z]) = H2 at R1 ⊢
        walk_at "v"
        refine ⟨_, rfl, by omega, by omega, ?_⟩
        refine for_range (fun i σ H' => ∃ u v, σ = [some (.ref p), some (.int m), some (.ref a), some (.ref b), u, v, none] ∧ RS (8 + 3 * (i : Int)) m p a b H H') ⟨u, v, rfl, R1.up (by omega)⟩ ?_ ?_
        · rintro i σ H' hi ⟨u, v, rfl, R⟩
          walk_at "v"
          refine ⟨p, m, rfl, R.fd, hm0, hm, fun r x y z r0 r1 => ?_⟩
          have R' := R.draw (x := x) (y := y) (z := z)
          generalize upd H' p (.lst [.int x, .int y, .int z]) = H2 at R' ⊢
          walk_at "v"
          obtain ⟨ns, n, j, e, hl, hn, h0, ea, ei⟩ := R'.cb.item r0 r1
          refine w_ixL e ea ?_
          walk_at "v"
          refine ⟨p, 3, rfl, R'.fd, by decide, by decide, fun r2 x2 y2 z2 r20 r21 => ?_⟩
          have R2 := R'.draw (x := x2) (y := y2) (z := z2)
          have e2 : upd H2 p (.lst [.int x2, .int y2, .int z2]) b = some (.lst (ns.map V.int)) := by rw [upd_ne (Ne.symm R'.pb)]; exact e
          generalize upd H2 p (.lst [.int x2, .int y2, .int z2]) = H3 at R2 e2 ⊢
          walk_at "v"
          refine w_set e2 ei ?_
          exact ⟨_, _, rfl, (R2.up (k' := 8 + 3 * ((i + 1 : Nat) : Int)) (by omega)).setB hl (fun y hy => ⟨(hn y hy).1, by have := (hn y hy).2; omega⟩) ⟨by omega, by omega⟩⟩
        · rintro σ H' ⟨u, v, rfl, R⟩
          clear R1
          replace R := R.up (k' := 20) (by omega)
          walk_at "v"
          refine ⟨p, 8, rfl, R.fd, by decide, by decide, fun way x y z w0 w1 => ?_⟩
          have R1 := R.draw (x := x) (y := y) (z := z)
          generalize upd H' p (.lst [.int x, .int y, .int z]) = H2 at R1 ⊢
          walk_at "v"
          refine ⟨p, m, rfl, R1.fd, hm0, hm, fun r x y z r0 r1 => ?_⟩
          have R2 := R1.draw (x := x) (y := y) (z := z)
          generalize upd H2 p (.lst [.int x, .int y, .int z]) = H3 at R2 ⊢
          walk_at "v"
          refine iteD (fun _ => ?_) (fun _ => ?_)
          all_goals first
            | (
              walk_at "v"
              obtain ⟨ns, n, j, e, hl, hn, h0, ea, ei⟩ := R2.ca.item r0 r1
              refine w_ixL e ea ?_
              walk_at "v"
              obtain ⟨ns', n', j', e', hl', hn', h0', ea', ei'⟩ := R2.cb.item r0 r1
              refine w_set e' ei' ?_
              have R3 := R2.setB (j := j') hl' hn' h0
              generalize upd H3 b (.lst ((ns'.map V.int).set j' (.int n))) = H4 at R3 ⊢
              clear e ea ei e' ea' ei' hl hn hl' hn')
            | (
              have R3 := R2
              generalize H3 = H4 at R3 ⊢)
          all_goals
            walk_at "v"
            refine ⟨rfl, ?_⟩
            walk_at "v"
            refine iteD (fun _ => ?_) (fun _ => ?_)
            all_goals first
              | (
                walk_at "v"
                obtain ⟨ns, n, j, e, hl, hn, h0, ea, ei⟩ := R3.ca.item r0 r1
                refine w_set e ei ?_
                have R4 := R3.setA (j := j) (v := 9) hl hn ⟨by decide, by decide⟩
                generalize upd H4 a (.lst ((ns.map V.int).set j (.int 9))) = H5 at R4 ⊢
                clear e ea ei hl hn)
              | (
                have R4 := R3
                generalize H4 = H5 at R4 ⊢)
          all_goals
            walk_at "v"
            obtain ⟨ts, et, htl, htn⟩ := id R4.ca
            obtain ⟨gs, eg, hgl, hgn⟩ := id R4.cb
            refine w_eqL et eg ?_
            walk_at "v"
            refine iteD (fun _ => ?_) (fun _ => ?_)
            all_goals first
              | (
                walk_at "v"
                obtain ⟨ns, n, j, e, hl, hn, h0, ea, ei⟩ := R4.cb.item r0 r1
                refine w_ixL e ea ?_
                walk_at "v"
                refine ⟨by show 2 ≤ sizeLine; decide, fun c hc => ?_⟩
                have R5 := R4.new (o := .lst [.int (n + 1), .int 0]) hc
                have hcc : upd H5 c (.lst [.int (n + 1), .int 0]) c = some (.lst [.int (n + 1), .int 0]) := upd_same
                generalize upd H5 c (.lst [.int (n + 1), .int 0]) = H6 at R5 hcc ⊢
                walk_at "v"
                obtain ⟨ns2, n2, j2, e2, hl2, hn2, h02, ea2, ei2⟩ := R5.ca.item r0 r1
                refine w_ixL e2 ea2 ?_
                walk_at "v"
                refine ⟨rfl, ?_⟩
                walk_at "v"
                refine .inr ⟨_, rfl, ?_⟩
                obtain ⟨q, hq0, hq⟩ : ∃ q : Int, (0 ≤ q ∧ q ≤ 21) ∧ atI ([.int (n + 1), .int 0] : List V) (if decide (V.int n2 = V.int 9) = true then 1 else 0) = some (.int q) := by
                  by_cases h9 : decide (V.int n2 = V.int 9) = true
                  · rw [if_pos h9]
                    exact ⟨0, ⟨by decide, by decide⟩, rfl⟩
                  · rw [if_neg h9]
                    exact ⟨n + 1, ⟨by omega, by omega⟩, rfl⟩
                refine w_ixL hcc hq ?_
                walk_at "v"
                obtain ⟨ns3, n3, j3, e3, hl3, hn3, h03, ea3, ei3⟩ := (R5.up (k' := 21) (by omega)).cb.item r0 r1
                refine w_set e3 ei3 ?_
                have R6 := (R5.up (k' := 21) (by omega)).setB (j := j3) hl3 hn3 hq0
                generalize upd H6 b (.lst ((ns3.map V.int).set j3 (.int q))) = H7 at R6 ⊢)
              | (
                have R6 := R4.up (k' := 21) (by omega)
                generalize H5 = H7 at R6 ⊢)
          all_goals
            walk_at "v"
            obtain ⟨ts', et', htl', htn'⟩ := id R6.ca
            obtain ⟨gs', eg', hgl', hgn'⟩ := id R6.cb
            refine ⟨a, _, rfl, .inl ⟨SqL.of et', fun ta hta => ?_⟩⟩
            walk_at "v"
            have nb : b ≠ ta := ne_of_none eg' hta
            refine ⟨b, _, rfl, .inl ⟨SqL.of (by rw [upd_ne nb]; exact eg'), fun tb htb => ?_⟩⟩
            walk_at "v"
            refine ⟨by show 2 ≤ sizeLine; decide, fun rr hrr => ?_⟩
            have nt : ta ≠ tb := by
              intro z
              rw [← z, upd_same] at htb
              cases htb
            have nrb : tb ≠ rr := by
              intro z
              rw [← z, upd_same] at hrr
              cases hrr
            have nra : ta ≠ rr := by
              intro z
              rw [← z, upd_ne nt, upd_same] at hrr
              cases hrr
            have R7 := (R6.new (o := .tup (ts'.map V.int)) hta).new (o := .tup (gs'.map V.int)) htb
            have R8 := R7.new (o := .tup [.ref ta, .ref tb]) hrr
            refine k rr _ ?_ ⟨ta, tb, upd_same, ⟨ts', ?_, htl', fun y hy => ⟨(htn' y hy).1, Int.le_trans (htn' y hy).2 (by decide)⟩⟩, ⟨gs', ?_, hgl', fun y hy => ⟨(hgn' y hy).1, Int.le_trans (hgn' y hy).2 (by decide)⟩⟩⟩ R8.fd R8.bt
            · cases e : H rr with
              | none => rfl
              | some o =>
                have hrp : rr ≠ p := by
                  intro z
                  exact R7.fd.ne hrr z.symm
                rw [R7.bt rr o e hrp] at hrr
                cases hrr
            · rw [upd_ne nra, upd_ne nt, upd_same]
            · rw [upd_ne nrb, upd_same]
end
end K7

set_option Elab.async false
set_option linter.all false
set_option maxRecDepth 100000
namespace L2
open PySem PySem.Spec PyProof.Rows
section
variable {X : Cx}
/-- the ints of a row of values -/
theorem ints_of : ∀ {ns : List Int} {us : List Value}, Vals (ns.map V.int) us → ∃ xs : List (Int × Tok), us = xs.map (fun q => Value.int q.1 q.2) ∧ xs.map (·.1) = ns
  | [], us, r => by
    cases r
    exact ⟨[], rfl, rfl⟩
  | n :: ns, us, r => by
    cases r with
    | cons r1 r2 =>
      obtain ⟨t, rfl⟩ := r1
      obtain ⟨xs, rfl, e⟩ := ints_of r2
      exact ⟨(n, t) :: xs, rfl, by simp [e]⟩
def rSum : List V → Hp → VK → Prop := fun xs H Q => ∃ (p : Addr) (ns : List Int), xs = [.ref p] ∧ H p = some (.lst (ns.map V.int)) ∧ Q (.int ns.sum) H
end
end L2

set_option Elab.async false
set_option linter.all false
set_option maxRecDepth 100000
namespace L2
open PySem PySem.Spec PyProof.Rows
section
variable {prog : Program} {w : World} {A : Around} {E : Value → Shared → Prop} {s : Shared}
/-- the next of a tuple's iterator, as another iterator draws it -/
theorem nextT_item {j t : Addr} {i : Nat} {its : Array Value} {v : Value} {Q : Value → Shared → Prop} (J : s.heap.IsTupleIter j t i) (T : s.heap.IsTuple t its) (e : its[i]? = some v)
    (k : ∀ h', h'.IsTupleIter j t (i + 1) → Heap.SameBut j s.heap h' → Q v { s with heap := h' }) : wpAny (model prog w) A (Builtin.SmallTypes.nextOf (.ref j)) Q E s := by
  obtain ⟨o, ho, hc, hd⟩ := id J; obtain ⟨ot, hot, _, n, hdt⟩ := T
  unfold Builtin.SmallTypes.nextOf; refine wpAny_bind (wpAny_callSpecial?_slot (name := Str.ofString "__next__") J.typeIs F.slot_tuple_iterator_next (wpAny_call_entry F.slot_tuple_iterator_next J.typeIs F.entry_tuple_iterator_next ?_ (F.args_tuple_iterator_next_1 _)))
  show wpAny _ _ (field (.ref j) 0 >>= _) _ _ s; refine wpAny_bind (wpAny_field ho hd (x := .ref t) rfl ?_)
  show wpAny _ _ (if (Value.ref t == Value.none) = true then _ else _) _ _ s; rw [if_neg (show ¬ ((Value.ref t == Value.none) = true) from Bool.false_ne_true)]
  show wpAny _ _ (field (.ref j) 1 >>= _) _ _ s; refine wpAny_bind (wpAny_field ho hd (x := .int i 0) rfl ?_)
  show wpAny _ _ (seqItems? (.ref t) >>= _) _ _ s; refine wpAny_bind (wpAny_seqItems hot hdt ?_)
  simp only [Int.toNat_natCast, e]
  refine wpAny_bind (wpAny_setField ho hd (by simp) (wpAny_pure ⟨v, rfl, wpAny_pure (k _ ?_ (Heap.SameBut.update ..))⟩))
  exact ⟨_, Heap.get?_update_self _ ho (Obj.isFreed_of_fields (Obj.data_mapFields hd _)), (Obj.cls_mapFields ..).trans hc, by rw [Obj.data_mapFields hd]; simp [rawInt]⟩
theorem nextT_end {j t : Addr} {i : Nat} {its : Array Value} {Q : Value → Shared → Prop} (hh : A.handled = none) (J : s.heap.IsTupleIter j t i) (T : s.heap.IsTuple t its) (e : its[i]? = none)
    (k : ∀ h' x, Heap.ExtBut j s.heap h' → (∃ o, h'.get? x = some o ∧ o.cls = .type "StopIteration") → E (.ref x) { s with heap := h' }) : wpAny (model prog w) A (Builtin.SmallTypes.nextOf (.ref j)) Q E s := by
  obtain ⟨o, ho, hc, hd⟩ := id J; obtain ⟨ot, hot, _, n, hdt⟩ := T
  unfold Builtin.SmallTypes.nextOf; refine wpAny_bind (wpAny_callSpecial?_slot (name := Str.ofString "__next__") J.typeIs F.slot_tuple_iterator_next (wpAny_call_entry F.slot_tuple_iterator_next J.typeIs F.entry_tuple_iterator_next ?_ (F.args_tuple_iterator_next_1 _)))
  show wpAny _ _ (field (.ref j) 0 >>= _) _ _ s; refine wpAny_bind (wpAny_field ho hd (x := .ref t) rfl ?_)
  show wpAny _ _ (if (Value.ref t == Value.none) = true then _ else _) _ _ s; rw [if_neg (show ¬ ((Value.ref t == Value.none) = true) from Bool.false_ne_true)]
  show wpAny _ _ (field (.ref j) 1 >>= _) _ _ s; refine wpAny_bind (wpAny_field ho hd (x := .int i 0) rfl ?_)
  show wpAny _ _ (seqItems? (.ref t) >>= _) _ _ s; refine wpAny_bind (wpAny_seqItems hot hdt ?_)
  simp only [Int.toNat_natCast, e]; refine wpAny_bind (wpAny_rule (wpAny_bind (wpAny_setField ho hd (by simp) ?_)))
  show wpAny _ _ (newExc (.type "StopIteration") [] >>= _) _ _ _; refine wpAny_bind ?_; simp only [newExc, newTuple]
  refine wpAny_bind (wpAny_newObj_type ?_ (by size_fits)); refine wpAny_bind (m := firstArgMember _ _) (wpAny_of_eq (a := Value.none) (by first | rfl | (simp only [firstArgMember]; rfl)) ?_)
  refine wpAny_newObj_type ?_ (by size_fits); simp only [raiseNew]; refine wpAny_bind (wpAny_handled ?_)
  (first | rw [show A.in1.handled = none from hh] | rw [hh]); refine wpAny_bind (wpAny_pure (wpAny_throw ?_)); exact k _ _ (((Heap.SameBut.update ..).extBut.push _).push _) ⟨_, Heap.get?_push_size _ rfl, rfl⟩
/-- a tuple, drawn from -/
theorem draws_tup (hh : A.handled = none) (j t : Addr) (ne : t ≠ j) (its : Array Value) : Draws prog w A j [j, t] its.size (fun i v => its[i]? = some v) (fun i h => h.IsTupleIter j t i ∧ h.IsTuple t its) where
  live := fun _ _ q => let ⟨o, e, _⟩ := q.1; ⟨o, e⟩
  frame := fun _ _ _ q hk => ⟨q.1.at fun o e => hk j (by simp) o e, let ⟨o, e, r⟩ := q.2; ⟨o, hk t (by simp) o e, r⟩⟩
  item := fun i s Q E hi q k => nextT_item q.1 q.2 (v := its[i]) (by simp [hi]) fun h' J' sb => k _ h' s.toks (by simp [hi]) ⟨J', let ⟨o, e, r⟩ := q.2; ⟨o, sb.extBut t o ne e, r⟩⟩ sb
  done := fun s Q E q k => nextT_end hh q.1 q.2 (by simp) k
end
end L2

set_option Elab.async false
set_option linter.all false
set_option maxRecDepth 100000
namespace L2
open PySem PySem.Spec PyProof.Rows
abbrev enuH (h : Heap) (t : Addr) : Heap := h.push { cls := .type "tuple_iterator", data := .fields #[.ref t, .int 0 0] }
abbrev enuH2 (h : Heap) (t : Addr) : Heap := (enuH h t).push { cls := .type "enumerate", data := .fields #[.none, .bool false, .ref h.objs.size, rawInt 0, .none, .none] }
/-- enumerate(t), t a tuple -/
theorem enu_new (t : Addr) (its : Array Value) : Meets (Builtin.«enumerate.__new__» ⟨[.type "enumerate", .ref t], []⟩) (fun _ R s => s.heap.IsTuple t its ∧ R (.ok (.ret (.ref (enuH s.heap t).objs.size))) { s with heap := enuH2 s.heap t }) :=
  .of_wp fun prog w A R s h => by
    obtain ⟨hp, g, d, tk, os⟩ := s; obtain ⟨hT, h⟩ := h
    have hsub := sub_enumerate; obtain ⟨o, ho, hc, n, hd⟩ := id hT
    have hT' : Heap.IsTuple (Shared.heap ⟨hp, g, d, tk, os⟩) t its := hT
    obtain ⟨c, dct, dt, sl⟩ := o
    replace hc : c = .type "tuple" := hc
    replace hd : dt = .seq its n := hd
    subst hc hd
    wp_walk using AutoSeq1.wpAny_loadPart' ho
    refine wpAny_stack_any fun st => wpAny_pure ?_; split
    · rename_i cl _ _ _ _ _; cases (cl == Value.type "enumerate")
      · wp_walk using AutoSeq1.wpAny_loadPart' ho, wpAny_pyIter_tuple hT'; exact ⟨_, rfl, h⟩
      · wp_walk using AutoSeq1.wpAny_loadPart' ho, wpAny_pyIter_tuple hT'; exact ⟨_, rfl, h⟩
    · wp_walk using AutoSeq1.wpAny_loadPart' ho, wpAny_pyIter_tuple hT'; exact ⟨_, rfl, h⟩
section
variable {prog : Program} {w : World} {A : Around} {E : Value → Shared → Prop} {s : Shared}
theorem call_enu {t : Addr} {its : Array Value} {Q : Value → Shared → Prop} (hT : s.heap.IsTuple t its)
    (k : ∀ h', IsEnum h' (s.heap.objs.size + 1) s.heap.objs.size 0 .none → h'.IsTupleIter s.heap.objs.size t 0 → (∀ b o, s.heap.get? b = some o → h'.get? b = some o) → Q (.ref (s.heap.objs.size + 1)) { s with heap := h' }) :
    wpAny (model prog w) A (call (.type "enumerate") [.ref t]) Q E s := by
  refine callType_new F.called_enumerate (by decide) (F.typeCall_enumerate_1 _) (F.newCall_enumerate_1 _) (fun obj => F.args_object_init_2 obj _) F.entry_enumerate_new (enu_new t its) ⟨hT, ?_⟩
  have z1 : (enuH s.heap t).objs.size = s.heap.objs.size + 1 := Heap.size_push ..
  have he := Heap.get?_push_size (enuH s.heap t) (o := { cls := .type "enumerate", data := .fields #[.none, .bool false, .ref s.heap.objs.size, rawInt 0, .none, .none] }) rfl
  show _ ∧ _
  rw [z1] at he ⊢
  exact ⟨⟨_, he, rfl⟩, k _ he ⟨_, Heap.get?_push_of_some _ (Heap.get?_push_size _ rfl), rfl, rfl⟩ fun b o x => Heap.get?_push_of_some _ (Heap.get?_push_of_some _ x)⟩
end
end L2
namespace L2
open PySem PySem.Spec PyProof.Rows
section
variable {X : Cx} {pins : List (Addr × Obj)} {σ : St} {H : Hp} {s : Shared}
/-- records of ours have turned, and a new tuple is laid -/
theorem Inv.turnNew {h' : Heap} {tk : Nat} {ch : List Addr} {T : Addr} {xs : List V} {vals : List Value} (I : Inv X pins σ H s) (hf : ∀ b ∈ ch, FpOk X pins H b) (k : ∀ b o, b ∉ ch → s.heap.get? b = some o → h'.get? b = some o) (ht : ∀ b ∈ ch, ∃ o, h'.get? b = some o)
    (hT : s.heap.objs.size ≤ T) (r : Vals xs vals) (hz : xs.length ≤ sizeLine) (hv : h'.IsTuple T vals.toArray) : Inv X pins σ (upd H T (.tup xs)) { s with heap := h', toks := tk } := by
  have hn : H T = none := I.hok.fresh hT
  have nT : ∀ b o, s.heap.get? b = some o → b ≠ T := fun b o e z => absurd (Nat.lt_of_lt_of_le (Heap.lt_size e) (z ▸ hT)) (Nat.lt_irrefl _)
  have nc : ∀ b u, H b = some u → b ∉ ch := fun b u e z => by rw [(hf b z).1] at e; cases e
  refine I.step (g' := s.gens) (d' := s.drawn) (ch := ch) (fun b hb => ⟨(hf b hb).2.2.2.1, (hf b hb).2.1, (hf b hb).2.2.2.2.1, (hf b hb).2.2.2.2.2⟩) (fun b o _ _ hc e _ => k b o hc e) (fun b o _ _ hc e _ => ⟨o.slots, k b o hc e⟩)
    (fun b o _ e n => by rw [upd_ne (nT b o e)]; exact n) (fun b o hc e => ⟨o, k b o hc e⟩) (fun b ys e => by rw [upd_ne (ne_of_none e hn)]; exact e) (fun b o u e => by rw [upd_ne (ne_of_none e hn)]; exact e)
    (fun b ps e => ⟨#[], by rw [upd_ne (ne_of_none e hn), e]; simp⟩) (fun m hm => ?_) (fun b u e => ?_) I.bare
  · obtain ⟨o, es, ep, ho, q⟩ := hm
    exact ⟨o, es, ep, k _ o (fun z => (hf _ z).2.1 rfl) ho, q⟩
  · by_cases hb : b = T
    · subst hb
      rw [upd_same] at e
      cases e
      exact ⟨hz, vals, r, hv⟩
    · rw [upd_ne hb] at e
      refine (I.hok b u e).stay (fun c v hc q => k c v ?_ q) (fun c q => by rw [upd_ne (ne_of_none q hn)]; exact q) fun c ys q => by rw [upd_ne (ne_of_none q hn)]; exact q
      rcases hc with z | z
      · rw [z]; exact nc b u e
      · exact nc c _ z
/-- records of ours have turned -/
theorem Inv.turnOnly {h' : Heap} {tk : Nat} {ch : List Addr} (I : Inv X pins σ H s) (hf : ∀ b ∈ ch, FpOk X pins H b) (k : ∀ b o, b ∉ ch → s.heap.get? b = some o → h'.get? b = some o) : Inv X pins σ H { s with heap := h', toks := tk } := by
  have nc : ∀ b u, H b = some u → b ∉ ch := fun b u e z => by rw [(hf b z).1] at e; cases e
  refine I.step (g' := s.gens) (d' := s.drawn) (ch := ch) (fun b hb => ⟨(hf b hb).2.2.2.1, (hf b hb).2.1, (hf b hb).2.2.2.2.1, (hf b hb).2.2.2.2.2⟩) (fun b o _ _ hc e _ => k b o hc e) (fun b o _ _ hc e _ => ⟨o.slots, k b o hc e⟩)
    (fun b o _ e n => n) (fun b o hc e => ⟨o, k b o hc e⟩) (fun b ys e => e) (fun b o u e => e) (fun b ps e => ⟨#[], by rw [e]; simp⟩) (fun m hm => ?_) (fun b u e => ?_) I.bare
  · obtain ⟨o, es, ep, ho, q⟩ := hm
    exact ⟨o, es, ep, k _ o (fun z => (hf _ z).2.1 rfl) ho, q⟩
  · refine (I.hok b u e).stay (fun c v hc q => k c v ?_ q) (fun c q => q) fun c ys q => q
    rcases hc with z | z
    · rw [z]; exact nc b u e
    · exact nc c _ z
end
/-- enumerate over the tuple at a -/
def Ite (K : PySem.W.Frag) (a : Addr) : It :=
  ⟨fun i H => ∃ xs x, SqT K H a xs ∧ xs[i]? = some x, fun i H v H' => ∃ p x, v = .ref p ∧ H p = none ∧ H' = upd H p (.tup [.int (i : Int), x]) ∧ ∀ xs, SqT K H a xs → xs[i]? = some x, fun i H => ∃ xs, SqT K H a xs ∧ xs.length = i⟩
theorem turn_enu {P : Program} {w : World} {K : PySem.W.Frag} {es : List Expr} {kt : Nat} {pt : Pos} (a e it : Addr) (hei : e ≠ it) (hai : a ≠ it) (hae : a ≠ e) :
    Turn P w K (.Tuple es kt pt) (Ite K a) [e, it] e (fun i h => (∃ old, IsEnum h e it i old) ∧ h.IsTupleIter it a i) where
  mem := by simp
  obj := fun i h st b hb => by
    obtain ⟨⟨old, he⟩, o, eo, c, d⟩ := st
    rcases List.mem_cons.mp hb with rfl | hq
    · exact ⟨_, he, fun v z => by have z' : Data.fields _ = Data.cell v := z; cases z'⟩
    · rw [List.mem_singleton.mp hq]; exact ⟨o, eo, fun v z => by rw [d] at z; cases z⟩
  keep := fun i h h' st k => ⟨let ⟨old, he⟩ := st.1; ⟨old, k e (by simp) _ he⟩, st.2.at fun o x => k it (by simp) o x⟩
  item := by
    intro X hP hw hK hc i pins s σ H E I hf st hg
    subst hP hw hK
    obtain ⟨xs, x, hq, hx⟩ := hg
    obtain ⟨its, rv, p, hz⟩ := I.tuple hq
    obtain ⟨u, hu, ru⟩ := rv.get hx
    have W := WalksT.enumerateD (draws_tup (prog := X.prog) (w := X.w) (A := X.A.in1) (I.ok.hd hc) it a hai its.toArray) e hei (by simp [hei, Ne.symm hae]) (by simp)
    have hi : i < its.toArray.size := by
      have := (List.getElem?_eq_some_iff.mp hu).1
      simpa using this
    refine W.item i s _ E hi ⟨st.1, st.2, p⟩ fun T vals h' tk hP hsz hT hM hk => ⟨.ref T, rfl, ?_⟩
    obtain ⟨t, x', hx', rfl⟩ := hP
    have ex : x' = u := by
      have : its[i]? = some x' := by simpa using hx'
      rw [this] at hu
      exact Option.some.inj hu
    subst ex
    refine W.go es kt pt i T { s with heap := h', toks := tk } _ E hM fun h'' hst hk2 => ?_
    obtain ⟨⟨old2, he2⟩, hit2, _⟩ := hst
    have hTw := W.apart i T h' hM
    obtain ⟨oT, eT, cT⟩ := hT
    have I2 : Inv X pins σ (upd H T (.tup [.int (i : Int), x])) { s with heap := h'', toks := tk } := I.turnNew (ch := [e, it]) hf (fun b o hb q => hk2 b o hb (hk b o hb q)) (fun b hb => by
      rcases List.mem_cons.mp hb with rfl | hq
      · exact ⟨_, he2⟩
      · rw [List.mem_singleton.mp hq]; obtain ⟨o, eo, _⟩ := hit2; exact ⟨o, eo⟩) hsz (vals := [.int i t, x']) (.cons ⟨t, rfl⟩ (.cons ru .nil)) (by show 2 ≤ sizeLine; decide) ⟨oT, hk2 T oT hTw eT, cT⟩
    refine ⟨.ref T, _, I2, rfl, ⟨T, x, rfl, I.hok.fresh hsz, rfl, fun ys hy => by rw [I.tuple_inj hy hq]; exact hx⟩, ⟨⟨old2, he2⟩, hit2⟩, fun b hb => ?_⟩
    rw [upd_ne (fun z => hTw (by rw [← z]; exact hb))]
    exact (hf b hb).1
  done := by
    intro X hP hw hK hc i pins s σ H E I hf st hg
    subst hP hw hK
    obtain ⟨xs, hq, hx⟩ := hg
    obtain ⟨its, rv, p, hz⟩ := I.tuple hq
    have hl := rv.length
    have W := WalksT.enumerateD (draws_tup (prog := X.prog) (w := X.w) (A := X.A.in1) (I.ok.hd hc) it a hai its.toArray) e hei (by simp [hei, Ne.symm hae]) (by simp)
    have ei : i = its.toArray.size := by rw [List.size_toArray]; omega
    subst ei
    exact W.done s _ E ⟨st.1, st.2, p⟩ fun h' tk hk => ⟨rfl, I.turnOnly hf hk⟩
  self := fun _ _ s _ _ st h => by
    obtain ⟨⟨old, he⟩, _⟩ := st
    exact wpAny_pyIter_enum he h

section
variable {X : Cx} {es : List Expr} {kt : Nat} {pt : Pos}
def iEnu (K : PySem.W.Frag) (ta : TA) : TI := fun σ H R => ta σ H fun vs H1 => ∃ a, vs = [.ref a] ∧ (∃ xs, SqT K H1 a xs) ∧ R (Ite K a) H1
/-- for a, b in enumerate(t), t a tuple -/
theorem pi_enu {e : Expr} {ta : TA} {p pos : Pos} (hm : X.mg "enumerate" = none) (ha : PA X [e] ta) (hg : Gl X "enumerate" := by rfl) (h : isStar e = false := by rfl) : PI X (.Tuple es kt pt) (.Call (.Name "enumerate" p) [e] [] pos) (iEnu X.K ta) := by
  intro pins s σ H R I hh
  refine Call_ (ld_blt I hg hm boot_enumerate (PyProof.Rows.callWith_type1 (thn (ha pos pins s σ H _ I hh) fun us s1 ⟨vs, H1, I1, r1, q1⟩ => ?_) (star1 h) rfl))
  obtain ⟨a, rfl, ⟨xs, hq⟩, q⟩ := q1
  obtain ⟨u, rfl, ru⟩ := r1.one
  cases ru
  obtain ⟨its, rv, pl, hz⟩ := I1.tuple hq
  have hlt : a < s1.heap.objs.size := by
    obtain ⟨o, eo, _⟩ := pl
    exact Heap.lt_size eo
  refine call_enu (its := its.toArray) pl fun h' he hi hk => wpAny_pyIter_enum he ?_
  refine ⟨_, [s1.heap.objs.size + 1, s1.heap.objs.size], _, _, H1, rfl, I1.kept (t' := s1.toks) hk, turn_enu a (s1.heap.objs.size + 1) s1.heap.objs.size (Nat.succ_ne_self _) (Nat.ne_of_lt hlt) (Nat.ne_of_lt (Nat.lt_of_lt_of_le hlt (Nat.le_succ _))), ⟨⟨_, he⟩, hi⟩, fun b hb => ?_, q⟩
  have hb' : s1.heap.objs.size ≤ b := by
    rcases List.mem_cons.mp hb with z | z
    · rw [z]; exact Nat.le_succ _
    · rw [List.mem_singleton.mp z]
      exact Nat.le_refl _
  exact I1.fpOk hb' (I1.hok.fresh hb')
end
end L2

set_option Elab.async false
set_option linter.all false
set_option maxRecDepth 100000
namespace L2
open PySem PySem.Spec PyProof.Rows
section
variable {prog : Program} {w : World} {A : Around} {E : Value → Shared → Prop} {s : Shared}
theorem tupX {h h' : Heap} {t a : Addr} {its : Array Value} (T : h.IsTuple t its) (x : Heap.ExtBut a h h') (n : t ≠ a) : h'.IsTuple t its := let ⟨o, e, r⟩ := T; ⟨o, x t o n e, r⟩
theorem tupJ {h h' : Heap} {j t a : Addr} {i : Nat} (J : h.IsTupleIter j t i) (x : Heap.ExtBut a h h') (n : j ≠ a) : h'.IsTupleIter j t i := J.at fun o e => x j o n e
/-- a zip of two tuples yields -/
theorem zipT_item {z TI TO i1 i2 l1 l2 : Addr} {k1 k2 : Nat} {xs ys : Array Value} {x y a b : Value} {Q : Value → Shared → Prop} (D : ZipApart z TI TO i1 i2 l1 l2) (hz : IsZip s.heap z TI TO .none) (hTI : IsPair s.heap TI (.ref i1) (.ref i2)) (hTO : IsPair s.heap TO a b)
    (h1 : s.heap.IsTupleIter i1 l1 k1) (h2 : s.heap.IsTupleIter i2 l2 k2) (hl1 : s.heap.IsTuple l1 xs) (hl2 : s.heap.IsTuple l2 ys) (hx : xs[k1]? = some x) (hy : ys[k2]? = some y)
    (hQ : ∀ h', IsZip h' z TI TO (rawInt s.heap.objs.size) → IsPair h' TO x y → h'.IsTupleIter i1 l1 (k1 + 1) → h'.IsTupleIter i2 l2 (k2 + 1) → IsPair h' s.heap.objs.size x y →
      (∀ d o, d ≠ z → d ≠ TO → d ≠ i1 → d ≠ i2 → s.heap.get? d = some o → h'.get? d = some o) → Q (.ref s.heap.objs.size) { s with heap := h' }) :
    wpAny (model prog w) A (Builtin.«zip.__next__» ⟨[.ref z], []⟩) (fun f s' => ∃ v, f = .done (.ret v) ∧ Q v s') E s := by
  show wpAny _ _ (field (.ref z) 2 >>= _) _ _ _; refine wpAny_bind (wpAny_field hz rfl (x := .bool false) rfl ?_)
  show wpAny _ _ (field (.ref z) 3 >>= _) _ _ _; refine wpAny_bind (wpAny_field hz rfl (x := .ref TI) rfl ?_)
  refine wpAny_bind (wpAny_seqItems hTI rfl ?_); show wpAny _ _ (Builtin.SmallTypes.ownedTupleIsFree (.ref z) >>= _) _ _ _
  refine wpAny_bind ?_; unfold Builtin.SmallTypes.ownedTupleIsFree
  refine wpAny_bind (wpAny_field hz rfl (x := .none) rfl (wpAny_pure ?_)); simp only [if_true]
  refine wpAny_bind (wpAny_rule ?_); refine wpAny_bind (wpAny_field hz rfl (x := .ref TO) rfl ?_)
  refine wpAny_bind (wpAny_setField_rec hz (by simp) fun g1 zz1 s1 => ?_); replace zz1 : IsZip g1 z TI TO .ellipsis := zz1
  refine wpAny_bind ?_; simp only [List.zipIdx_cons, List.zipIdx_nil, List.forIn_cons, List.forIn_nil]
  refine wpAny_bind (wpAny_bind (wpAny_onRaise ?_)); show wpAny _ _ (Builtin.SmallTypes.nextOf (.ref i1) >>= _) _ _ _
  refine wpAny_bind (nextT_item (tupJ h1 s1.extBut D.i1z) (tupX hl1 s1.extBut D.l1z) hx fun g2 j2 s2 => wpAny_pure ?_)
  have o2 : IsPair g2 TO a b := s2.extBut _ _ D.TOi1 (s1.extBut _ _ D.TOz hTO)
  refine wpAny_bind (wpAny_seqItems o2 rfl ?_); refine wpAny_bind (wpAny_updateSeq_pair o2 fun g3 o3 s3 => ?_); replace o3 : IsPair g3 TO x b := o3
  refine wpAny_bind (wpAny_letGo (wpAny_pure ?_)); refine wpAny_bind (wpAny_bind (wpAny_onRaise ?_)); show wpAny _ _ (Builtin.SmallTypes.nextOf (.ref i2) >>= _) _ _ _
  refine wpAny_bind (nextT_item (tupJ (tupJ (tupJ h2 s1.extBut D.i2z) s2.extBut D.i12.symm) s3.extBut D.TOi2.symm) (tupX (tupX (tupX hl2 s1.extBut D.l2z) s2.extBut D.l2i1) s3.extBut D.l2TO) hy fun g4 j4 s4 => wpAny_pure ?_)
  have o4 : IsPair g4 TO x b := s4.extBut _ _ D.TOi2 o3
  refine wpAny_bind (wpAny_seqItems o4 rfl ?_); refine wpAny_bind (wpAny_updateSeq_pair o4 fun g5 o5 s5 => ?_); replace o5 : IsPair g5 TO x y := o5
  refine wpAny_bind (wpAny_letGo (wpAny_pure (wpAny_pure ?_))); refine wpAny_bind (wpAny_seqItems o5 rfl ?_); refine wpAny_bind (wpAny_newTuple ?_)
  have sz : g5.objs.size = s.heap.objs.size := by rw [s5.1, s4.1, s3.1, s2.1, s1.1]
  have z5 : IsZip g5 z TI TO .ellipsis := s5.extBut _ _ D.TOz.symm (s4.extBut _ _ D.i2z.symm (s3.extBut _ _ D.TOz.symm (s2.extBut _ _ D.i1z.symm zz1)))
  have k5 : ∀ c o, c ≠ z → c ≠ TO → c ≠ i1 → c ≠ i2 → s.heap.get? c = some o → g5.get? c = some o := fun c o c1 c2 c3 c4 q => s5.extBut _ _ c2 (s4.extBut _ _ c4 (s3.extBut _ _ c2 (s2.extBut _ _ c3 (s1.extBut _ _ c1 q))))
  have a5 : g5.IsTupleIter i1 l1 (k1 + 1) := tupJ (tupJ (tupJ j2 s3.extBut D.TOi1.symm) s4.extBut D.i12) s5.extBut D.TOi1.symm
  have b5 : g5.IsTupleIter i2 l2 (k2 + 1) := tupJ j4 s5.extBut D.TOi2.symm
  have zlt : z < g5.objs.size := Heap.lt_size z5
  show wpAny _ _ (Builtin.SmallTypes.ownedTupleHandOut (.ref z) (.ref g5.objs.size) >>= _) _ _ _; refine wpAny_bind ?_; unfold Builtin.SmallTypes.ownedTupleHandOut
  have z6 : IsZip (g5.push { cls := .type "tuple", data := .seq #[x, y] }) z TI TO .ellipsis := Heap.get?_push_of_some _ z5
  refine wpAny_bind (wpAny_setField_rec z6 (by simp) fun g7 z7 s7 => ?_); replace z7 : IsZip g7 z TI TO (rawInt g5.objs.size) := z7
  refine wpAny_setField_rec z7 (by simp) fun g8 z8 s8 => ?_; replace z8 : IsZip g8 z TI TO (rawInt g5.objs.size) := z8
  have up : ∀ c o, c ≠ z → g5.get? c = some o → g8.get? c = some o := fun c o c1 q => s8.extBut _ _ c1 (s7.extBut _ _ c1 (Heap.get?_push_of_some _ q))
  have t8 : IsPair g8 g5.objs.size x y := s8.extBut _ _ (Nat.ne_of_gt zlt) (s7.extBut _ _ (Nat.ne_of_gt zlt) (Heap.get?_push_size _ rfl))
  rw [sz] at z8 t8; refine wpAny_pure ⟨_, rfl, ?_⟩; show Q (.ref g5.objs.size) _; rw [sz]
  exact hQ g8 z8 (up _ _ D.TOz o5) (a5.at fun o q => up _ o D.i1z q) (b5.at fun o q => up _ o D.i2z q) t8 fun c o c1 c2 c3 c4 q => up c o c1 (k5 c o c1 c2 c3 c4 q)
/-- .. and ends -/
theorem zipT_end {z TI TO i1 i2 l1 l2 : Addr} {k1 k2 : Nat} {xs ys : Array Value} {a b : Value} {Q : Fin → Shared → Prop} (hh : A.handled = none) (D : ZipApart z TI TO i1 i2 l1 l2) (hz : IsZip s.heap z TI TO .none) (hTI : IsPair s.heap TI (.ref i1) (.ref i2)) (hTO : IsPair s.heap TO a b)
    (h1 : s.heap.IsTupleIter i1 l1 k1) (h2 : s.heap.IsTupleIter i2 l2 k2) (hl1 : s.heap.IsTuple l1 xs) (hl2 : s.heap.IsTuple l2 ys) (hend : xs[k1]? = none ∨ ys[k2]? = none)
    (hE : ∀ h' e, (∀ d o, d ≠ z → d ≠ TO → d ≠ i1 → d ≠ i2 → s.heap.get? d = some o → h'.get? d = some o) → (∃ o, h'.get? e = some o ∧ o.cls = .type "StopIteration") → E (.ref e) { s with heap := h' }) : wpAny (model prog w) A (Builtin.«zip.__next__» ⟨[.ref z], []⟩) Q E s := by
  show wpAny _ _ (field (.ref z) 2 >>= _) _ _ _; refine wpAny_bind (wpAny_field hz rfl (x := .bool false) rfl ?_)
  show wpAny _ _ (field (.ref z) 3 >>= _) _ _ _; refine wpAny_bind (wpAny_field hz rfl (x := .ref TI) rfl ?_)
  refine wpAny_bind (wpAny_seqItems hTI rfl ?_); show wpAny _ _ (Builtin.SmallTypes.ownedTupleIsFree (.ref z) >>= _) _ _ _
  refine wpAny_bind ?_; unfold Builtin.SmallTypes.ownedTupleIsFree
  refine wpAny_bind (wpAny_field hz rfl (x := .none) rfl (wpAny_pure ?_)); simp only [if_true]
  refine wpAny_bind (wpAny_rule ?_); refine wpAny_bind (wpAny_field hz rfl (x := .ref TO) rfl ?_)
  refine wpAny_bind (wpAny_setField_rec hz (by simp) fun g1 zz1 s1 => ?_); replace zz1 : IsZip g1 z TI TO .ellipsis := zz1
  refine wpAny_bind ?_; simp only [List.zipIdx_cons, List.zipIdx_nil, List.forIn_cons, List.forIn_nil]
  refine wpAny_bind (wpAny_bind (wpAny_onRaise ?_)); show wpAny _ _ (Builtin.SmallTypes.nextOf (.ref i1) >>= _) _ _ _
  cases hx : xs[k1]? with
  | none =>
    refine wpAny_bind (nextT_end hh (tupJ h1 s1.extBut D.i1z) (tupX hl1 s1.extBut D.l1z) hx fun g2 e s2 he => ?_)
    obtain ⟨oe, hoe, hce⟩ := he; have z2 : IsZip g2 z TI TO .ellipsis := s2 _ _ D.i1z.symm zz1
    have ez : e ≠ z := fun q => by subst q; rw [z2] at hoe; cases hoe; simp at hce
    refine wpAny_setField_rec z2 (by simp) fun g3 _ s3 => hE g3 e (fun c o c1 _ c3 _ q => s3.extBut _ _ c1 (s2 _ _ c3 (s1.extBut _ _ c1 q))) ⟨oe, s3.extBut _ _ ez hoe, hce⟩
  | some x =>
    have hy : ys[k2]? = none := by rcases hend with q | q; rw [hx] at q; cases q; exact q
    refine wpAny_bind (nextT_item (tupJ h1 s1.extBut D.i1z) (tupX hl1 s1.extBut D.l1z) hx fun g2 j2 s2 => wpAny_pure ?_)
    have o2 : IsPair g2 TO a b := s2.extBut _ _ D.TOi1 (s1.extBut _ _ D.TOz hTO)
    refine wpAny_bind (wpAny_seqItems o2 rfl ?_); refine wpAny_bind (wpAny_updateSeq_pair o2 fun g3 o3 s3 => ?_); refine wpAny_bind (wpAny_letGo (wpAny_pure ?_))
    refine wpAny_bind (wpAny_bind (wpAny_onRaise ?_)); show wpAny _ _ (Builtin.SmallTypes.nextOf (.ref i2) >>= _) _ _ _
    refine wpAny_bind (nextT_end hh (tupJ (tupJ (tupJ h2 s1.extBut D.i2z) s2.extBut D.i12.symm) s3.extBut D.TOi2.symm) (tupX (tupX (tupX hl2 s1.extBut D.l2z) s2.extBut D.l2i1) s3.extBut D.l2TO) hy fun g4 e s4 he => ?_)
    obtain ⟨oe, hoe, hce⟩ := he; have z4 : IsZip g4 z TI TO .ellipsis := s4 _ _ D.i2z.symm (s3.extBut _ _ D.TOz.symm (s2.extBut _ _ D.i1z.symm zz1))
    have ez : e ≠ z := fun q => by subst q; rw [z4] at hoe; cases hoe; simp at hce
    refine wpAny_setField_rec z4 (by simp) fun g5 _ s5 => hE g5 e (fun c o c1 c2 c3 c4 q => s5.extBut _ _ c1 (s4 _ _ c4 (s3.extBut _ _ c2 (s2.extBut _ _ c3 (s1.extBut _ _ c1 q))))) ⟨oe, s5.extBut _ _ ez hoe, hce⟩
end
end L2
namespace L2
open PySem PySem.Spec PyProof.Rows
abbrev zpH1 (h : Heap) (a : Addr) : Heap := h.push { cls := .type "tuple_iterator", data := .fields #[.ref a, .int 0 0] }
abbrev zpH2 (h : Heap) (a b : Addr) : Heap := (zpH1 h a).push { cls := .type "tuple_iterator", data := .fields #[.ref b, .int 0 0] }
abbrev zpH3 (h : Heap) (a b : Addr) : Heap := (zpH2 h a b).push { cls := .type "tuple", data := .seq #[.ref h.objs.size, .ref (zpH1 h a).objs.size] }
abbrev zpH4 (h : Heap) (a b : Addr) : Heap := (zpH3 h a b).push { cls := .type "tuple", data := .seq #[.none, .none] }
abbrev zpH5 (h : Heap) (a b : Addr) : Heap := (zpH4 h a b).push { cls := .type "zip", data := .fields #[.none, .bool false, .bool false, .ref (zpH2 h a b).objs.size, .ref (zpH3 h a b).objs.size] }
/-- zip(a, b), both tuples -/
theorem zp_new (a b : Addr) (xs ys : Array Value) : Meets (Builtin.«zip.__new__» ⟨[.type "zip", .ref a, .ref b], []⟩) (fun _ R s => s.heap.IsTuple a xs ∧ s.heap.IsTuple b ys ∧ R (.ok (.ret (.ref (zpH4 s.heap a b).objs.size))) { s with heap := zpH5 s.heap a b }) :=
  .of_wp fun prog w A R s h => by
    obtain ⟨hp, g, d, tk, os⟩ := s; obtain ⟨hA, hB, h⟩ := h; have hsub := sub_zip
    have tA : Heap.IsTuple (Shared.heap ⟨hp, g, d, tk, os⟩) a xs := hA
    have tB : Heap.IsTuple (Shared.heap ⟨hp.push { cls := .type "tuple_iterator", data := .fields #[.ref a, .int 0 0] }, g, d, tk, os⟩) b ys := let ⟨o, e, r⟩ := hB; ⟨o, Heap.get?_push_of_some _ e, r⟩
    wp_walk using wpAny_pyIter_tuple tA, wpAny_pyIter_tuple tB
    exact ⟨_, rfl, h⟩
section
variable {prog : Program} {w : World} {A : Around} {E : Value → Shared → Prop} {s : Shared}
theorem call_zp {a b : Addr} {xs ys : Array Value} {Q : Value → Shared → Prop} (hA : s.heap.IsTuple a xs) (hB : s.heap.IsTuple b ys)
    (k : ∀ h', IsZip h' (s.heap.objs.size + 4) (s.heap.objs.size + 2) (s.heap.objs.size + 3) .none → IsPair h' (s.heap.objs.size + 2) (.ref s.heap.objs.size) (.ref (s.heap.objs.size + 1)) → IsPair h' (s.heap.objs.size + 3) .none .none →
      h'.IsTupleIter s.heap.objs.size a 0 → h'.IsTupleIter (s.heap.objs.size + 1) b 0 → (∀ c o, s.heap.get? c = some o → h'.get? c = some o) → Q (.ref (s.heap.objs.size + 4)) { s with heap := h' }) :
    wpAny (model prog w) A (call (.type "zip") [.ref a, .ref b]) Q E s := by
  refine callType_new F.called_zip (by decide) (F.typeCall_zip_2 _ _) (F.newCall_zip_2 _ _) (fun obj => F.args_object_init_3 obj _ _) F.entry_zip_new (zp_new a b xs ys) ⟨hA, hB, ?_⟩
  have z1 : (zpH1 s.heap a).objs.size = s.heap.objs.size + 1 := Heap.size_push ..
  have z2 : (zpH2 s.heap a b).objs.size = s.heap.objs.size + 2 := by rw [Heap.size_push, z1]
  have z3 : (zpH3 s.heap a b).objs.size = s.heap.objs.size + 3 := by rw [Heap.size_push, z2]
  have z4 : (zpH4 s.heap a b).objs.size = s.heap.objs.size + 4 := by rw [Heap.size_push, z3]
  have g5 : (zpH5 s.heap a b).get? (zpH4 s.heap a b).objs.size = some _ := Heap.get?_push_size _ rfl
  have g4 : (zpH5 s.heap a b).get? (zpH3 s.heap a b).objs.size = some _ := Heap.get?_push_of_some _ (Heap.get?_push_size _ rfl)
  have g3 : (zpH5 s.heap a b).get? (zpH2 s.heap a b).objs.size = some _ := Heap.get?_push_of_some _ (Heap.get?_push_of_some _ (Heap.get?_push_size _ rfl))
  have g2 : (zpH5 s.heap a b).get? (zpH1 s.heap a).objs.size = some _ := Heap.get?_push_of_some _ (Heap.get?_push_of_some _ (Heap.get?_push_of_some _ (Heap.get?_push_size _ rfl)))
  have g1 : (zpH5 s.heap a b).get? s.heap.objs.size = some _ := Heap.get?_push_of_some _ (Heap.get?_push_of_some _ (Heap.get?_push_of_some _ (Heap.get?_push_of_some _ (Heap.get?_push_size _ rfl))))
  show _ ∧ _
  rw [z2, z3, z4] at g5; rw [z1, z2] at g3; rw [z3] at g4; rw [z1] at g2
  have kk : ∀ c o, s.heap.get? c = some o → (zpH5 s.heap a b).get? c = some o := fun c o q => Heap.get?_push_of_some _ (Heap.get?_push_of_some _ (Heap.get?_push_of_some _ (Heap.get?_push_of_some _ (Heap.get?_push_of_some _ q))))
  rw [z4]
  exact ⟨⟨_, g5, rfl⟩, k _ g5 g3 g4 ⟨_, g1, rfl, rfl⟩ ⟨_, g2, rfl, rfl⟩ kk⟩
end
end L2

set_option Elab.async false
set_option linter.all false
set_option maxRecDepth 100000
namespace L2
open PySem PySem.Spec PyProof.Rows
/-- zip over the tuples at a and b -/
def Itz (K : PySem.W.Frag) (a b : Addr) : It :=
  ⟨fun i H => ∃ xs ys x y, SqT K H a xs ∧ SqT K H b ys ∧ xs[i]? = some x ∧ ys[i]? = some y, fun i H v H' => ∃ p x y, v = .ref p ∧ H p = none ∧ H' = upd H p (.tup [x, y]) ∧ (∀ xs, SqT K H a xs → xs[i]? = some x) ∧ ∀ ys, SqT K H b ys → ys[i]? = some y,
    fun i H => ∃ xs ys, SqT K H a xs ∧ SqT K H b ys ∧ (xs.length ≤ i ∨ ys.length ≤ i)⟩
theorem turn_zp {P : Program} {w : World} {K : PySem.W.Frag} {es : List Expr} {kt : Nat} {pt : Pos} (a b z TI TO i1 i2 : Addr) (D : ZipApart z TI TO i1 i2 a b) :
    Turn P w K (.Tuple es kt pt) (Itz K a b) [z, TI, TO, i1, i2] z (fun i h => IsZip h z TI TO .none ∧ IsPair h TI (.ref i1) (.ref i2) ∧ (∃ u v, IsPair h TO u v) ∧ h.IsTupleIter i1 a i ∧ h.IsTupleIter i2 b i) where
  mem := by simp
  obj := fun i h st q hq => by
    obtain ⟨hz, hI, ⟨u, v, hO⟩, ⟨o1, e1, c1, d1⟩, ⟨o2, e2, c2, d2⟩⟩ := st
    simp only [List.mem_cons, List.not_mem_nil, or_false] at hq
    rcases hq with rfl | rfl | rfl | rfl | rfl
    · exact ⟨_, hz, fun v y => by have y' : Data.fields _ = Data.cell v := y; cases y'⟩
    · exact ⟨_, hI, fun v y => by have y' : Data.seq _ _ = Data.cell v := y; cases y'⟩
    · exact ⟨_, hO, fun v y => by have y' : Data.seq _ _ = Data.cell v := y; cases y'⟩
    · exact ⟨o1, e1, fun v y => by rw [d1] at y; cases y⟩
    · exact ⟨o2, e2, fun v y => by rw [d2] at y; cases y⟩
  keep := fun i h h' st k => ⟨k z (by simp) _ st.1, k TI (by simp) _ st.2.1, let ⟨u, v, q⟩ := st.2.2.1; ⟨u, v, k TO (by simp) _ q⟩, st.2.2.2.1.at fun o x => k i1 (by simp) o x, st.2.2.2.2.at fun o x => k i2 (by simp) o x⟩
  item := by
    intro X hP hw hK hc i pins s σ H E I hf st hg
    subst hP hw hK
    obtain ⟨xs, ys, x, y, hqa, hqb, hx, hy⟩ := hg
    obtain ⟨ia, rva, pa, za⟩ := I.tuple hqa
    obtain ⟨ib, rvb, pb, zb⟩ := I.tuple hqb
    obtain ⟨u, hu, ru⟩ := rva.get hx
    obtain ⟨v, hv, rv⟩ := rvb.get hy
    obtain ⟨hz, hI, ⟨ou, ov, hO⟩, h1, h2⟩ := st
    have hT : s.TypeIs (.ref z) "zip" := ⟨_, hz, rfl⟩; unfold pyNext
    refine wpAny_bind (wpAny_attempt (wpAny_callSpecial?_slot (name := Str.ofString "__next__") hT F.slot_zip_next (wpAny_call_entry F.slot_zip_next hT F.entry_zip_next
      (zipT_item D hz hI hO h1 h2 pa pb (x := u) (y := v) (by simpa using hu) (by simpa using hv) fun h' z' o' a' b' t' k' => wpAny_pure ?_) (F.args_zip_next_1 _))))
    refine ⟨_, rfl, wpAny_letOwnedTupleGo_zip z' fun h'' z'' sb => ?_⟩
    have nz : s.heap.objs.size ≠ z := Nat.ne_of_gt (Heap.lt_size hz)
    have nTO : s.heap.objs.size ≠ TO := Nat.ne_of_gt (Heap.lt_size hO)
    have nTI : s.heap.objs.size ≠ TI := Nat.ne_of_gt (Heap.lt_size hI)
    have n1 : s.heap.objs.size ≠ i1 := by obtain ⟨o, e, _⟩ := h1; exact Nat.ne_of_gt (Heap.lt_size e)
    have n2 : s.heap.objs.size ≠ i2 := by obtain ⟨o, e, _⟩ := h2; exact Nat.ne_of_gt (Heap.lt_size e)
    have up : ∀ q o, q ≠ z → h'.get? q = some o → h''.get? q = some o := fun q o hq e => (sb.2 q hq).trans e
    have hI'' : IsPair h'' TI (.ref i1) (.ref i2) := up _ _ D.TIz (k' TI _ D.TIz D.TITO D.TIi1 D.TIi2 hI)
    have I2 : Inv X pins σ (upd H s.heap.objs.size (.tup [x, y])) { s with heap := h'', toks := s.toks } := I.turnNew (ch := [z, TI, TO, i1, i2]) hf (fun q o hq e => by
      simp only [List.mem_cons, List.not_mem_nil, or_false, not_or] at hq
      exact up q o hq.1 (k' q o hq.1 hq.2.2.1 hq.2.2.2.1 hq.2.2.2.2 e)) (fun q hq => by
      simp only [List.mem_cons, List.not_mem_nil, or_false] at hq
      rcases hq with rfl | rfl | rfl | rfl | rfl
      · exact ⟨_, z''⟩
      · exact ⟨_, hI''⟩
      · exact ⟨_, up _ _ D.TOz o'⟩
      · obtain ⟨o, e, _⟩ := a'; exact ⟨o, up _ o D.i1z e⟩
      · obtain ⟨o, e, _⟩ := b'; exact ⟨o, up _ o D.i2z e⟩) (Nat.le_refl _) (vals := [u, v]) (.cons ru (.cons rv .nil)) (by show 2 ≤ sizeLine; decide) ⟨_, up _ _ nz t', rfl, _, rfl⟩
    refine ⟨.ref s.heap.objs.size, _, I2, rfl, ⟨_, x, y, rfl, I.fresh, rfl, fun zs hzs => by rw [I.tuple_inj hzs hqa]; exact hx, fun zs hzs => by rw [I.tuple_inj hzs hqb]; exact hy⟩,
      ⟨z'', hI'', ⟨_, _, up _ _ D.TOz o'⟩, a'.at fun o e => up _ o D.i1z e, b'.at fun o e => up _ o D.i2z e⟩, fun q hq => ?_⟩
    have hq0 := (hf q hq).1
    simp only [List.mem_cons, List.not_mem_nil, or_false] at hq
    rw [upd_ne]
    · exact hq0
    · rcases hq with rfl | rfl | rfl | rfl | rfl
      · exact Ne.symm nz
      · exact Ne.symm nTI
      · exact Ne.symm nTO
      · exact Ne.symm n1
      · exact Ne.symm n2
  done := by
    intro X hP hw hK hc i pins s σ H E I hf st hg
    subst hP hw hK
    obtain ⟨xs, ys, hqa, hqb, hx⟩ := hg
    obtain ⟨ia, rva, pa, za⟩ := I.tuple hqa
    obtain ⟨ib, rvb, pb, zb⟩ := I.tuple hqb
    obtain ⟨hz, hI, ⟨ou, ov, hO⟩, h1, h2⟩ := st
    have la := rva.length
    have lb := rvb.length
    have hT : s.TypeIs (.ref z) "zip" := ⟨_, hz, rfl⟩; unfold pyNext
    refine wpAny_bind (wpAny_attempt (wpAny_callSpecial?_slot (name := Str.ofString "__next__") hT F.slot_zip_next (wpAny_call_entry F.slot_zip_next hT F.entry_zip_next
      (zipT_end (I.ok.hd hc) D hz hI hO h1 h2 pa pb (hx.elim (fun q => .inl (by simp; omega)) fun q => .inr (by simp; omega)) fun h' e k' he => ?_) (F.args_zip_next_1 _))))
    obtain ⟨o, ho, hcl⟩ := he
    refine wpAny_bind (wpAny_isInstance (T := "StopIteration") (b := true) ⟨o, ho, hcl⟩ isSubtype_stop ?_)
    refine wpAny_pure ⟨rfl, I.turnOnly (tk := s.toks) hf fun q o hq e => ?_⟩
    simp only [List.mem_cons, List.not_mem_nil, or_false, not_or] at hq
    exact k' q o hq.1 hq.2.2.1 hq.2.2.2.1 hq.2.2.2.2 e
  self := fun _ _ s _ _ st h => wpAny_pyIter_zip st.1 h
section
variable {X : Cx} {es : List Expr} {kt : Nat} {pt : Pos}
def iZp (K : PySem.W.Frag) (ta : TA) : TI := fun σ H R => ta σ H fun vs H1 => ∃ a b, vs = [.ref a, .ref b] ∧ (∃ xs, SqT K H1 a xs) ∧ (∃ ys, SqT K H1 b ys) ∧ R (Itz K a b) H1
/-- for x, y in zip(a, b), both tuples -/
theorem pi_zp {e e' : Expr} {ta : TA} {p pos : Pos} (hm : X.mg "zip" = none) (ha : PA X [e, e'] ta) (hg : Gl X "zip" := by rfl) (h : isStar e = false := by rfl) (h' : isStar e' = false := by rfl) : PI X (.Tuple es kt pt) (.Call (.Name "zip" p) [e, e'] [] pos) (iZp X.K ta) := by
  intro pins s σ H R I hh
  refine Call_ (ld_blt I hg hm boot_zip (PyProof.Rows.callWith_type1 (thn (ha pos pins s σ H _ I hh) fun us s1 ⟨vs, H1, I1, r1, q1⟩ => ?_) (star1 h) (star_any (by simp [h']))))
  obtain ⟨a, b, rfl, ⟨xs, hqa⟩, ⟨ys, hqb⟩, q⟩ := q1
  cases r1 with
  | cons ru r2 =>
    cases r2 with
    | cons rv r3 =>
      cases r3
      cases ru
      cases rv
      obtain ⟨ia, rva, pa, za⟩ := I1.tuple hqa
      obtain ⟨ib, rvb, pb, zb⟩ := I1.tuple hqb
      have la : a < s1.heap.objs.size := by obtain ⟨o, e, _⟩ := pa; exact Heap.lt_size e
      have lb : b < s1.heap.objs.size := by obtain ⟨o, e, _⟩ := pb; exact Heap.lt_size e
      refine call_zp (xs := ia.toArray) (ys := ib.toArray) pa pb fun g hz hI hO j1 j2 hk => wpAny_pyIter_zip hz ?_
      refine ⟨_, [s1.heap.objs.size + 4, s1.heap.objs.size + 2, s1.heap.objs.size + 3, s1.heap.objs.size, s1.heap.objs.size + 1], _, _, H1, rfl, I1.kept (t' := s1.toks) hk, turn_zp a b _ _ _ _ _ (zipApart_new la lb), ⟨hz, hI, ⟨_, _, hO⟩, j1, j2⟩, fun q hq => ?_, by assumption⟩
      have hq' : s1.heap.objs.size ≤ q := by
        simp only [List.mem_cons, List.not_mem_nil, or_false] at hq
        rcases hq with z | z | z | z | z <;> rw [z] <;> first | exact Nat.le_refl _ | exact Nat.le_add_right _ _
      exact I1.fpOk hq' (I1.hok.fresh hq')
end
end L2

set_option Elab.async false
set_option linter.all false
set_option maxRecDepth 100000
namespace L2
open PySem PySem.Spec PyProof.Rows
section
variable {X : Cx}
/-- tuple(xs), xs a list: a tuple that is known as an object (so that its methods may be called) -/
def rTupF (K : PySem.W.Frag) : List V → Hp → VK → Prop := fun xs H Q => ∃ p ys, xs = [.ref p] ∧ SqL K H p ys ∧ ∀ l o, H l = none → o.dict = none → o.cls = .type "tuple" → Q (.ref l) (upd H l (.frz o (.tup ys)))
theorem call_tupleF : CallR X (.type "tuple") (rTupF X.K) := by
  intro pins s σ H xs us Q I r h
  obtain ⟨p, ys, rfl, hq, q⟩ := h
  obtain ⟨u, rfl, rx⟩ := r.one
  cases rx
  obtain ⟨its, r', pl, hz⟩ := I.list hq
  have hlen := r'.length
  refine call_tuple_list pl.isList (fun h' kp => ?_) (by simp only [List.size_toArray] <;> omega)
  have I1 : Inv X pins σ H { s with heap := h' } := I.kept (t' := s.toks) kp
  have g : (h'.push { cls := .type "tuple", data := .seq its.toArray }).get? h'.objs.size = some { cls := .type "tuple", data := .seq its.toArray } := Heap.get?_push_size _ rfl
  have I2 : Inv X pins σ (upd H h'.objs.size (.frz { cls := .type "tuple", data := .seq its.toArray } (.tup ys))) { s with heap := h'.push { cls := .type "tuple", data := .seq its.toArray } } :=
    I1.laid (t' := s.toks) (fun b o e => Heap.get?_push_of_some _ e) (Nat.le_refl _) ⟨g, hz, its, r', ⟨_, g, rfl, _, rfl⟩⟩
  exact ⟨.ref h'.objs.size, _, I2, rfl, q _ _ (I1.hok.fresh (Nat.le_refl _)) rfl rfl⟩
end
section
variable {prog : Program} {w : World} {A : Around} {E : Value → Shared → Prop} {s : Shared}
end

/-- a tuple that is known as an object -/
def TupF (H : Hp) (l : Addr) (ys : List V) : Prop := ∃ o, H l = some (.frz o (.tup ys)) ∧ o.dict = none ∧ o.cls = .type "tuple"
theorem TupF.sq {K : PySem.W.Frag} {H : Hp} {l : Addr} {ys : List V} (t : TupF H l ys) : SqT K H l ys := let ⟨o, e, _⟩ := t; .inl (.inr ⟨o, e⟩)
section
variable {X : Cx} {o e : Expr} {to : TE} {ta : TA} {apos cpos : Pos}
/-- t.index(e), t a known tuple of flat items: the first place where it stands -/
def tIndex (to : TE) (ta : TA) : TE := fun σ H Q => to σ H fun x H1 => (∃ l ys, x = .ref l ∧ TupF H1 l ys) ∧ ta σ H1 fun vs H2 => ∃ (l : Addr) (ys : List V) (v : V) (k : Nat) (hk : k < ys.length), vs = [v] ∧ x = .ref l ∧ TupF H2 l ys ∧ flatV v = true ∧ (∀ y ∈ ys, flatV y = true) ∧
  eqV ys[k] v = true ∧ (∀ i (hi : i < ys.length), i < k → eqV ys[i] v = false) ∧ Q (.int (k : Int)) H2
end
end L2

set_option Elab.async false
set_option linter.all false
set_option maxRecDepth 100000
namespace K7
open PySem L2
local macro_rules | `(tactic| walk_at "v") => `(tactic| repeat (with_reducible first
  | refine w_seq ?_ | refine w_asg ?_ | refine w_gname ?_ | refine w_op ?_ | refine w_var rfl ?_ | refine w_c ?_ | refine w_rI0 ?_ | refine w_ifs ?_ | refine w_ife ?_ | refine w_test ?_ | refine w_tb ?_ | refine w_bl ?_ | refine w_not ?_ | refine w_ret ?_ | refine w_retN ?_
  | refine w_nil ?_ | refine w_cons ?_ | refine w_lst ?_ | refine w_tup ?_ | refine w_cb ?_ | refine w_call ?_ | refine w_gsub ?_ | refine w_and ?_ | refine w_or ?_ | refine w_next ?_ | refine w_all ?_ | refine w_vals ?_ | refine w_compR ?_ | refine w_compT ?_ | refine w_forR ?_ | refine w_forT ?_ | refine w_forL ?_ | refine w_drop ?_ | refine w_bm ?_ | refine iteT ?_ | refine iteF ?_))
abbrev sPot : Stmt := top 17
abbrev nPot : List Str := ["_law_feed_here", "_law_many", "_law_sorts", "_law_rules", "_law_left", "_law_inputs", "_law_k", "_law_begin"]
theorem nmPot : Nm nPot (defScope sPot) := ⟨by decide +kernel, by decide +kernel⟩
theorem scPot : FnScope nPot ["_law_feed_here"] (defScope sPot) := ⟨rfl, rfl, rfl, by decide +kernel, rfl, by decide +kernel, by decide +kernel⟩
/-- the comprehension that a call of the n-th statement is handed -/
def callComp (s : Stmt) : Scope := match s with
  | .Assign _ (.Call _ [.ListComp _ _ sc _] _ _) _ => sc
  | _ => { kind := .function, names := [], isGenerator := false, isCoroutine := false }
abbrev cPot (i : Nat) : Scope := callComp ((defBody sPot).getD i (.Pass ⟨0, 0, 0, 0⟩))
theorem bsPot2 : BScope (defScope sPot) (cPot 2) ["_law_k"] ["_law_feed_here", "_law_many"] ["_law_rule"] := { okind := by decide +kernel, kind := by decide +kernel, nocell := by decide +kernel, names := by decide +kernel, fr := by decide +kernel, ff := by decide +kernel, nd := by decide +kernel, vis := by decide +kernel, loc := by decide +kernel, gl := by decide +kernel }
theorem bsPot6 : BScope (defScope sPot) (cPot 6) ["_law_sort"] ["_law_feed_here"] ["_law_draw"] := { okind := by decide +kernel, kind := by decide +kernel, nocell := by decide +kernel, names := by decide +kernel, fr := by decide +kernel, ff := by decide +kernel, nd := by decide +kernel, vis := by decide +kernel, loc := by decide +kernel, gl := by decide +kernel }


/-- tuples stay -/
structure TK (H H' : Hp) : Prop where
  t : ∀ q xs, H q = some (.tup xs) → H' q = some (.tup xs)
  f : ∀ q o u, H q = some (.frz o u) → H' q = some (.frz o u)
theorem TK.tf {H H' : Hp} {l : Addr} {ys : List V} (k : TK H H') (x : TupF H l ys) : TupF H' l ys := let ⟨o, e, r⟩ := x; ⟨o, k.f _ _ _ e, r⟩
structure SS (p : Addr) (H0 H : Hp) : Prop where
  fd : FeedAt H p
  bt : But p H0 H
section
variable {p l : Addr} {H0 H H' H'' : Hp} {o : HO}
theorem TK.refl : TK H H := ⟨fun _ _ e => e, fun _ _ _ e => e⟩
theorem TK.trans (a : TK H H') (b : TK H' H'') : TK H H'' := ⟨fun q xs e => b.t q xs (a.t q xs e), fun q o u e => b.f q o u (a.f q o u e)⟩
theorem TK.new (h : H l = none) : TK H (upd H l o) := ⟨fun q xs e => by rw [upd_ne (ne_of_none e h)]; exact e, fun q ob u e => by rw [upd_ne (ne_of_none e h)]; exact e⟩
theorem TK.lst {ys : List V} (h : H l = some (.lst ys)) : TK H (upd H l o) := ⟨fun q xs e => by rw [upd_ne (ne_of e h (by intro z; cases z))]; exact e, fun q ob u e => by rw [upd_ne (ne_of e h (by intro z; cases z))]; exact e⟩
theorem TK.feed (F : FeedAt H p) : TK H (upd H p o) := by
  obtain ⟨x, y, z, e⟩ := F
  exact TK.lst e
theorem TK.but (F : FeedAt H p) (b : But p H H') : TK H H' := by
  obtain ⟨x, y, z, ep⟩ := F
  exact ⟨fun q xs e => b q _ e (ne_of e ep (by intro z; cases z)), fun q ob u e => b q _ e (ne_of e ep (by intro z; cases z))⟩
theorem SS.draw (r : SS p H0 H) {x y z : Int} : SS p H0 (upd H p (.lst [.int x, .int y, .int z])) := ⟨FeedAt.here, r.bt.at⟩
theorem SS.new (r : SS p H0 H) (h : H l = none) : SS p H0 (upd H l o) := ⟨r.fd.new (r.fd.ne h), r.bt.new h⟩
theorem SS.put (r : SS p H0 H) (h : H0 l = none) (hl : p ≠ l) : SS p H0 (upd H l o) := ⟨r.fd.new hl, r.bt.put h⟩
theorem SS.call (r : SS p H0 H) (f : FeedAt H' p) (b : But p H H') : SS p H0 H' := ⟨f, r.bt.trans b⟩
theorem SS.none (r : SS p H0 H) (h : H l = none) : H0 l = none := r.bt.free (r.fd.ne h) h
theorem RuleAt.tk {m : Nat} {r : Addr} (k : TK H H') (R : RuleAt m H r) : RuleAt m H' r := by
  obtain ⟨a, b, e, ⟨ts, et, h1, h2⟩, ⟨gs, eg, h3, h4⟩⟩ := R
  exact ⟨a, b, k.t _ _ e, ⟨ts, k.t _ _ et, h1, h2⟩, ⟨gs, k.t _ _ eg, h3, h4⟩⟩
end
theorem map_erase {α β : Type} (f : α → β) : ∀ (xs : List α) (j : Nat), (xs.map f).eraseIdx j = (xs.eraseIdx j).map f
  | [], _ => rfl
  | _ :: _, 0 => rfl
  | x :: xs, j + 1 => by
    show f x :: (xs.map f).eraseIdx j = f x :: (xs.eraseIdx j).map f
    rw [map_erase f xs j]
theorem pick8 {r : Int} (h0 : 0 ≤ r) (h1 : r < 8) : ∃ m : Nat, 0 < m ∧ m ≤ 8 ∧ atI ([.int 1, .int 2, .int 3, .int 3, .int 4, .int 5, .int 6, .int 8] : List V) r = some (.int (m : Int)) := by
  obtain ⟨j, rfl⟩ := Nat.ofI h0
  have : j = 0 ∨ j = 1 ∨ j = 2 ∨ j = 3 ∨ j = 4 ∨ j = 5 ∨ j = 6 ∨ j = 7 := by omega
  rcases this with rfl | rfl | rfl | rfl | rfl | rfl | rfl | rfl
  · exact ⟨1, by decide, by decide, rfl⟩
  · exact ⟨2, by decide, by decide, rfl⟩
  · exact ⟨3, by decide, by decide, rfl⟩
  · exact ⟨3, by decide, by decide, rfl⟩
  · exact ⟨4, by decide, by decide, rfl⟩
  · exact ⟨5, by decide, by decide, rfl⟩
  · exact ⟨6, by decide, by decide, rfl⟩
  · exact ⟨8, by decide, by decide, rfl⟩
theorem pickR {r : Int} (h0 : 0 ≤ r) (h1 : r < 8) : ∃ m : Nat, m ≤ 8 ∧ atI ([.int 0, .int 1, .int 2, .int 2, .int 3, .int 4, .int 5, .int 8] : List V) r = some (.int (m : Int)) := by
  obtain ⟨j, rfl⟩ := Nat.ofI h0
  have : j = 0 ∨ j = 1 ∨ j = 2 ∨ j = 3 ∨ j = 4 ∨ j = 5 ∨ j = 6 ∨ j = 7 := by omega
  rcases this with rfl | rfl | rfl | rfl | rfl | rfl | rfl | rfl
  · exact ⟨0, by decide, rfl⟩
  · exact ⟨1, by decide, rfl⟩
  · exact ⟨2, by decide, rfl⟩
  · exact ⟨2, by decide, rfl⟩
  · exact ⟨3, by decide, rfl⟩
  · exact ⟨4, by decide, rfl⟩
  · exact ⟨5, by decide, rfl⟩
  · exact ⟨8, by decide, rfl⟩
theorem pickI {r : Int} (h0 : 0 ≤ r) (h1 : r < 5) : ∃ m : Nat, m ≤ 3 ∧ atI ([.int 0, .int 1, .int 2, .int 2, .int 3] : List V) r = some (.int (m : Int)) := by
  obtain ⟨j, rfl⟩ := Nat.ofI h0
  have : j = 0 ∨ j = 1 ∨ j = 2 ∨ j = 3 ∨ j = 4 := by omega
  rcases this with rfl | rfl | rfl | rfl | rfl
  · exact ⟨0, by decide, rfl⟩
  · exact ⟨1, by decide, rfl⟩
  · exact ⟨2, by decide, rfl⟩
  · exact ⟨2, by decide, rfl⟩
  · exact ⟨3, by decide, rfl⟩
theorem pickB {r b : Int} (h0 : 0 ≤ r) (h1 : r < 6) (b0 : 0 ≤ b) (b1 : b < 100) : ∃ m : Int, 0 ≤ m ∧ m ≤ 99 ∧ atI ([.int 0, .int 0, .int 1, .int 2, .int 99, .int b] : List V) r = some (.int m) := by
  obtain ⟨j, rfl⟩ := Nat.ofI h0
  have : j = 0 ∨ j = 1 ∨ j = 2 ∨ j = 3 ∨ j = 4 ∨ j = 5 := by omega
  rcases this with rfl | rfl | rfl | rfl | rfl | rfl
  · exact ⟨0, by decide, by decide, rfl⟩
  · exact ⟨0, by decide, by decide, rfl⟩
  · exact ⟨1, by decide, by decide, rfl⟩
  · exact ⟨2, by decide, by decide, rfl⟩
  · exact ⟨99, by decide, by decide, rfl⟩
  · exact ⟨b, by omega, by omega, rfl⟩
/-- what a drawn pot is -/
structure PotAt (H : Hp) (p : Addr) (nm : List Str) (ins beg : List Int) (ans : Int) (m : Nat) : Prop where
  ex : ∃ (ps pr pin pb : Addr) (rs : List Addr), H p = some (.tup [.ref ps, .ref pr, .ref pin, .ref pb, .int ans]) ∧ TupF H ps (nm.map V.str) ∧ H pr = some (.tup (rs.map V.ref)) ∧ (∀ r ∈ rs, RuleAt m H r) ∧ rs.length ≤ 8 ∧
    H pin = some (.tup (ins.map V.int)) ∧ H pb = some (.tup (beg.map V.int))
  hn : Names m nm
  m0 : 0 < m
  m8 : m ≤ 8
  hi : ∀ i ∈ ins, 0 ≤ i ∧ i < m
  i3 : ins.length ≤ 3
  bl : beg.length = m
  hb : ∀ b ∈ beg, 0 ≤ b ∧ b ≤ 99
  ha : 0 ≤ ans ∧ ans < m
def spPot : Sp := fun vs H Q _ => ∃ (p : Addr), vs = [.ref p] ∧ FeedAt H p ∧ ∀ (l : Addr) (H' : Hp) (nm : List Str) (ins beg : List Int) (ans : Int) (m : Nat), H l = none → PotAt H' l nm ins beg ans m → FeedAt H' p → But p H H' → Q (.ref l) H'
section
variable {P : Program} {w : World} {K : PySem.W.Frag} {mg : Str → Option Value} {base : Heap}
structure Blt2 (mg : Str → Option Value) : Prop extends Blt mg where
  list : mg "list" = none
  min : mg "min" = none
set_option maxHeartbeats 2000000 in
theorem ok_pot {f : Addr} {fd : FuncData} (B : Blt2 mg) (D : Has P w K mg base 1 "_law_draw" ["_law_feed_here", "_law_many"] spDraw) (N : Has P w K mg base 2 "_law_names" ["_law_feed_here", "_law_many"] spNames)
    (R : Has P w K mg base 2 "_law_rule" ["_law_feed_here", "_law_many"] spRule) (F : Fun K "_law_pot" "_law_pot" sPot f fd) : FnOk P w K mg base CX0 3 f fd ["_law_feed_here"] spPot := by
  refine F.ok scPot (fun vs H Q E h => ?_) (fun cdv A outer s H vs Q E hr h => ?_)
  · obtain ⟨p, rfl, _⟩ := h
    rfl
  · obtain ⟨p, rfl, hF, k⟩ := h
    refine' ⟨_, ?hb, ?rd⟩
    case hb =>
      refine' pss_cons ?s1 ?r1
      case' r1 => refine' pss_cons ?s2 ?r2
      case' r2 => refine' pss_cons ?s3 ?r3
      case' r3 => refine' pss_cons ?s4 ?r4
      case' r4 => refine' pss_cons ?s5 ?r5
      case' r5 => refine' pss_cons ?s6 ?r6
      case' r6 => refine' pss_cons ?s7 ?r7
      case' r7 => refine' pss_one ?s8
      case s1 =>
        refine' ps_setD nmPot 1 ?p1
        case p1 =>
          refine' pe_ix ix_d ?a1 (pe_f D hr (by decide) (pa_2 (pvd nmPot 0) pe_int)) (fun _ _ => rfl)
          case a1 =>
            refine pe_lstC (vs := [.int 1, .int 2, .int 3, .int 3, .int 4, .int 5, .int 6, .int 8]) ?_
            decide +kernel
      case s2 => exact ps_setD nmPot 2 (pe_cT call_tupleF B.tuple PyProof.Rows.boot_tuple (pa_1 (pe_f N hr (by decide) (pa_2 (pvd nmPot 0) (pvd nmPot 1)))))
      case s3 =>
        refine' ps_setD nmPot 3 ?p3
        case p3 =>
          refine' pe_cT call_tuple_of B.tuple PyProof.Rows.boot_tuple ?qc3
          case' qc3 => refine' pa_1 ?c3
          case c3 =>
            refine' pe_comp (ix := [0, 1]) bsPot2.toCScope rfl rfl ?h3 ?h4 ?h5 ?h6
            case h3 =>
              refine' pi_r1 B.range ?pa3
              case' pa3 => refine' pa_1 ?i3
              case i3 =>
                refine' pe_ix ix_d ?l3 (pe_f D hr (by decide) (pa_2 (pvd nmPot 0) pe_int)) (fun _ _ => rfl)
                case l3 =>
                  refine pe_lstC (vs := [.int 0, .int 1, .int 2, .int 2, .int 3, .int 4, .int 5, .int 8]) ?_
                  decide +kernel
            case h4 => exact fun _ _ _ _ _ _ => pgb bsPot2 0
            case h5 => exact fun _ _ _ _ _ _ => pts_nil
            case h6 => exact fun _ _ _ _ _ _ => pe_f R hr (by decide) (pa_2 (pvb bsPot2 1) (pvb bsPot2 2)) (bsPot2.g 0)
      case s4 =>
        refine' ps_setD nmPot 4 ?p4
        case' p4 => refine' pe_cT (call_listRng rfl) B.list PyProof.Rows.boot_list ?q4
        case' q4 => refine' pa_1 ?u4
        case u4 => exact pe_cT call_rangeV B.range PyProof.Rows.boot_range (pa_1 (pvd nmPot 1))
      case s5 => exact ps_setD nmPot 5 (pe_lst pa_nil)
      case s6 =>
        refine' ps_for PassesOwn.never rfl ?i6 (pgd nmPot 6) ?b6
        case i6 =>
          refine' pi_r1 B.range ?pa6
          case' pa6 => refine' pa_1 ?j6
          case j6 =>
            refine' pe_cB (call_min2 rfl) B.min PyProof.Rows.boot_min ?q6
            case' q6 => refine' pa_2 ?m6a ?m6
            case m6a => exact pvd nmPot 1
            case m6 =>
              refine' pe_ix ix_d ?l6 (pe_f D hr (by decide) (pa_2 (pvd nmPot 0) pe_int)) (fun _ _ => rfl)
              case l6 =>
                refine pe_lstC (vs := [.int 0, .int 1, .int 2, .int 2, .int 3]) ?_
                decide +kernel
        case b6 =>
          refine' pss_one ?b6a
          case' b6a => refine' ps_expr ?b6b
          case' b6b => refine' pe_bm PySem.F.plainAttrs_list PySem.F.slot_list_append PySem.F.type_list_append mt_append (pvd nmPot 5) ?b6c
          case' b6c => refine' pa_1 ?b6d
          case' b6d => refine' pe_bm PySem.F.plainAttrs_list PySem.F.slot_list_pop PySem.F.type_list_pop mt_popAt (pvd nmPot 4) ?b6e
          case' b6e => refine' pa_1 ?b6f
          case' b6f => refine' pe_f D hr (by decide) ?b6g
          case' b6g => refine' pa_2 (pvd nmPot 0) ?b6h
          case b6h => exact pe_cB call_len_seq B.len PySem.boot_len (pa_1 (pvd nmPot 4))
      case s7 =>
        refine' ps_setD nmPot 7 ?p7
        case p7 =>
          refine' pe_cT call_tuple_of B.tuple PyProof.Rows.boot_tuple ?qc7
          case' qc7 => refine' pa_1 ?c7
          case c7 =>
            refine' pe_comp (ix := [0]) bsPot6.toCScope rfl rfl ?h3 ?h4 ?h5 ?h6
            case h3 => exact pi_tup (pvd nmPot 2)
            case h4 => exact fun _ _ _ _ _ _ => pgb bsPot6 0
            case h5 => exact fun _ _ _ _ _ _ => pts_nil
            case h6 =>
              intro _ _ _ _ _ _
              refine' pe_ix ix_d ?e7 ?g7 (fun _ _ => rfl)
              case g7 => exact pe_f D hr (by decide) (pa_2 (pvb bsPot6 1) pe_int) (bsPot6.g 0)
              case e7 =>
                refine' pe_lst ?e7a
                case' e7a => refine' pa_c pe_int ?e7b
                case' e7b => refine' pa_c pe_int ?e7c
                case' e7c => refine' pa_c pe_int ?e7d
                case' e7d => refine' pa_c pe_int ?e7e
                case' e7e => refine' pa_c pe_int ?e7f
                case' e7f => refine' pa_1 ?e7g
                case e7g => exact pe_f D hr (by decide) (pa_2 (pvb bsPot6 1) pe_int) (bsPot6.g 0)
      case s8 => exact ps_ret (pe_tup (pa_c (pvd nmPot 2) (pa_c (pvd nmPot 3) (pa_c (pe_cT call_tuple_of B.tuple PyProof.Rows.boot_tuple (pa_1 (pvd nmPot 5))) (pa_c (pvd nmPot 7) (pa_c (pe_f D hr (by decide) (pa_2 (pvd nmPot 0) (pvd nmPot 1))) pa_nil))))))
    case rd =>
      have S0 : SS p H H := ⟨hF, But.refl⟩
      walk_at "v"
      refine ⟨by show 8 ≤ sizeLine; decide, fun a1 ha1 => ?_⟩
      have S1 := S0.new (o := .lst [.int 1, .int 2, .int 3, .int 3, .int 4, .int 5, .int 6, .int 8]) ha1
      have np1 := S0.fd.ne ha1
      walk_at "v"
      refine ⟨p, 8, rfl, S1.fd, by decide, by decide, fun r x y z r0 r1 => ?_⟩
      obtain ⟨m, m0, m8, hat⟩ := pick8 r0 r1
      refine w_ixL (by rw [upd_ne (Ne.symm np1), upd_same]) hat ?_
      have S2 := S1.draw (x := x) (y := y) (z := z)
      generalize upd (upd H a1 (.lst [.int 1, .int 2, .int 3, .int 3, .int 4, .int 5, .int 6, .int 8])) p (.lst [.int x, .int y, .int z]) = H2 at S2 ⊢
      clear S1 hat r0 r1
      have hm : ((m : Nat) : Int) < 1000000 := by omega
      have hm0 : (0 : Int) < (m : Int) := by omega
      walk_at "v"
      refine ⟨p, m, rfl, S2.fd, m0, m8, fun l nm H3 hl hN hF3 hB3 hl3 => ?_⟩
      have S3 := S2.call hF3 hB3
      walk_at "v"
      refine ⟨l, _, rfl, SqL.of hl3, fun ps ob hps hod hoc => ?_⟩
      have S4 := S3.new (o := .frz ob (.tup (nm.map V.str))) hps
      have ep : TupF (upd H3 ps (.frz ob (.tup (nm.map V.str)))) ps (nm.map V.str) := ⟨ob, upd_same, hod, hoc⟩
      generalize upd H3 ps (.frz ob (.tup (nm.map V.str))) = H4 at S4 ep ⊢
      clear S3 S2 hl hF3 hB3 hl3 hps
      walk_at "v"
      refine ⟨by show 8 ≤ sizeLine; decide, fun a3 ha3 => ?_⟩
      have S5 := S4.new (o := .lst [.int 0, .int 1, .int 2, .int 2, .int 3, .int 4, .int 5, .int 8]) ha3
      have np3 := S4.fd.ne ha3
      walk_at "v"
      refine ⟨p, 8, rfl, S5.fd, by decide, by decide, fun r x y z r0 r1 => ?_⟩
      obtain ⟨n, n8, hat⟩ := pickR r0 r1
      refine w_ixL (by rw [upd_ne (Ne.symm np3), upd_same]) hat ?_
      have S6 := S5.draw (x := x) (y := y) (z := z)
      have ep6 := ((TK.new (o := .lst [.int 0, .int 1, .int 2, .int 2, .int 3, .int 4, .int 5, .int 8]) ha3).trans (TK.feed (o := .lst [.int x, .int y, .int z]) S5.fd)).tf ep
      generalize upd (upd H4 a3 (.lst [.int 0, .int 1, .int 2, .int 2, .int 3, .int 4, .int 5, .int 8])) p (.lst [.int x, .int y, .int z]) = H6 at S6 ep6 ⊢
      clear S5 hat r0 r1 ep S4 ha3 np3 np1 ha1
      walk_at "v"
      refine ⟨n, rfl, by omega, by omega, fun dr hdr => ?_⟩
      have ndr := S6.none hdr
      have pdr := S6.fd.ne hdr
      refine cgo_range (ρ := [some (.ref p), some (.int m)]) (fun i ys H' => ∃ rs : List Addr, ys = rs.map V.ref ∧ rs.length = i ∧ (∀ r ∈ rs, RuleAt m H' r) ∧ SS p H H' ∧ TK H6 H') ⟨[], rfl, rfl, (fun r h => by cases h), S6.new hdr, TK.new hdr⟩ ?_ ?_
      · rintro i ys H' hi ⟨rs, rfl, hlen, hrs, S, T⟩ hD R' S' kR _
        walk_at "v"
        refine ⟨p, m, rfl, S.fd, m0, m8, fun r H'' hr0 hR hF' hB => ?_⟩
        have S7 := S.call hF' hB
        have hD' := hB dr _ hD (Ne.symm pdr)
        have T7 := TK.but S.fd hB
        have T8 : TK H'' (upd H'' dr (.lst (rs.map V.ref ++ [.ref r]))) := TK.lst hD'
        refine kR _ _ hD' (by rw [List.length_map]; exact small1000 (by rw [Int.toNat_natCast] at hi; omega)) ⟨rs ++ [r], by rw [List.map_append]; rfl, by simp [hlen], fun q hq => ?_, S7.put ndr pdr, (T.trans T7).trans T8⟩
        rcases List.mem_append.mp hq with old | new
        · exact ((hrs q old).tk T7).tk T8
        · rw [List.mem_singleton.mp new]
          exact hR.tk T8
      · rintro ys H' ⟨rs, rfl, hlen, hrs, S, T⟩ hD
        rw [Int.toNat_natCast] at hlen
        have ep7 := T.tf ep6
        clear ep6 T S6
        walk_at "v"
        refine ⟨dr, _, rfl, .inl ⟨SqL.of hD, fun pr hpr => ?_⟩⟩
        have S8 := S.new (o := .tup (rs.map V.ref)) hpr
        have T8 : TK H' (upd H' pr (.tup (rs.map V.ref))) := TK.new hpr
        have ep8 := T8.tf ep7
        have hrs8 : ∀ r ∈ rs, RuleAt m (upd H' pr (.tup (rs.map V.ref))) r := fun r h => (hrs r h).tk T8
        have er8 : upd H' pr (.tup (rs.map V.ref)) pr = some (.tup (rs.map V.ref)) := upd_same
        generalize upd H' pr (.tup (rs.map V.ref)) = H8 at S8 ep8 er8 hrs8 ⊢
        clear S T8 ep7 hD hrs hpr
        walk_at "v"
        refine ⟨m, rfl, fun rg hrg => ?_⟩
        have S9 := S8.new (o := .rng 0 m) hrg
        have T9 : TK H8 (upd H8 rg (.rng 0 m)) := TK.new hrg
        have erg : upd H8 rg (.rng 0 m) rg = some (.rng 0 m) := upd_same
        generalize upd H8 rg (.rng 0 m) = H9 at S9 T9 erg ⊢
        walk_at "v"
        refine ⟨rg, m, rfl, erg, by omega, fun pl hpl => ?_⟩
        have S10 := S9.new (o := .lst ((List.range m).map fun (i : Nat) => V.int (i : Int))) hpl
        have T10 := T9.trans (TK.new (o := .lst ((List.range m).map fun (i : Nat) => V.int (i : Int))) hpl)
        have npl := S9.none hpl
        have ppl := S9.fd.ne hpl
        have el : upd H9 pl (.lst ((List.range m).map fun (i : Nat) => V.int (i : Int))) pl = some (.lst (((List.range m).map fun (i : Nat) => (i : Int)).map V.int)) := by rw [upd_same, List.map_map]; rfl
        generalize upd H9 pl (.lst ((List.range m).map fun (i : Nat) => V.int (i : Int))) = H10 at S10 T10 el ⊢
        clear S9 T9 erg hpl hrg S8
        walk_at "v"
        refine ⟨Nat.zero_le _, fun pi hpi => ?_⟩
        have S11 := S10.new (o := .lst []) hpi
        have T11 := T10.trans (TK.new (o := .lst []) hpi)
        have npi := S10.none hpi
        have ppi := S10.fd.ne hpi
        have nli : pl ≠ pi := ne_of_none el hpi
        have el11 : upd H10 pi (.lst []) pl = some (.lst (((List.range m).map fun (i : Nat) => (i : Int)).map V.int)) := by rw [upd_ne nli]; exact el
        have ei11 : upd H10 pi (.lst []) pi = some (.lst (([] : List Int).map V.int)) := upd_same
        generalize upd H10 pi (.lst []) = H11 at S11 T11 el11 ei11 ⊢
        clear S10 T10 el hpi
        walk_at "v"
        refine ⟨by show 5 ≤ sizeLine; decide, fun a5 ha5 => ?_⟩
        have S12 := S11.new (o := .lst [.int 0, .int 1, .int 2, .int 2, .int 3]) ha5
        have np5 := S11.fd.ne ha5
        walk_at "v"
        refine ⟨p, 5, rfl, S12.fd, by decide, by decide, fun r x y z r0 r1 => ?_⟩
        obtain ⟨c, c3, hat⟩ := pickI r0 r1
        refine w_ixL (by rw [upd_ne (Ne.symm np5), upd_same]) hat ?_
        have S13 := S12.draw (x := x) (y := y) (z := z)
        have T13 := (T11.trans (TK.new (o := .lst [.int 0, .int 1, .int 2, .int 2, .int 3]) ha5)).trans (TK.feed (o := .lst [.int x, .int y, .int z]) S12.fd)
        have el13 : upd (upd H11 a5 (.lst [.int 0, .int 1, .int 2, .int 2, .int 3])) p (.lst [.int x, .int y, .int z]) pl = some (.lst (((List.range m).map fun (i : Nat) => (i : Int)).map V.int)) := by rw [upd_ne (Ne.symm ppl), upd_ne (ne_of_none el11 ha5)]; exact el11
        have ei13 : upd (upd H11 a5 (.lst [.int 0, .int 1, .int 2, .int 2, .int 3])) p (.lst [.int x, .int y, .int z]) pi = some (.lst (([] : List Int).map V.int)) := by rw [upd_ne (Ne.symm ppi), upd_ne (ne_of_none ei11 ha5)]; exact ei11
        generalize upd (upd H11 a5 (.lst [.int 0, .int 1, .int 2, .int 2, .int 3])) p (.lst [.int x, .int y, .int z]) = H13 at S13 T13 el13 ei13 ⊢
        clear S12 S11 T11 el11 ei11 ha5 np5 hat r0 r1
        walk_at "v"
        refine ⟨m, c, rfl, ?_⟩
        have ec : (if (c : Int) < (m : Int) then (c : Int) else (m : Int)) = ((min c m : Nat) : Int) := by
          by_cases h : (c : Int) < (m : Int)
          · rw [if_pos h]; omega
          · rw [if_neg h]; omega
        rw [ec]
        walk_at "v"
        refine ⟨_, rfl, by omega, by omega, ?_⟩
        rw [Int.toNat_natCast]
        refine for_range (fun i σ H' => ∃ (u : Option V) (lf is : List Int), σ = [some (.ref p), some (.int m), some (.ref ps), some (.ref pr), some (.ref pl), some (.ref pi), u, none] ∧ H' pl = some (.lst (lf.map V.int)) ∧ H' pi = some (.lst (is.map V.int)) ∧
            lf.length + i = m ∧ is.length = i ∧ (∀ j ∈ lf, 0 ≤ j ∧ j < (m : Int)) ∧ (∀ j ∈ is, 0 ≤ j ∧ j < (m : Int)) ∧ SS p H H' ∧ TK H8 H')
          ⟨none, _, [], rfl, el13, ei13, by simp, rfl, fun j hj => by
            obtain ⟨q, hq, rfl⟩ := List.mem_map.mp hj
            have := List.mem_range.mp hq
            omega, (fun j hj => by cases hj), S13, T13⟩ ?_ ?_
        · rintro i σ H' hi ⟨u, lf, is, rfl, el, ei, hlen1, hlen2, hlf, his, S, T⟩
          walk_at "v"
          refine ⟨.inl ⟨rfl, _, SqL.of ei⟩, ?_⟩
          walk_at "v"
          refine ⟨.inl ⟨rfl, _, SqL.of el⟩, ?_⟩
          walk_at "v"
          refine ⟨pl, _, rfl, .inl (SqL.of el), ?_⟩
          rw [List.length_map]
          refine ⟨p, lf.length, rfl, S.fd, by omega, by omega, fun r x y z r0 r1 => ?_⟩
          have S' := S.draw (x := x) (y := y) (z := z)
          have T' := T.trans (TK.feed (o := .lst [.int x, .int y, .int z]) S.fd)
          have el' : upd H' p (.lst [.int x, .int y, .int z]) pl = some (.lst (lf.map V.int)) := by rw [upd_ne (Ne.symm ppl)]; exact el
          have ei' : upd H' p (.lst [.int x, .int y, .int z]) pi = some (.lst (is.map V.int)) := by rw [upd_ne (Ne.symm ppi)]; exact ei
          generalize upd H' p (.lst [.int x, .int y, .int z]) = H2 at S' T' el' ei' ⊢
          obtain ⟨j, rfl⟩ := Nat.ofI r0
          have hj : j < lf.length := by omega
          have hix : ixN (lf.map V.int).length (j : Int) = some j := by
            rw [List.length_map]
            unfold ixN
            rw [if_pos r0, if_pos r1]
            rfl
          walk_at "v"
          refine ⟨pl, _, _, j, .int lf[j], rfl, rfl, el', by omega, by omega, (ixN_seq hix).1, by simp [hj], ?_⟩
          have S'' := S'.put (o := .lst ((lf.map V.int).eraseIdx j)) npl ppl
          have T'' := T'.trans (TK.lst (o := .lst ((lf.map V.int).eraseIdx j)) el')
          have el'' : upd H2 pl (.lst ((lf.map V.int).eraseIdx j)) pl = some (.lst ((lf.eraseIdx j).map V.int)) := by rw [upd_same, map_erase]
          have ei'' : upd H2 pl (.lst ((lf.map V.int).eraseIdx j)) pi = some (.lst (is.map V.int)) := by rw [upd_ne (Ne.symm nli)]; exact ei'
          generalize upd H2 pl (.lst ((lf.map V.int).eraseIdx j)) = H3' at S'' T'' el'' ei'' ⊢
          walk_at "v"
          refine ⟨pi, _, _, rfl, rfl, ei'', by rw [List.length_map]; exact small1000 (by omega), ?_⟩
          refine ⟨_, lf.eraseIdx j, is ++ [lf[j]], rfl, by rw [upd_ne nli]; exact el'', by rw [upd_same, List.map_append]; rfl, ?_, by simp [hlen2], ?_, ?_, S''.put npi ppi, T''.trans (TK.lst ei'')⟩
          · rw [List.length_eraseIdx_of_lt hj]
            omega
          · exact fun q hq => hlf q (List.mem_of_mem_eraseIdx hq)
          · intro q hq
            rcases List.mem_append.mp hq with old | new
            · exact his q old
            · rw [List.mem_singleton.mp new]
              exact hlf _ (List.getElem_mem hj)
        · rintro σ H14 ⟨u, lf, is, rfl, el, ei, hlen1, hlen2, hlf, his, S14, T14⟩
          have ep14 := T14.tf ep8
          have hi3 : is.length ≤ 3 := by omega
          clear S13 T13 el13 ei13 el hlf hlen1
          walk_at "v"
          refine ⟨ps, rfl, ⟨_, ep14.sq⟩, fun db hdb => ?_⟩
          have ndb := S14.none hdb
          have pdb := S14.fd.ne hdb
          have idb : pi ≠ db := ne_of_none ei hdb
          refine cgo_tup (xs := nm.map V.str) (ρ := [some (.ref p)]) (fun i ys H' => ∃ bs : List Int, ys = bs.map V.int ∧ bs.length = i ∧ (∀ b ∈ bs, 0 ≤ b ∧ b ≤ 99) ∧ SS p H H' ∧ TK H14 H' ∧ H' pi = some (.lst (is.map V.int)))
            ⟨[], rfl, rfl, (fun b hb => by cases hb), S14.new hdb, TK.new hdb, by rw [upd_ne idb]; exact ei⟩ (fun i ys H' _ ⟨_, _, _, _, _, T, _⟩ => (T.tf ep14).sq) ?_ ?_
          · rintro i xv ys H' hxi ⟨bs, rfl, hbl, hbs, S, T, eI⟩ hD R' S' kR _
            have hi8 : i < 8 := by
              have := (List.getElem?_eq_some_iff.mp hxi).1
              rw [List.length_map, hN.1] at this
              omega
            walk_at "v"
            refine ⟨p, 100, rfl, S.fd, by decide, by decide, fun r x y z r0 r1 => ?_⟩
            have S2 := S.draw (x := x) (y := y) (z := z)
            have T2 := T.trans (TK.feed (o := .lst [.int x, .int y, .int z]) S.fd)
            have eI2 : upd H' p (.lst [.int x, .int y, .int z]) pi = some (.lst (is.map V.int)) := by rw [upd_ne (Ne.symm ppi)]; exact eI
            have hD2 : upd H' p (.lst [.int x, .int y, .int z]) db = some (.lst (bs.map V.int)) := by rw [upd_ne (Ne.symm pdb)]; exact hD
            generalize upd H' p (.lst [.int x, .int y, .int z]) = H2 at S2 T2 eI2 hD2 ⊢
            walk_at "v"
            refine ⟨by show 6 ≤ sizeLine; decide, fun a6 ha6 => ?_⟩
            have S3 := S2.new (o := .lst [.int 0, .int 0, .int 1, .int 2, .int 99, .int r]) ha6
            have T3 := T2.trans (TK.new (o := .lst [.int 0, .int 0, .int 1, .int 2, .int 99, .int r]) ha6)
            have p6 := S2.fd.ne ha6
            have eI3 : upd H2 a6 (.lst [.int 0, .int 0, .int 1, .int 2, .int 99, .int r]) pi = some (.lst (is.map V.int)) := by rw [upd_ne (ne_of_none eI2 ha6)]; exact eI2
            have hD3 : upd H2 a6 (.lst [.int 0, .int 0, .int 1, .int 2, .int 99, .int r]) db = some (.lst (bs.map V.int)) := by rw [upd_ne (ne_of_none hD2 ha6)]; exact hD2
            have e6 : upd H2 a6 (.lst [.int 0, .int 0, .int 1, .int 2, .int 99, .int r]) a6 = some (.lst [.int 0, .int 0, .int 1, .int 2, .int 99, .int r]) := upd_same
            generalize upd H2 a6 (.lst [.int 0, .int 0, .int 1, .int 2, .int 99, .int r]) = H3' at S3 T3 eI3 hD3 e6 ⊢
            walk_at "v"
            refine ⟨p, 6, rfl, S3.fd, by decide, by decide, fun r' x' y' z' r0' r1' => ?_⟩
            obtain ⟨bv, b0, b1, hat⟩ := pickB r0' r1' r0 r1
            refine w_ixL (by rw [upd_ne (Ne.symm p6)]; exact e6) hat ?_
            have hD4 : upd H3' p (.lst [.int x', .int y', .int z']) db = some (.lst (bs.map V.int)) := by rw [upd_ne (Ne.symm pdb)]; exact hD3
            refine kR _ _ hD4 (by rw [List.length_map]; exact small1000 (by omega)) ⟨bs ++ [bv], by rw [List.map_append]; rfl, by simp [hbl], fun b hb => ?_, S3.draw.put ndb pdb, (T3.trans (TK.feed S3.fd)).trans (TK.lst hD4), by rw [upd_ne idb, upd_ne (Ne.symm ppi)]; exact eI3⟩
            rcases List.mem_append.mp hb with old | new
            · exact hbs b old
            · rw [List.mem_singleton.mp new]
              exact ⟨b0, b1⟩
          · rintro ys H15 ⟨bs, rfl, hbl, hbs, S15, T15, eI⟩ hD
            rw [List.length_map, hN.1] at hbl
            walk_at "v"
            refine ⟨db, _, rfl, .inl ⟨SqL.of hD, fun pb hpb => ?_⟩⟩
            have S16 := S15.new (o := .tup (bs.map V.int)) hpb
            have T16 := (T14.trans T15).trans (TK.new (o := .tup (bs.map V.int)) hpb)
            have eI16 : upd H15 pb (.tup (bs.map V.int)) pi = some (.lst (is.map V.int)) := by rw [upd_ne (ne_of_none eI hpb)]; exact eI
            have eb16 : upd H15 pb (.tup (bs.map V.int)) pb = some (.tup (bs.map V.int)) := upd_same
            generalize upd H15 pb (.tup (bs.map V.int)) = H16 at S16 T16 eI16 eb16 ⊢
            clear S15 T15 eI hD hpb
            walk_at "v"
            refine ⟨pi, _, rfl, .inl ⟨SqL.of eI16, fun pin hpin => ?_⟩⟩
            have S17 := S16.new (o := .tup (is.map V.int)) hpin
            have T17 : TK H16 (upd H16 pin (.tup (is.map V.int))) := TK.new hpin
            have ein : upd H16 pin (.tup (is.map V.int)) pin = some (.tup (is.map V.int)) := upd_same
            generalize upd H16 pin (.tup (is.map V.int)) = H17 at S17 T17 ein ⊢
            walk_at "v"
            refine ⟨p, m, rfl, S17.fd, hm0, hm, fun ans x y z a0 a1 => ?_⟩
            have S18 := S17.draw (x := x) (y := y) (z := z)
            have T18 : TK H17 (upd H17 p (.lst [.int x, .int y, .int z])) := TK.feed S17.fd
            generalize upd H17 p (.lst [.int x, .int y, .int z]) = H18 at S18 T18 ⊢
            walk_at "v"
            refine ⟨by show 5 ≤ sizeLine; decide, fun l hl => ?_⟩
            have T19 : TK H18 (upd H18 l (.tup [.ref ps, .ref pr, .ref pin, .ref pb, .int ans])) := TK.new hl
            have S19 := S18.new (o := .tup [.ref ps, .ref pr, .ref pin, .ref pb, .int ans]) hl
            have TA : TK H8 (upd H18 l (.tup [.ref ps, .ref pr, .ref pin, .ref pb, .int ans])) := ((T16.trans T17).trans T18).trans T19
            refine k l _ nm is bs ans m (S18.none hl) ⟨⟨ps, pr, pin, pb, rs, upd_same, TA.tf ep8, TA.t _ _ er8, fun r h => (hrs8 r h).tk TA, by omega, (T18.trans T19).t _ _ ein, ((T17.trans T18).trans T19).t _ _ eb16⟩, hN, m0, m8, his, hi3, hbl, hbs, a0, a1⟩ S19.fd S19.bt
end
end K7

set_option Elab.async false
set_option linter.all false
set_option maxRecDepth 100000
namespace L2
open PySem PySem.Spec PyProof.Rows
/-! ### zip of three tuples -/
def IsTri (h : Heap) (T : Addr) (a b c : Value) : Prop := h.get? T = some { cls := .type "tuple", data := .seq #[a, b, c] }
structure Apart3 (z TI TO i1 i2 i3 l1 l2 l3 : Addr) : Prop where
  nz : TI ≠ z ∧ TO ≠ z ∧ i1 ≠ z ∧ i2 ≠ z ∧ i3 ≠ z
  nI : TI ≠ TO ∧ TI ≠ i1 ∧ TI ≠ i2 ∧ TI ≠ i3
  nO : TO ≠ i1 ∧ TO ≠ i2 ∧ TO ≠ i3
  ni : i1 ≠ i2 ∧ i1 ≠ i3 ∧ i2 ≠ i3
  l1 : l1 ≠ z ∧ l1 ≠ TO ∧ l1 ≠ i1 ∧ l1 ≠ i2 ∧ l1 ≠ i3
  l2 : l2 ≠ z ∧ l2 ≠ TO ∧ l2 ≠ i1 ∧ l2 ≠ i2 ∧ l2 ≠ i3
  l3 : l3 ≠ z ∧ l3 ≠ TO ∧ l3 ≠ i1 ∧ l3 ≠ i2 ∧ l3 ≠ i3
section
variable {prog : Program} {w : World} {A : Around} {E : Value → Shared → Prop} {s : Shared}
theorem upSeq3 {T : Addr} {a b c x : Value} {k : Nat} {Q : Unit → Shared → Prop} (hT : IsTri s.heap T a b c)
    (h : ∀ h', h'.get? T = some { cls := .type "tuple", data := .seq ((#[a, b, c] : Array Value).setIfInBounds k x) } → Heap.SameBut T s.heap h' → Q () { s with heap := h' }) :
    wpAny (model prog w) A (updateSeq T (·.setIfInBounds k x)) Q E s := by
  refine wpAny_updateSeq hT rfl (h _ ?_ (Heap.SameBut.update ..)); rw [Heap.get?_update_self _ hT rfl]
  simp [Obj.mapSeq]
theorem zip3_item {z TI TO i1 i2 i3 l1 l2 l3 : Addr} {k1 k2 k3 : Nat} {xs ys zs : Array Value} {x y v a b c : Value} {Q : Value → Shared → Prop} (D : Apart3 z TI TO i1 i2 i3 l1 l2 l3) (hz : IsZip s.heap z TI TO .none) (hTI : IsTri s.heap TI (.ref i1) (.ref i2) (.ref i3)) (hTO : IsTri s.heap TO a b c)
    (h1 : s.heap.IsTupleIter i1 l1 k1) (h2 : s.heap.IsTupleIter i2 l2 k2) (h3 : s.heap.IsTupleIter i3 l3 k3) (hl1 : s.heap.IsTuple l1 xs) (hl2 : s.heap.IsTuple l2 ys) (hl3 : s.heap.IsTuple l3 zs) (hx : xs[k1]? = some x) (hy : ys[k2]? = some y) (hv : zs[k3]? = some v)
    (hQ : ∀ h', IsZip h' z TI TO (rawInt s.heap.objs.size) → IsTri h' TO x y v → h'.IsTupleIter i1 l1 (k1 + 1) → h'.IsTupleIter i2 l2 (k2 + 1) → h'.IsTupleIter i3 l3 (k3 + 1) → IsTri h' s.heap.objs.size x y v →
      (∀ d o, d ≠ z → d ≠ TO → d ≠ i1 → d ≠ i2 → d ≠ i3 → s.heap.get? d = some o → h'.get? d = some o) → Q (.ref s.heap.objs.size) { s with heap := h' }) :
    wpAny (model prog w) A (Builtin.«zip.__next__» ⟨[.ref z], []⟩) (fun f s' => ∃ v, f = .done (.ret v) ∧ Q v s') E s := by
  obtain ⟨⟨TIz, TOz, i1z, i2z, i3z⟩, ⟨TITO, TIi1, TIi2, TIi3⟩, ⟨TOi1, TOi2, TOi3⟩, ⟨i12, i13, i23⟩, ⟨l1z, l1TO, l1i1, l1i2, l1i3⟩, ⟨l2z, l2TO, l2i1, l2i2, l2i3⟩, ⟨l3z, l3TO, l3i1, l3i2, l3i3⟩⟩ := D
  show wpAny _ _ (field (.ref z) 2 >>= _) _ _ _; refine wpAny_bind (wpAny_field hz rfl (x := .bool false) rfl ?_)
  show wpAny _ _ (field (.ref z) 3 >>= _) _ _ _; refine wpAny_bind (wpAny_field hz rfl (x := .ref TI) rfl ?_)
  refine wpAny_bind (wpAny_seqItems hTI rfl ?_); show wpAny _ _ (Builtin.SmallTypes.ownedTupleIsFree (.ref z) >>= _) _ _ _
  refine wpAny_bind ?_; unfold Builtin.SmallTypes.ownedTupleIsFree
  refine wpAny_bind (wpAny_field hz rfl (x := .none) rfl (wpAny_pure ?_)); simp only [if_true]
  refine wpAny_bind (wpAny_rule ?_); refine wpAny_bind (wpAny_field hz rfl (x := .ref TO) rfl ?_)
  refine wpAny_bind (wpAny_setField_rec hz (by simp) fun g1 zz1 s1 => ?_); replace zz1 : IsZip g1 z TI TO .ellipsis := zz1
  refine wpAny_bind ?_; simp only [List.zipIdx_cons, List.zipIdx_nil, List.forIn_cons, List.forIn_nil]
  refine wpAny_bind (wpAny_bind (wpAny_onRaise ?_)); show wpAny _ _ (Builtin.SmallTypes.nextOf (.ref i1) >>= _) _ _ _
  refine wpAny_bind (nextT_item (tupJ h1 s1.extBut i1z) (tupX hl1 s1.extBut l1z) hx fun g2 j2 s2 => wpAny_pure ?_)
  have o2 : IsTri g2 TO a b c := s2.extBut _ _ TOi1 (s1.extBut _ _ TOz hTO)
  refine wpAny_bind (wpAny_seqItems o2 rfl ?_); refine wpAny_bind (upSeq3 o2 fun g3 o3 s3 => ?_); replace o3 : IsTri g3 TO x b c := o3
  refine wpAny_bind (wpAny_letGo (wpAny_pure ?_)); refine wpAny_bind (wpAny_bind (wpAny_onRaise ?_)); show wpAny _ _ (Builtin.SmallTypes.nextOf (.ref i2) >>= _) _ _ _
  refine wpAny_bind (nextT_item (tupJ (tupJ (tupJ h2 s1.extBut i2z) s2.extBut i12.symm) s3.extBut TOi2.symm) (tupX (tupX (tupX hl2 s1.extBut l2z) s2.extBut l2i1) s3.extBut l2TO) hy fun g4 j4 s4 => wpAny_pure ?_)
  have o4 : IsTri g4 TO x b c := s4.extBut _ _ TOi2 o3
  refine wpAny_bind (wpAny_seqItems o4 rfl ?_); refine wpAny_bind (upSeq3 o4 fun g5 o5 s5 => ?_); replace o5 : IsTri g5 TO x y c := o5
  refine wpAny_bind (wpAny_letGo (wpAny_pure ?_)); refine wpAny_bind (wpAny_bind (wpAny_onRaise ?_)); show wpAny _ _ (Builtin.SmallTypes.nextOf (.ref i3) >>= _) _ _ _
  refine wpAny_bind (nextT_item (tupJ (tupJ (tupJ (tupJ (tupJ h3 s1.extBut i3z) s2.extBut i13.symm) s3.extBut TOi3.symm) s4.extBut i23.symm) s5.extBut TOi3.symm) (tupX (tupX (tupX (tupX (tupX hl3 s1.extBut l3z) s2.extBut l3i1) s3.extBut l3TO) s4.extBut l3i2) s5.extBut l3TO) hv fun g6 j6 s6 => wpAny_pure ?_)
  have o6 : IsTri g6 TO x y c := s6.extBut _ _ TOi3 o5
  refine wpAny_bind (wpAny_seqItems o6 rfl ?_); refine wpAny_bind (upSeq3 o6 fun g7 o7 s7 => ?_); replace o7 : IsTri g7 TO x y v := o7
  refine wpAny_bind (wpAny_letGo (wpAny_pure (wpAny_pure ?_))); refine wpAny_bind (wpAny_seqItems o7 rfl ?_); refine wpAny_bind (wpAny_newTuple ?_)
  have sz : g7.objs.size = s.heap.objs.size := by rw [s7.1, s6.1, s5.1, s4.1, s3.1, s2.1, s1.1]
  have k7 : ∀ c o, c ≠ TO → c ≠ i1 → c ≠ i2 → c ≠ i3 → g1.get? c = some o → g7.get? c = some o := fun c o c2 c3 c4 c5 q => s7.extBut _ _ c2 (s6.extBut _ _ c5 (s5.extBut _ _ c2 (s4.extBut _ _ c4 (s3.extBut _ _ c2 (s2.extBut _ _ c3 q)))))
  have z7 : IsZip g7 z TI TO .ellipsis := k7 _ _ TOz.symm i1z.symm i2z.symm i3z.symm zz1
  have a7 : g7.IsTupleIter i1 l1 (k1 + 1) := tupJ (tupJ (tupJ (tupJ (tupJ j2 s3.extBut TOi1.symm) s4.extBut i12) s5.extBut TOi1.symm) s6.extBut i13) s7.extBut TOi1.symm
  have b7 : g7.IsTupleIter i2 l2 (k2 + 1) := tupJ (tupJ (tupJ j4 s5.extBut TOi2.symm) s6.extBut i23) s7.extBut TOi2.symm
  have c7 : g7.IsTupleIter i3 l3 (k3 + 1) := tupJ j6 s7.extBut TOi3.symm
  have zlt : z < g7.objs.size := Heap.lt_size z7
  show wpAny _ _ (Builtin.SmallTypes.ownedTupleHandOut (.ref z) (.ref g7.objs.size) >>= _) _ _ _; refine wpAny_bind ?_; unfold Builtin.SmallTypes.ownedTupleHandOut
  have z8 : IsZip (g7.push { cls := .type "tuple", data := .seq #[x, y, v] }) z TI TO .ellipsis := Heap.get?_push_of_some _ z7
  refine wpAny_bind (wpAny_setField_rec z8 (by simp) fun g9 z9 s9 => ?_); replace z9 : IsZip g9 z TI TO (rawInt g7.objs.size) := z9
  refine wpAny_setField_rec z9 (by simp) fun gA zA sA => ?_; replace zA : IsZip gA z TI TO (rawInt g7.objs.size) := zA
  have up : ∀ c o, c ≠ z → g7.get? c = some o → gA.get? c = some o := fun c o c1 q => sA.extBut _ _ c1 (s9.extBut _ _ c1 (Heap.get?_push_of_some _ q))
  have tA : IsTri gA g7.objs.size x y v := sA.extBut _ _ (Nat.ne_of_gt zlt) (s9.extBut _ _ (Nat.ne_of_gt zlt) (Heap.get?_push_size _ rfl))
  rw [sz] at zA tA; refine wpAny_pure ⟨_, rfl, ?_⟩; show Q (.ref g7.objs.size) _; rw [sz]
  exact hQ gA zA (up _ _ TOz o7) (a7.at fun o q => up _ o i1z q) (b7.at fun o q => up _ o i2z q) (c7.at fun o q => up _ o i3z q) tA fun c o c1 c2 c3 c4 c5 q => up c o c1 (k7 c o c2 c3 c4 c5 (s1.extBut _ _ c1 q))
/-- .. and ends, all three being as long: at the first one -/
theorem zip3_end {z TI TO i1 i2 i3 l1 l2 l3 : Addr} {k1 : Nat} {xs : Array Value} {a b c : Value} {Q : Fin → Shared → Prop} (hh : A.handled = none) (D : Apart3 z TI TO i1 i2 i3 l1 l2 l3) (hz : IsZip s.heap z TI TO .none) (hTI : IsTri s.heap TI (.ref i1) (.ref i2) (.ref i3)) (hTO : IsTri s.heap TO a b c)
    (h1 : s.heap.IsTupleIter i1 l1 k1) (hl1 : s.heap.IsTuple l1 xs) (hx : xs[k1]? = none)
    (hE : ∀ h' e, (∀ d o, d ≠ z → d ≠ TO → d ≠ i1 → d ≠ i2 → d ≠ i3 → s.heap.get? d = some o → h'.get? d = some o) → (∃ o, h'.get? e = some o ∧ o.cls = .type "StopIteration") → E (.ref e) { s with heap := h' }) : wpAny (model prog w) A (Builtin.«zip.__next__» ⟨[.ref z], []⟩) Q E s := by
  obtain ⟨⟨TIz, TOz, i1z, i2z, i3z⟩, ⟨TITO, TIi1, TIi2, TIi3⟩, ⟨TOi1, TOi2, TOi3⟩, ⟨i12, i13, i23⟩, ⟨l1z, l1TO, l1i1, l1i2, l1i3⟩, _, _⟩ := D
  show wpAny _ _ (field (.ref z) 2 >>= _) _ _ _; refine wpAny_bind (wpAny_field hz rfl (x := .bool false) rfl ?_)
  show wpAny _ _ (field (.ref z) 3 >>= _) _ _ _; refine wpAny_bind (wpAny_field hz rfl (x := .ref TI) rfl ?_)
  refine wpAny_bind (wpAny_seqItems hTI rfl ?_); show wpAny _ _ (Builtin.SmallTypes.ownedTupleIsFree (.ref z) >>= _) _ _ _
  refine wpAny_bind ?_; unfold Builtin.SmallTypes.ownedTupleIsFree
  refine wpAny_bind (wpAny_field hz rfl (x := .none) rfl (wpAny_pure ?_)); simp only [if_true]
  refine wpAny_bind (wpAny_rule ?_); refine wpAny_bind (wpAny_field hz rfl (x := .ref TO) rfl ?_)
  refine wpAny_bind (wpAny_setField_rec hz (by simp) fun g1 zz1 s1 => ?_); replace zz1 : IsZip g1 z TI TO .ellipsis := zz1
  refine wpAny_bind ?_; simp only [List.zipIdx_cons, List.zipIdx_nil, List.forIn_cons, List.forIn_nil]
  refine wpAny_bind (wpAny_bind (wpAny_onRaise ?_)); show wpAny _ _ (Builtin.SmallTypes.nextOf (.ref i1) >>= _) _ _ _
  refine wpAny_bind (nextT_end hh (tupJ h1 s1.extBut i1z) (tupX hl1 s1.extBut l1z) hx fun g2 e s2 he => ?_)
  obtain ⟨oe, hoe, hce⟩ := he; have z2 : IsZip g2 z TI TO .ellipsis := s2 _ _ i1z.symm zz1
  have ez : e ≠ z := fun q => by subst q; rw [z2] at hoe; cases hoe; simp at hce
  refine wpAny_setField_rec z2 (by simp) fun g3 _ s3 => hE g3 e (fun c o c1 _ c3 _ _ q => s3.extBut _ _ c1 (s2 _ _ c3 (s1.extBut _ _ c1 q))) ⟨oe, s3.extBut _ _ ez hoe, hce⟩
end
theorem tyC3 (a b c : Value) : checkTypeCall "zip" ⟨[a, b, c], []⟩ = pure () := by kernel_rfl
theorem nwC3 (a b c : Value) : checkBuiltinCall "zip.__new__" ⟨[.type "zip", a, b, c], []⟩ = pure () := by kernel_rfl
abbrev ztH1 (h : Heap) (a : Addr) : Heap := h.push { cls := .type "tuple_iterator", data := .fields #[.ref a, .int 0 0] }
abbrev ztH2 (h : Heap) (a b : Addr) : Heap := (ztH1 h a).push { cls := .type "tuple_iterator", data := .fields #[.ref b, .int 0 0] }
abbrev ztH3 (h : Heap) (a b c : Addr) : Heap := (ztH2 h a b).push { cls := .type "tuple_iterator", data := .fields #[.ref c, .int 0 0] }
abbrev ztH4 (h : Heap) (a b c : Addr) : Heap := (ztH3 h a b c).push { cls := .type "tuple", data := .seq #[.ref h.objs.size, .ref (ztH1 h a).objs.size, .ref (ztH2 h a b).objs.size] }
abbrev ztH5 (h : Heap) (a b c : Addr) : Heap := (ztH4 h a b c).push { cls := .type "tuple", data := .seq #[.none, .none, .none] }
abbrev ztH6 (h : Heap) (a b c : Addr) : Heap := (ztH5 h a b c).push { cls := .type "zip", data := .fields #[.none, .bool false, .bool false, .ref (ztH3 h a b c).objs.size, .ref (ztH4 h a b c).objs.size] }
set_option maxHeartbeats 8000000 in
theorem zt_new (a b c : Addr) (xs ys zs : Array Value) : Meets (Builtin.«zip.__new__» ⟨[.type "zip", .ref a, .ref b, .ref c], []⟩) (fun _ R s => s.heap.IsTuple a xs ∧ s.heap.IsTuple b ys ∧ s.heap.IsTuple c zs ∧ R (.ok (.ret (.ref (ztH5 s.heap a b c).objs.size))) { s with heap := ztH6 s.heap a b c }) :=
  .of_wp fun prog w A R s h => by
    obtain ⟨hp, g, d, tk, os⟩ := s; obtain ⟨hA, hB, hC, h⟩ := h; have hsub := sub_zip
    have tA : Heap.IsTuple (Shared.heap ⟨hp, g, d, tk, os⟩) a xs := hA
    have tB : Heap.IsTuple (Shared.heap ⟨ztH1 hp a, g, d, tk, os⟩) b ys := let ⟨o, e, r⟩ := hB; ⟨o, Heap.get?_push_of_some _ e, r⟩
    have tC : Heap.IsTuple (Shared.heap ⟨ztH2 hp a b, g, d, tk, os⟩) c zs := let ⟨o, e, r⟩ := hC; ⟨o, Heap.get?_push_of_some _ (Heap.get?_push_of_some _ e), r⟩
    wp_walk using wpAny_pyIter_tuple tA, wpAny_pyIter_tuple tB, wpAny_pyIter_tuple tC
    exact ⟨_, rfl, h⟩
end L2

set_option Elab.async false
set_option linter.all false
set_option maxRecDepth 100000
namespace L2
open PySem PySem.Spec PyProof.Rows
section
variable {D : Addr} {te : TE} {tc : TT} {Q : VK} {ρ : St} {H : Hp}
/-- a block over zip of two tuples of one length, two names -/
theorem cgo_zip {K : PySem.W.Frag} {a b : Addr} {xs zs : List V} (hlen : xs.length = zs.length) (Pv : Nat → List V → Hp → Prop) (h0 : Pv 0 [] (upd H D (.lst []))) (hl : ∀ i ys H', i ≤ xs.length → Pv i ys H' → SqT K H' a xs ∧ SqT K H' b zs)
    (hs : ∀ i x z ys H' p, xs[i]? = some x → zs[i]? = some z → Pv i ys H' → H' D = some (.lst ys) → H' p = none → ∀ (R : V → Hp → Prop) (S : Hp → Prop), (∀ y H4, H4 D = some (.lst ys) → ys.length < sizeLine → Pv (i + 1) (ys ++ [y]) (upd H4 D (.lst (ys ++ [y]))) → R y H4) → (∀ H3, H3 D = some (.lst ys) → Pv (i + 1) ys H3 → S H3) →
      tc (some x :: some z :: ρ) (upd H' p (.tup [x, z])) fun b H3 => if b = true then te (some x :: some z :: ρ) H3 R else S H3)
    (hd : ∀ ys H', Pv xs.length ys H' → H' D = some (.lst ys) → Q (.ref D) H') : CGo (Itz K a b) D (gTup K 2 (gCons (gName 0) (gCons (gName 1) gNil))) tc te Q (none :: none :: ρ) H := by
  refine ⟨fun i m τ ys H' => m = xs.length - i ∧ i ≤ xs.length ∧ (∃ tv tw, τ = tv :: tw :: ρ) ∧ Pv i ys H' ∧ H' D = some (.lst ys), ⟨xs.length, by omega, Nat.zero_le _, ⟨_, _, rfl⟩, h0, upd_same⟩, ?_⟩
  rintro i m τ ys H' ⟨rfl, hi, ⟨tv, tw, rfl⟩, hp, hD⟩
  refine ⟨hD, ?_⟩
  obtain ⟨sq, sq'⟩ := hl i ys H' hi hp
  by_cases hlt : i < xs.length
  · have hlt' : i < zs.length := by omega
    refine .inr ⟨⟨xs, zs, xs[i], zs[i], sq, sq', by simp [hlt], by simp [hlt']⟩, ?_⟩
    rintro v H'' ⟨p, x, z, rfl, hpn, rfl, hx, hz⟩
    have hx' := hx xs sq
    have hz' := hz zs sq'
    refine ⟨p, [x, z], rfl, SqT.of upd_same, rfl, x, [z], rfl, z, [], rfl, rfl, ?_⟩
    exact hs i x z ys _ p hx' hz' hp hD hpn _ _ (fun y H4 a b c => ⟨a, b, xs.length - (i + 1), by omega, rfl, hlt, ⟨_, _, rfl⟩, c, upd_same⟩) fun H3 a c => ⟨xs.length - (i + 1), by omega, rfl, hlt, ⟨_, _, rfl⟩, c, a⟩
  · have e : i = xs.length := by omega
    subst e
    exact .inl ⟨⟨xs, zs, sq, sq', .inl (Nat.le_refl _)⟩, hd ys _ hp hD⟩
end
section
variable {ta : TA} {tl : TE} {n : Nat} {ix : List Nat} {g : TG} {tc : TT} {te : TE} {σ : St} {H : Hp} {Q : VK}
theorem w_compZ {K : PySem.W.Frag} (h : ta σ H fun vs H1 => ∃ a b, vs = [.ref a, .ref b] ∧ (∃ xs, SqT K H1 a xs) ∧ (∃ ys, SqT K H1 b ys) ∧ ∀ D, H1 D = none → CGo (Itz K a b) D g tc te Q (List.replicate n none ++ sub ix σ) H1) : tComp (iZp K ta) n ix g tc te σ H Q := h
end
section
variable {X : Cx}
/-- isinstance(x, T), T a type of the language -/
def rIsI (K : PySem.W.Frag) : List V → Hp → VK → Prop := fun xs H Q => ∃ v n t b, xs = [v, .ty n] ∧ TyOf K H v t ∧ PySem.W.kitOne K t (.type n) = some b ∧ Q (.bl b) H
theorem call_isI : CallR X (.builtin "isinstance") (rIsI X.K) := by
  intro pins s σ H xs us Q I r h
  obtain ⟨v, n, t, b, rfl, ty, e, q⟩ := h
  cases r with
  | cons r1 r2 =>
    obtain ⟨u, rfl, ru⟩ := Vals.one r2
    cases ru
    exact isinst_ok I r1 ty e fun tk => ⟨.bl b, H, I.kept (t' := tk) fun _ _ e => e, rfl, q⟩
end
section
variable {σ : St} {H : Hp} {Q : VK} {te ta tb tc : TE} {r r' : R2} {tl th : TO}
theorem w_chain (h : ta σ H fun x H1 => tb σ H1 fun y H2 => r x y H2 fun z H3 => ∃ k, z = .bl k ∧ (if k = true then tc σ H3 fun w' H4 => r' y w' H4 Q else Q (.bl false) H3)) : tChain r r' ta tb tc σ H Q := h
theorem w_sl {r : V → Option Int → Option Int → Hp → VK → Prop} (h : te σ H fun x H1 => tl σ H1 fun l H2 => th σ H2 fun u H3 => r x l u H3 Q) : tSl r te tl th σ H Q := h
theorem w_nopart {QO : Option Int → Hp → Prop} (h : QO none H) : tNoPart σ H QO := h
theorem w_part {QO : Option Int → Hp → Prop} (h : te σ H fun x H1 => ∃ i, x = .int i ∧ QO (some i) H1) : tPart te σ H QO := h
end
theorem pgb_tup {X : Cx} {sc : Scope} {N : List Str} {cl : List (Str × Addr)} {C : Addr} {fp : List Addr} {s3 : Shared} {H3 : Hp} {xe : Value → Shared → Prop} {es : List Expr} {k n : Nat} {pos : Pos} {t : TGs} (hc : X.calm = true) (h : PGs (cxC X N sc cl C fp s3 H3 xe) es t)
    (hn : (assignEach es (cxC X N sc cl C fp s3 H3 xe).env).length = n := by rfl) (hst : (assignEach es (cxC X N sc cl C fp s3 H3 xe).env).findIdx? (·.1) = none := by rfl) : PG (cxC X N sc cl C fp s3 H3 xe) (.Tuple es k pos) (gTup X.K n t) := pg_tup (X := cxC X N sc cl C fp s3 H3 xe) hc h hn hst
end L2

set_option Elab.async false
set_option linter.all false
set_option maxRecDepth 100000
namespace L2
open PySem PySem.Spec PyProof.Rows
/-! ### displays of constants, numbers below nought too -/
def constW : Expr → Option V
  | .Constant (.int n) _ _ => some (.int n)
  | .Constant (.str y) _ _ => some (.str y)
  | .UnaryOp .USub (.Constant (.int n) _ _) _ => some (.int (-n))
  | _ => none
def constsW : List Expr → Option (List V)
  | [] => some []
  | e :: r => match constW e, constsW r with
    | some v, some vs => some (v :: vs)
    | _, _ => none
theorem w_unI {σ : St} {H : Hp} {Q : VK} {g : Int → V} {ta : TE} (h : ta σ H fun x H1 => ∃ i, x = .int i ∧ Q (g i) H1) : tUn (rU g) ta σ H Q := h
end L2
namespace G2
open PySem L2
theorem md {i j : Int} (h : 0 < j) : 0 ≤ i % j ∧ i % j < j := ⟨Int.emod_nonneg _ (Int.ne_of_gt h), Int.emod_lt_of_pos _ h⟩
theorem mulL {i j : Int} (h1 : -4000000000 < i) (h2 : i < 4000000000) : CMul i j := .inl ⟨by omega, by omega⟩
theorem ofI {r : Int} (h : 0 ≤ r) : ∃ n : Nat, r = (n : Int) := ⟨r.toNat, by omega⟩
/-- tuples stay, and what is known as an object -/
structure TK (H H' : Hp) : Prop where
  t : ∀ q xs, H q = some (.tup xs) → H' q = some (.tup xs)
  f : ∀ q o u, H q = some (.frz o u) → H' q = some (.frz o u)
section
variable {p l : Addr} {H H' H'' : Hp} {o : HO}
theorem TK.refl : TK H H := ⟨fun _ _ e => e, fun _ _ _ e => e⟩
theorem TK.trans (a : TK H H') (b : TK H' H'') : TK H H'' := ⟨fun q xs e => b.t q xs (a.t q xs e), fun q o u e => b.f q o u (a.f q o u e)⟩
theorem TK.new (h : H l = none) : TK H (upd H l o) := ⟨fun q xs e => by rw [upd_ne (ne_of_none e h)]; exact e, fun q ob u e => by rw [upd_ne (ne_of_none e h)]; exact e⟩
theorem TK.lst {ys : List V} (h : H l = some (.lst ys)) : TK H (upd H l o) := ⟨fun q xs e => by rw [upd_ne (ne_of e h (by intro z; cases z))]; exact e, fun q ob u e => by rw [upd_ne (ne_of e h (by intro z; cases z))]; exact e⟩
theorem TK.same (k : Same H H') : TK H H' := ⟨fun _ _ e => k _ _ e, fun _ _ _ e => k _ _ e⟩
end
theorem _root_.L2.Same.new {H H' : Hp} {l : Addr} {o : HO} (k : Same H H') (h : H' l = none) : Same H (upd H' l o) := fun b u e => by
  rw [upd_ne (ne_of_none (k b u e) h)]
  exact k b u e
theorem _root_.L2.Same.put {H H' : Hp} {l : Addr} {o : HO} (k : Same H H') (h : H l = none) : Same H (upd H' l o) := fun b u e => by
  rw [upd_ne (ne_of_none e h)]
  exact k b u e
/-- the script, known as an object -/
def SqF (K : PySem.W.Frag) (H : Hp) (a : Addr) (xs : List V) : Prop :=
  (∃ o, H a = some (.frz o (.lst xs))) ∨ ∃ (o : Obj) (its : Array Value) (n : Nat), K.lookup a = some o ∧ o.cls = .type "list" ∧ o.dict = none ∧ o.data = .seq its n ∧ its.size ≤ sizeLine ∧ Vals xs its.toList
theorem SqF.sq {K : PySem.W.Frag} {H : Hp} {a : Addr} {xs : List V} : SqF K H a xs → SqL K H a xs
  | .inl ⟨o, e⟩ => .inl (.inr ⟨o, e⟩)
  | .inr h => .inr h
theorem SqF.of {K : PySem.W.Frag} {H : Hp} {a : Addr} {xs : List V} (O : Only H) : SqL K H a xs → SqF K H a xs
  | .inl (.inl e) => by
    rcases O a with z | ⟨o, ys, z⟩
    · rw [e] at z; cases z
    · rw [e] at z; cases z
  | .inl (.inr h) => .inl h
  | .inr h => .inr h
theorem SqF.tk {K : PySem.W.Frag} {H H' : Hp} {a : Addr} {xs : List V} (k : TK H H') : SqF K H a xs → SqF K H' a xs
  | .inl ⟨o, e⟩ => .inl ⟨o, k.f _ _ _ e⟩
  | .inr h => .inr h
/-! ### a tape of draws -/
structure Tp (H : Hp) (p l : Addr) (ns : List Int) : Prop where
  ex : ∃ c e : Int, H p = some (.lst [.ref l, .int c, .int e])
  hl : H l = some (.lst (ns.map V.int))
  ne : p ≠ l
section
variable {p l a : Addr} {H H' : Hp} {o : HO} {ns : List Int}
theorem Tp.draw (t : Tp H p l ns) {c e : Int} : Tp (upd H p (.lst [.ref l, .int c, .int e])) p l ns := ⟨⟨c, e, upd_same⟩, by rw [upd_ne (Ne.symm t.ne)]; exact t.hl, t.ne⟩
theorem Tp.np (t : Tp H p l ns) (h : H a = none) : p ≠ a := let ⟨_, _, e⟩ := t.ex; ne_of_none e h
theorem Tp.new (t : Tp H p l ns) (h : H a = none) : Tp (upd H a o) p l ns := by
  obtain ⟨c, e, hp⟩ := t.ex
  exact ⟨⟨c, e, by rw [upd_ne (ne_of_none hp h)]; exact hp⟩, by rw [upd_ne (ne_of_none t.hl h)]; exact t.hl, t.ne⟩
theorem Tp.put (t : Tp H p l ns) (h1 : p ≠ a) (h2 : l ≠ a) : Tp (upd H a o) p l ns := by
  obtain ⟨c, e, hp⟩ := t.ex
  exact ⟨⟨c, e, by rw [upd_ne h1]; exact hp⟩, by rw [upd_ne h2]; exact t.hl, t.ne⟩
theorem Tp.same (t : Tp H p l ns) (k : Same H H') : Tp H' p l ns := by
  obtain ⟨c, e, hp⟩ := t.ex
  exact ⟨⟨c, e, k _ _ hp⟩, k _ _ t.hl, t.ne⟩
theorem Tp.tk (t : Tp H p l ns) : TK H (upd H p o) := let ⟨_, _, e⟩ := t.ex; TK.lst e
end
/-! ### texts -/
theorem log_small {n : Nat} (h : n < 1000000000000000) : n.log2 < 1920 := by
  by_cases h0 : n = 0
  · subst h0
    decide
  · exact (Nat.log2_lt h0).mpr (Nat.lt_of_lt_of_le h (by decide +kernel))
def Sm (i : Int) : Prop := -1000000000000000 < i ∧ i < 1000000000000000
theorem show_ints : ∀ (ns : List Int), (∀ n ∈ ns, Sm n) → PyData.showableAll (ns.map PyData.int) = true
  | [], _ => rfl
  | n :: ns, h => by
    obtain ⟨h0, h1⟩ := h n List.mem_cons_self
    have hs : n.natAbs.log2 < 1920 := log_small (by omega)
    simp only [List.map_cons, PyData.showableAll, PyData.showable, decide_eq_true hs, show_ints ns fun m hm => h m (List.mem_cons_of_mem _ hm), Bool.and_self]
theorem nodict_ints : ∀ (ns : List Int), PyData.hasDictAll (ns.map PyData.int) = false
  | [] => rfl
  | n :: ns => by simp only [List.map_cons, PyData.hasDictAll, PyData.hasDict, nodict_ints ns, Bool.or_self]
theorem len_int {n : Int} (h : Sm n) : (PyData.shown (.int n)).length ≤ 16 := by
  obtain ⟨h0, h1⟩ := h
  have := int_text_length_le10 (a := n) (k := 15) (by decide) (by omega)
  show (Str.ofString (toString n)).length ≤ 16
  rw [ofString_length]
  exact this
theorem len_ints : ∀ (ns : List Int), (∀ n ∈ ns, Sm n) → ((PyData.shownAll (ns.map PyData.int)).map (·.length)).sum ≤ 16 * ns.length ∧ (PyData.shownAll (ns.map PyData.int)).length = ns.length
  | [], _ => ⟨Nat.le_refl _, rfl⟩
  | n :: ns, h => by
    obtain ⟨i1, i2⟩ := len_ints ns fun m hm => h m (List.mem_cons_of_mem _ hm)
    have e := len_int (h n List.mem_cons_self)
    simp only [List.map_cons, PyData.shownAll, List.sum_cons, List.length_cons]
    exact ⟨by omega, by omega⟩
theorem len_tup (ds : List PyData) : (PyData.shown (.tuple ds)).length ≤ ((PyData.shownAll ds).map (·.length)).sum + 2 * (PyData.shownAll ds).length + 3 := tupleText_len_le _
/-- a thing that may be shown: at most n signs, at most h within one another -/
structure Shw (d : PyData) (n h : Nat) : Prop where
  s : d.showable = true
  nd : d.hasDict = false
  p : d.depth ≤ h
  l : d.shown.length ≤ n
theorem Shw.up {d : PyData} {n h m i : Nat} (x : Shw d n h) (h1 : n ≤ m) (h2 : h ≤ i) : Shw d m i := ⟨x.s, x.nd, Nat.le_trans x.p h2, Nat.le_trans x.l h1⟩
theorem Shw.int {i : Int} (h : Sm i) : Shw (.int i) 16 0 := ⟨by
  obtain ⟨h0, h1⟩ := h
  have hs : i.natAbs.log2 < 1920 := log_small (by omega)
  simp only [PyData.showable, decide_eq_true hs], rfl, Nat.zero_le _, len_int h⟩
theorem Shw.ints {ns : List Int} (h : ∀ n ∈ ns, Sm n) : Shw (.tuple (ns.map PyData.int)) (18 * ns.length + 3) 1 := ⟨by
    simp only [PyData.showable]
    exact show_ints ns h, by
    simp only [PyData.hasDict]
    exact nodict_ints ns, by
    show PyData.depthAll _ + 1 ≤ 1
    rw [depth_ints]
    decide, by
    have h1 := len_tup (ns.map PyData.int)
    obtain ⟨h2, h3⟩ := len_ints ns h
    omega⟩
theorem Shw.two {a b : PyData} {m n h : Nat} (ha : Shw a m h) (hb : Shw b n h) : Shw (.tuple [a, b]) (m + n + 7) (h + 1) := ⟨by
    simp only [PyData.showable, PyData.showableAll, ha.s, hb.s, Bool.and_self], by
    simp only [PyData.hasDict, PyData.hasDictAll, ha.nd, hb.nd, Bool.or_self], by
    show PyData.depthAll [a, b] + 1 ≤ h + 1
    have := ha.p
    have := hb.p
    simp only [PyData.depthAll]
    omega, by
    have h1 := len_tup [a, b]
    have := ha.l
    have := hb.l
    simp only [PyData.shownAll, List.map_cons, List.map_nil, List.sum_cons, List.sum_nil, List.length_cons, List.length_nil] at h1
    omega⟩
theorem Shw.three {a b c : PyData} {m n k h : Nat} (ha : Shw a m h) (hb : Shw b n h) (hc : Shw c k h) : Shw (.tuple [a, b, c]) (m + n + k + 9) (h + 1) := ⟨by
    simp only [PyData.showable, PyData.showableAll, ha.s, hb.s, hc.s, Bool.and_self], by
    simp only [PyData.hasDict, PyData.hasDictAll, ha.nd, hb.nd, hc.nd, Bool.or_self], by
    show PyData.depthAll [a, b, c] + 1 ≤ h + 1
    have := ha.p
    have := hb.p
    have := hc.p
    simp only [PyData.depthAll]
    omega, by
    have h1 := len_tup [a, b, c]
    have := ha.l
    have := hb.l
    have := hc.l
    simp only [PyData.shownAll, List.map_cons, List.map_nil, List.sum_cons, List.sum_nil, List.length_cons, List.length_nil] at h1
    omega⟩
theorem w_shw {H : Hp} {Q : VK} {v : V} {d : PyData} {n h : Nat} (r : RdV H v d) (x : Shw d n h) (hn : n ≤ 100000) (hh : h ≤ 50) (q : Q (.str d.shown) H) : rRepr [v] H Q :=
  ⟨v, d, rfl, r, x.s, x.nd, Nat.le_trans x.p hh, Nat.le_trans x.l (Nat.le_trans hn (by decide : 100000 ≤ sizeLine)), q⟩
/-- each of the ones times its other, added -/
def dot : List Int → List Int → Int
  | x :: xs, y :: ys => x * y + dot xs ys
  | _, _ => 0
/-- the two may be multiplied, item by item -/
def MulOk (xs ys : List Int) : Prop := ∀ (i : Nat) (x y : Int), xs[i]? = some x → ys[i]? = some y → CMul x y
end G2

set_option Elab.async false
set_option linter.all false
set_option maxRecDepth 100000
namespace L2
open PySem PySem.Spec PyProof.Rows
/-! ### products of great numbers -/
end L2
namespace G2
open PySem L2
/-- at most ninety figures -/
def Bg (i : Int) : Prop := i.natAbs < 10 ^ 90
section
variable {D : Addr} {te : TE} {tc : TT} {Q : VK} {ρ : St} {H : Hp} {K : PySem.W.Frag} {a b : Addr}
/-- numbers by place -/
theorem rng_map {n : Nat} (g : Nat → Int) (hn : n ≤ 1000)
    (step : ∀ (i : Nat) (H' : Hp), i < n → Same H H' → ∀ R : V → Hp → Prop, (∀ H'', Same H' H'' → R (.int (g i)) H'') → te (some (.int (i : Int)) :: ρ) H' R)
    (q : ∀ H', Same H H' → H' D = some (.lst (((List.range n).map g).map V.int)) → Q (.ref D) H') (hD : H D = none) : CGo (Itr 0 n) D (gName 0) tAll te Q (none :: ρ) H := by
  refine cgo_range (fun i zs H' => zs = ((List.range i).map g).map V.int ∧ Same H H') ⟨rfl, Same.new (Same.refl H) hD⟩ ?_ ?_
  · rintro i zs H' hi ⟨rfl, K'⟩ hDz R S kR _
    rw [Int.zero_add]
    refine w_all ?_
    refine iteT ?_
    refine step i _ hi K' R fun H'' K'' => ?_
    refine kR _ _ (K'' _ _ hDz) (by rw [List.length_map, List.length_map, List.length_range]; exact small1000 (by omega)) ⟨?_, (K'.trans K'').put hD⟩
    rw [List.range_succ, List.map_append, List.map_append]
    rfl
  · rintro zs H' ⟨rfl, K'⟩ hDz
    exact q H' K' hDz
end
/-! ### texts of great numbers -/
theorem Bg.log {i : Int} (h : Bg i) : i.natAbs.log2 < 1920 := by
  unfold Bg at h
  by_cases h0 : i.natAbs = 0
  · rw [h0]
    decide
  · exact (Nat.log2_lt h0).mpr (Nat.lt_of_lt_of_le h (by decide +kernel))
theorem Bg.len {n : Int} (h : Bg n) : (PyData.shown (.int n)).length ≤ 91 := by
  have := int_text_length_le10 (a := n) (k := 90) (by decide) h
  show (Str.ofString (toString n)).length ≤ 91
  rw [ofString_length]
  exact this
theorem show_intsB : ∀ (ns : List Int), (∀ n ∈ ns, Bg n) → PyData.showableAll (ns.map PyData.int) = true
  | [], _ => rfl
  | n :: ns, h => by
    simp only [List.map_cons, PyData.showableAll, PyData.showable, decide_eq_true (h n List.mem_cons_self).log, show_intsB ns fun m hm => h m (List.mem_cons_of_mem _ hm), Bool.and_self]
theorem len_intsB : ∀ (ns : List Int), (∀ n ∈ ns, Bg n) → ((PyData.shownAll (ns.map PyData.int)).map (·.length)).sum ≤ 91 * ns.length ∧ (PyData.shownAll (ns.map PyData.int)).length = ns.length
  | [], _ => ⟨Nat.le_refl _, rfl⟩
  | n :: ns, h => by
    obtain ⟨i1, i2⟩ := len_intsB ns fun m hm => h m (List.mem_cons_of_mem _ hm)
    have e := (h n List.mem_cons_self).len
    simp only [List.map_cons, PyData.shownAll, List.sum_cons, List.length_cons]
    exact ⟨by omega, by omega⟩
theorem Shw.big {i : Int} (h : Bg i) : Shw (.int i) 91 0 := ⟨by simp only [PyData.showable, decide_eq_true h.log], rfl, Nat.zero_le _, h.len⟩
theorem Shw.bigs {ns : List Int} (h : ∀ n ∈ ns, Bg n) : Shw (.tuple (ns.map PyData.int)) (93 * ns.length + 3) 1 := ⟨by
    simp only [PyData.showable]
    exact show_intsB ns h, by
    simp only [PyData.hasDict]
    exact nodict_ints ns, by
    show PyData.depthAll _ + 1 ≤ 1
    rw [depth_ints]
    decide, by
    have h1 := len_tup (ns.map PyData.int)
    obtain ⟨h2, h3⟩ := len_intsB ns h
    omega⟩
/-! ### lists and tuples compared -/
section
variable {X : Cx} {k : Nat}
def rNeD : R2 := fun x y H Q => ∃ dx dy, RdV H x dx ∧ RdV H y dy ∧ dx.canLay0 = true ∧ dy.canLay0 = true ∧ dx.depth ≤ 60 ∧ Q (.bl (!PyData.eqv dx dy)) H
end
/-! ### forms -/
structure Fm where
  ins : List Int
  sts : List Int
  plus : Int
def FmAt (H : Hp) (q : Addr) (f : Fm) : Prop := ∃ a b, H q = some (.tup [.ref a, .ref b, .int f.plus]) ∧ H a = some (.tup (f.ins.map V.int)) ∧ H b = some (.tup (f.sts.map V.int))
theorem FmAt.same {H H' : Hp} {q : Addr} {f : Fm} (k : Same H H') : FmAt H q f → FmAt H' q f
  | ⟨a, b, h1, h2, h3⟩ => ⟨a, b, k _ _ h1, k _ _ h2, k _ _ h3⟩
theorem FmAt.tk {H H' : Hp} {q : Addr} {f : Fm} (k : TK H H') : FmAt H q f → FmAt H' q f
  | ⟨a, b, h1, h2, h3⟩ => ⟨a, b, k.t _ _ h1, k.t _ _ h2, k.t _ _ h3⟩
def addF (f g : Fm) : Fm := ⟨List.zipWith (fun x y => x + y) f.ins g.ins, List.zipWith (fun x y => x + y) f.sts g.sts, f.plus + g.plus⟩
def oftF (t : Int) (f : Fm) : Fm := ⟨f.ins.map fun x => t * x, f.sts.map fun x => t * x, t * f.plus⟩
def moreF (n : Int) (f : Fm) : Fm := ⟨f.ins, f.sts, f.plus + n⟩
def fmV (f : Fm) (am st : List Int) : Int := dot f.ins am + dot f.sts st + f.plus
/-- its kind, and a bound of its numbers -/
structure FmOk (n m : Nat) (B : Int) (f : Fm) : Prop where
  li : f.ins.length = n
  ls : f.sts.length = m
  bi : ∀ x ∈ f.ins, -B ≤ x ∧ x ≤ B
  bs : ∀ x ∈ f.sts, -B ≤ x ∧ x ≤ B
  bp : -B ≤ f.plus ∧ f.plus ≤ B
def fmD (f : Fm) : PyData := .tuple [.tuple (f.ins.map .int), .tuple (f.sts.map .int), .int f.plus]
theorem fm_rd {H : Hp} {q : Addr} {f : Fm} : FmAt H q f → RdV H (.ref q) (fmD f)
  | ⟨_, _, hq, ha, hb⟩ => .tup hq (.cons (.tup ha (rdInts _)) (.cons (.tup hb (rdInts _)) (.cons (.int _) .nil)))
theorem Bg.of {x B : Int} (hB : B < 10 ^ 90) (h : -B ≤ x ∧ x ≤ B) : Bg x := by
  unfold Bg
  omega
end G2

set_option Elab.async false
set_option linter.all false
set_option maxRecDepth 100000
namespace L2
open PySem PySem.Spec PyProof.Rows
theorem aoi4 (a b c d : Value) : argsOk "object.__init__" ⟨[a, b, c, d], []⟩ := by unfold argsOk; rw [signature?_of (id := "object.__init__") (n := ['_', '_', 't', 'i', 'n', 'i', '_', '_']) (o := ['t', 'c', 'e', 'j', 'b', 'o']) (by kernel_rfl) F.owner_object]; kernel_rfl
section
variable {prog : Program} {w : World} {A : Around} {E : Value → Shared → Prop} {s : Shared}
theorem call_zt {a b c : Addr} {xs ys zs : Array Value} {Q : Value → Shared → Prop} (hA : s.heap.IsTuple a xs) (hB : s.heap.IsTuple b ys) (hC : s.heap.IsTuple c zs)
    (k : ∀ h', IsZip h' (s.heap.objs.size + 5) (s.heap.objs.size + 3) (s.heap.objs.size + 4) .none → IsTri h' (s.heap.objs.size + 3) (.ref s.heap.objs.size) (.ref (s.heap.objs.size + 1)) (.ref (s.heap.objs.size + 2)) → IsTri h' (s.heap.objs.size + 4) .none .none .none →
      h'.IsTupleIter s.heap.objs.size a 0 → h'.IsTupleIter (s.heap.objs.size + 1) b 0 → h'.IsTupleIter (s.heap.objs.size + 2) c 0 → (∀ d o, s.heap.get? d = some o → h'.get? d = some o) → Q (.ref (s.heap.objs.size + 5)) { s with heap := h' }) :
    wpAny (model prog w) A (call (.type "zip") [.ref a, .ref b, .ref c]) Q E s := by
  refine callType_new F.called_zip (by decide) (tyC3 _ _ _) (nwC3 _ _ _) (fun obj => aoi4 obj _ _ _) F.entry_zip_new (zt_new a b c xs ys zs) ⟨hA, hB, hC, ?_⟩
  have z1 : (ztH1 s.heap a).objs.size = s.heap.objs.size + 1 := Heap.size_push ..
  have z2 : (ztH2 s.heap a b).objs.size = s.heap.objs.size + 2 := by rw [Heap.size_push, z1]
  have z3 : (ztH3 s.heap a b c).objs.size = s.heap.objs.size + 3 := by rw [Heap.size_push, z2]
  have z4 : (ztH4 s.heap a b c).objs.size = s.heap.objs.size + 4 := by rw [Heap.size_push, z3]
  have z5 : (ztH5 s.heap a b c).objs.size = s.heap.objs.size + 5 := by rw [Heap.size_push, z4]
  have p1 : ∀ {h : Heap} {o : Obj} {d : Addr} {u : Obj}, h.get? d = some u → (h.push o).get? d = some u := fun q => Heap.get?_push_of_some _ q
  have g6 : (ztH6 s.heap a b c).get? (ztH5 s.heap a b c).objs.size = some _ := Heap.get?_push_size _ rfl
  have g5 : (ztH6 s.heap a b c).get? (ztH4 s.heap a b c).objs.size = some _ := p1 (Heap.get?_push_size _ rfl)
  have g4 : (ztH6 s.heap a b c).get? (ztH3 s.heap a b c).objs.size = some _ := p1 (p1 (Heap.get?_push_size _ rfl))
  have g3 : (ztH6 s.heap a b c).get? (ztH2 s.heap a b).objs.size = some _ := p1 (p1 (p1 (Heap.get?_push_size _ rfl)))
  have g2 : (ztH6 s.heap a b c).get? (ztH1 s.heap a).objs.size = some _ := p1 (p1 (p1 (p1 (Heap.get?_push_size _ rfl))))
  have g1 : (ztH6 s.heap a b c).get? s.heap.objs.size = some _ := p1 (p1 (p1 (p1 (p1 (Heap.get?_push_size _ rfl)))))
  show _ ∧ _
  rw [z3, z4, z5] at g6; rw [z4] at g5; rw [z1, z2, z3] at g4; rw [z2] at g3; rw [z1] at g2
  have kk : ∀ d o, s.heap.get? d = some o → (ztH6 s.heap a b c).get? d = some o := fun d o q => p1 (p1 (p1 (p1 (p1 (p1 q)))))
  rw [z5]
  exact ⟨⟨_, g6, rfl⟩, k _ g6 g4 g5 ⟨_, g1, rfl, rfl⟩ ⟨_, g2, rfl, rfl⟩ ⟨_, g3, rfl, rfl⟩ kk⟩
end
/-- zip over the tuples at a, b and c, all as long -/
def It3 (K : PySem.W.Frag) (a b c : Addr) : It :=
  ⟨fun i H => ∃ xs ys zs x y z, SqT K H a xs ∧ SqT K H b ys ∧ SqT K H c zs ∧ xs[i]? = some x ∧ ys[i]? = some y ∧ zs[i]? = some z,
   fun i H v H' => ∃ p x y z, v = .ref p ∧ H p = none ∧ H' = upd H p (.tup [x, y, z]) ∧ (∀ xs, SqT K H a xs → xs[i]? = some x) ∧ (∀ ys, SqT K H b ys → ys[i]? = some y) ∧ ∀ zs, SqT K H c zs → zs[i]? = some z,
   fun i H => ∃ xs, SqT K H a xs ∧ xs.length ≤ i⟩
theorem turn_zt {P : Program} {w : World} {K : PySem.W.Frag} {es : List Expr} {kt : Nat} {pt : Pos} (a b c z TI TO i1 i2 i3 : Addr) (D : Apart3 z TI TO i1 i2 i3 a b c) :
    Turn P w K (.Tuple es kt pt) (It3 K a b c) [z, TI, TO, i1, i2, i3] z (fun i h => IsZip h z TI TO .none ∧ IsTri h TI (.ref i1) (.ref i2) (.ref i3) ∧ (∃ u v t, IsTri h TO u v t) ∧ h.IsTupleIter i1 a i ∧ h.IsTupleIter i2 b i ∧ h.IsTupleIter i3 c i) where
  mem := by simp
  obj := fun i h st q hq => by
    obtain ⟨hz, hI, ⟨u, v, t, hO⟩, ⟨o1, e1, c1, d1⟩, ⟨o2, e2, c2, d2⟩, ⟨o3, e3, c3, d3⟩⟩ := st
    simp only [List.mem_cons, List.not_mem_nil, or_false] at hq
    rcases hq with rfl | rfl | rfl | rfl | rfl | rfl
    · exact ⟨_, hz, fun v y => by have y' : Data.fields _ = Data.cell v := y; cases y'⟩
    · exact ⟨_, hI, fun v y => by have y' : Data.seq _ _ = Data.cell v := y; cases y'⟩
    · exact ⟨_, hO, fun v y => by have y' : Data.seq _ _ = Data.cell v := y; cases y'⟩
    · exact ⟨o1, e1, fun v y => by rw [d1] at y; cases y⟩
    · exact ⟨o2, e2, fun v y => by rw [d2] at y; cases y⟩
    · exact ⟨o3, e3, fun v y => by rw [d3] at y; cases y⟩
  keep := fun i h h' st k => ⟨k z (by simp) _ st.1, k TI (by simp) _ st.2.1, let ⟨u, v, t, q⟩ := st.2.2.1; ⟨u, v, t, k TO (by simp) _ q⟩, st.2.2.2.1.at fun o x => k i1 (by simp) o x, st.2.2.2.2.1.at fun o x => k i2 (by simp) o x, st.2.2.2.2.2.at fun o x => k i3 (by simp) o x⟩
  item := by
    intro X hP hw hK hc i pins s σ H E I hf st hg
    subst hP hw hK
    obtain ⟨xs, ys, zs, x, y, t, hqa, hqb, hqc, hx, hy, ht⟩ := hg
    obtain ⟨ia, rva, pa, za⟩ := I.tuple hqa
    obtain ⟨ib, rvb, pb, zb⟩ := I.tuple hqb
    obtain ⟨ic, rvc, pc, zc⟩ := I.tuple hqc
    obtain ⟨u, hu, ru⟩ := rva.get hx
    obtain ⟨v, hv, rv⟩ := rvb.get hy
    obtain ⟨r, hr, rr⟩ := rvc.get ht
    obtain ⟨hz, hI, ⟨ou, ov, ow, hO⟩, h1, h2, h3⟩ := st
    obtain ⟨⟨TIz, TOz, i1z, i2z, i3z⟩, ⟨TITO, TIi1, TIi2, TIi3⟩, _⟩ := id D
    have hT : s.TypeIs (.ref z) "zip" := ⟨_, hz, rfl⟩; unfold pyNext
    refine wpAny_bind (wpAny_attempt (wpAny_callSpecial?_slot (name := Str.ofString "__next__") hT F.slot_zip_next (wpAny_call_entry F.slot_zip_next hT F.entry_zip_next
      (zip3_item D hz hI hO h1 h2 h3 pa pb pc (x := u) (y := v) (v := r) (by simpa using hu) (by simpa using hv) (by simpa using hr) fun h' z' o' a' b' c' t' k' => wpAny_pure ?_) (F.args_zip_next_1 _))))
    refine ⟨_, rfl, wpAny_letOwnedTupleGo_zip z' fun h'' z'' sb => ?_⟩
    have nz : s.heap.objs.size ≠ z := Nat.ne_of_gt (Heap.lt_size hz)
    have nTO : s.heap.objs.size ≠ TO := Nat.ne_of_gt (Heap.lt_size hO)
    have nTI : s.heap.objs.size ≠ TI := Nat.ne_of_gt (Heap.lt_size hI)
    have n1 : s.heap.objs.size ≠ i1 := by obtain ⟨o, e, _⟩ := h1; exact Nat.ne_of_gt (Heap.lt_size e)
    have n2 : s.heap.objs.size ≠ i2 := by obtain ⟨o, e, _⟩ := h2; exact Nat.ne_of_gt (Heap.lt_size e)
    have n3 : s.heap.objs.size ≠ i3 := by obtain ⟨o, e, _⟩ := h3; exact Nat.ne_of_gt (Heap.lt_size e)
    have up : ∀ q o, q ≠ z → h'.get? q = some o → h''.get? q = some o := fun q o hq e => (sb.2 q hq).trans e
    have hI'' : IsTri h'' TI (.ref i1) (.ref i2) (.ref i3) := up _ _ TIz (k' TI _ TIz TITO TIi1 TIi2 TIi3 hI)
    have I2 : Inv X pins σ (upd H s.heap.objs.size (.tup [x, y, t])) { s with heap := h'', toks := s.toks } := I.turnNew (ch := [z, TI, TO, i1, i2, i3]) hf (fun q o hq e => by
      simp only [List.mem_cons, List.not_mem_nil, or_false, not_or] at hq
      exact up q o hq.1 (k' q o hq.1 hq.2.2.1 hq.2.2.2.1 hq.2.2.2.2.1 hq.2.2.2.2.2 e)) (fun q hq => by
      simp only [List.mem_cons, List.not_mem_nil, or_false] at hq
      rcases hq with rfl | rfl | rfl | rfl | rfl | rfl
      · exact ⟨_, z''⟩
      · exact ⟨_, hI''⟩
      · exact ⟨_, up _ _ TOz o'⟩
      · obtain ⟨o, e, _⟩ := a'; exact ⟨o, up _ o i1z e⟩
      · obtain ⟨o, e, _⟩ := b'; exact ⟨o, up _ o i2z e⟩
      · obtain ⟨o, e, _⟩ := c'; exact ⟨o, up _ o i3z e⟩) (Nat.le_refl _) (vals := [u, v, r]) (.cons ru (.cons rv (.cons rr .nil))) (by show 3 ≤ sizeLine; decide) ⟨_, up _ _ nz t', rfl, _, rfl⟩
    refine ⟨.ref s.heap.objs.size, _, I2, rfl, ⟨_, x, y, t, rfl, I.fresh, rfl, fun ws hws => by rw [I.tuple_inj hws hqa]; exact hx, fun ws hws => by rw [I.tuple_inj hws hqb]; exact hy, fun ws hws => by rw [I.tuple_inj hws hqc]; exact ht⟩,
      ⟨z'', hI'', ⟨_, _, _, up _ _ TOz o'⟩, a'.at fun o e => up _ o i1z e, b'.at fun o e => up _ o i2z e, c'.at fun o e => up _ o i3z e⟩, fun q hq => ?_⟩
    have hq0 := (hf q hq).1
    simp only [List.mem_cons, List.not_mem_nil, or_false] at hq
    rw [upd_ne]
    · exact hq0
    · rcases hq with rfl | rfl | rfl | rfl | rfl | rfl
      · exact Ne.symm nz
      · exact Ne.symm nTI
      · exact Ne.symm nTO
      · exact Ne.symm n1
      · exact Ne.symm n2
      · exact Ne.symm n3
  done := by
    intro X hP hw hK hc i pins s σ H E I hf st hg
    subst hP hw hK
    obtain ⟨xs, hqa, hx⟩ := hg
    obtain ⟨ia, rva, pa, za⟩ := I.tuple hqa
    obtain ⟨hz, hI, ⟨ou, ov, ow, hO⟩, h1, h2, h3⟩ := st
    have la := rva.length
    have hT : s.TypeIs (.ref z) "zip" := ⟨_, hz, rfl⟩; unfold pyNext
    refine wpAny_bind (wpAny_attempt (wpAny_callSpecial?_slot (name := Str.ofString "__next__") hT F.slot_zip_next (wpAny_call_entry F.slot_zip_next hT F.entry_zip_next
      (zip3_end (I.ok.hd hc) D hz hI hO h1 pa (by simp; omega) fun h' e k' he => ?_) (F.args_zip_next_1 _))))
    obtain ⟨o, ho, hcl⟩ := he
    refine wpAny_bind (wpAny_isInstance (T := "StopIteration") (b := true) ⟨o, ho, hcl⟩ isSubtype_stop ?_)
    refine wpAny_pure ⟨rfl, I.turnOnly (tk := s.toks) hf fun q o hq e => ?_⟩
    simp only [List.mem_cons, List.not_mem_nil, or_false, not_or] at hq
    exact k' q o hq.1 hq.2.2.1 hq.2.2.2.1 hq.2.2.2.2.1 hq.2.2.2.2.2 e
  self := fun _ _ s _ _ st h => wpAny_pyIter_zip st.1 h
theorem apart3 {n a b c : Nat} (ha : a < n) (hb : b < n) (hc : c < n) : Apart3 (n + 5 : Nat) (n + 3 : Nat) (n + 4 : Nat) (n : Nat) (n + 1 : Nat) (n + 2 : Nat) a b c := by
  constructor <;> refine ⟨?_, ?_, ?_⟩ <;> (try refine ⟨?_, ?_⟩) <;> (try refine ⟨?_, ?_⟩) <;> (intro q; have q' : (_ : Nat) = _ := q; omega)
section
variable {X : Cx} {es : List Expr} {kt : Nat} {pt : Pos}
def iZt (K : PySem.W.Frag) (ta : TA) : TI := fun σ H R => ta σ H fun vs H1 => ∃ a b c, vs = [.ref a, .ref b, .ref c] ∧ (∃ xs, SqT K H1 a xs) ∧ (∃ ys, SqT K H1 b ys) ∧ (∃ zs, SqT K H1 c zs) ∧ R (It3 K a b c) H1
/-- for x, y, z in zip(a, b, c), all tuples -/
theorem pi_zt {e e' e'' : Expr} {ta : TA} {p pos : Pos} (hm : X.mg "zip" = none) (ha : PA X [e, e', e''] ta) (hg : Gl X "zip" := by rfl) (h : isStar e = false := by rfl) (h' : isStar e' = false := by rfl) (h'' : isStar e'' = false := by rfl) : PI X (.Tuple es kt pt) (.Call (.Name "zip" p) [e, e', e''] [] pos) (iZt X.K ta) := by
  intro pins s σ H R I hh
  refine Call_ (ld_blt I hg hm boot_zip (PyProof.Rows.callWith_type1 (thn (ha pos pins s σ H _ I hh) fun us s1 ⟨vs, H1, I1, r1, q1⟩ => ?_) (star1 h) (star_any (by simp [h', h'']))))
  obtain ⟨a, b, c, rfl, ⟨xs, hqa⟩, ⟨ys, hqb⟩, ⟨zs, hqc⟩, q⟩ := q1
  cases r1 with
  | cons ru r2 =>
    cases r2 with
    | cons rv r3 =>
      cases r3 with
      | cons rw' r4 =>
        cases r4
        cases ru
        cases rv
        cases rw'
        obtain ⟨ia, rva, pa, za⟩ := I1.tuple hqa
        obtain ⟨ib, rvb, pb, zb⟩ := I1.tuple hqb
        obtain ⟨ic, rvc, pc, zc⟩ := I1.tuple hqc
        have la : a < s1.heap.objs.size := by obtain ⟨o, e, _⟩ := pa; exact Heap.lt_size e
        have lb : b < s1.heap.objs.size := by obtain ⟨o, e, _⟩ := pb; exact Heap.lt_size e
        have lc : c < s1.heap.objs.size := by obtain ⟨o, e, _⟩ := pc; exact Heap.lt_size e
        refine call_zt (xs := ia.toArray) (ys := ib.toArray) (zs := ic.toArray) pa pb pc fun g hz hI hO j1 j2 j3 hk => wpAny_pyIter_zip hz ?_
        refine ⟨_, [s1.heap.objs.size + 5, s1.heap.objs.size + 3, s1.heap.objs.size + 4, s1.heap.objs.size, s1.heap.objs.size + 1, s1.heap.objs.size + 2], _, _, H1, rfl, I1.kept (t' := s1.toks) hk, turn_zt a b c _ _ _ _ _ _ (apart3 la lb lc), ⟨hz, hI, ⟨_, _, _, hO⟩, j1, j2, j3⟩, fun q hq => ?_, by assumption⟩
        have hq' : s1.heap.objs.size ≤ q := by
          simp only [List.mem_cons, List.not_mem_nil, or_false] at hq
          rcases hq with z | z | z | z | z | z <;> rw [z] <;> first | exact Nat.le_refl _ | exact Nat.le_add_right _ _
        exact I1.fpOk hq' (I1.hok.fresh hq')
end
theorem w_comp3 {K : PySem.W.Frag} {ta : TA} {n : Nat} {ix : List Nat} {g : TG} {tc : TT} {te : TE} {σ : St} {H : Hp} {Q : VK} (h : ta σ H fun vs H1 => ∃ a b c, vs = [.ref a, .ref b, .ref c] ∧ (∃ xs, SqT K H1 a xs) ∧ (∃ ys, SqT K H1 b ys) ∧ (∃ zs, SqT K H1 c zs) ∧ ∀ D, H1 D = none → CGo (It3 K a b c) D g tc te Q (List.replicate n none ++ sub ix σ) H1) : tComp (iZt K ta) n ix g tc te σ H Q := h
/-- numbers out of three tuples, item by item -/
theorem zip3_map {D : Addr} {te : TE} {Q : VK} {ρ : St} {H : Hp} {K : PySem.W.Frag} {a b c : Addr} {xs ys zs : List Int} (g : Int → Int → Int → Int) (ha : H a = some (.tup (xs.map V.int))) (hb : H b = some (.tup (ys.map V.int))) (hc : H c = some (.tup (zs.map V.int))) (h1 : ys.length = xs.length) (h2 : zs.length = xs.length) (hn : xs.length ≤ 1000)
    (step : ∀ (x y z : Int) (H' : Hp), Same H H' → ∀ R : V → Hp → Prop, (∀ H'', Same H' H'' → R (.int (g x y z)) H'') → te (some (.int x) :: some (.int y) :: some (.int z) :: ρ) H' R)
    (q : ∀ H', Same H H' → H' D = some (.lst (((List.range xs.length).map fun i => g (xs.getD i 0) (ys.getD i 0) (zs.getD i 0)).map V.int)) → Q (.ref D) H') (hD : H D = none) : CGo (It3 K a b c) D (gTup K 3 (gCons (gName 0) (gCons (gName 1) (gCons (gName 2) gNil)))) tAll te Q (none :: none :: none :: ρ) H := by
  refine ⟨fun i m τ vs H' => m = xs.length - i ∧ i ≤ xs.length ∧ (∃ tv tw tx, τ = tv :: tw :: tx :: ρ) ∧ vs = ((List.range i).map fun i => g (xs.getD i 0) (ys.getD i 0) (zs.getD i 0)).map V.int ∧ Same H H' ∧ H' D = some (.lst vs), ⟨xs.length, by omega, Nat.zero_le _, ⟨_, _, _, rfl⟩, rfl, Same.new (Same.refl H) hD, upd_same⟩, ?_⟩
  rintro i m τ vs H' ⟨rfl, hi, ⟨tv, tw, tx, rfl⟩, rfl, K', hDz⟩
  refine ⟨hDz, ?_⟩
  have sa : SqT K H' a (xs.map V.int) := SqT.of (K' _ _ ha)
  have sb : SqT K H' b (ys.map V.int) := SqT.of (K' _ _ hb)
  have sc : SqT K H' c (zs.map V.int) := SqT.of (K' _ _ hc)
  by_cases hlt : i < xs.length
  · have hy : i < ys.length := by omega
    have hz : i < zs.length := by omega
    refine .inr ⟨⟨_, _, _, .int xs[i], .int ys[i], .int zs[i], sa, sb, sc, by simp [hlt], by simp [hy], by simp [hz]⟩, ?_⟩
    rintro w' H'' ⟨p, x, y, z, rfl, hp, rfl, ex, ey, ez⟩
    have ex' := ex _ sa
    have ey' := ey _ sb
    have ez' := ez _ sc
    rw [List.getElem?_map, List.getElem?_eq_getElem hlt] at ex'
    rw [List.getElem?_map, List.getElem?_eq_getElem hy] at ey'
    rw [List.getElem?_map, List.getElem?_eq_getElem hz] at ez'
    cases ex'
    cases ey'
    cases ez'
    refine ⟨p, _, rfl, SqT.of upd_same, rfl, _, _, rfl, _, _, rfl, _, _, rfl, rfl, ?_⟩
    refine w_all ?_
    refine iteT ?_
    have hD' : upd H' p (.tup [.int xs[i], .int ys[i], .int zs[i]]) D = some (.lst (((List.range i).map fun i => g (xs.getD i 0) (ys.getD i 0) (zs.getD i 0)).map V.int)) := by rw [upd_ne (ne_of_none hDz hp)]; exact hDz
    refine step xs[i] ys[i] zs[i] _ (K'.new hp) _ fun H3 K3 => ⟨K3 _ _ hD', by rw [List.length_map, List.length_map, List.length_range]; exact small1000 (by omega), xs.length - (i + 1), by omega, rfl, hlt, ⟨_, _, _, rfl⟩, ?_, ((K'.new hp).trans K3).put hD, upd_same⟩
    rw [List.range_succ, List.map_append, List.map_append]
    simp [List.getD_eq_getElem?_getD, hlt, hy, hz]
  · have e : i = xs.length := by omega
    subst e
    exact .inl ⟨⟨_, sa, by simp⟩, q H' K' hDz⟩
end L2

set_option Elab.async false
set_option linter.all false
set_option maxRecDepth 100000
namespace L2
open PySem PySem.Spec PyProof.Rows
section
variable {X : Cx}
theorem bools_of : ∀ {bs : List Bool} {us : List Value}, Vals (bs.map V.bl) us → us = bs.map Value.bool
  | [], us, r => by
    cases r
    rfl
  | b :: bs, us, r => by
    cases r with
    | cons r1 r2 =>
      cases r1
      rw [bools_of r2]
      rfl
def rAll : List V → Hp → VK → Prop := fun xs H Q => ∃ (p : Addr) (bs : List Bool), xs = [.ref p] ∧ H p = some (.lst (bs.map V.bl)) ∧ Q (.bl (bs.all id)) H
theorem all_range (bs : List Bool) : (List.range bs.length).all (fun i => bs.getD i false) = bs.all id := by
  rw [Bool.eq_iff_iff, List.all_eq_true, List.all_eq_true]
  constructor
  · intro h b hb
    obtain ⟨i, hi, rfl⟩ := List.getElem_of_mem hb
    have := h i (List.mem_range.mpr hi)
    simpa [List.getD_eq_getElem?_getD, hi] using this
  · intro h i hi
    have hi' := List.mem_range.mp hi
    have := h bs[i] (List.getElem_mem hi')
    simpa [List.getD_eq_getElem?_getD, hi'] using this
theorem call_all (hc : X.calm = true) : CallR X (.builtin "all") rAll := by
  intro pins s σ H xs us Q I r h
  obtain ⟨p, bs, rfl, hp, q⟩ := h
  obtain ⟨u, rfl, ru⟩ := r.one
  cases ru
  obtain ⟨its, n, rv, e, z⟩ := I.lst hp
  have hits := bools_of rv
  subst hits
  have hl : s.heap.IsList p (bs.map Value.bool).toArray := ⟨_, e, rfl, n, rfl⟩
  refine call_all_walk (wpAny_pyIter_list hl ?_)
  refine ⟨_, _, _, _, _, _, fun i => bs.getD i false, rfl, Walks.list (A := X.A.in1) (I.ok.hd hc) _ p (Nat.ne_of_lt (Heap.lt_size e)) (bs.map Value.bool).toArray, ⟨⟨_, Heap.get?_push_size _ rfl, rfl, rfl⟩, hl.push _⟩, ?_, fun h' tk hk => ?_⟩
  · intro i v s' Q' E' hv hQ'
    have hv' : (bs.map Value.bool)[i]? = some v := by simpa using hv
    rw [List.getElem?_map] at hv'
    cases eb : bs[i]? with
    | none => rw [eb] at hv'; cases hv'
    | some b =>
      rw [eb] at hv'
      cases hv'
      have : bs.getD i false = b := by rw [List.getD_eq_getElem?_getD, eb]; rfl
      refine wpAny_truthy_bool ?_
      dsimp only at hQ'
      rw [this] at hQ'
      exact hQ'
  · have e1 : (List.range (bs.map Value.bool).toArray.size).all (fun i => bs.getD i false) = bs.all id := by simpa using all_range bs
    rw [e1]
    exact ⟨.bl _, H, I.kept (t' := tk) (old_kept (l := p) hk), rfl, q⟩
def rMinL : List V → Hp → VK → Prop := fun xs H Q => ∃ (p : Addr) (ns : List Int), xs = [.ref p] ∧ H p = some (.lst (ns.map V.int)) ∧ 0 < ns.length ∧ ∀ M, M ∈ ns → (∀ a ∈ ns, M ≤ a) → Q (.int M) H
theorem call_minL (hc : X.calm = true) : CallR X (.builtin "min") rMinL := by
  intro pins s σ H xs us Q I r h
  obtain ⟨p, ns, rfl, hp, h0, q⟩ := h
  obtain ⟨u, rfl, ru⟩ := r.one
  cases ru
  obtain ⟨its, n, rv, e, z⟩ := I.lst hp
  obtain ⟨ys, rfl, hy⟩ := ints_of rv
  have hl : s.heap.IsList p (intItems ys.toArray) := ⟨_, e, rfl, n, by simp [intItems]⟩
  have hlen : ys.length = ns.length := by rw [← hy, List.length_map]
  refine min_intList (I.ok.hd hc) hl (by simp; omega) fun v h' tk hv hk => ?_
  obtain ⟨t, rfl⟩ := intItems_at hv
  obtain ⟨h1, h2⟩ := argBest_lt (numAt ys.toArray) (ys.toArray.size - 1)
  have hy' : (ys.toArray.toList.map (·.1)) = ns := by simpa using hy
  refine ⟨.int _, H, I.kept hk, ⟨t, rfl⟩, q _ ?_ fun a ha => ?_⟩
  · rw [numAt_eq, hy']
    exact PySem.getD_mem (by simp at h1 ⊢; omega)
  · obtain ⟨j, hj, rfl⟩ := PySem.mem_getD ha
    have e2 := h2 j (by simp; omega)
    rw [numAt_eq, numAt_eq, hy'] at e2
    rw [numAt_eq, hy']
    exact e2
end
end L2

set_option Elab.async false
set_option linter.all false
set_option maxRecDepth 100000
namespace L2
open PySem PySem.Spec PyProof.Rows
/-! ### an exception on its way -/
/-- the exception's object at a: its class, its dict; its traceback (where there is one) at T, fl: the frame in which it is in flight; all of it is made at lo or later, and untracked -/
structure Fly (lo : Nat) (h : Heap) (H : Hp) (a : Addr) (T : Option Addr) (C : Value) (d : Option Addr) (fl : Value) : Prop where
  at_ : ∃ (vs : Array Value) (sl : Array (Option Value)), h.get? a = some ⟨C, d, .fields vs, sl⟩ ∧
    (match T with
      | none => vs[1]? = some .none
      | some t => vs[1]? = some (.ref t) ∧ t ≠ a ∧ ∃ oT ts, h.get? t = some oT ∧ oT.data = .fields ts ∧ ts[3]? = some fl)
  lo : ∀ b ∈ a :: T.toList, lo ≤ b ∧ H b = none
theorem Fly.mono {lo lo' : Nat} {h : Heap} {H : Hp} {a : Addr} {T : Option Addr} {C : Value} {d : Option Addr} {fl : Value} (f : Fly lo h H a T C d fl) (hl : lo' ≤ lo) : Fly lo' h H a T C d fl :=
  ⟨f.at_, fun b hb => ⟨Nat.le_trans hl (f.lo b hb).1, (f.lo b hb).2⟩⟩
/-- what is on its way is a record -/
theorem Fly.rcd {lo : Nat} {h : Heap} {H : Hp} {a : Addr} {T : Option Addr} {C : Value} {d : Option Addr} {fl : Value} (f : Fly lo h H a T C d fl) : ∀ b ∈ a :: T.toList, ∃ o vs, h.get? b = some o ∧ o.data = .fields vs := by
  obtain ⟨vs, sl, ha, hT⟩ := f.at_
  intro b hb
  rcases List.mem_cons.mp hb with e | hb
  · rw [e]; exact ⟨_, vs, ha, rfl⟩
  · cases T with
    | none => cases hb
    | some t =>
      obtain ⟨_, _, oT, ts, h1, h2, _⟩ := hT
      rcases List.mem_singleton.mp hb with rfl
      exact ⟨oT, ts, h1, h2⟩
/-- all that is tracked stays, where only records that are not tracked and slots of frames change -/
theorem hok_un {P : Program} {w : World} {fs ch : List Addr} {H : Hp} {h h' : Heap} (ok : HOk P w H h) (k : ∀ b o, h.get? b = some o → b ∉ fs → b ∉ ch → h'.get? b = some o) (hf : ∀ b ∈ fs, H b = none) (hc : ∀ b ∈ ch, H b = none) : HOk P w H h' := fun a o e => by
  have st : ∀ b u, H b = some u → ∀ ob, h.get? b = some ob → h'.get? b = some ob := fun b u hb ob q => k b ob q (fun z => by rw [hf b z] at hb; cases hb) fun z => by rw [hc b z] at hb; cases hb
  refine (ok a o e).stay (fun b u hb q => ?_) (fun _ q => q) fun _ _ q => q
  rcases hb with rfl | hb
  · exact st _ _ e _ q
  · exact st _ _ hb _ q
theorem un_of {fs ch : List Addr} {H : Hp} {h h' : Heap} (k : ∀ b o, h.get? b = some o → b ∉ fs → b ∉ ch → h'.get? b = some o) (sl : ∀ b o, h.get? b = some o → b ∉ ch → ∃ z, h'.get? b = some { o with slots := z }) : Un fs ch H H h h' where
  keep := fun b o q _ hb hx => k b o q hb hx
  slot := fun b o q _ _ hx => sl b o q hx
  free := fun b o _ n _ => n
  there := fun b o q hx => let ⟨_, e⟩ := sl b o q hx; ⟨_, e⟩
  tups := fun _ _ q => q
  frzs := fun _ _ _ q => q
  tbls := fun b ps e => ⟨#[], by rw [e]; simp⟩
section
variable {M : Model} {A : Around} {E : Value → Shared → Prop} {s : Shared} {base : Heap} {env : Env} {outer : List Env} {L a : Addr} {T : Option Addr} {C : Value} {d : Option Addr} {H : Hp} {lo : Nat} {fl : Value} {Q : Unit → Shared → Prop}
/-- a new entry of the traceback -/
theorem entry_x {oe : Obj} {vs : Array Value} {head : Value} {hadNext : Bool} (hfr : A.frames = some (env :: outer)) (hl : s.heap.FunFrames base (env :: outer)) (hf : env.frame = some L)
    (he : s.heap.get? a = some oe) (hd : oe.data = .fields vs) (hsz : 1 < vs.size)
    (h : ∀ h' T', s.heap.objs.size ≤ T' → T' ≠ a → h'.get? a = some { oe with data := .fields (vs.setIfInBounds 1 (.ref T')) } → (∃ oT ts, h'.get? T' = some oT ∧ oT.data = .fields ts ∧ ts[3]? = some (rawInt L)) →
      (∀ b o, s.heap.get? b = some o → b ∉ frs (env :: outer) → b ≠ a → h'.get? b = some o) → (∀ b o, s.heap.get? b = some o → b ≠ a → ∃ z, h'.get? b = some { o with slots := z }) → Q () { s with heap := h' }) :
    wpAny M A (do let x ← frameOf env; let pl ← entryPlaceOf L hadNext; let b ← EntryCells.newEntry head x .none (rawInt L) .none pl; setField (.ref a) 1 b) Q E s := by
  have hene : a ∉ (env :: outer).filterMap (·.frame) := fun hm => by
    obtain ⟨_, o, ho, hnf⟩ := hl.mem hm
    rw [he] at ho; injection ho with ho; subst ho; exact hnf vs hd
  refine wpAny_bind (wpAny_frameOf_fun hfr hl hf fun h₁ hs₁ => ?_)
  refine wpAny_bind (wpAny_entryPlaceOf fun pl hpl => ?_)
  unfold EntryCells.newEntry newFields
  refine wpAny_bind (wpAny_newObj_type ?_ (hpl.sizeOk5 _ _ _ _ _))
  have he₁ : h₁.get? a = some oe := (hs₁.2.1 a hene).trans he
  have he₂ := Heap.get?_push_of_some (h := h₁) { cls := .type "traceback", dict := none, data := .fields ([head, .ref L, .none, rawInt L, .none] ++ (if pl.isEmpty then List.replicate 6 Value.none else pl)).toArray } he₁
  refine wpAny_setField he₂ hd hsz ?_
  have hTe : h₁.objs.size ≠ a := Nat.ne_of_gt (Heap.lt_size he₁)
  have hd₃ := Obj.data_mapFields hd (·.setIfInBounds 1 (Value.ref h₁.objs.size))
  have he₃ := Heap.get?_update_self (Obj.mapFields (·.setIfInBounds 1 (Value.ref h₁.objs.size))) he₂ (Obj.isFreed_of_fields hd₃)
  have hT₃ := (Heap.get?_update_other (h₁.push { cls := .type "traceback", dict := none, data := .fields ([head, .ref L, .none, rawInt L, .none] ++ (if pl.isEmpty then List.replicate 6 Value.none else pl)).toArray })
    (Obj.mapFields (·.setIfInBounds 1 (Value.ref h₁.objs.size))) (Ne.symm hTe)).trans (Heap.get?_push_size h₁ rfl)
  have keep : ∀ b o, b ≠ a → h₁.get? b = some o →
      ((h₁.push { cls := .type "traceback", dict := none, data := .fields ([head, .ref L, .none, rawInt L, .none] ++ (if pl.isEmpty then List.replicate 6 Value.none else pl)).toArray }).update a (Obj.mapFields (·.setIfInBounds 1 (Value.ref h₁.objs.size)))).get? b = some o :=
    fun b o hbe hb => by
      rw [Heap.get?_update_other _ _ (Ne.symm hbe)]
      exact Heap.get?_push_of_some _ hb
  have hmf : Obj.mapFields (·.setIfInBounds 1 (Value.ref h₁.objs.size)) oe = { oe with data := .fields (vs.setIfInBounds 1 (.ref h₁.objs.size)) } := by
    obtain ⟨oc, od, odt, osl⟩ := oe
    have : odt = .fields vs := hd
    subst this
    rfl
  refine h _ h₁.objs.size (Nat.le_of_eq hs₁.1.symm) hTe (by rw [← hmf]; exact he₃) ⟨_, _, hT₃, rfl, ?_⟩ (fun b o hb hnf hne => keep b o hne ((hs₁.2.1 b hnf).trans hb)) fun b o hb hne => ?_
  · first | (simp; done) | (rcases hpl with rfl | ⟨_, _, _, _, _, _, _, rfl⟩ <;> simp)
  · obtain ⟨z, hz⟩ := hs₁.2.2 b o hb
    exact ⟨z, keep b _ hne hz⟩
/-- the frame is noted in the traceback -/
theorem note_x (hfr : A.frames = some (env :: outer)) (hl : s.heap.FunFrames base (env :: outer)) (hf : env.frame = some L) (F : Fly lo s.heap H a T C d .none) (hlo : lo ≤ s.heap.objs.size) (hH : ∀ b, s.heap.objs.size ≤ b → H b = none)
    (h : ∀ h' T', Fly lo h' H a (some T') C d (rawInt L) → s.heap.objs.size ≤ T' → (∀ b o, s.heap.get? b = some o → b ∉ frs (env :: outer) → b ∉ a :: T.toList → h'.get? b = some o) →
      (∀ b o, s.heap.get? b = some o → b ∉ a :: T.toList → ∃ z, h'.get? b = some { o with slots := z }) → Q () { s with heap := h' }) :
    wpAny M A (noteFrame (.ref a) env) Q E s := by
  obtain ⟨⟨vs, sl, ha, hT⟩, hlow⟩ := F
  unfold noteFrame
  simp only [hf]
  cases T with
  | none =>
    refine wpAny_bind (wpAny_field ha rfl hT ?_)
    rw [if_neg (by decide)]
    refine entry_x hfr hl hf ha rfl (Array.getElem?_eq_some_iff.mp hT).1 fun h' T' hs hne he htb k1 k2 => ?_
    obtain ⟨oT, ts, t1, t2, t3⟩ := htb
    refine h h' T' ⟨⟨_, sl, he, by simp [(Array.getElem?_eq_some_iff.mp hT).1], hne, oT, ts, t1, t2, t3⟩, fun b hb => ?_⟩ hs (fun b o hb hn hc => k1 b o hb hn fun z => hc (by simp [z])) fun b o hb hc => k2 b o hb fun z => hc (by simp [z])
    rcases List.mem_cons.mp hb with e | hb
    · rw [e]; exact hlow a List.mem_cons_self
    · rcases List.mem_singleton.mp hb with rfl
      exact ⟨Nat.le_trans hlo hs, hH _ hs⟩
  | some t =>
    obtain ⟨h1, hta, oT, ts, g1, g2, g3⟩ := hT
    refine wpAny_bind (wpAny_field ha rfl h1 ?_)
    rw [if_pos (show (Value.ref t != Value.none) = true from by simp)]
    refine wpAny_bind (wpAny_field g1 g2 g3 ?_)
    rw [if_neg (show ¬ ((Value.none == rawInt L) = true) from by simp [rawInt])]
    refine wpAny_bind (wpAny_setField g1 g2 (Array.getElem?_eq_some_iff.mp g3).1 ?_)
    have other : ∀ b, b ≠ t → (s.heap.update t (Obj.mapFields (·.setIfInBounds 3 Value.none))).get? b = s.heap.get? b := fun b hb => Heap.get?_update_other _ _ (Ne.symm hb)
    have noRecord : ∀ b o, s.heap.get? b = some o → (∀ vs, o.data ≠ .fields vs) → b ≠ t := fun b o hb hnf q => by
      rw [q, g1] at hb; injection hb with hb; subst hb; exact hnf ts g2
    have szu : (s.heap.update t (Obj.mapFields (·.setIfInBounds 3 Value.none))).objs.size = s.heap.objs.size := Heap.size_after_update ..
    refine entry_x (s := { s with heap := s.heap.update t (Obj.mapFields (·.setIfInBounds 3 Value.none)) }) hfr (hl.of_keeps fun b o hb hnf => ⟨o, (other b (noRecord b o hb hnf)).trans hb, rfl⟩) hf ((other a (Ne.symm hta)).trans ha) rfl (Array.getElem?_eq_some_iff.mp h1).1 fun h' T' hs hne he htb k1 k2 => ?_
    have hs' : s.heap.objs.size ≤ T' := by
      have hs : (s.heap.update t (Obj.mapFields (·.setIfInBounds 3 Value.none))).objs.size ≤ T' := hs
      rw [szu] at hs; exact hs
    obtain ⟨oT', ts', t1, t2, t3⟩ := htb
    refine h h' T' ⟨⟨_, sl, he, by simp [(Array.getElem?_eq_some_iff.mp h1).1], hne, oT', ts', t1, t2, t3⟩, fun b hb => ?_⟩ hs' (fun b o hb hn hc => k1 b o ((other b fun z => hc (by simp [z])).trans hb) hn fun z => hc (by simp [z])) fun b o hb hc => k2 b o ((other b fun z => hc (by simp [z])).trans hb) fun z => hc (by simp [z])
    rcases List.mem_cons.mp hb with e | hb
    · rw [e]; exact hlow a List.mem_cons_self
    · rcases List.mem_singleton.mp hb with rfl
      exact ⟨Nat.le_trans hlo hs', hH _ hs'⟩
/-- no longer in flight -/
theorem land_x {t : Addr} (F : Fly lo s.heap H a (some t) C d fl)
    (h : ∀ h', Fly lo h' H a (some t) C d .none → (∀ b o, s.heap.get? b = some o → b ≠ t → h'.get? b = some o) → Q () { s with heap := h' }) : wpAny M A (setFlight (.ref a) none) Q E s := by
  obtain ⟨⟨vs, sl, ha, h1, hta, oT, ts, g1, g2, g3⟩, hlow⟩ := F
  have hsz3 : 3 < ts.size := (Array.getElem?_eq_some_iff.mp g3).1
  have other : ∀ b, b ≠ t → (s.heap.update t (Obj.mapFields (·.setIfInBounds 3 ((none : Option Addr).elim Value.none fun f => rawInt f)))).get? b = s.heap.get? b :=
    fun b hb => Heap.get?_update_other _ _ (Ne.symm hb)
  unfold setFlight
  refine wpAny_bind (wpAny_field ha rfl h1 ?_)
  rw [if_pos (show (Value.ref t != Value.none) = true from by simp)]
  refine wpAny_setField g1 g2 hsz3 (h _ ⟨⟨vs, sl, (other a (Ne.symm hta)).trans ha, h1, hta, _, _, Heap.get?_update_self _ g1 (Obj.isFreed_of_fields (Obj.data_mapFields g2 _)), Obj.data_mapFields g2 _, by simp [hsz3]⟩, hlow⟩ fun b o hb hn => (other b hn).trans hb)
end
end L2

set_option Elab.async false
set_option linter.all false
set_option maxRecDepth 100000
namespace L2
open PySem PySem.Spec PyProof.Rows
/-! ### how an exception lies behind a call -/
def CXE (P : Program) (w : World) : CXT := fun outer H s E e s' => ∃ (a : Addr) (T : Option Addr) (C : Value) (d : Option Addr) (H' : Hp), e = .ref a ∧ s'.os = s.os ∧ AllBare s'.gens ∧ Un (frs outer) [] H H' s.heap s'.heap ∧
  HOk P w H' s'.heap ∧ Fly s.heap.objs.size s'.heap H' a T C d .none ∧ E C d H'
/-- an exception that is wanted lands: EX tells what is wanted, by the values of the names -/
def Lands (X : Cx) (EX : St → XK) : Prop := ∀ (pins : List (Addr × Obj)) (σ : St) (H : Hp) (s : Shared) (a : Addr) (T : Option Addr) (C : Value) (d : Option Addr), Inv X pins σ H s → Fly X.s₀.heap.objs.size s.heap H a T C d .none →
  (∀ p ∈ X.pn, p.1 ∉ a :: T.toList) → EX σ C d H → X.xe (.ref a) s
theorem Un.more {fs : List Addr} {H H' : Hp} {h h' h'' : Heap} (u : Un fs [] H H' h h') (k : ∀ b o, b < h.objs.size → h'.get? b = some o → b ∉ fs → h''.get? b = some o) (sl : ∀ b o, b < h.objs.size → h'.get? b = some o → ∃ z, h''.get? b = some { o with slots := z }) : Un fs [] H H' h h'' where
  keep := fun b o q n hb hx => k b o (Heap.lt_size q) (u.keep b o q n hb hx) hb
  slot := fun b o q n hb hx => by
    obtain ⟨z, e⟩ := u.slot b o q n hb hx
    obtain ⟨z', e'⟩ := sl b _ (Heap.lt_size q) e
    exact ⟨z', e'⟩
  free := u.free
  there := fun b o q hx => by
    obtain ⟨o', e⟩ := u.there b o q hx
    obtain ⟨z, e'⟩ := sl b _ (Heap.lt_size q) e
    exact ⟨_, e'⟩
  tups := u.tups
  frzs := u.frzs
  tbls := u.tbls
/-- out of a def: the frame is left -/
theorem lands_cx {P : Program} {w : World} {K : PySem.W.Frag} {mg : Str → Option Value} {base : Heap} {N : List Str} {qual : Str} {scope : Scope} {f : Addr} {cd : Value} {A : Around} {outer : List Env} {s : Shared} {H : Hp} {E : XK} :
    Lands (cxOf (CXE P w) P w K mg base N qual scope f cd A outer s H E) (fun _ => E) := by
  intro pins σ H' s' a T C d I F hp hE
  show wpAny (model P w) (A.deeper (envOfC qual scope s.heap.objs.size f cd)) (leaving (envOfC qual scope s.heap.objs.size f cd) (.ref a)) (fun _ s'' => CXE P w outer H s E (.ref a) s'') (fun e' s'' => CXE P w outer H s E e' s'') s'
  unfold leaving
  have hstk := I.stack
  have hfr := I.stkFree
  refine wpAny_bind (note_x I.ok.frames hstk rfl F I.sz (fun b hb => I.hok.fresh hb) fun h1 T1 F1 hT1 k1 k2 => ?_)
  refine land_x (s := { s' with heap := h1 }) F1 fun h2 F2 k3 => ?_
  have low : ∀ b, b < s.heap.objs.size → b ∉ a :: T.toList := fun b hb z => absurd (Nat.lt_of_lt_of_le hb (F.lo b z).1) (Nat.lt_irrefl _)
  have hsz : s.heap.objs.size ≤ s'.heap.objs.size := I.sz
  have nT1 : ∀ b, b < s'.heap.objs.size → b ≠ T1 := fun b hb z => absurd (Nat.lt_of_lt_of_le (z ▸ hb) hT1) (Nat.lt_irrefl _)
  refine ⟨a, some T1, C, d, H', rfl, I.os, I.bare, Un.more I.base (fun b o hb q hn => ?_) (fun b o hb q => ?_), ?_, F2, hE⟩
  · refine k3 b o (k1 b o q (fun z => ?_) (low b hb)) (nT1 b (Nat.lt_of_lt_of_le hb hsz))
    rcases List.mem_cons.mp z with z | z
    · exact absurd (Nat.lt_of_lt_of_le hb (Nat.le_trans I.ok.above (Nat.le_of_eq z.symm))) (Nat.lt_irrefl _)
    · exact hn z
  · obtain ⟨z, e⟩ := k2 b o q (low b hb)
    exact ⟨z, k3 b _ e (nT1 b (Nat.lt_of_lt_of_le hb hsz))⟩
  · refine hok_un (fs := frs (envOfC qual scope s.heap.objs.size f cd :: outer)) (ch := T1 :: (a :: T.toList)) I.hok (fun b o q hn hc => ?_) hfr fun b hb => ?_
    · exact k3 b o (k1 b o q hn fun z => hc (List.mem_cons_of_mem _ z)) fun z => hc (by simp [z])
    · rcases List.mem_cons.mp hb with e | hb
      · rw [e]; exact I.hok.fresh hT1
      · exact (F.lo b hb).2
/-- out of a call -/
theorem Lands.passes {X : Cx} {EX : St → XK} (L : Lands X EX) {pins : List (Addr × Obj)} {σ : St} {H : Hp} {s s' : Shared} {e : Value} (I : Inv X pins σ H s) (h : CXE X.prog X.w X.stack H s (EX σ) e s') : X.xe e s' := by
  obtain ⟨a, T, C, d, H', rfl, os, bare, un, hok, F, hE⟩ := h
  have I' : Inv X pins σ H' s' := I.call' (ch := []) os un hok bare fun b hb => nomatch hb
  refine L pins σ H' s' a T C d I' (F.mono I.sz) (fun p hp hc => ?_) hE
  have q := (I.pin p (List.mem_append_left _ hp)).1
  exact absurd (Nat.lt_of_lt_of_le (Heap.lt_size q) (F.lo _ hc).1) (Nat.lt_irrefl _)
/-! ### calls of defs that may raise -/
def tCallX (sp : Sp) (EX : St → XK) (t : TA) : TE := fun σ H Q => t σ H fun vs H1 => sp vs H1 Q (EX σ)
section
variable {X : Cx} {EX : St → XK} {k j : Nat} {f : Addr} {fd : FuncData} {ps : List Str} {sp : Sp} {x : Str} {p pos : Pos} {e : Expr} {es : List Expr} {t : TA}
theorem run_fnX {pins : List (Addr × Obj)} {σ : St} {H : Hp} {s : Shared} {Q : VK} {us : List Value} {vs : List V} (F : FnOk X.prog X.w X.K X.mg X.base (CXE X.prog X.w) k f fd ps sp) (hr : Room k X.A) (hb : Binds X.K fd ps []) (hx : Lands X EX)
    (I : Inv X pins σ H s) (r : Vals vs us) (h : sp vs H Q (EX σ)) : wpAny (model X.prog X.w) X.A (call (.ref f) us) (EP X pins σ Q) X.xe s := by
  have hl : us.length = ps.length := by rw [← r.length]; exact F.len _ _ _ _ h
  have hb' := hb s us I.kIn (by rw [List.append_nil]; exact hl)
  rw [List.append_nil] at hb'
  refine wpAny_call (codeAny_mono (F.run X.A X.stack s H ⟨us, []⟩ us vs Q (EX σ) hr I.env0 hb' r h) fun r s' hq => ?_)
  cases r with
  | error e => exact hx.passes I hq
  | ok fl =>
    cases fl with
    | ret u => exact I.after hq
    | next => exact False.elim hq
    | brk => exact False.elim hq
    | cont => exact False.elim hq
/-- a def that may raise -/
def HasX (P : Program) (w : World) (K : PySem.W.Frag) (mg : Str → Option Value) (base : Heap) (k : Nat) (x : Str) (ps : List Str) (sp : Sp) : Prop :=
  ∃ (f : Addr) (fd : FuncData), FnOk P w K mg base (CXE P w) k f fd ps sp ∧ mg x = some (.ref f) ∧ PySem.W.keepIn K (.ref f) = true ∧ Binds K fd ps []
theorem pe_fX (h : HasX X.prog X.w X.K X.mg X.base k x ps sp) (L : Lands X EX) (hr : Room j X.A) (hkj : k ≤ j) (ha : PA X (e :: es) t) (hg : Gl X x := by rfl) (h1 : isStar e = false := by rfl) (h2 : es.all (fun e => !isStar e) = true := by rfl)
    (hdb : (x == ("__debug__" : Str)) = false := by decide) : PE X (.Call (.Name x p) (e :: es) [] pos) (tCallX sp EX t) := by
  obtain ⟨f, fd, F, hm, hk, hb⟩ := h
  intro pins s σ H Q I h
  refine wpAny_Call_Name_kw (ld_glob I hg hm ?_ hdb)
  refine PySem.W.callWith_K (h₀ := X.base) I.ok.mod.kin hk (thn (ha pos pins s σ H _ I h) fun us s1 ⟨vs, H1, I1, r, q⟩ => ⟨I1.kIn, ?_⟩) (star1 h1) (star_any h2)
  exact run_fnX F (hr.mono hkj) hb L I1 r q
/-- called where it does not raise -/
theorem FnOk.calm {P : Program} {w : World} {K : PySem.W.Frag} {mg : Str → Option Value} {base : Heap} (F : FnOk P w K mg base (CXE P w) k f fd ps sp) : FnOk P w K mg base CX0 k f fd ps (fun vs H Q _ => sp vs H Q E0) := by
  refine ⟨fun vs H Q E h => F.len vs H Q E0 h, fun A outer s H args us vs Q E hr he hb hv hs => codeAny_mono (F.run A outer s H args us vs Q E0 hr he hb hv hs) fun r s' hq => ?_⟩
  cases r with
  | error e =>
    obtain ⟨_, _, _, _, _, _, _, _, _, _, _, h⟩ := hq
    exact False.elim h
  | ok fl => cases fl <;> exact hq
theorem HasX.calm {P : Program} {w : World} {K : PySem.W.Frag} {mg : Str → Option Value} {base : Heap} (h : HasX P w K mg base k x ps sp) : Has P w K mg base k x ps (fun vs H Q _ => sp vs H Q E0) := by
  obtain ⟨f, fd, F, hm, hk, hb⟩ := h
  exact ⟨f, fd, F.calm, hm, hk, hb⟩
end
/-- THE RULE for a def that may raise -/
theorem Fun.okX {P : Program} {w : World} {K : PySem.W.Frag} {mg : Str → Option Value} {base : Heap} {x qual : Str} {st : Stmt} {f : Addr} {fd : FuncData} {N ps : List Str} {k : Nat} {sp : Sp} (F : Fun K x qual st f fd) (S : FnScope N ps (defScope st)) (len : ∀ vs H Q E, sp vs H Q E → vs.length = ps.length)
    (hbody : ∀ (cdv : Value) (A : Around) (outer : List Env) (s : Shared) (H : Hp) (vs : List V) (Q : VK) (E : XK), Room k (A.deeper (envOfC qual (defScope st) s.heap.objs.size f cdv)) → sp vs H Q E →
      Lands (cxOf (CXE P w) P w K mg base N qual (defScope st) f cdv A outer s H E) (fun _ => E) →
      ∃ t, PSs (cxOf (CXE P w) P w K mg base N qual (defScope st) f cdv A outer s H E) (defBody st) t ∧ t { nx := fun _ H' => Q .non H', rt := Q } (start N vs) H) : FnOk P w K mg base (CXE P w) (k + 1) f fd ps sp := by
  obtain ⟨oc, od, kV, doc, pm, an, cdv, ct, osl, rfl, lk, hcd⟩ := F.ex
  refine fn_of lk hcd S len fun A outer s H vs Q E hr hsp => ?_
  exact hbody cdv A outer s H vs Q E hr hsp lands_cx
end L2

set_option Elab.async false
set_option linter.all false
set_option maxRecDepth 100000
namespace L2
open PySem PySem.Spec PyProof.Rows
open Builtin Builtin.ObjectAttr
/-! ### own exception classes over ValueError -/
abbrev bmV : List Value := [.type "ValueError", .type "Exception", .type "BaseException", .type "object"]
inductive OverV : List Value → Prop
  | base : OverV bmV
  | own (a : Addr) {l : List Value} : OverV l → OverV (.ref a :: l)
theorem OverV.has {l : List Value} (h : OverV l) {X : String} {b : Bool} (hb : bmV.contains (.type X) = b) : l.contains (.type X) = b := by
  induction h with
  | base => exact hb
  | own a _ ih => rw [List.contains_cons, ih]; rfl
theorem OverV.passes {l : List Value} (h : OverV l) (self : Value) : refuseLoop self "__setattr__" l = pure () := by
  induction h with
  | base => exact PySem.F.store_ValueError.passes self
  | own a _ ih => rw [refuseLoop_ref]; exact ih
structure XC (K : PySem.W.Frag) (C : Addr) (bm : List Value) : Prop where
  at_ : ∃ (nm q : Str) (N : Addr) (bs : List Value) (sn : List Str) (sub : List Value) (ab : Bool) (col : Option Bool) (dd : Option Addr) (k0 k1 k2 k3 k5 : Option Value),
    K.lookup C = some (excClassObj nm q C N bs bm true sn sub ab col dd k0 k1 k2 k3 k5 "ValueError.__new__")
  ov : OverV bm
/-- its attributes are stored and read as those of any exception -/
structure XA (K : PySem.W.Frag) (C : Addr) : Prop where
  bm : ∃ bm, XC K C bm
  ga : PySem.W.findIn K (.ref C) "__getattribute__" = some (some (.builtin "BaseException.__getattribute__"))
  gt : PySem.W.findIn K (.ref C) "__getattr__" = some none
  sa : PySem.W.findIn K (.ref C) "__setattr__" = some (some (.builtin "object.__setattr__"))
  cl : PySem.W.findIn K (.ref C) "__class__" = some (some (.builtin "object.__class__"))
  sg : PySem.W.specialIn K (.builtin "object.__class__") "__get__" = some (some (.builtin "getset_descriptor.__get__"))
  tk : PySem.W.takesIn K (.builtin "object.__class__") = some true
end L2
namespace PySem
open Sem (wp)
open Builtin Builtin.ObjectAttr
open L2 (OverV)
section
variable {prog : Program} {w : World} {A : Around} {E : Value → Shared → Prop} {h : Heap} {g : Array GenState} {d : Drawn} {t : Nat} {os : OsState}
variable {nm q : Str} {C N : Addr} {bs bm : List Value} {sn : List Str} {sub : List Value} {ab : Bool} {col : Option Bool} {dd : Option Addr} {k0 k1 k2 k3 k5 : Option Value}
theorem check_new_x {M : Model} (T : OverV bm) {rest : List Value} {Q : Unit → Shared → Prop} (hC : h.get? C = some (excClassObj nm q C N bs bm true sn sub ab col dd k0 k1 k2 k3 k5 "ValueError.__new__"))
    (hq : Q () ⟨h, g, d, t, os⟩) : wpAny M A (checkBuiltinCall "ValueError.__new__" ⟨.ref C :: rest, []⟩) Q E ⟨h, g, d, t, os⟩ := by
  have F := PySem.F.excBase_ValueError
  have hcont : (Value.ref C :: bm).contains (.type "ValueError") = true := by rw [List.contains_cons, T.has F.hasB, Bool.or_true]
  have hstar := F.noStar
  simp only [checkBuiltinCall, F.newKind, F.newSplit, F.newRow]
  repeat (first | refine wpAny_loadPart_at hC ?_ | (refine wpAny_isSubtype_exc hC ?_; rw [hcont]) | refine wpAny_staticBase_exc hC ?_ | refine wpAny_madeBy_exc hC ?_ | simp only [bne_self_eq_false, Bool.false_eq_true, if_false] | wp_step)
  exact hq
theorem exc_new_x (T : OverV bm) {rest : List Value} {R : Result → Shared → Prop} (hC : h.get? C = some (excClassObj nm q C N bs bm true sn sub ab col dd k0 k1 k2 k3 k5 "ValueError.__new__"))
    (hq : R (.ok (.ret (.ref (h.objs.size + 1)))) ⟨(h.push { cls := .type "tuple", data := .seq rest.toArray }).push
      { cls := .ref C, data := .fields #[.ref h.objs.size, .none, .none, .none, .bool false, .none] }, g, d, t, os⟩) (hrest : rest.length ≤ sizeLine) :
    codeAny (model prog w) A (.builtin "ValueError.__new__" ⟨.ref C :: rest, []⟩) R ⟨h, g, d, t, os⟩ := by
  have F := PySem.F.excBase_ValueError
  have hends := F.ends
  have hcB : (Value.ref C :: bm).contains (.type "ValueError") = true := by rw [List.contains_cons, T.has F.hasB, Bool.or_true]
  have hcA : (Value.ref C :: bm).contains (.type "AttributeError") = false := by rw [List.contains_cons, T.has F.noAttr]; rfl
  have hcN : (Value.ref C :: bm).contains (.type "NameError") = false := by rw [List.contains_cons, T.has F.noName]; rfl
  refine codeAny_builtinAt F.entry ?_
  unfold Builtin.«BaseException.__new__»
  refine wpAt_bind ?_
  show wpAt _ _ _ (stack >>= _) _ _ _
  refine wpAt_bind (wpAt_stack fun p below => wpAt_of_wpAny ?_)
  wp_walk
  refine wpAt_of_wpAny ?_
  rw [F.owner]
  repeat (first | with_reducible refine wpAny_madeHere_exc F.canon hC ?_ | with_reducible refine wpAny_loadPart_at hC ?_ | (with_reducible refine wpAny_isSubtype_exc hC ?_; first | rw [hcB] | rw [hcA] | rw [hcN]) | wp_step)
  show R _ _
  rw [Heap.size_push]
  exact hq
/-- what is wanted of the end of a call -/
abbrev EndX (prog : Program) (w : World) (A : Around) (R : Result → Shared → Prop) (fin : Fin) (s' : Shared) : Prop := match fin with
  | .done f => R (.ok f) s'
  | .again c' => c'.quiet = true ∧ codeAny (model prog w) A c' R s'
theorem type_call_x (T : OverV bm) {rest : List Value} {fI : Addr} {Q : Fin → Shared → Prop} (hC : h.get? C = some (excClassObj nm q C N bs bm true sn sub ab col dd k0 k1 k2 k3 k5 "ValueError.__new__"))
    (hi : PySem.W.Looks (model prog w) h (typeLookup (.ref C) "__init__") (some (.ref fI))) (hf : ∀ self, PySem.W.Looks (model prog w) h (bindSpecial (.ref fI) self) (.ref fI, [self])) (hrest : rest.length ≤ sizeLine)
    (hq : wpAny (model prog w) A (call (.ref fI) (.ref (h.objs.size + 1) :: rest)) (fun r s' => r = .none ∧ Q (.done (.ret (.ref (h.objs.size + 1)))) s') E
      ⟨(h.push { cls := .type "tuple", data := .seq rest.toArray }).push { cls := .ref C, data := .fields #[.ref h.objs.size, .none, .none, .none, .bool false, .none] }, g, d, t, os⟩) :
    wpAny (model prog w) A (Builtin.«type.__call__» ⟨.ref C :: rest, []⟩) Q E ⟨h, g, d, t, os⟩ := by
  have F := PySem.F.excBase_ValueError
  repeat (first | with_reducible refine wpAny_loadPart_at hC ?_ | with_reducible refine wpAny_madeBy_exc hC ?_ | wp_step)
  refine codeAny_call_builtin_code (Code.quiet_builtin _ F.quiet) (check_new_x T hC ?_)
  refine exc_new_x T hC ?_ hrest
  show wpAny _ _ _ _ _ _
  have hC₁ := Heap.get?_push_of_some { cls := .ref C, data := .fields #[.ref h.objs.size, .none, .none, .none, .bool false, .none] }
    (Heap.get?_push_of_some { cls := .type "tuple", data := .seq rest.toArray } hC)
  have k : ∀ b o, h.get? b = some o → ((h.push { cls := .type "tuple", data := .seq rest.toArray }).push { cls := .ref C, data := .fields #[.ref h.objs.size, .none, .none, .none, .bool false, .none] }).get? b = some o := fun b o e => Heap.get?_push_of_some _ (Heap.get?_push_of_some _ e)
  have hget : ((h.push { cls := .type "tuple", data := .seq rest.toArray }).push
      { cls := .ref C, data := .fields #[.ref h.objs.size, .none, .none, .none, .bool false, .none] }).get? (h.objs.size + 1) = some
      { cls := .ref C, data := .fields #[.ref h.objs.size, .none, .none, .none, .bool false, .none] } := by heap_get
  have hcC : (Value.ref C :: bm).contains (.ref C) = true := by simp
  have i1 := hi.keeps k
  have b1 := (hf (.ref (h.objs.size + 1))).keeps k
  unfold isInstance
  repeat (first | with_reducible refine wpAny_loadPart_at hget ?_ | (with_reducible refine wpAny_isSubtype_exc hC₁ ?_; rw [hcC]) | wp_step)
  show wpAny _ _ (typeLookup (.ref C) _) _ _ _
  refine i1.at ?_
  refine wpAny_holding (wpAny_bind (b1.at ?_))
  refine wpAny_bind (wpAny_mono hq (fun r s' z => ?_) fun _ _ x => x)
  obtain ⟨rfl, z⟩ := z
  wp_walk
  exact z
/-- C(..): the arguments' tuple at the heap's end, the exception behind it; then its __init__ -/
theorem make_x (T : OverV bm) {rest : List Value} {fI : Addr} {Q : Value → Shared → Prop} (hC : h.get? C = some (excClassObj nm q C N bs bm true sn sub ab col dd k0 k1 k2 k3 k5 "ValueError.__new__"))
    (hi : PySem.W.Looks (model prog w) h (typeLookup (.ref C) "__init__") (some (.ref fI))) (hf : ∀ self, PySem.W.Looks (model prog w) h (bindSpecial (.ref fI) self) (.ref fI, [self])) (hrest : rest.length ≤ sizeLine)
    (hq : wpAny (model prog w) (A.under (.builtin "type.__call__" ⟨.ref C :: rest, []⟩)) (call (.ref fI) (.ref (h.objs.size + 1) :: rest)) (fun r s' => r = .none ∧ Q (.ref (h.objs.size + 1)) s') E
      ⟨(h.push { cls := .type "tuple", data := .seq rest.toArray }).push { cls := .ref C, data := .fields #[.ref h.objs.size, .none, .none, .none, .bool false, .none] }, g, d, t, os⟩) :
    wpAny (model prog w) A (call (.ref C) rest) Q E ⟨h, g, d, t, os⟩ := by
  have f1 := tc_lookup
  have f2 := tc_bind (.ref C)
  have hT : (⟨h, g, d, t, os⟩ : Shared).TypeIs (.ref C) "type" := ⟨_, hC, rfl⟩
  refine wpAny_call (codeAny_of_tree ?_)
  show wpAny _ _ (callAny (.ref C) _) _ _ _
  repeat (any_goals (first | assumption | with_reducible refine wpAny_loadPart_at hC ?_ | wp_step))
  refine ⟨rfl, ?_⟩
  refine codeAny_call_builtin_at (Code.quiet_builtin _ (by decide +kernel)) entry_typeCall (wpAny_check_type_call_sub hC (type_call_x T hC hi hf hrest ?_))
  exact hq
end
end PySem

set_option Elab.async false
set_option linter.all false
set_option maxRecDepth 100000
namespace PySem
open Sem (wp)
open Builtin Builtin.ObjectAttr
open L2 (OverV XC XA bmV)
section
variable {prog : Program} {w : World} {A : Around} {E : Value → Shared → Prop} {h : Heap} {g : Array GenState} {d : Drawn} {t : Nat} {os : OsState}
variable {nm q : Str} {C N x : Addr} {bs bm : List Value} {sn : List Str} {sub : List Value} {ab : Bool} {col : Option Bool} {dd : Option Addr} {k0 k1 k2 k3 k5 : Option Value}
  {mA : Str → Option Value} {name : Str} {v : Value}
theorem store_entry_x {tk : Tok} {Q : Fin → Shared → Prop} {ns : List Str} (T : OverV bm)
    (hC : h.get? C = some (excClassObj nm q C N bs bm true sn sub ab col dd k0 k1 k2 k3 k5 "ValueError.__new__")) (hna : PySem.W.Looks (model prog w) h (typeLookup (.ref C) name) none) (hxC : x ≠ C) (I : h.Inst x C mA)
    (hq : ∀ h' tk', h'.Inst x C (fun y => if y = name then some v else mA y) →
      (∀ b o, b ≠ x → (∀ o₀ dx, h.get? x = some o₀ → o₀.dict = some dx → b ≠ dx) → h.get? b = some o → h'.get? b = some o) →
      (∀ o₀, h.get? x = some o₀ → ∃ o₁, h'.get? x = some o₁ ∧ o₁.cls = o₀.cls ∧ o₁.data = o₀.data ∧ o₁.slots = o₀.slots ∧ (∀ dx, o₀.dict = some dx → o₁.dict = some dx) ∧ (o₀.dict = none → o₁.dict = some h.objs.size)) → Q (.done (.ret .none)) ⟨h', g, d, tk', os⟩) (hw : Within mA ns) (hsz : ns.length ≤ sizeLine) :
    wpAny (model prog w) A (Builtin.«object.__setattr__» ⟨[.ref x, .str name tk, v], []⟩) Q E ⟨h, g, d, t, os⟩ := by
  obtain ⟨o, hx, hc, hnc, hd⟩ := I
  have hpass := T.passes (.ref x)
  unfold Builtin.«object.__setattr__»
  repeat (first | rw [refuse_eq] | (rw [refuseLoop_ref, hpass]) | (with_reducible refine wpAny_loadPart_at hx ?_; rw [hc]) | with_reducible refine wpAny_mroOf_exc hC ?_ | with_reducible refine hna.at ?_ | wp_step)
  rcases hd with ⟨hdn, hmA⟩ | ⟨dx, hdx, hne, hns⟩
  · rw [hdn, if_neg (by simp [typeHasDict])]
    split
    · rename_i hcd
      cases hcd
    split
    · rename_i c hcd
      exact absurd hcd (hnc c)
    · have hx₁ : (h.push { cls := .type "dict", data := .dict #[] }).get? x = some o := Heap.get?_push_of_some _ hx
      have hxs : x ≠ h.objs.size := Nat.ne_of_lt (Heap.lt_size hx)
      refine wpAny_bind (wpAny_alloc' ?_)
      refine wpAny_bind (wpAny_update' hx₁ ?_)
      refine wpAny_pure ?_
      have hgd : ((h.push { cls := .type "dict", data := .dict #[] }).update x fun o => { cls := o.cls, dict := some h.objs.size, data := o.data, slots := o.slots }).get? h.objs.size
          = some { cls := .type "dict", data := .dict #[] } :=
        (Heap.get?_update_ne _ _ _ _ hxs.symm).trans (Heap.get?_push_at rfl rfl)
      have hnd : ((h.push { cls := .type "dict", data := .dict #[] }).update x fun o => { cls := o.cls, dict := some h.objs.size, data := o.data, slots := o.slots }).Ns h.objs.size (fun _ => none) :=
        ⟨_, #[], _, hgd, rfl, fun e he => absurd he (by simp), fun _ => rfl⟩
      show wpAny _ _ (storeInDict h.objs.size (.str name tk) name v) _ _ _
      unfold storeInDict newKeyGuard
      refine wpAny_bind (wpAny_pure (wpAny_bind (wpAny_nsSet1 (Heap.Ns1.of_empty hnd) fun h' hn' hs => ?_)))
      obtain ⟨oD, esD, epD, hoD, hdD, hcD⟩ := hn'.count (Within.cons name v Within.nil)
      refine wpAny_bind (wpAny_lookBehind hoD (by rw [hdD]; exact pastItsLine_dict (Nat.le_trans hcD (by rw [List.length_cons, List.length_nil, sizeLine_eq]; omega))) ?_)
      wp_walk
      have hx' : h'.get? x = some { cls := o.cls, dict := some h.objs.size, data := o.data, slots := o.slots } := ?_
      refine hq h' _ ⟨{ cls := o.cls, dict := some h.objs.size, data := o.data, slots := o.slots }, hx', hc, hnc, .inr ⟨h.objs.size, rfl, hxs.symm, ?_⟩⟩ (fun b ob hbx _ hb => ?_)
        (fun o₀ h₀ => by obtain rfl : o = o₀ := Option.some.inj (hx.symm.trans h₀); exact ⟨_, hx', rfl, rfl, rfl, fun dx e => (by rw [hdn] at e; cases e), fun _ => rfl⟩)
      · obtain ⟨o', es, ep, e1, e2, e3, eu, e4⟩ := hn'
        exact ⟨o', es, ep, e1, e2, e3, eu, fun y => by rw [e4 y]; by_cases hy : y = name <;> simp [hy, hmA]⟩
      · exact (hs.2 b (Nat.ne_of_lt (Heap.lt_size hb))).trans ((Heap.get?_update_ne _ _ _ _ hbx).trans (Heap.get?_push_of_some _ hb))
      · refine (hs.2 x hxs).trans (Heap.get?_update_self _ hx₁ ?_)
        have hfr := (Heap.get?_some_iff.mp hx).2
        obtain ⟨oc, od, odt, osl⟩ := o
        cases odt <;> first | rfl | exact hfr
  · rw [hdx]
    refine wpAny_pure ?_
    show wpAny _ _ (storeInDict dx (.str name tk) name v) _ _ _
    unfold storeInDict newKeyGuard
    refine wpAny_bind (wpAny_pure (wpAny_bind (wpAny_nsSet1 hns fun h' hn' hs => ?_)))
    obtain ⟨oD, esD, epD, hoD, hdD, hcD⟩ := hn'.count (Within.cons name v hw)
    refine wpAny_bind (wpAny_lookBehind hoD (by rw [hdD]; exact pastItsLine_dict (Nat.le_trans hcD (by rw [List.length_cons]; omega))) ?_)
    wp_walk
    refine hq h' _ ⟨o, (hs.2 x hne.symm).trans hx, hc, hnc, .inr ⟨dx, hdx, hne, hn'⟩⟩ (fun b ob _ hbd hb => ?_)
      (fun o₀ h₀ => ⟨o₀, (hs.2 x hne.symm).trans h₀, rfl, rfl, rfl, fun _ e => e, fun e => by obtain rfl : o = o₀ := Option.some.inj (hx.symm.trans h₀); rw [hdx] at e; cases e⟩)
    exact (hs.2 b (hbd o dx hx hdx)).trans hb
theorem check_sa_x {M : Model} {o : Obj} {nameV : Value} {Q : Unit → Shared → Prop} (T : OverV bm)
    (hC : h.get? C = some (excClassObj nm q C N bs bm true sn sub ab col dd k0 k1 k2 k3 k5 "ValueError.__new__")) (hx : h.get? x = some o) (hc : o.cls = .ref C) (hq : Q () ⟨h, g, d, t, os⟩) :
    wpAny M A (checkBuiltinCall "object.__setattr__" ⟨[.ref x, nameV, v], []⟩) Q E ⟨h, g, d, t, os⟩ := by
  have SF := PySem.F.store_ValueError
  have hcB : (Value.ref C :: bm).contains (.type "object") = true := by rw [List.contains_cons, T.has SF.hasOwner, Bool.or_true]
  have ha := SF.args (.ref x) nameV v
  simp only [checkBuiltinCall, SF.kind, SF.split]
  refine wpAny_bind ?_
  · unfold isInstance
    repeat (first | (with_reducible refine wpAny_loadPart_at hx ?_; rw [hc]) | (with_reducible refine wpAny_isSubtype_exc hC ?_; rw [hcB]) | wp_step)
    exact hq
theorem store_x {Q : Unit → Shared → Prop} {ns : List Str} (T : OverV bm)
    (hC : h.get? C = some (excClassObj nm q C N bs bm true sn sub ab col dd k0 k1 k2 k3 k5 "ValueError.__new__")) (hsa : PySem.W.Looks (model prog w) h (typeLookup (.ref C) "__setattr__") (some (.builtin "object.__setattr__")))
    (hna : PySem.W.Looks (model prog w) h (typeLookup (.ref C) name) none) (hxC : x ≠ C) (I : h.Inst x C mA)
    (hq : ∀ h' tk', h'.Inst x C (fun y => if y = name then some v else mA y) →
      (∀ b o, b ≠ x → (∀ o₀ dx, h.get? x = some o₀ → o₀.dict = some dx → b ≠ dx) → h.get? b = some o → h'.get? b = some o) →
      (∀ o₀, h.get? x = some o₀ → ∃ o₁, h'.get? x = some o₁ ∧ o₁.cls = o₀.cls ∧ o₁.data = o₀.data ∧ o₁.slots = o₀.slots ∧ (∀ dx, o₀.dict = some dx → o₁.dict = some dx) ∧ (o₀.dict = none → o₁.dict = some h.objs.size)) → Q () ⟨h', g, d, tk', os⟩) (hw : Within mA ns) (hsz : ns.length ≤ sizeLine) :
    wpAny (model prog w) A (setAttr (.ref x) name v) Q E ⟨h, g, d, t, os⟩ := by
  obtain ⟨o, hx, hc, _⟩ := id I
  have SF := PySem.F.store_ValueError
  have f3 := SF.slot.bind (.ref x)
  unfold setAttr callSpecial? specialOf
  repeat (any_goals (first | assumption | (with_reducible refine wpAny_loadPart_at hx ?_; rw [hc]) | with_reducible refine hsa.at ?_ | wp_step))
  refine codeAny_call_builtin SF.slot.plain SF.entry (check_sa_x T hC hx hc (store_entry_x T hC hna hxC I (fun h' tk' I' hk hsame => ?_) hw hsz))
  repeat (any_goals (first | assumption | wp_step))
  exact hq h' tk' I' hk hsame
end
section
variable {prog : Program} {w : World} {A : Around} {E : Value → Shared → Prop} {h : Heap} {g : Array GenState} {d : Drawn} {t : Nat} {os : OsState} {K : PySem.W.Frag}
variable {nm q : Str} {C N x : Addr} {bs bm : List Value} {sn : List Str} {sub : List Value} {ab : Bool} {col : Option Bool} {dd : Option Addr} {k0 k1 k2 k3 k5 : Option Value}
  {name : Str} {v : Value} {ox : Obj} {od : Option Obj}
theorem check_ga_x {M : Model} {nameV : Value} {Q : Unit → Shared → Prop} (T : OverV bm) (hC : h.get? C = some (excClassObj nm q C N bs bm true sn sub ab col dd k0 k1 k2 k3 k5 "ValueError.__new__"))
    (hx : h.get? x = some ox) (hc : ox.cls = .ref C) (hq : Q () ⟨h, g, d, t, os⟩) : wpAny M A (checkBuiltinCall "BaseException.__getattribute__" ⟨[.ref x, nameV], []⟩) Q E ⟨h, g, d, t, os⟩ := by
  have hk : builtinKind "BaseException.__getattribute__" = some .slot := by decide +kernel
  have hsplit : splitId "BaseException.__getattribute__" = some ("BaseException", "__getattribute__") := by decide +kernel
  have hcB : (Value.ref C :: bm).contains (.type "BaseException") = true := by rw [List.contains_cons, T.has (b := true) (by decide +kernel)]; rfl
  have ha := F.args_bexc_ga (.ref x) nameV
  simp only [checkBuiltinCall, hk, hsplit]
  refine wpAny_bind ?_
  · unfold isInstance
    repeat (first | (with_reducible refine wpAny_loadPart_at hx ?_; rw [hc]) | (with_reducible refine wpAny_isSubtype_exc hC ?_; rw [hcB]) | wp_step)
    exact hq
theorem load_x {expr : Bool} {Q : Value → Shared → Prop} (T : OverV bm) (hC : h.get? C = some (excClassObj nm q C N bs bm true sn sub ab col dd k0 k1 k2 k3 k5 "ValueError.__new__")) (X : K.In h)
    (hga : PySem.W.findIn K (.ref C) "__getattribute__" = some (some (.builtin "BaseException.__getattribute__"))) (hgt : PySem.W.findIn K (.ref C) "__getattr__" = some none)
    (I : PySem.W.InstAt h x ox C od) (hf : PySem.W.findObj K C od name = some (.value v)) (hh : PySem.W.handedIn v = true) (hq : Q v ⟨h, g, d, t + 1, os⟩) :
    wpAny (model prog w) A (getAttr (.ref x) name expr) Q E ⟨h, g, d, t, os⟩ := by
  have FB := PySem.F.attrBase_ValueError
  have f3 := FB.ga.bind (.ref x)
  have hx0 : (expr && onTheHeap (Value.builtin "BaseException.__getattribute__")) = false := by cases expr <;> rfl
  have hx2 : (Value.builtin "BaseException.__getattribute__" == Value.builtin "object.__getattribute__") = false := by decide +kernel
  have hx1 : (onTheHeap (Value.ref C) && Value.builtin "BaseException.__getattribute__" == Value.builtin "object.__getattribute__") = false := by rw [hx2]; rfl
  have L0 := I.type (M := model prog w)
  have L1 := PySem.W.looks_findIn (M := model prog w) X hga
  have L2 := PySem.W.looks_findIn (M := model prog w) X hgt
  have L3 := PySem.W.looks_find (M := model prog w) X I hf
  unfold getAttr getAttrBy
  refine wpAny_bind (wpAny_mkText (wpAny_holding (wpAny_bind (L0.at (wpAny_bind (L1.at ?_))))))
  dsimp only
  rw [hx1, if_neg (by decide)]
  unfold getAttrByItsOwn
  have ho : hookBefore (.ref C) = typeLookup (.ref C) "__getattr__" := rfl
  rw [ho]
  refine wpAny_bind (L2.at (wpAny_bind (wpAny_attempt (wpAny_holding ?_))))
  unfold callGetattribute
  rw [hx0, if_neg (by decide)]
  unfold boundAndCalled
  rw [f3]
  refine wpAny_bind (wpAny_pure ?_)
  refine wpAny_call (codeAny_call_builtin FB.ga.plain F.entry_bexc_ga (check_ga_x T hC I.at_ I.cls ?_))
  unfold Builtin.«object.__getattribute__»
  repeat (first | with_reducible refine L0.at ?_ | with_reducible refine L3.at ?_ | wp_step)
  show wpAny _ _ (handedOut v) _ _ _
  rw [PySem.W.handedOut_of hh]
  exact wpAny_pure hq
end
end PySem

set_option Elab.async false
set_option linter.all false
set_option maxRecDepth 100000
namespace L2
open PySem PySem.Spec PyProof.Rows
/-! ### exceptions in the abstract heap -/
def XObj (a C : Addr) (d : Option Addr) (vs : Array Value) : HO := .ext fun h => ∃ sl, h.get? a = some ⟨.ref C, d, .fields vs, sl⟩
def XDct (dx : Addr) (fs : List (Str × V)) : HO := .ext fun h => ∃ mA, h.Ns1 dx mA ∧ (∀ f, RelO (fs.lookup f) (mA f)) ∧ PySem.Within mA (fs.map (·.1))
section
variable {P : Program} {w : World} {H : Hp} {h : Heap} {a C dx : Addr} {d : Option Addr} {vs : Array Value} {fs : List (Str × V)}
theorem xobj_get (ok : HOk P w H h) (e : H a = some (XObj a C d vs)) : ∃ sl, h.get? a = some ⟨.ref C, d, .fields vs, sl⟩ := (ok a _ e).1
theorem xdct_get (ok : HOk P w H h) (e : H dx = some (XDct dx fs)) : ∃ mA, h.Ns1 dx mA ∧ (∀ f, RelO (fs.lookup f) (mA f)) ∧ PySem.Within mA (fs.map (·.1)) := (ok dx _ e).1
theorem xobj_ok {sl : Array (Option Value)} (e : h.get? a = some ⟨.ref C, d, .fields vs, sl⟩) : ObjOk P w H h a (XObj a C d vs) := ⟨⟨sl, e⟩, ⟨_, e⟩, fun h1 h2 ⟨z, q⟩ k => ⟨z, k _ q⟩⟩
theorem xdct_ok {mA : Str → Option Value} (n : h.Ns1 dx mA) (r : ∀ f, RelO (fs.lookup f) (mA f)) (wi : PySem.Within mA (fs.map (·.1))) : ObjOk P w H h dx (XDct dx fs) := by
  refine ⟨⟨mA, n, r, wi⟩, ?_, fun h1 h2 ⟨m, ⟨o, es, ep, e, c⟩, r, wi⟩ k => ⟨m, ⟨o, es, ep, k _ e, c⟩, r, wi⟩⟩
  obtain ⟨o, _, _, e, _⟩ := n
  exact ⟨o, e⟩
end
section
variable {X : Cx} {pins : List (Addr × Obj)} {σ : St} {H : Hp} {s : Shared} {h' : Heap}
theorem Inv.two {a dx : Addr} {o o' : HO} {φ : Heap → Prop} {t' : Nat} (I : Inv X pins σ H s) (mu : H a = some (.ext φ)) (hdx : s.heap.objs.size ≤ dx) (k : ∀ b u, b ≠ a → s.heap.get? b = some u → h'.get? b = some u) (ha : ∃ u, h'.get? a = some u)
    (n1 : ObjOk X.prog X.w (upd (upd H dx o) a o') h' dx o) (n2 : ObjOk X.prog X.w (upd (upd H dx o) a o') h' a o') : Inv X pins σ (upd (upd H dx o) a o') { s with heap := h', toks := t' } := by
  have hn : H dx = none := I.hok.fresh hdx
  have up : ∀ b, b ≠ a → b ≠ dx → upd (upd H dx o) a o' b = H b := fun b h1 h2 => by rw [upd_ne h1, upd_ne h2]
  have nea : ∀ b u, H b = some u → (∀ φ, u ≠ .ext φ) → b ≠ a ∧ b ≠ dx := fun b u e hu => ⟨fun z => by rw [z, mu] at e; exact hu φ (Option.some.inj e).symm, ne_of_none e hn⟩
  refine I.un ⟨fun b ob e n _ _ => k b ob (fun z => by rw [z, mu] at n; cases n) e, fun b ob e n _ _ => ⟨ob.slots, k b ob (fun z => by rw [z, mu] at n; cases n) e⟩, fun b ob e n _ => ?_, fun b ob e _ => ?_, fun b xs e => ?_, fun b ob u e => ?_, fun b ps e => ⟨#[], ?_⟩⟩ fun b u e => ?_
  · rw [up b (fun z => by rw [z, mu] at n; cases n) fun z => absurd (Nat.lt_of_lt_of_le (Heap.lt_size e) (z ▸ hdx)) (Nat.lt_irrefl _)]; exact n
  · by_cases q : b = a
    · rw [q]; exact ha
    · exact ⟨ob, k b ob q e⟩
  · have q := nea b _ e (fun _ z => by cases z); rw [up b q.1 q.2]; exact e
  · have q := nea b _ e (fun _ z => by cases z); rw [up b q.1 q.2]; exact e
  · have q := nea b _ e (fun _ z => by cases z); rw [up b q.1 q.2, e]; simp
  · by_cases q : b = a
    · rw [q, upd_same] at e; cases e; rw [q]; exact n2
    · by_cases q2 : b = dx
      · rw [q2] at q; rw [q2, upd_ne q, upd_same] at e; cases e; rw [q2]; exact n1
      · rw [up b q q2] at e
        refine (I.hok b u e).stay (fun c v hc z => k c v (fun y => ?_) z) (fun c z => ?_) fun c xs z => ?_
        · rcases hc with hc | hc
          · exact q (hc ▸ y)
          · rw [y, mu] at hc; cases hc
        · have q := nea c _ z (fun _ z => by cases z); rw [up c q.1 q.2]; exact z
        · have q := nea c _ z (fun _ z => by cases z); rw [up c q.1 q.2]; exact z
theorem Inv.inst {a C : Addr} {d : Option Addr} {vs : Array Value} {bm : List Value} (I : Inv X pins σ H s) (e : H a = some (XObj a C d vs)) (xc : XC X.K C bm) : a ≠ C := by
  obtain ⟨nm, q, N, bs, sn, sub, ab, col, dd, k0, k1, k2, k3, k5, hl⟩ := xc.at_
  have hC := I.kIn _ _ hl
  obtain ⟨sl, ha⟩ := xobj_get I.hok e
  rintro rfl
  rw [hC] at ha
  cases ha
/-- behind a store -/
def XSt (H : Hp) (a C : Addr) (d : Option Addr) (vs : Array Value) (f : Str) (y : V) (G : Hp → Prop) : Prop := match d with
  | none => ∀ dx, H dx = none → dx ≠ a → G (upd (upd H dx (XDct dx [(f, y)])) a (XObj a C (some dx) vs))
  | some dx => ∃ fs, H dx = some (XDct dx fs) ∧ fs.length < 100 ∧ G (upd H dx (XDct dx (putF f y fs)))
/-- o.f = e, o an exception -/
theorem setattr_x {A : Around} {E : Value → Shared → Prop} {a C : Addr} {d : Option Addr} {vs : Array Value} {f : Str} {y : V} {u : Value} {Q : Unit → Shared → Prop} (I : Inv X pins σ H s) (e : H a = some (XObj a C d vs)) (xa : XA X.K C) (n : NoAttr X.K C f) (ry : RelV y u)
    (h : XSt H a C d vs f y fun H' => ∀ s', Inv X pins σ H' s' → Q () s') : wpAny (model X.prog X.w) A (setAttr (.ref a) f u) Q E s := by
  obtain ⟨bm, xc⟩ := xa.bm
  have hne := I.inst e xc
  obtain ⟨nm, q, N, bs, sn, sub, ab, col, dd, k0, k1, k2, k3, k5, hl⟩ := xc.at_
  obtain ⟨sl, ha⟩ := xobj_get I.hok e
  have K := I.kIn
  have L1 := PySem.W.looks_findIn (M := model X.prog X.w) K xa.sa
  have L2 := PySem.W.looks_findIn (M := model X.prog X.w) K (show PySem.W.findIn X.K (.ref C) f = some none from n)
  have hC := K _ _ hl
  obtain ⟨hh, g, dr, t, os⟩ := s
  cases d with
  | none =>
    refine store_x (mA := fun _ => none) (ns := []) xc.ov hC L1 L2 hne ⟨_, ha, rfl, fun c z => (by cases z), .inl ⟨rfl, fun _ => rfl⟩⟩ (fun h' tk' inst k same => ?_) PySem.Within.nil (by decide)
    obtain ⟨o1, e1, c1, d1, s1, _, d2⟩ := same _ ha
    have d2 := d2 rfl
    obtain ⟨o2, e2, _, _, z⟩ := inst
    rw [e1] at e2; cases e2
    have hd : hh.objs.size ≠ a := Nat.ne_of_gt (Heap.lt_size ha)
    refine h hh.objs.size (I.hok.fresh (Nat.le_refl _)) hd _ (I.two (t' := tk') (h' := h') e (Nat.le_refl _) (fun b u hb z => k b u hb (fun o₀ dx h0 hdx => by rw [ha] at h0; cases h0; cases hdx) z) ⟨_, e1⟩ ?_ ?_)
    · rcases z with ⟨z, _⟩ | ⟨d3, z, _, ns⟩
      · rw [d2] at z; cases z
      · rw [d2] at z; cases z
        refine xdct_ok ns (fun g => ?_) fun g hg => ?_
        · show RelO (List.lookup g [(f, y)]) (if g = f then some u else none)
          by_cases q : g = f
          · have hb : (g == f) = true := beq_iff_eq.mpr q
            simp only [List.lookup, hb, if_pos q]; exact ry
          · have hb : (g == f) = false := beq_eq_false_iff_ne.mpr q
            simp only [List.lookup, hb, if_neg q]; exact True.intro
        · by_cases q : g = f
          · rw [q]; simp
          · exact absurd (if_neg q) hg
    · obtain ⟨oc, od, odt, osl⟩ := o1
      dsimp only at c1 d1 s1 d2
      rw [c1, d1, s1, d2] at e1
      exact xobj_ok e1
  | some dx =>
    obtain ⟨fs, ed, hl', h⟩ := h
    obtain ⟨mA, n1, r, wi⟩ := xdct_get I.hok ed
    have hda : dx ≠ a := fun z => by
      obtain ⟨o, es, ep, e1, e2, _⟩ := n1
      rw [z, ha] at e1; cases e1; cases e2
    refine store_x (mA := mA) (ns := fs.map (·.1)) xc.ov hC L1 L2 hne ⟨_, ha, rfl, fun c z => (by cases z), .inr ⟨dx, rfl, hda, n1⟩⟩ (fun h' tk' inst k same => ?_) wi (by rw [List.length_map, sizeLine_eq]; omega)
    obtain ⟨o1, e1, c1, d1, s1, d2, _⟩ := same _ ha
    have d2 := d2 dx rfl
    obtain ⟨o2, e2, _, _, z⟩ := inst
    rw [e1] at e2; cases e2
    obtain ⟨oc, od, odt, osl⟩ := o1
    dsimp only at c1 d1 s1 d2
    rw [c1, d1, s1, d2] at e1
    have ns : h'.Ns1 dx (fun y => if y = f then some u else mA y) := by
      rcases z with ⟨z, _⟩ | ⟨d3, z, _, ns⟩
      · have z : od = none := z
        rw [d2] at z; cases z
      · have z : od = some d3 := z
        rw [d2] at z; cases z; exact ns
    refine h _ (I.write (x := dx) (e := dx) (t' := tk') (h' := h') (by rw [ed]; exact True.intro) (.inl rfl) (fun b u hb z => ?_) (by obtain ⟨o, _, _, e, _⟩ := ns; exact ⟨o, e⟩) (xdct_ok ns (fun g => ?_) fun g hg => ?_))
    · by_cases q : b = a
      · rw [q] at z ⊢
        have z : hh.get? a = some u := z
        rw [ha] at z; cases z; exact e1
      · exact k b u q (fun o₀ dx' h0 hdx => by rw [ha] at h0; cases h0; cases hdx; exact hb) z
    · show RelO ((putF f y fs).lookup g) (if g = f then some u else mA g)
      rw [lookup_putF]
      by_cases q : g = f
      · rw [if_pos q, if_pos q]; exact ry
      · rw [if_neg q, if_neg q]; exact r g
    · by_cases q : g = f
      · rw [q]; exact (keys_putF f y fs).1
      · refine (keys_putF f y fs).2 g (wi g fun z => hg ?_)
        show (if g = f then some u else mA g) = none
        rw [if_neg q]; exact z
/-- e.f, e an exception -/
theorem getattr_x {A : Around} {E : Value → Shared → Prop} {a C dx : Addr} {vs : Array Value} {fs : List (Str × V)} {f : Str} {v : V} {b : Bool} {Q : Value → Shared → Prop} (I : Inv X pins σ H s) (e : H a = some (XObj a C (some dx) vs)) (ed : H dx = some (XDct dx fs)) (xa : XA X.K C) (n : NoAttr X.K C f)
    (l : fs.lookup f = some v) (h : ∀ u s', Inv X pins σ H s' → RelV v u → Q u s') : wpAny (model X.prog X.w) A (getAttr (.ref a) f b) Q E s := by
  obtain ⟨bm, xc⟩ := xa.bm
  obtain ⟨nm, q, N, bs, sn, sub, ab, col, dd, k0, k1, k2, k3, k5, hl⟩ := xc.at_
  obtain ⟨sl, ha⟩ := xobj_get I.hok e
  obtain ⟨mA, n1, r, wi⟩ := xdct_get I.hok ed
  obtain ⟨u, hu, ru⟩ := RelO.some_of (v := v) (o := mA f) (by rw [← l]; exact r f)
  obtain ⟨od, J, hlk⟩ := lookIn_ns n1
  have K := I.kIn
  have hC := K _ _ hl
  have hh : PySem.W.hasDictIn X.K C = true := by
    unfold PySem.W.hasDictIn PySem.W.clsIn
    rw [hl]; rfl
  obtain ⟨hp, g, dr, t, os⟩ := s
  exact load_x (ox := ⟨.ref C, some dx, .fields vs, sl⟩) (od := some od) xc.ov hC K xa.ga xa.gt ⟨ha, rfl, rfl, J⟩ (PySem.W.findObj_own hh n rfl (by rw [hlk, hu])) (handed_of ru) (h u _ (I.tok _) ru)
end
/-! ### fields of exceptions -/
def sXf (K : PySem.W.Frag) (ta tv : TE) (f : Str) : TS := fun D σ H => tv σ H fun y H1 => ta σ H1 fun x H2 => ∃ (a C : Addr) (d : Option Addr) (vs : Array Value), x = .ref a ∧ H2 a = some (XObj a C d vs) ∧ XA K C ∧ NoAttr K C f ∧ XSt H2 a C d vs f y (D.nx σ)
def tXf (K : PySem.W.Frag) (ta : TE) (f : Str) : TE := fun σ H Q => ta σ H fun x H1 => ∃ (a C dx : Addr) (vs : Array Value) (fs : List (Str × V)) (v : V), x = .ref a ∧ H1 a = some (XObj a C (some dx) vs) ∧ H1 dx = some (XDct dx fs) ∧ XA K C ∧ NoAttr K C f ∧ fs.lookup f = some v ∧ Q v H1
section
variable {X : Cx} {e o value : Expr} {ta tv : TE} {f : Str} {pos pos' : Pos}
theorem pe_xf (he : PE X e ta) (hb : attributeBase e f X.env (eval e X.env) = eval e X.env := by rfl) : PE X (.Attribute e f pos) (tXf X.K ta f) := by
  intro pins s σ H Q I h
  refine attr_of hb (thn (he pins s σ H _ I h) fun u s1 ⟨x, H1, I1, rx, a, C, dx, vs, fs, v, ex, ea, ed, c, n, l, q⟩ => ?_)
  subst ex
  obtain rfl : u = Value.ref a := rx
  exact getattr_x I1 ea ed c n l fun u' s2 I2 ru => ⟨v, H1, I2, ru, q⟩
theorem ps_xf (ha : PE X o ta) (hv : PE X value tv) (hs : swapsWith value (some (.Attribute o f pos')) pos.line X.env = pure false := by rfl) : PS X (.Assign [.Attribute o f pos'] value pos) (sXf X.K ta tv f) := by
  intro pins s σ H D I h
  refine plainObj_wpAny_Assign_Attribute (thn (hv pins s σ H _ I h) fun u s1 ⟨y, H1, I1, ry, q⟩ => thn (ha pins s1 σ H1 _ I1 q) fun ov s2 ⟨x, H2, I2, rx, a, C, d, vs, ex, ea, c, n, q2⟩ => ?_) hs
  subst ex
  obtain rfl : ov = Value.ref a := rx
  refine setattr_x I2 ea c n ry ?_
  cases d with
  | none => exact fun dx h1 h2 s3 I3 => ⟨σ, _, I3, q2 dx h1 h2⟩
  | some dx =>
    obtain ⟨fs, h1, h2, q2⟩ := q2
    exact ⟨fs, h1, h2, fun s3 I3 => ⟨σ, _, I3, q2⟩⟩
end
end L2

set_option Elab.async false
set_option linter.all false
set_option maxRecDepth 100000
namespace PySem
open Sem (wp)
open L2 (OverV)
section
variable {M : Model} {A : Around} {E : Value → Shared → Prop} {env : Env}
variable {nm q : Str} {C N : Addr} {bs bm : List Value} {sn : List Str} {sub : List Value} {ab : Bool} {col : Option Bool} {dd : Option Addr} {k0 k1 k2 k3 k5 : Option Value}
theorem raise_made_x {s : Shared} {x : Sem Value} {Q : Flow → Shared → Prop} (T : OverV bm) (hh : A.handled = none)
    (h : wpAny M A x (fun v s₁ => ∃ e vs d sl, v = .ref e ∧ s₁.heap.get? C = some (excClassObj nm q C N bs bm true sn sub ab col dd k0 k1 k2 k3 k5 "ValueError.__new__") ∧
      s₁.heap.get? e = some ⟨.ref C, d, .fields vs, sl⟩ ∧ vs[1]? = some .none ∧ E (.ref e) s₁) E s) :
    wpAny M A (raiseStmt env (some x) none) Q E s := by
  have hcB : (Value.ref C :: bm).contains (.type "BaseException") = true := by rw [List.contains_cons, T.has (b := true) (by decide +kernel), Bool.or_true]
  unfold raiseStmt
  refine wpAny_bind (wpAny_mono h (fun v s₁ h₁ => ?_) fun _ _ x => x)
  obtain ⟨e, vs, d, sl, rfl, hC, he, h1, hE⟩ := h₁
  obtain ⟨hp, g, dr, tk, os⟩ := s₁
  unfold setFlight
  repeat (first | with_reducible refine wpAny_loadPart_at he ?_ | with_reducible refine wpAny_loadPart_at hC ?_ | (with_reducible refine wpAny_isSubtype_exc hC ?_; rw [hcB]) | with_reducible refine wpAny_field he rfl h1 ?_ | wp_step)
  exact wpAny_raiseNew_none hh hE
end
end PySem
namespace L2
open PySem PySem.Spec PyProof.Rows
/-! ### an exception is made and raised -/
def unt (H : Hp) (a : Addr) : Hp := fun b => if b = a then none else H b
theorem unt_same {H : Hp} {a : Addr} : unt H a a = none := if_pos rfl
theorem unt_ne {H : Hp} {a b : Addr} (h : b ≠ a) : unt H a b = H b := if_neg h
structure XMk (K : PySem.W.Frag) (C f : Addr) : Prop where
  init : PySem.W.findIn K (.ref C) "__init__" = some (some (.ref f))
  fn : PySem.W.isFn K (.ref f) = true
  kp : PySem.W.keepIn K (.ref C) = true
  xa : XA K C
section
variable {X : Cx} {pins : List (Addr × Obj)} {σ : St} {H : Hp} {s : Shared}
theorem Inv.drop {a : Addr} {φ : Heap → Prop} (I : Inv X pins σ H s) (e : H a = some (.ext φ)) : Inv X pins σ (unt H a) s := by
  have nea : ∀ b u, H b = some u → (∀ φ, u ≠ .ext φ) → b ≠ a := fun b u h hu z => by rw [z, e] at h; exact hu φ (Option.some.inj h).symm
  have nn : ∀ b, H b = none → unt H a b = none := fun b h => by
    by_cases q : b = a
    · rw [q]; exact unt_same
    · rw [unt_ne q]; exact h
  refine ⟨I.ok, I.os, I.bare, ⟨I.base.keep, I.base.slot, fun b o q n hx => nn b (I.base.free b o q n hx), I.base.there, fun b xs q => ?_, fun b o u q => ?_, fun b ps q => ?_⟩, I.loc, I.cell, nn _ I.free, fun x c q => nn _ (I.freeC x c q), fun p hp => ?_, fun b u q => ?_, I.len⟩
  · have z := I.base.tups b xs q; rw [unt_ne (nea b _ z fun _ y => by cases y)]; exact z
  · have z := I.base.frzs b o u q; rw [unt_ne (nea b _ z fun _ y => by cases y)]; exact z
  · obtain ⟨m, z⟩ := I.base.tbls b ps q; exact ⟨m, by rw [unt_ne (nea b _ z fun _ y => by cases y)]; exact z⟩
  · obtain ⟨p1, p2, p3⟩ := I.pin p hp; exact ⟨p1, nn _ p2, p3⟩
  · by_cases z : b = a
    · rw [z, unt_same] at q; cases q
    · rw [unt_ne z] at q
      refine (I.hok b u q).stay (fun c v _ y => y) (fun c y => ?_) fun c xs y => ?_
      · rw [unt_ne (nea c _ y fun _ w => by cases w)]; exact y
      · rw [unt_ne (nea c _ y fun _ w => by cases w)]; exact y
theorem run_makeX {C f : Addr} {k : Nat} {fd : FuncData} {ps : List Str} {sp : Sp} {us : List Value} {vs : List V} {Q : Addr → Array Value → Hp → Prop} (M : XMk X.K C f) (F : FnOk X.prog X.w X.K X.mg X.base CX0 k f fd ps sp) (hr : Room (k + 1) X.A) (hb : Binds X.K fd ps [])
    (I : Inv X pins σ H s) (r : Vals vs us) (hl : vs.length ≤ 1000) (h : ∀ a v0, H a = none → sp (.ref a :: vs) (upd H a (XObj a C none v0)) (fun v H2 => v = .non ∧ Q a v0 H2) E0) :
    wpAny (model X.prog X.w) X.A (call (.ref C) us) (fun u s' => ∃ a v0 H2, u = .ref a ∧ s.heap.objs.size ≤ a ∧ v0[1]? = some Value.none ∧ Inv X pins σ H2 s' ∧ Q a v0 H2) X.xe s := by
  obtain ⟨bm, xc⟩ := M.xa.bm
  obtain ⟨nm, q, N, bs, sn, sub, ab, col, dd, k0, k1, k2, k3, k5, hlk⟩ := xc.at_
  have hC := I.kIn _ _ hlk
  have I2 : Inv X pins σ (upd H (s.heap.objs.size + 1) (XObj (s.heap.objs.size + 1) C none #[.ref s.heap.objs.size, .none, .none, .none, .bool false, .none]))
      { s with heap := (s.heap.push { cls := .type "tuple", data := .seq us.toArray }).push { cls := .ref C, data := .fields #[.ref s.heap.objs.size, .none, .none, .none, .bool false, .none] } } := by
    refine I.laid (t' := s.toks) (fun b u e => Heap.get?_push_of_some _ (Heap.get?_push_of_some _ e)) (Nat.le_succ _) (xobj_ok (sl := #[]) ?_)
    have := Heap.get?_push_size (s.heap.push { cls := .type "tuple", data := .seq us.toArray }) (o := { cls := .ref C, data := .fields #[.ref s.heap.objs.size, .none, .none, .none, .bool false, .none] }) rfl
    rwa [Heap.size_push] at this
  have hq := h (s.heap.objs.size + 1) #[.ref s.heap.objs.size, .none, .none, .none, .bool false, .none] (I.hok.fresh (Nat.le_succ _))
  have r2 : Vals (V.ref (s.heap.objs.size + 1) :: vs) (Value.ref (s.heap.objs.size + 1) :: us) := .cons rfl r
  have hlp : (Value.ref (s.heap.objs.size + 1) :: us).length = ps.length := by rw [← r2.length]; exact F.len _ _ _ _ hq
  have hb' := hb _ (Value.ref (s.heap.objs.size + 1) :: us) I2.kIn (by rw [List.append_nil]; exact hlp)
  rw [List.append_nil] at hb'
  have L1 := PySem.W.looks_findIn (M := model X.prog X.w) I.kIn M.init
  have L2 : ∀ self, PySem.W.Looks (model X.prog X.w) s.heap (bindSpecial (.ref f) self) (.ref f, [self]) := fun self => PySem.W.bind_fn I.kIn self (beq_iff_eq.mp M.fn)
  have hlu : us.length ≤ sizeLine := by rw [← r.length, sizeLine_eq]; omega
  obtain ⟨hh, g, dr, t, os⟩ := s
  refine make_x xc.ov hC L1 L2 hlu (wpAny_call (codeAny_mono (F.run _ X.stack _ _ ⟨Value.ref (hh.objs.size + 1) :: us, []⟩ (Value.ref (hh.objs.size + 1) :: us) _ _ E0 (hr.make C us []) (I2.env0.make C us []) hb' r2 hq) fun r s' hq' => ?_))
  cases r with
  | error e => exact False.elim hq'
  | ok fl =>
    cases fl with
    | ret u =>
      obtain ⟨v, H', I3, rv, ev, q3⟩ := I2.after hq'
      subst ev
      exact ⟨rv, _, _, H', rfl, Nat.le_succ _, rfl, I3, q3⟩
    | next => exact False.elim hq'
    | brk => exact False.elim hq'
    | cont => exact False.elim hq'
end
def tRaise (C : Addr) (sp : Sp) (EX : St → XK) (t : TA) : TS := fun _ σ H => t σ H fun vs H1 => vs.length ≤ 1000 ∧ ∀ a v0, H1 a = none →
  sp (.ref a :: vs) (upd H1 a (XObj a C none v0)) (fun v H2 => v = .non ∧ ∃ d, H2 a = some (XObj a C d v0) ∧ EX σ (.ref C) d (unt H2 a)) E0
/-- a class that may be raised: its __init__ -/
def HasC (P : Program) (w : World) (K : PySem.W.Frag) (mg : Str → Option Value) (base : Heap) (k : Nat) (x : Str) (C : Addr) (ps : List Str) (sp : Sp) : Prop :=
  ∃ (f : Addr) (fd : FuncData), XMk K C f ∧ FnOk P w K mg base CX0 k f fd ps sp ∧ mg x = some (.ref C) ∧ Binds K fd ps []
theorem ps_raise {X : Cx} {EX : St → XK} {k j : Nat} {C : Addr} {ps : List Str} {sp : Sp} {x : Str} {p cpos pos : Pos} {e : Expr} {es : List Expr} {t : TA} (h : HasC X.prog X.w X.K X.mg X.base k x C ps sp) (L : Lands X EX) (hc : X.calm = true) (hr : Room j X.A) (hkj : k + 1 ≤ j)
    (ha : PA X (e :: es) t) (hg : Gl X x := by rfl) (h1 : isStar e = false := by rfl) (h2 : es.all (fun e => !isStar e) = true := by rfl) (hdb : (x == ("__debug__" : Str)) = false := by decide) :
    PS X (.Raise (some (.Call (.Name x p) (e :: es) [] cpos)) none pos) (tRaise C sp EX t) := by
  obtain ⟨f, fd, M, F, hm, hb⟩ := h
  obtain ⟨bm, xc⟩ := M.xa.bm
  obtain ⟨nm, q, N, bs, sn, sub, ab, col, dd, k0, k1, k2, k3, k5, hlk⟩ := xc.at_
  intro pins s σ H D I h
  rw [arm_exec_Raise]
  refine wpAny_bind (wpAny_standAt (raise_made_x (C := C) (nm := nm) (q := q) (N := N) (bs := bs) (sn := sn) (sub := sub) (ab := ab) (col := col) (dd := dd) (k0 := k0) (k1 := k1) (k2 := k2) (k3 := k3) (k5 := k5) xc.ov (I.ok.hd hc) ?_))
  refine wpAny_bind (wpAny_mono (wpAny_Call_Name_kw (ld_glob I hg hm ?_ hdb)) (fun v s₃ h₃ => wpAny_bind (wpAny_standAt (wpAny_pure h₃))) fun _ _ x => x)
  refine PySem.W.callWith_K (h₀ := X.base) I.ok.mod.kin M.kp (thn (ha cpos pins s σ H _ I h) fun us s1 ⟨vs, H1, I1, r, hl, q⟩ => ⟨I1.kIn, ?_⟩) (star1 h1) (star_any h2)
  refine thn (run_makeX M F (hr.mono hkj) hb I1 r hl q) fun u s2 ⟨a, v0, H2, eu, hlo, hv, I2, d, ea, hE⟩ => ?_
  subst eu
  obtain ⟨sl, hget⟩ := xobj_get I2.hok ea
  have I3 := I2.drop ea
  refine ⟨a, v0, d, sl, rfl, I2.kIn _ _ hlk, hget, hv, ?_⟩
  refine L pins σ _ _ a none (.ref C) d I3 ⟨⟨v0, sl, hget, hv⟩, fun b hb => ?_⟩ (fun p hp hc => ?_) hE
  · rcases List.mem_singleton.mp hb with rfl
    exact ⟨Nat.le_trans I1.sz hlo, unt_same⟩
  · rcases List.mem_singleton.mp hc with e
    have z := (I2.pin p (List.mem_append_left _ hp)).2.1
    rw [e, ea] at z; cases z
/-! ### the promise of an __init__ that keeps its fields -/
def spXi (K : PySem.W.Frag) (fs : List Str) : Sp := fun vs H Q _ => ∃ (a C : Addr) (v0 : Array Value) (us : List V), vs = .ref a :: us ∧ us.length = fs.length ∧ H a = some (XObj a C none v0) ∧ XA K C ∧ (∀ f ∈ fs, NoAttr K C f) ∧
  ∀ dx, H dx = none → dx ≠ a → Q .non (upd (upd H dx (XDct dx (fs.zip us))) a (XObj a C (some dx) v0))
theorem unt_upd {H : Hp} {a b : Addr} {o1 o2 o3 : HO} (h : b ≠ a) (hn : H a = none) : unt (upd (upd (upd H a o1) b o2) a o3) a = upd H b o2 := by
  funext c
  by_cases q1 : c = a
  · rw [q1, unt_same, upd_ne (Ne.symm h), hn]
  · rw [unt_ne q1, upd_ne q1]
    by_cases q2 : c = b
    · rw [q2, upd_same, upd_same]
    · rw [upd_ne q2, upd_ne q2, upd_ne q1]
/-- raised: what is wanted of the exception, its fields in its dict -/
theorem w_raise {K : PySem.W.Frag} {C : Addr} {fs : List Str} {EX : St → XK} {t : TA} {D : Ends} {σ : St} {H : Hp} (xa : XA K C) (hn : ∀ f ∈ fs, NoAttr K C f)
    (h : t σ H fun vs H1 => vs.length = fs.length ∧ fs.length ≤ 2 ∧ ∀ dx, H1 dx = none → EX σ (.ref C) (some dx) (upd H1 dx (XDct dx (fs.zip vs)))) (hm : ∀ (Q Q' : List V → Hp → Prop), (∀ vs H1, Q vs H1 → Q' vs H1) → t σ H Q → t σ H Q') : tRaise C (spXi K fs) EX t D σ H := by
  refine hm _ _ (fun vs H1 hq => ?_) h
  obtain ⟨hl, h2, hq⟩ := hq
  refine ⟨by omega, fun a v0 ha => ⟨a, C, v0, vs, rfl, hl, upd_same, xa, hn, fun dx hd hne => ⟨rfl, some dx, upd_same, ?_⟩⟩⟩
  rw [unt_upd hne ha]
  refine hq dx ?_
  rw [upd_ne hne] at hd
  exact hd
end L2

set_option Elab.async false
set_option linter.all false
set_option maxRecDepth 100000
namespace PySem
open Sem (wp)
open L2 (OverV)
theorem excMatches_x {M : Model} {A : Around} {E : Value → Shared → Prop} {nm q nm' q' : Str} {C N D N' : Addr} {bs bm bs' bm' : List Value} {sn sn' : List Str} {sub sub' : List Value} {ab ab' : Bool} {col col' : Option Bool} {dd dd' : Option Addr} {k0 k1 k2 k3 k5 k0' k1' k2' k3' k5' : Option Value}
    {h : Heap} {g : Array GenState} {d : Drawn} {t : Nat} {os : OsState} {e : Addr} {oe : Obj} {Q : Bool → Shared → Prop} (TD : OverV bm')
    (hC : h.get? C = some (excClassObj nm q C N bs bm true sn sub ab col dd k0 k1 k2 k3 k5 "ValueError.__new__")) (hD : h.get? D = some (excClassObj nm' q' D N' bs' bm' true sn' sub' ab' col' dd' k0' k1' k2' k3' k5' "ValueError.__new__"))
    (he : h.get? e = some oe) (hcls : oe.cls = .ref C) (hin : (Value.ref C :: bm).contains (.ref D) = true) (hq : Q true ⟨h, g, d, t, os⟩) : wpAny M A (excMatches (.ref e) (.ref D)) Q E ⟨h, g, d, t, os⟩ := by
  have hcB : (Value.ref D :: bm').contains (.type "BaseException") = true := by rw [List.contains_cons, TD.has (b := true) (by decide +kernel), Bool.or_true]
  have f := tc_notTuple
  unfold excMatches
  repeat (first | (with_reducible refine wpAny_loadPart_at he ?_; rw [hcls]) | with_reducible refine wpAny_loadPart_at hD ?_ | (with_reducible refine wpAny_isSubtype_exc hD ?_; rw [hcB]) | (with_reducible refine wpAny_isSubtype_exc hC ?_; rw [hin]) | wp_step)
  exact hq
end PySem
namespace L2
open PySem PySem.Spec PyProof.Rows
/-! ### try, except -/
abbrev Cx.tr (X : Cx) (pn : List (Addr × Obj)) (xe : Value → Shared → Prop) : Cx := { X with pn := pn, xe := xe }
abbrev Cx.hdl (X : Cx) (a : Addr) : Cx := { X with A := X.A.mark (some (.ref a)), calm := false, xe := fun _ _ => False }
section
variable {X : Cx} {pins q : List (Addr × Obj)} {σ : St} {H : Hp} {s : Shared} {xe : Value → Shared → Prop}
theorem Cx.Ok.tr (ok : X.Ok) (pn : List (Addr × Obj)) (xe : Value → Shared → Prop) : (X.tr pn xe).Ok :=
  ⟨ok.mod, ok.kind, ok.glob, ok.blt, ok.above, ok.inj, ok.has, ok.cab, ok.hd, ok.frames, ok.stk, ok.exf, ok.bs, ok.bsz, ok.noex, ok.exfs, ok.funs, ok.frf⟩
theorem Cx.Ok.untr {pn : List (Addr × Obj)} (ok : (X.tr pn xe).Ok) : X.Ok :=
  ⟨ok.mod, ok.kind, ok.glob, ok.blt, ok.above, ok.inj, ok.has, ok.cab, ok.hd, ok.frames, ok.stk, ok.exf, ok.bs, ok.bsz, ok.noex, ok.exfs, ok.funs, ok.frf⟩
theorem Cx.Ok.hdl (ok : X.Ok) (a : Addr) : (X.hdl a).Ok :=
  ⟨ok.mod, ok.kind, ok.glob, ok.blt, ok.above, ok.inj, ok.has, ok.cab, fun z => (nomatch z), ok.frames, ok.stk, ok.exf, ok.bs, ok.bsz, ok.noex, ok.exfs, ok.funs, ok.frf⟩
theorem Inv.tr (I : Inv X pins σ H s) (xe : Value → Shared → Prop) : Inv (X.tr (X.pn ++ pins) xe) [] σ H s := ⟨I.ok.tr _ _, I.os, I.bare, I.base, I.loc, I.cell, I.free, I.freeC, fun p hp => I.pin p (by rw [List.append_nil] at hp; exact hp), I.hok, I.len⟩
theorem Inv.untr (I : Inv (X.tr (X.pn ++ pins) xe) q σ H s) : Inv X pins σ H s := ⟨I.ok.untr, I.os, I.bare, I.base, I.loc, I.cell, I.free, I.freeC, fun p hp => I.pin p (List.mem_append_left _ hp), I.hok, I.len⟩
theorem Inv.hdl (I : Inv X pins σ H s) (a : Addr) : Inv (X.hdl a) pins σ H s := ⟨I.ok.hdl a, I.os, I.bare, I.base, I.loc, I.cell, I.free, I.freeC, I.pin, I.hok, I.len⟩
theorem Inv.unhdl {a : Addr} (ok : X.Ok) (I : Inv (X.hdl a) pins σ H s) : Inv X pins σ H s := ⟨ok, I.os, I.bare, I.base, I.loc, I.cell, I.free, I.freeC, I.pin, I.hok, I.len⟩
theorem SP.untr {D : Ends} {f : Flow} (h : SP (X.tr (X.pn ++ pins) xe) q D f s) : SP X pins D f s := by
  cases f with
  | next => obtain ⟨σ', H', I, q⟩ := h; exact ⟨σ', H', I.untr, q⟩
  | brk => obtain ⟨σ', H', I, q⟩ := h; exact ⟨σ', H', I.untr, q⟩
  | cont => obtain ⟨σ', H', I, q⟩ := h; exact ⟨σ', H', I.untr, q⟩
  | ret u => obtain ⟨v, σ', H', I, r, q⟩ := h; exact ⟨v, σ', H', I.untr, r, q⟩
/-- what is on its way is no frame, no cell, no pin -/
theorem Inv.away {lo : Nat} {a : Addr} {T : Option Addr} {C fl : Value} {d : Option Addr} (I : Inv X pins σ H s) (F : Fly lo s.heap H a T C d fl) (hlo : X.s₀.heap.objs.size ≤ lo) (hp : ∀ p ∈ X.pn ++ pins, p.1 ∉ a :: T.toList) :
    ∀ b ∈ a :: T.toList, (b ∈ X.ex ∨ X.s₀.heap.objs.size ≤ b) ∧ b ≠ X.env.locals ∧ (∀ x c, X.env.cells.lookup x = some c → c ≠ b) ∧ ∀ p ∈ X.pn ++ pins, p.1 ≠ b := fun b hb => by
  obtain ⟨o, vs, e, hd⟩ := F.rcd b hb
  refine ⟨.inr (Nat.le_trans hlo (F.lo b hb).1), fun z => ?_, fun x c hc z => ?_, fun p hp' z => hp p hp' (z ▸ hb)⟩
  · obtain ⟨m, ⟨o', _, _, e', d', _⟩, _⟩ := I.loc
    rw [z] at e; rw [e'] at e; cases e; rw [d'] at hd; cases hd
  · obtain ⟨v, o', e', d'⟩ := I.cell x c hc
    rw [z, e] at e'; cases e'; rw [hd] at d'; cases d'
theorem Inv.newer {t : Addr} (I : Inv X pins σ H s) (ht : s.heap.objs.size ≤ t) : ∀ b ∈ [t], (b ∈ X.ex ∨ X.s₀.heap.objs.size ≤ b) ∧ b ≠ X.env.locals ∧ (∀ x c, X.env.cells.lookup x = some c → c ≠ b) ∧ ∀ p ∈ X.pn ++ pins, p.1 ≠ b := fun b hb => by
  rcases List.mem_singleton.mp hb with rfl
  have lt : ∀ c o, s.heap.get? c = some o → c ≠ b := fun c o e z => absurd (Nat.lt_of_lt_of_le (Heap.lt_size e) (z ▸ ht)) (Nat.lt_irrefl _)
  refine ⟨.inr (Nat.le_trans I.sz ht), fun z => ?_, fun x c hc => ?_, fun p hp => lt _ _ (I.pin p hp).1⟩
  · exact absurd (Nat.lt_of_lt_of_le I.lt (z ▸ ht)) (Nat.lt_irrefl _)
  · obtain ⟨v, o, e, _⟩ := I.cell x c hc
    exact lt c o e
/-- an object that is there gets tracked -/
theorem Inv.track {a : Addr} {o : HO} {ob : Obj} {vs : Array Value} (I : Inv X pins σ H s) (hn : H a = none) (e : s.heap.get? a = some ob) (hd : ob.data = .fields vs)
    (hch : (a ∈ X.ex ∨ X.s₀.heap.objs.size ≤ a) ∧ a ≠ X.env.locals ∧ (∀ x c, X.env.cells.lookup x = some c → c ≠ a) ∧ ∀ p ∈ X.pn ++ pins, p.1 ≠ a) (hx : a ∉ X.ex) (new : ObjOk X.prog X.w (upd H a o) s.heap a o) : Inv X pins σ (upd H a o) s := by
  have hlo : X.s₀.heap.objs.size ≤ a := hch.1.elim (fun z => absurd z hx) id
  have up : ∀ b, b ≠ a → upd H a o b = H b := fun b h => upd_ne h
  refine ⟨I.ok, I.os, I.bare, ⟨I.base.keep, I.base.slot, fun b ob q n hx => ?_, I.base.there, fun b xs q => ?_, fun b o u q => ?_, fun b ps q => ?_⟩, I.loc, I.cell, ?_, fun x c q => ?_, fun p hp => ?_, fun b u q => ?_, I.len⟩
  · rw [up b fun z => absurd (Nat.lt_of_lt_of_le (Heap.lt_size q) (z ▸ hlo)) (Nat.lt_irrefl _)]; exact I.base.free b ob q n hx
  · have z := I.base.tups b xs q; rw [up b (ne_of_none z hn)]; exact z
  · have z := I.base.frzs b o u q; rw [up b (ne_of_none z hn)]; exact z
  · obtain ⟨m, z⟩ := I.base.tbls b ps q; exact ⟨m, by rw [up b (ne_of_none z hn)]; exact z⟩
  · rw [up _ (Ne.symm hch.2.1)]; exact I.free
  · rw [up _ (hch.2.2.1 x c q)]; exact I.freeC x c q
  · obtain ⟨p1, p2, p3⟩ := I.pin p hp; exact ⟨p1, by rw [up _ (hch.2.2.2 p hp)]; exact p2, p3⟩
  · by_cases z : b = a
    · rw [z, upd_same] at q; cases q; rw [z]; exact new
    · rw [up b z] at q
      refine (I.hok b u q).stay (fun c v _ y => y) (fun c y => ?_) fun c xs y => ?_
      · rw [up c (ne_of_none y hn)]; exact y
      · rw [up c (ne_of_none y hn)]; exact y
/-- behind the suite the name goes -/
theorem goes_x {M : Model} {A : Around} {E : Value → Shared → Prop} {i : Nat} {n : Str} {pos : Pos} {Q : Unit → Shared → Prop} (I : Inv X pins σ H s) (hN : X.N.Nodup) (hi : X.N[i]? = some n) (hk : X.env.scope.names.lookup n = some .local)
    (h : ∀ s', Inv X pins (σ.set i none) H s' → Q () s') : wpAny M A (do bindName X.env n .none; unbindBehindTheSuite X.env n pos) Q E s := by
  have hcls : (X.env.scope.kind == .class || (X.env.scope.kind == .module && X.env.locals != X.env.globals)) = false := by rw [I.ok.kind]; rfl
  have hl : X.env.kindOf n = some .local := hk
  have hiσ : i < σ.length := by rw [I.len]; exact (List.getElem?_eq_some_iff.mp hi).1
  refine wpAny_bind (wpAny_bindName (store_ok (v := V.non) I hN hi (.inl hk) rfl (fun s1 I1 => ?_) (.inr hk)))
  obtain ⟨m, hn, hlo⟩ := id I1.loc
  obtain ⟨u, _, lk⟩ := hlo i n V.non hi (List.getElem?_set_self hiσ) (.inl hk)
  have hmn : m n = some u := by
    rcases lk with ⟨_, e⟩ | ⟨z, _⟩
    · exact e
    · rcases z with z | z <;> (rw [hl] at z; cases z)
  unfold unbindBehindTheSuite
  refine wpAny_onRaise ?_
  unfold unbindName
  refine wpAny_bind (wpAny_point (wpAny_bind ?_))
  unfold deleteName
  simp only [hl, hcls]
  rw [if_neg (by decide)]
  refine wpAny_bind (wpAny_nsDel_keeps hn fun h2 v hn2 hs => ?_)
  rw [hmn]
  simp only [if_true, Option.isSome_some, Bool.not_true, Bool.false_eq_true, if_false]
  refine wpAny_pure (wpAny_point (h _ ?_))
  have cne := I1.cne
  have tracked : HOk X.prog X.w H h2 := fun b ob e => by
    refine (I1.hok b ob e).stay (fun c w' hc q => (hs.2 c ?_).trans q) (fun _ q => q) fun _ _ q => q
    rintro rfl
    rcases hc with rfl | hc
    · rw [I1.free] at e; cases e
    · rw [I1.free] at hc; cases hc
  refine ⟨I1.ok, I1.os, I1.bare, ⟨fun b o e n hb hx => ?_, fun b o e n hb hx => ?_, I1.base.free, fun b o e hx => ?_, I1.base.tups, I1.base.frzs, I1.base.tbls⟩, ⟨_, hn2, fun j y v' e1 e2 e3 => ?_⟩, fun y c e => ?_, I1.free, I1.freeC, fun p hp => ?_, tracked, by simpa using I.len⟩
  · exact (hs.2 b (Nat.ne_of_lt (Nat.lt_of_lt_of_le (Heap.lt_size e) I1.ok.above))).trans (I1.base.keep b o e n hb hx)
  · obtain ⟨sl, e1⟩ := I1.base.slot b o e n hb hx
    exact ⟨sl, (hs.2 b (Nat.ne_of_lt (Nat.lt_of_lt_of_le (Heap.lt_size e) I1.ok.above))).trans e1⟩
  · obtain ⟨o', e1⟩ := I1.base.there b o e hx
    exact ⟨o', (hs.2 b (Nat.ne_of_lt (Nat.lt_of_lt_of_le (Heap.lt_size e) I1.ok.above))).trans e1⟩
  · by_cases hj : j = i
    · subst hj
      rw [List.getElem?_set_self hiσ] at e2
      cases e2
    · rw [List.getElem?_set_ne (Ne.symm hj)] at e2
      obtain ⟨u', r', q⟩ := hlo j y v' e1 (by rw [List.getElem?_set_ne (Ne.symm hj)]; exact e2) e3
      refine ⟨u', r', ?_⟩
      rcases q with ⟨k, e⟩ | ⟨k, c, e, z⟩
      · refine .inl ⟨k, ?_⟩
        have : y ≠ n := fun e => hj (nodup_ix hN e1 (e ▸ hi))
        simp [this, e]
      · exact .inr ⟨k, c, e, z.sameBut hs (cne y c e)⟩
  · obtain ⟨w', z⟩ := I1.cell y c e
    exact ⟨w', z.sameBut hs (cne y c e)⟩
  · obtain ⟨e, n, ne, nf, d⟩ := I1.pin p hp
    exact ⟨(hs.2 p.1 ne).trans e, n, ne, nf, d⟩
end
def unE (i : Nat) (D : Ends) : Ends := { nx := fun σ H => D.nx (σ.set i none) H, rt := D.rt, bk := fun σ H => D.bk (σ.set i none) H, ct := fun σ H => D.ct (σ.set i none) H }
/-- try: body, except D as (slot i): suite; what comes out of the body is a D -/
def tTry (K : PySem.W.Frag) (D : Addr) (i : Nat) (tb : (St → XK) → TS) (ts : TS) : TS := fun Dn σ H => tb (fun σ' C d H' => ∃ (c : Addr) (bm : List Value), C = .ref c ∧ XC K c bm ∧ (Value.ref c :: bm).contains (.ref D) = true ∧
  ∀ a vs, H' a = none → ts (unE i Dn) (σ'.set i (some (.ref a))) (upd H' a (XObj a c d vs))) Dn σ H
theorem ps_try {X : Cx} {D : Addr} {bmD : List Value} {x n : Str} {i : Nat} {body suite : List Stmt} {b₀ : Stmt} {tb : (St → XK) → TS} {ts : TS} {np hpos pos : Pos} (M : Nm X.N X.env.scope) (hst : X.stack = X.env :: X.outer) (hfr : X.env.frame = some X.env.locals) (hex : X.ex = [])
    (hm : X.mg x = some (.ref D)) (xd : XC X.K D bmD) (hi : X.N[i]? = some n) (hk : X.env.scope.names.lookup n = some .local)
    (hb : ∀ pn xe EX, PassesOwn (model X.prog X.w) X.A X.env xe → Lands (X.tr pn xe) EX → PSs (X.tr pn xe) body (tb EX)) (hs : ∀ a, PSs (X.hdl a) (b₀ :: suite) ts) (hg : Gl X x := by rfl) (hdb : (x == ("__debug__" : Str)) = false := by decide) :
    PS X (.Try body [.ExceptHandler (some (.Name x np)) (some n) (b₀ :: suite) hpos] [] [] pos) (tTry X.K D i tb ts) := by
  intro pins s σ H Dn I h
  refine wpAny_Try_except ?_
  have hL : ∀ EX : St → XK, (∀ σ' C d H', EX σ' C d H' → ∃ (c : Addr) (bm : List Value), C = .ref c ∧ XC X.K c bm ∧ (Value.ref c :: bm).contains (.ref D) = true ∧ ∀ a vs, H' a = none → ts (unE i Dn) (σ'.set i (some (.ref a))) (upd H' a (XObj a c d vs))) →
      Lands (X.tr (X.pn ++ pins) fun e s' => wpAny (model X.prog X.w) X.A (noteFrame e X.env) (fun _ s2 => wpAny (model X.prog X.w) X.A (setFlight e none) (fun _ s3 => wpAny (model X.prog X.w) X.A (handleBy e X.env [.ExceptHandler (some (.Name x np)) (some n) (b₀ :: suite) hpos]) (SP X pins Dn) X.xe s3) X.xe s2) X.xe s') EX := by
    intro EX hEX pins' σ' H' s' a T C d I1 F hp hE
    obtain ⟨c, bm, rfl, xc, hin, hts⟩ := hEX _ _ _ _ hE
    have I2 : Inv X pins σ' H' s' := I1.untr
    have hstk : s'.heap.FunFrames X.base (X.env :: X.outer) := by rw [← hst]; exact I2.stack
    have hfrs : ∀ b ∈ frs (X.env :: X.outer), H' b = none := by rw [← hst]; exact I2.stkFree
    show wpAny (model X.prog X.w) X.A (noteFrame (.ref a) X.env) _ X.xe s'
    refine note_x (by rw [I2.ok.frames, hst]) hstk hfr F I2.sz (fun b hb => I2.hok.fresh hb) fun h1 T1 F1 hT1 k1 k2 => ?_
    have aw := I2.away F (Nat.le_refl _) hp
    have I3 : Inv X pins σ' H' { s' with heap := h1 } := I2.call (g' := s'.gens) (d' := s'.drawn) (t' := s'.toks) (ch := a :: T.toList) (by rw [hst]; exact un_of k1 k2) (hok_un I2.hok k1 hfrs fun b hb => (F.lo b hb).2) I2.bare aw
    refine land_x (s := { s' with heap := h1 }) F1 fun h2 F2 k3 => ?_
    have nw := I2.newer hT1
    have I4 : Inv X pins σ' H' { s' with heap := h2 } := Inv.call (s := { s' with heap := h1 }) (h' := h2) (g' := s'.gens) (d' := s'.drawn) (t' := s'.toks) (ch := [T1]) I3 (un_of (h := h1) (fun b o q _ hc => k3 b o q fun z => hc (by simp [z])) fun b o q hc => ⟨o.slots, k3 b o q fun z => hc (by simp [z])⟩)
      (hok_un (h := h1) (fs := []) (ch := [T1]) I3.hok (fun b o q _ hc => k3 b o q fun z => hc (by simp [z])) (fun b hb => nomatch hb) fun b hb => by rcases List.mem_singleton.mp hb with rfl; exact I2.hok.fresh hT1) I2.bare nw
    obtain ⟨vs, sl, hget, _⟩ := F2.at_
    obtain ⟨nm, q, N, bs, sn, sub, ab, col, dd, k0, k1', k2', k3', k5, hlk⟩ := xc.at_
    obtain ⟨nm', q', N', bs', sn', sub', ab', col', dd', k0', k1'', k2'', k3'', k5', hlk'⟩ := xd.at_
    refine wpAny_handleBy_cons (codeAny_handlers_test (ld_glob (X := X.hdl a) (I4.hdl a) hg hm ?_ hdb)) (by intro z; cases z)
    refine excMatches_x xd.ov (I4.kIn _ _ hlk) (I4.kIn _ _ hlk') hget rfl hin ?_
    refine codeAny_handlers_suite_as ?_
    refine land_x (s := { s' with heap := h2 }) F2 fun h5 F5 k5' => ?_
    have I5 : Inv X pins σ' H' { s' with heap := h5 } := Inv.call (s := { s' with heap := h2 }) (h' := h5) (g' := s'.gens) (d' := s'.drawn) (t' := s'.toks) (ch := [T1]) I4 (un_of (h := h2) (fun b o q _ hc => k5' b o q fun z => hc (by simp [z])) fun b o q hc => ⟨o.slots, k5' b o q fun z => hc (by simp [z])⟩)
      (hok_un (h := h2) (fs := []) (ch := [T1]) I4.hok (fun b o q _ hc => k5' b o q fun z => hc (by simp [z])) (fun b hb => nomatch hb) fun b hb => by rcases List.mem_singleton.mp hb with rfl; exact I2.hok.fresh hT1) I2.bare nw
    obtain ⟨vs5, sl5, hget5, _⟩ := F5.at_
    have I6 : Inv X pins σ' (upd H' a (XObj a c d vs5)) { s' with heap := h5 } := I5.track (F.lo a List.mem_cons_self).2 hget5 rfl (aw a List.mem_cons_self) (by rw [hex]; exact fun z => nomatch z) (xobj_ok hget5)
    refine store_ok (X := X.hdl a) (v := V.ref a) (I6.hdl a) M.nd hi (.inl hk) rfl (fun s7 I7 => ?_) (.inr hk)
    have ok := I.ok
    refine wpAny_mono (hs a pins s7 _ _ _ I7 (hts a vs5 (F.lo a List.mem_cons_self).2)) (fun f s8 z => ?_) fun _ _ z => False.elim z
    cases f with
    | next =>
      obtain ⟨σ8, H8, I8, z⟩ := z
      exact goes_x (I8.unhdl ok) M.nd hi hk fun s9 I9 => ⟨_, H8, I9, z⟩
    | brk =>
      obtain ⟨σ8, H8, I8, z⟩ := z
      exact goes_x (I8.unhdl ok) M.nd hi hk fun s9 I9 => ⟨_, H8, I9, z⟩
    | cont =>
      obtain ⟨σ8, H8, I8, z⟩ := z
      exact goes_x (I8.unhdl ok) M.nd hi hk fun s9 I9 => ⟨_, H8, I9, z⟩
    | ret u =>
      obtain ⟨v, σ8, H8, I8, r, z⟩ := z
      exact goes_x (I8.unhdl ok) M.nd hi hk fun s9 I9 => ⟨v, _, H8, I9, r, z⟩
  refine wpAny_mono (hb (X.pn ++ pins) _ _ PassesOwn.looking (hL _ fun _ _ _ _ z => z) [] s σ H Dn (I.tr _) h) (fun f s1 z => ?_) fun _ _ z => z
  cases f with
  | next => exact wpAny_execs_nil z.untr
  | brk => exact z.untr
  | cont => exact z.untr
  | ret u => exact z.untr
end L2

set_option Elab.async false
set_option linter.all false
set_option maxRecDepth 100000
namespace PySem
open Sem (wp)
open Builtin Builtin.ObjectAttr
open L2 (OverV XC XA bmV)
section
variable {prog : Program} {w : World} {A : Around} {E : Value → Shared → Prop} {h : Heap} {g : Array GenState} {d : Drawn} {t : Nat} {os : OsState} {K : PySem.W.Frag}
variable {nm q : Str} {C N x : Addr} {bs bm : List Value} {sn : List Str} {sub : List Value} {ab : Bool} {col : Option Bool} {dd : Option Addr} {k0 k1 k2 k3 k5 : Option Value}
  {ox : Obj} {od : Option Obj}
theorem class_get_x {R : Result → Shared → Prop} (T : OverV bm) (hC : h.get? C = some (excClassObj nm q C N bs bm true sn sub ab col dd k0 k1 k2 k3 k5 "ValueError.__new__")) (hx : h.get? x = some ox) (hc : ox.cls = .ref C) (hq : R (.ok (.ret (.ref C))) ⟨h, g, d, t, os⟩) :
    codeAny (model prog w) A (.call (.builtin "getset_descriptor.__get__") ⟨[.builtin "object.__class__", .ref x, .ref C], []⟩) R ⟨h, g, d, t, os⟩ := by
  have hT5 : (⟨h, g, d, t, os⟩ : Shared).TypeIs (.builtin "object.__class__") "getset_descriptor" := F.typeOf_object_class
  have hcB : (Value.ref C :: bm).contains (.type (".".intercalate ("object.__class__".cutAt '.').dropLast)) = true := by
    rw [F.owner_object_class, List.contains_cons, T.has (b := true) (by decide +kernel)]; rfl
  refine codeAny_call_builtin F.slot_gs_get.plain F.entry_gs_get (F.slot_gs_get.check _ _ _ _ _ _ _ _ hT5 (F.args_gs_get _ _ _) ?_)
  repeat (any_goals (first | assumption | (with_reducible refine wpAny_loadPart_at hx ?_; rw [hc]) | (with_reducible refine wpAny_isSubtype_exc hC ?_; rw [hcB]) | wp_step))
  refine ⟨Code.quiet_builtin _ (by decide +kernel), codeAny_builtin F.entry_object_class ?_⟩
  repeat (any_goals (first | assumption | (with_reducible refine wpAny_loadPart_at hx ?_; rw [hc]) | wp_step))
theorem class_attr_x {Q : Option Value → Shared → Prop} (T : OverV bm) (hC : h.get? C = some (excClassObj nm q C N bs bm true sn sub ab col dd k0 k1 k2 k3 k5 "ValueError.__new__")) (X : K.In h)
    (hga : PySem.W.findIn K (.ref C) "__getattribute__" = some (some (.builtin "BaseException.__getattribute__"))) (hgt : PySem.W.findIn K (.ref C) "__getattr__" = some none)
    (I : PySem.W.InstAt h x ox C od) (hf : PySem.W.findObj K C od "__class__" = some (.bind (.builtin "getset_descriptor.__get__") (.builtin "object.__class__"))) (hq : Q (some (.ref C)) ⟨h, g, d, t + 1, os⟩) :
    wpAny (model prog w) A (getAttr? (.ref x) "__class__") Q E ⟨h, g, d, t, os⟩ := by
  have FB := PySem.F.attrBase_ValueError
  have f3 := FB.ga.bind (.ref x)
  have hx0 : (false && onTheHeap (Value.builtin "BaseException.__getattribute__")) = false := rfl
  have hx2 : (Value.builtin "BaseException.__getattribute__" == Value.builtin "object.__getattribute__") = false := by decide +kernel
  have hx1 : (onTheHeap (Value.ref C) && Value.builtin "BaseException.__getattribute__" == Value.builtin "object.__getattribute__") = false := by rw [hx2]; rfl
  have L0 := I.type (M := model prog w)
  have L1 := PySem.W.looks_findIn (M := model prog w) X hga
  have L2 := PySem.W.looks_findIn (M := model prog w) X hgt
  have L3 := PySem.W.looks_find (M := model prog w) X I hf
  unfold getAttr? getAttrBy? getAttrBy
  refine wpAny_bind (wpAny_mkText (wpAny_bind (wpAny_attempt (wpAny_holding (wpAny_bind (L0.at (wpAny_bind (L1.at ?_))))))))
  dsimp only
  rw [hx1, if_neg (by decide)]
  unfold getAttrByItsOwn
  have ho : hookBefore (.ref C) = typeLookup (.ref C) "__getattr__" := rfl
  rw [ho]
  refine wpAny_bind (L2.at (wpAny_bind (wpAny_attempt (wpAny_holding ?_))))
  unfold callGetattribute
  rw [hx0, if_neg (by decide)]
  unfold boundAndCalled
  rw [f3]
  refine wpAny_bind (wpAny_pure ?_)
  refine wpAny_call (codeAny_call_builtin FB.ga.plain F.entry_bexc_ga (check_ga_x T hC I.at_ I.cls ?_))
  unfold Builtin.«object.__getattribute__»
  repeat (first | with_reducible refine L0.at ?_ | with_reducible refine L3.at ?_ | wp_step)
  refine class_get_x T hC I.at_ I.cls ?_
  repeat (any_goals (first | assumption | wp_step))
end
end PySem

set_option Elab.async false
set_option linter.all false
set_option maxRecDepth 100000
namespace L2
open PySem PySem.Spec PyProof.Rows
/-! ### isinstance of an exception -/
theorem XC.cls {K : PySem.W.Frag} {C : Addr} {bm : List Value} (x : XC K C bm) : ∃ cd, PySem.W.clsIn K C = some cd ∧ cd.mro = .ref C :: bm ∧ PySem.W.typeIn K (.ref C) = some (.type "type") := by
  obtain ⟨nm, q, N, bs, sn, sub, ab, col, dd, k0, k1, k2, k3, k5, hl⟩ := x.at_
  refine ⟨{ name := nm, bases := bs, mro := .ref C :: bm, ns := N, qualname := q, hasDict := true, slotNames := sn, subclasses := sub, abstract := ab, collection := col, hasDel := false }, ?_, rfl, ?_⟩
  · unfold PySem.W.clsIn
    rw [hl]
  · unfold PySem.W.typeIn
    simp only [hl]
    rfl
theorem XC.mro {K : PySem.W.Frag} {C : Addr} {bm : List Value} (x : XC K C bm) (v : Value) : PySem.W.mroIn K C v = some ((Value.ref C :: bm).contains v) := by
  obtain ⟨cd, h1, h2, _⟩ := x.cls
  unfold PySem.W.mroIn
  rw [h1, Option.bind_some, h2, if_neg (by simp)]
theorem kit_xx {K : PySem.W.Frag} {C c : Addr} {bm bm' : List Value} (x : XC K C bm) (y : XC K c bm') : PySem.W.kitOne K (.ref C) (.ref c) = some ((Value.ref C :: bm).contains (.ref c)) := by
  obtain ⟨cd, h1, h2, h3⟩ := y.cls
  unfold PySem.W.kitOne
  by_cases q : (Value.ref C == Value.ref c) = true
  · rw [if_pos q, List.contains_cons]
    have : (Value.ref c == Value.ref C) = true := by rw [beq_iff_eq] at q ⊢; exact q.symm
    rw [this]; rfl
  · rw [if_neg q]
    unfold PySem.W.kitCls
    dsimp only
    rw [h1, h3, if_pos (by simp)]
    exact x.mro _
theorem kit_xv {K : PySem.W.Frag} {C : Addr} {bm : List Value} (x : XC K C bm) : PySem.W.kitOne K (.ref C) (.type "ValueError") = some true := by
  unfold PySem.W.kitOne
  rw [if_neg (by intro q; cases beq_iff_eq.mp q)]
  unfold PySem.W.kitCls
  dsimp only
  rw [if_pos (by decide +kernel)]
  show PySem.W.mroIn K C _ = _
  rw [x.mro, List.contains_cons, x.ov.has (b := true) (by decide +kernel), Bool.or_true]
theorem kitx_x {K : PySem.W.Frag} {C a : Addr} (xa : XA K C) : PySem.W.KitX K (.ref a) (.ref C) (fun h => ∃ ox od, PySem.W.InstAt h a ox C (some od)) := by
  obtain ⟨bm, xc⟩ := xa.bm
  obtain ⟨nm, q, N, bs, sn, sub, ab, col, dd, k0, k1, k2, k3, k5, hl⟩ := xc.at_
  obtain ⟨cd, h1, h2, h3⟩ := xc.cls
  refine ⟨fun M h X ⟨ox, od, I⟩ => I.type, fun M h X _ => ?_, fun h tp dd' its n sl X htp => ?_, fun {prog w A E Q s} X ⟨ox, od, I⟩ k => ?_⟩
  · intro A' Q' E' s' k z
    unfold isType loadHead
    exact wpAny_bind (wpAny_loadPart (k _ _ (X _ _ hl)) (wpAny_pure z))
  · refine Bool.eq_false_iff.mpr fun z => ?_
    have e : C = tp := Value.ref.inj (beq_iff_eq.mp z)
    subst e
    have z := (X _ _ hl).symm.trans htp
    have z2 := congrArg (fun o => Option.map Obj.cls o) z
    simp [excClassObj] at z2
  · obtain ⟨hp, g, d, t, os⟩ := s
    exact class_attr_x xc.ov (X _ _ hl) X xa.ga xa.gt I (PySem.W.findObj_data (by rw [h1]; rfl) xa.cl xa.sg xa.tk) k
section
variable {X : Cx} {pins : List (Addr × Obj)} {σ : St} {H : Hp} {s : Shared}
theorem Inv.instAt {a C dx : Addr} {vs : Array Value} {fs : List (Str × V)} (I : Inv X pins σ H s) (e : H a = some (XObj a C (some dx) vs)) (ed : H dx = some (XDct dx fs)) : ∃ ox od, PySem.W.InstAt s.heap a ox C (some od) := by
  obtain ⟨sl, ha⟩ := xobj_get I.hok e
  obtain ⟨mA, ⟨o, _, _, ho, _⟩, _⟩ := xdct_get I.hok ed
  exact ⟨_, o, ha, rfl, rfl, ho⟩
end
/-- isinstance(e, C), isinstance(e, ValueError) -/
def rIsX (K : PySem.W.Frag) : List V → Hp → VK → Prop := fun xs H Q => ∃ (a C dx : Addr) (vs : Array Value) (fs : List (Str × V)) (c : V) (b : Bool), xs = [.ref a, c] ∧ H a = some (XObj a C (some dx) vs) ∧ H dx = some (XDct dx fs) ∧ XA K C ∧
  (∀ u, RelV c u → PySem.W.kitOne K (.ref C) u = some b) ∧ Q (.bl b) H
/-- isinstance(e, (C, ..)) -/
def rIsXT (K : PySem.W.Frag) : List V → Hp → VK → Prop := fun xs H Q => ∃ (a C dx p : Addr) (vs : Array Value) (fs : List (Str × V)) (cs : List V) (b : Bool), xs = [.ref a, .ref p] ∧ H a = some (XObj a C (some dx) vs) ∧ H dx = some (XDct dx fs) ∧ XA K C ∧
  H p = some (.tup cs) ∧ (∀ us, Vals cs us → PySem.W.kitAny K (.ref C) us = some b) ∧ Q (.bl b) H
theorem call_isX {X : Cx} : CallR X (.builtin "isinstance") (rIsX X.K) := by
  intro pins s σ H xs us Q I r h
  obtain ⟨a, C, dx, vs, fs, c, b, rfl, ea, ed, xa, hk, q⟩ := h
  cases r with
  | cons r1 r2 =>
    obtain ⟨u, rfl, ru⟩ := Vals.one r2
    cases r1
    have hp := I.instAt ea ed
    exact PySem.W.kia_one (kitx_x xa) I.kIn hp (hk u ru) (fun z => nomatch z) fun tk => ⟨.bl b, H, I.kept (t' := tk) fun _ _ e => e, rfl, q⟩
theorem w_isX {K : PySem.W.Frag} {H : Hp} {Q : VK} {a C dx : Addr} {vs : Array Value} {fs : List (Str × V)} {c : V} {b : Bool} (ea : H a = some (XObj a C (some dx) vs)) (ed : H dx = some (XDct dx fs)) (xa : XA K C) (hk : ∀ u, RelV c u → PySem.W.kitOne K (.ref C) u = some b) (q : Q (.bl b) H) :
    rIsX K [.ref a, c] H Q := ⟨a, C, dx, vs, fs, c, b, rfl, ea, ed, xa, hk, q⟩
/-- a class by its name -/
theorem pe_cls {X : Cx} {x : Str} {pos : Pos} {C : Addr} (hm : X.mg x = some (.ref C)) (hg : Gl X x := by rfl) (hd : (x == ("__debug__" : Str)) = false := by decide) : PE X (.Name x pos) (tC (.ref C)) :=
  fun pins s σ H Q I h => ld_glob I hg hm ⟨.ref C, H, I, rfl, h⟩ hd
/-- repr of an int, in an except suite too -/
def rReprI : List V → Hp → VK → Prop := fun xs H Q => ∃ i, xs = [.int i] ∧ (PyData.int i).showable = true ∧ Q (.str (PyData.int i).shown) H
end L2

set_option Elab.async false
set_option linter.all false
set_option maxRecDepth 100000
namespace L2
open PySem PySem.Spec PyProof.Rows
/-! ### steps of readings -/
theorem w_callX {sp : Sp} {EX : St → XK} {t : TA} {σ : St} {H : Hp} {Q : VK} (h : t σ H fun vs H1 => sp vs H1 Q (EX σ)) : tCallX sp EX t σ H Q := h
theorem w_try {K : PySem.W.Frag} {D : Addr} {i : Nat} {tb : (St → XK) → TS} {ts : TS} {Dn : Ends} {σ : St} {H : Hp} (h : tb (fun σ' C d H' => ∃ (c : Addr) (bm : List Value), C = .ref c ∧ XC K c bm ∧ (Value.ref c :: bm).contains (.ref D) = true ∧
  ∀ a vs, H' a = none → ts (unE i Dn) (σ'.set i (some (.ref a))) (upd H' a (XObj a c d vs))) Dn σ H) : tTry K D i tb ts Dn σ H := h
theorem w_unE {i : Nat} {D : Ends} {σ : St} {H : Hp} (h : D.nx (σ.set i none) H) : (unE i D).nx σ H := h
theorem w_xf {K : PySem.W.Frag} {ta : TE} {f : Str} {σ : St} {H : Hp} {Q : VK} (h : ta σ H fun x H1 => ∃ (a C dx : Addr) (vs : Array Value) (fs : List (Str × V)) (v : V), x = .ref a ∧ H1 a = some (XObj a C (some dx) vs) ∧ H1 dx = some (XDct dx fs) ∧ XA K C ∧ NoAttr K C f ∧ fs.lookup f = some v ∧ Q v H1) : tXf K ta f σ H Q := h
theorem w_sxf {K : PySem.W.Frag} {ta tv : TE} {f : Str} {D : Ends} {σ : St} {H : Hp} (h : tv σ H fun y H1 => ta σ H1 fun x H2 => ∃ (a C : Addr) (d : Option Addr) (vs : Array Value), x = .ref a ∧ H2 a = some (XObj a C d vs) ∧ XA K C ∧ NoAttr K C f ∧ XSt H2 a C d vs f y (D.nx σ)) : sXf K ta tv f D σ H := h
/-! ### the rules where the context is a block's or a suite's -/
theorem isX_K {X : Cx} {K : PySem.W.Frag} (h : X.K = K) : CallR X (.builtin "isinstance") (rIsX K) := h ▸ call_isX
theorem pe_xfK {X : Cx} {K : PySem.W.Frag} {e : Expr} {ta : TE} {f : Str} {pos : Pos} (h : X.K = K) (he : PE X e ta) (hb : attributeBase e f X.env (eval e X.env) = eval e X.env := by rfl) : PE X (.Attribute e f pos) (tXf K ta f) := h ▸ pe_xf he hb
/-! ### own classes: where their defs stand -/
def methOf (s : Stmt) (i : Nat) : Stmt := match s with
  | .ClassDef _ _ _ body _ _ _ _ _ _ _ => body.getD i (.Pass ⟨0, 0, 0, 0⟩)
  | _ => .Pass ⟨0, 0, 0, 0⟩
/-- an exception of a class, its fields in its dict, behind an except -/
theorem XObj.ne {a C : Addr} {d : Option Addr} {vs : Array Value} {H : Hp} {b : Addr} (e : H a = some (XObj a C d vs)) (h : H b = none) : a ≠ b := ne_of_none e h
/-- the nine classes -/
structure XUni (K : PySem.W.Frag) (mg : Str → Option Value) (D : Addr) (cs : List (Str × Addr)) : Prop where
  base : XC K D bmV
  mD : mg "DropError" = some (.ref D)
  cls : ∀ c ∈ cs, mg c.1 = some (.ref c.2) ∧ XC K c.2 (.ref D :: bmV) ∧ XA K c.2
  nd : (D :: cs.map (·.2)).Nodup
theorem contains_D {D c : Addr} : (Value.ref c :: .ref D :: bmV).contains (.ref D) = true := by simp
end L2

set_option Elab.async false
set_option linter.all false
set_option maxRecDepth 100000
namespace L2
open PySem PySem.Spec PyProof.Rows
/-- enumerate over the list at a -/
def Itel (K : PySem.W.Frag) (a : Addr) : It :=
  ⟨fun i H => ∃ xs x, SqL K H a xs ∧ xs[i]? = some x, fun i H v H' => ∃ p x, v = .ref p ∧ H p = none ∧ H' = upd H p (.tup [.int (i : Int), x]) ∧ ∀ xs, SqL K H a xs → xs[i]? = some x, fun i H => ∃ xs, SqL K H a xs ∧ xs.length = i⟩
theorem turn_enl {P : Program} {w : World} {K : PySem.W.Frag} {es : List Expr} {kt : Nat} {pt : Pos} (a e it : Addr) (hei : e ≠ it) (hai : a ≠ it) (hae : a ≠ e) :
    Turn P w K (.Tuple es kt pt) (Itel K a) [e, it] e (fun i h => (∃ old, IsEnum h e it i old) ∧ h.IsListIter it a i) where
  mem := by simp
  obj := fun i h st b hb => by
    obtain ⟨⟨old, he⟩, o, eo, c, d⟩ := st
    rcases List.mem_cons.mp hb with rfl | hq
    · exact ⟨_, he, fun v z => by have z' : Data.fields _ = Data.cell v := z; cases z'⟩
    · rw [List.mem_singleton.mp hq]; exact ⟨o, eo, fun v z => by rw [d] at z; cases z⟩
  keep := fun i h h' st k => ⟨let ⟨old, he⟩ := st.1; ⟨old, k e (by simp) _ he⟩, st.2.at fun o x => k it (by simp) o x⟩
  item := by
    intro X hP hw hK hc i pins s σ H E I hf st hg
    subst hP hw hK
    obtain ⟨xs, x, hq, hx⟩ := hg
    obtain ⟨its, rv, p, hz⟩ := I.list hq
    obtain ⟨u, hu, ru⟩ := rv.get hx
    have W := WalksT.enumerateD (Draws.list (prog := X.prog) (w := X.w) (A := X.A.in1) (I.ok.hd hc) it a hai its.toArray) e hei (by simp [hei, Ne.symm hae]) (by simp)
    have hi : i < its.toArray.size := by
      have := (List.getElem?_eq_some_iff.mp hu).1
      simpa using this
    refine W.item i s _ E hi ⟨st.1, st.2, p.isList⟩ fun T vals h' tk hP hsz hT hM hk => ⟨.ref T, rfl, ?_⟩
    obtain ⟨t, x', hx', rfl⟩ := hP
    have ex : x' = u := by
      have : its[i]? = some x' := by simpa using hx'
      rw [this] at hu
      exact Option.some.inj hu
    subst ex
    refine W.go es kt pt i T { s with heap := h', toks := tk } _ E hM fun h'' hst hk2 => ?_
    obtain ⟨⟨old2, he2⟩, hit2, _⟩ := hst
    have hTw := W.apart i T h' hM
    obtain ⟨oT, eT, cT⟩ := hT
    have I2 : Inv X pins σ (upd H T (.tup [.int (i : Int), x])) { s with heap := h'', toks := tk } := I.turnNew (ch := [e, it]) hf (fun b o hb q => hk2 b o hb (hk b o hb q)) (fun b hb => by
      rcases List.mem_cons.mp hb with rfl | hq
      · exact ⟨_, he2⟩
      · rw [List.mem_singleton.mp hq]; obtain ⟨o, eo, _⟩ := hit2; exact ⟨o, eo⟩) hsz (vals := [.int i t, x']) (.cons ⟨t, rfl⟩ (.cons ru .nil)) (by show 2 ≤ sizeLine; decide) ⟨oT, hk2 T oT hTw eT, cT⟩
    refine ⟨.ref T, _, I2, rfl, ⟨T, x, rfl, I.hok.fresh hsz, rfl, fun ys hy => by rw [I.list_inj hy hq]; exact hx⟩, ⟨⟨old2, he2⟩, hit2⟩, fun b hb => ?_⟩
    rw [upd_ne (fun z => hTw (by rw [← z]; exact hb))]
    exact (hf b hb).1
  done := by
    intro X hP hw hK hc i pins s σ H E I hf st hg
    subst hP hw hK
    obtain ⟨xs, hq, hx⟩ := hg
    obtain ⟨its, rv, p, hz⟩ := I.list hq
    have hl := rv.length
    have W := WalksT.enumerateD (Draws.list (prog := X.prog) (w := X.w) (A := X.A.in1) (I.ok.hd hc) it a hai its.toArray) e hei (by simp [hei, Ne.symm hae]) (by simp)
    have ei : i = its.toArray.size := by rw [List.size_toArray]; omega
    subst ei
    exact W.done s _ E ⟨st.1, st.2, p.isList⟩ fun h' tk hk => ⟨rfl, I.turnOnly hf hk⟩
  self := fun _ _ s _ _ st h => by
    obtain ⟨⟨old, he⟩, _⟩ := st
    exact wpAny_pyIter_enum he h

section
variable {X : Cx} {es : List Expr} {kt : Nat} {pt : Pos}
def iEnl (K : PySem.W.Frag) (ta : TA) : TI := fun σ H R => ta σ H fun vs H1 => ∃ a, vs = [.ref a] ∧ (∃ xs, SqL K H1 a xs) ∧ R (Itel K a) H1
/-- for a, b in enumerate(t), t a list -/
theorem pi_enl {e : Expr} {ta : TA} {p pos : Pos} (hm : X.mg "enumerate" = none) (ha : PA X [e] ta) (hg : Gl X "enumerate" := by rfl) (h : isStar e = false := by rfl) : PI X (.Tuple es kt pt) (.Call (.Name "enumerate" p) [e] [] pos) (iEnl X.K ta) := by
  intro pins s σ H R I hh
  refine Call_ (ld_blt I hg hm boot_enumerate (PyProof.Rows.callWith_type1 (thn (ha pos pins s σ H _ I hh) fun us s1 ⟨vs, H1, I1, r1, q1⟩ => ?_) (star1 h) rfl))
  obtain ⟨a, rfl, ⟨xs, hq⟩, q⟩ := q1
  obtain ⟨u, rfl, ru⟩ := r1.one
  cases ru
  obtain ⟨its, rv, pl, hz⟩ := I1.list hq
  have hlt : a < s1.heap.objs.size := by
    obtain ⟨o, _, eo, _⟩ := pl
    exact Heap.lt_size eo
  refine call_enumerate_list (items := its.toArray) pl.isList fun h' he hi _ hk => wpAny_pyIter_enum he ?_
  refine ⟨_, [s1.heap.objs.size + 1, s1.heap.objs.size], _, _, H1, rfl, I1.kept (t' := s1.toks) hk, turn_enl a (s1.heap.objs.size + 1) s1.heap.objs.size (Nat.succ_ne_self _) (Nat.ne_of_lt hlt) (Nat.ne_of_lt (Nat.lt_of_lt_of_le hlt (Nat.le_succ _))), ⟨⟨_, he⟩, hi⟩, fun b hb => ?_, q⟩
  have hb' : s1.heap.objs.size ≤ b := by
    rcases List.mem_cons.mp hb with z | z
    · rw [z]; exact Nat.le_succ _
    · rw [List.mem_singleton.mp z]
      exact Nat.le_refl _
  exact I1.fpOk hb' (I1.hok.fresh hb')
end
end L2

set_option Elab.async false
set_option linter.all false
set_option maxRecDepth 100000
namespace L2
open PySem PySem.Spec PyProof.Rows
def isI (i : Int) : Value → Bool
  | .int a _ => a == i
  | _ => false
theorem map_erase (k : Nat) (xs : List Int) : (xs.map V.int).eraseIdx k = (xs.eraseIdx k).map V.int := by
  induction xs generalizing k with
  | nil => rfl
  | cons x xs ih => cases k with
    | zero => rfl
    | succ k => simp [ih]
section
variable {X : Cx}
/-- xs.remove(i), xs a list of ints -/
def rRem : V → List V → Hp → VK → Prop := fun x vs H Q => ∃ (l : Addr) (xs : List Int) (i : Int), x = .ref l ∧ vs = [.int i] ∧ H l = some (.lst (xs.map V.int)) ∧ i ∈ xs ∧ Q .non (upd H l (.lst ((xs.erase i).map V.int)))

end
theorem for_enl {K : PySem.W.Frag} {a : Addr} {xs : List V} {g : TG} {tb : TS} {D : Ends} {σ : St} {H : Hp} (Pv : Nat → St → Hp → Prop) (h0 : Pv 0 σ H) (hl : ∀ i σ H, Pv i σ H → SqL K H a xs)
    (hs : ∀ (i : Nat) (x : V) σ H p, xs[i]? = some x → Pv i σ H → H p = none → g (.ref p) σ (upd H p (.tup [.int (i : Int), x])) fun σ2 H2 => tb { D with nx := Pv (i + 1), ct := Pv (i + 1), bk := D.nx } σ2 H2) (hd : ∀ σ H, Pv xs.length σ H → D.nx σ H) :
    ForJ (Itel K a) g tb D σ H := by
  refine ⟨fun i m σ H => m = xs.length - i ∧ i ≤ xs.length ∧ Pv i σ H, ⟨xs.length, by simp, Nat.zero_le _, h0⟩, ?_⟩
  rintro i m σ H ⟨rfl, hi, p⟩
  have qa := hl i σ H p
  by_cases hlt : i < xs.length
  · refine .inr ⟨⟨xs, xs[i], qa, by simp [hlt]⟩, Pv (i + 1), fun σ' H' p' => ⟨xs.length - (i + 1), by omega, rfl, hlt, p'⟩, fun v H' yv => ?_⟩
    obtain ⟨q, x, rfl, hq, rfl, ex⟩ := yv
    exact hs i x σ H q (ex xs qa) p hq
  · have e : i = xs.length := by omega
    subst e
    exact .inl ⟨⟨xs, qa, rfl⟩, hd σ H p⟩
end L2

set_option Elab.async false
set_option linter.all false
set_option maxRecDepth 100000
namespace L2
open PySem PySem.Spec PyProof.Rows
/-! ### a def that a name holds is called -/
def tCallV (P : Program) (w : World) (K : PySem.W.Frag) (mg : Str → Option Value) (base : Heap) (j i : Nat) (EX : St → XK) (t : TA) : TE := fun σ H Q => ∃ (f : Addr) (fd : FuncData) (k : Nat) (ps : List Str) (sp : Sp), σ[i]? = some (some (.ref f)) ∧ k ≤ j ∧
  FnOk P w K mg base (CXE P w) k f fd ps sp ∧ PySem.W.keepIn K (.ref f) = true ∧ Binds K fd ps [] ∧ t σ H fun vs H1 => sp vs H1 Q (EX σ)
theorem pe_fV {X : Cx} {EX : St → XK} {j i : Nat} {x : Str} {p pos : Pos} {e : Expr} {es : List Expr} {t : TA} (M : Nm X.N X.env.scope) (L : Lands X EX) (hr : Room j X.A) (ha : PA X (e :: es) t) (hi : X.N[i]? = some x := by rfl) (h1 : isStar e = false := by rfl)
    (h2 : es.all (fun e => !isStar e) = true := by rfl) (hd : (x == ("__debug__" : Str)) = false := by decide) (hcd : (x == ("__classdict__" : Str)) = false := by decide) : PE X (.Call (.Name x p) (e :: es) [] pos) (tCallV X.prog X.w X.K X.mg X.base j i EX t) := by
  intro pins s σ H Q I h
  obtain ⟨f, fd, k, ps, sp, hσ, hkj, F, hk, hb, q⟩ := h
  refine wpAny_Call_Name_kw (thn (pvd M i hi hd hcd pins s σ H (fun v H' => v = .ref f ∧ H' = H) I ⟨_, hσ, rfl, rfl⟩) fun u s1 ⟨v, H', I1, rv, ev, eH⟩ => ?_)
  subst ev eH
  cases rv
  refine PySem.W.callWith_K (h₀ := X.base) I1.ok.mod.kin hk (thn (ha pos pins s1 σ _ _ I1 q) fun us s2 ⟨vs, H1, I2, r, q⟩ => ⟨I2.kIn, ?_⟩) (star1 h1) (star_any h2)
  exact run_fnX F (hr.mono hkj) hb L I2 r q
theorem w_callV {P : Program} {w : World} {K : PySem.W.Frag} {mg : Str → Option Value} {base : Heap} {j i : Nat} {EX : St → XK} {t : TA} {σ : St} {H : Hp} {Q : VK} {f : Addr} {fd : FuncData} {k : Nat} {ps : List Str} {sp : Sp} (hσ : σ[i]? = some (some (.ref f))) (hkj : k ≤ j)
    (F : FnOk P w K mg base (CXE P w) k f fd ps sp) (hk : PySem.W.keepIn K (.ref f) = true) (hb : Binds K fd ps []) (h : t σ H fun vs H1 => sp vs H1 Q (EX σ)) : tCallV P w K mg base j i EX t σ H Q := ⟨f, fd, k, ps, sp, hσ, hkj, F, hk, hb, h⟩
/-! ### enumerate of a tuple or of a list -/
def iEn2 (K : PySem.W.Frag) (ta : TA) : TI := fun σ H R => iEnu K ta σ H R ∨ iEnl K ta σ H R
theorem pi_en2 {X : Cx} {es : List Expr} {kt : Nat} {pt : Pos} {e : Expr} {ta : TA} {p pos : Pos} (hm : X.mg "enumerate" = none) (ha : PA X [e] ta) (hg : Gl X "enumerate" := by rfl) (h : isStar e = false := by rfl) : PI X (.Tuple es kt pt) (.Call (.Name "enumerate" p) [e] [] pos) (iEn2 X.K ta) :=
  fun pins s σ H R I q => q.elim (pi_enu hm ha hg h pins s σ H R I) (pi_enl hm ha hg h pins s σ H R I)
theorem for_enuX {K : PySem.W.Frag} {a : Addr} {xs : List V} {g : TG} {tb : TS} {D : Ends} {σ : St} {H : Hp} (Pv : Nat → St → Hp → Prop) (h0 : Pv 0 σ H) (hl : ∀ i σ H, Pv i σ H → SqT K H a xs)
    (hs : ∀ (i : Nat) (x : V) σ H p, xs[i]? = some x → Pv i σ H → H p = none → g (.ref p) σ (upd H p (.tup [.int (i : Int), x])) fun σ2 H2 => tb { D with nx := Pv (i + 1), ct := Pv (i + 1), bk := D.nx } σ2 H2) (hd : ∀ σ H, Pv xs.length σ H → D.nx σ H) :
    ForJ (Ite K a) g tb D σ H := by
  refine ⟨fun i m σ H => m = xs.length - i ∧ i ≤ xs.length ∧ Pv i σ H, ⟨xs.length, by simp, Nat.zero_le _, h0⟩, ?_⟩
  rintro i m σ H ⟨rfl, hi, p⟩
  have qa := hl i σ H p
  by_cases hlt : i < xs.length
  · refine .inr ⟨⟨xs, xs[i], qa, by simp [hlt]⟩, Pv (i + 1), fun σ' H' p' => ⟨xs.length - (i + 1), by omega, rfl, hlt, p'⟩, fun v H' yv => ?_⟩
    obtain ⟨q, x, rfl, hq, rfl, ex⟩ := yv
    exact hs i x σ H q (ex xs qa) p hq
  · have e : i = xs.length := by omega
    subst e
    exact .inl ⟨⟨xs, qa, rfl⟩, hd σ H p⟩
/-- a tuple or a list -/
def SqA (H : Hp) (a : Addr) (xs : List V) : Prop := H a = some (.tup xs) ∨ H a = some (.lst xs)
theorem SqA.same {H H' : Hp} {a : Addr} {xs : List V} (k : Same H H') (h : SqA H a xs) : SqA H' a xs := h.elim (fun z => .inl (k _ _ z)) fun z => .inr (k _ _ z)
/-- for i, x in enumerate(a), a a tuple or a list that stays -/
theorem for_en2 {K : PySem.W.Frag} {a : Addr} {xs : List V} {g : TG} {tb : TS} {D : Ends} {σ : St} {H : Hp} {i : Nat} (hσ : σ[i]? = some (some (.ref a))) (Pv : Nat → St → Hp → Prop) (hx : SqA H a xs) (h0 : Pv 0 σ H) (hl : ∀ i σ H', Pv i σ H' → H' a = H a)
    (hs : ∀ (i : Nat) (x : V) σ H p, xs[i]? = some x → Pv i σ H → H p = none → g (.ref p) σ (upd H p (.tup [.int (i : Int), x])) fun σ2 H2 => tb { D with nx := Pv (i + 1), ct := Pv (i + 1), bk := D.nx } σ2 H2) (hd : ∀ σ H, Pv xs.length σ H → D.nx σ H) :
    tFor (iEn2 K (tCons (tVar i) tNil)) g tb D σ H := by
  rcases hx with hx | hx
  · refine .inl ⟨_, hσ, a, rfl, ⟨_, SqT.of hx⟩, ?_⟩
    exact for_enuX Pv h0 (fun i σ H' p => SqT.of ((hl i σ H' p).trans hx)) hs hd
  · refine .inr ⟨_, hσ, a, rfl, ⟨_, SqL.of hx⟩, ?_⟩
    exact for_enl Pv h0 (fun i σ H' p => SqL.of ((hl i σ H' p).trans hx)) hs hd
end L2

set_option Elab.async false
set_option linter.all false
set_option maxRecDepth 100000
namespace L2
open PySem PySem.Spec PyProof.Rows
section
variable {X : Cx}
def rAny : List V → Hp → VK → Prop := fun xs H Q => ∃ (p : Addr) (bs : List Bool), xs = [.ref p] ∧ H p = some (.lst (bs.map V.bl)) ∧ Q (.bl (bs.any id)) H
def rMaxL : List V → Hp → VK → Prop := fun xs H Q => ∃ (p : Addr) (ns : List Int), xs = [.ref p] ∧ H p = some (.lst (ns.map V.int)) ∧ 0 < ns.length ∧ ∀ M, M ∈ ns → (∀ a ∈ ns, a ≤ M) → Q (.int M) H

/-- xs.insert(i, y), i at 0 or above -/
def rIns : V → List V → Hp → VK → Prop := fun x vs H Q => ∃ (l : Addr) (xs : List V) (i : Int) (y : V), x = .ref l ∧ vs = [.int i, y] ∧ H l = some (.lst xs) ∧ 0 ≤ i ∧ i ≤ xs.length ∧ xs.length < sizeLine ∧ Q .non (upd H l (.lst (xs.take i.toNat ++ y :: xs.drop i.toNat)))
end
end L2

set_option Elab.async false
set_option linter.all false
set_option maxRecDepth 100000
namespace L2
open PySem PySem.Spec PyProof.Rows
/-- zip over the lists at a and b -/
def Itzl (K : PySem.W.Frag) (a b : Addr) : It :=
  ⟨fun i H => ∃ xs ys x y, SqL K H a xs ∧ SqL K H b ys ∧ xs[i]? = some x ∧ ys[i]? = some y, fun i H v H' => ∃ p x y, v = .ref p ∧ H p = none ∧ H' = upd H p (.tup [x, y]) ∧ (∀ xs, SqL K H a xs → xs[i]? = some x) ∧ ∀ ys, SqL K H b ys → ys[i]? = some y,
    fun i H => ∃ xs ys, SqL K H a xs ∧ SqL K H b ys ∧ (xs.length ≤ i ∨ ys.length ≤ i)⟩
section
variable {X : Cx} {es : List Expr} {kt : Nat} {pt : Pos}
def iZpl (K : PySem.W.Frag) (ta : TA) : TI := fun σ H R => ta σ H fun vs H1 => ∃ a b, vs = [.ref a, .ref b] ∧ (∃ xs, SqL K H1 a xs) ∧ (∃ ys, SqL K H1 b ys) ∧ R (Itzl K a b) H1
end
section
variable {D : Addr} {te : TE} {tc : TT} {Q : VK} {ρ : St} {H : Hp}
end
end L2

set_option Elab.async false
set_option linter.all false
set_option maxRecDepth 100000
namespace G2
open PySem L2
end G2

set_option Elab.async false
set_option linter.all false
set_option maxRecDepth 100000
namespace K7
open PySem L2
local macro_rules | `(tactic| walk_at "v") => `(tactic| repeat (with_reducible first
  | refine w_seq ?_ | refine w_asg ?_ | refine w_gname ?_ | refine w_op ?_ | refine w_var rfl ?_ | refine w_c ?_ | refine w_rI0 ?_ | refine w_ifs ?_ | refine w_ife ?_ | refine w_test ?_ | refine w_tb ?_ | refine w_bl ?_ | refine w_not ?_ | refine w_ret ?_ | refine w_retN ?_
  | refine w_nil ?_ | refine w_cons ?_ | refine w_lst ?_ | refine w_tup ?_ | refine w_cb ?_ | refine w_call ?_ | refine w_gsub ?_ | refine w_and ?_ | refine w_or ?_ | refine w_next ?_ | refine w_all ?_ | refine w_vals ?_ | refine w_compR ?_ | refine w_compT ?_ | refine w_forR ?_ | refine w_forT ?_ | refine w_forL ?_ | refine w_drop ?_ | refine w_bm ?_ | refine w_compZ ?_ | refine w_compL ?_ | refine w_chain ?_ | refine w_sl ?_ | refine w_nopart ?_ | refine w_part ?_ | refine w_unI ?_ | refine iteT ?_ | refine iteF ?_))

abbrev sCan : Stmt := top 7
abbrev sGone : Stmt := top 8
abbrev sWalked : Stmt := top 10
abbrev sStands : Stmt := top 11
def Kn (mg : Str → Option Value) (x : Str) (i : Int) : Prop := ∃ t, mg x = some (Value.int i t)
theorem pe_k {X : Cx} {x : Str} {i : Int} {pos : Pos} (h : Kn X.mg x i) (hg : Gl X x := by rfl) (hd : (x == ("__debug__" : Str)) = false := by decide) : PE X (.Name x pos) (tC (.int i)) := by
  obtain ⟨t, e⟩ := h
  exact pe_glob hg e ⟨t, rfl⟩ hd
structure Blt8 (mg : Str → Option Value) : Prop extends Blt2 mg where
  zip : mg "zip" = none
  all : mg "all" = none
  repr : mg "repr" = none
  isi : mg "isinstance" = none
  vaE : mg "ValueError" = none
  enu : mg "enumerate" = none
  ruK : Kn mg "RULES" 1
  taK : Kn mg "TAKES" 0
  giK : Kn mg "GIVES" 1
/-- values out of two tuples, item by item -/
theorem zip_mapV {D : Addr} {te : TE} {Q : VK} {ρ : St} {H : Hp} {K : PySem.W.Frag} {a b : Addr} {xs ys : List Int} (g : Int → Int → V) (ha : H a = some (.tup (xs.map V.int))) (hb : H b = some (.tup (ys.map V.int))) (hlen : xs.length = ys.length) (hn : xs.length ≤ 1000)
    (step : ∀ (x y : Int) (H' : Hp), Same H H' → ∀ R : V → Hp → Prop, (∀ H'', Same H' H'' → R (g x y) H'') → te (some (.int x) :: some (.int y) :: ρ) H' R)
    (q : ∀ H', Same H H' → H' D = some (.lst (List.zipWith g xs ys)) → Q (.ref D) H') (hD : H D = none) : CGo (Itz K a b) D (gTup K 2 (gCons (gName 0) (gCons (gName 1) gNil))) tAll te Q (none :: none :: ρ) H := by
  refine cgo_zip (xs := xs.map V.int) (zs := ys.map V.int) (by simp [hlen]) (fun i zs H' => zs = (List.zipWith g xs ys).take i ∧ Same H H') ⟨rfl, Same.new (Same.refl H) hD⟩ (fun i zs H' _ ⟨_, k'⟩ => ⟨SqT.of (k' _ _ ha), SqT.of (k' _ _ hb)⟩) ?_ ?_
  · rintro i x z zs H' p hx hz ⟨rfl, K'⟩ hDz hp R S kR _
    have hi1 : i < xs.length := by
      have := (List.getElem?_eq_some_iff.mp hx).1
      simpa using this
    have hi2 : i < ys.length := by omega
    have ex : x = .int xs[i] := by
      rw [List.getElem?_map, List.getElem?_eq_getElem hi1] at hx
      exact (Option.some.inj hx).symm
    have ez : z = .int ys[i] := by
      rw [List.getElem?_map, List.getElem?_eq_getElem hi2] at hz
      exact (Option.some.inj hz).symm
    subst ex ez
    refine w_all ?_
    refine iteT ?_
    have hD' : upd H' p (.tup [.int xs[i], .int ys[i]]) D = some (.lst ((List.zipWith g xs ys).take i)) := by rw [upd_ne (ne_of_none hDz hp)]; exact hDz
    refine step _ _ _ (K'.new hp) R fun H'' K'' => ?_
    refine kR _ _ (K'' _ _ hD') (by rw [List.length_take]; exact small1000 (by omega)) ⟨?_, ((K'.new hp).trans K'').put hD⟩
    have hz' : (List.zipWith g xs ys)[i]? = some (g xs[i] ys[i]) := by simp [List.getElem?_zipWith, hi1, hi2]
    rw [List.take_add_one, hz']
    rfl
  · rintro zs H' ⟨rfl, K'⟩ hDz
    refine q H' K' ?_
    rw [hDz, List.take_of_length_le]
    simp
    omega
/-! ### rules by rows -/
abbrev Rows := List (List Int × List Int)
def Rls (H : Hp) (rs : List Addr) (tg : Rows) (m : Nat) : Prop := rs.length = tg.length ∧ ∀ (i : Nat) (r : Addr) (t g : List Int), rs[i]? = some r → tg[i]? = some (t, g) → t.length = m ∧ g.length = m ∧ (∀ x ∈ t, 0 ≤ x ∧ x ≤ 30) ∧ (∀ x ∈ g, 0 ≤ x ∧ x ≤ 30) ∧ ∃ a b, H r = some (.tup [.ref a, .ref b]) ∧ H a = some (.tup (t.map V.int)) ∧ H b = some (.tup (g.map V.int))
theorem Rls.same {H H' : Hp} {rs : List Addr} {tg : Rows} {m : Nat} (k : Same H H') (h : Rls H rs tg m) : Rls H' rs tg m := ⟨h.1, fun i r t g e1 e2 => let ⟨h1, h2, h3, h4, a, b, h5, h6, h7⟩ := h.2 i r t g e1 e2; ⟨h1, h2, h3, h4, a, b, k _ _ h5, k _ _ h6, k _ _ h7⟩⟩
theorem Rls.tk {H H' : Hp} {rs : List Addr} {tg : Rows} {m : Nat} (k : TK H H') (h : Rls H rs tg m) : Rls H' rs tg m := ⟨h.1, fun i r t g e1 e2 => let ⟨h1, h2, h3, h4, a, b, h5, h6, h7⟩ := h.2 i r t g e1 e2; ⟨h1, h2, h3, h4, a, b, k.t _ _ h5, k.t _ _ h6, k.t _ _ h7⟩⟩
theorem rls_of {H : Hp} {m : Nat} : ∀ (rs : List Addr), (∀ r ∈ rs, RuleAt m H r) → ∃ tg : Rows, Rls H rs tg m
  | [], _ => ⟨[], rfl, fun i r t g e => by simp at e⟩
  | r :: rs, h => by
    obtain ⟨tg, h1, h2⟩ := rls_of rs fun q hq => h q (List.mem_cons_of_mem _ hq)
    obtain ⟨a, b, e, ⟨ts, et, hl, hn⟩, ⟨gs, eg, hl', hn'⟩⟩ := h r List.mem_cons_self
    refine ⟨(ts, gs) :: tg, by simp [h1], fun i q t g e1 e2 => ?_⟩
    cases i with
    | zero =>
      simp at e1 e2
      obtain ⟨rfl, rfl⟩ := e2
      subst e1
      exact ⟨hl, hl', hn, hn', a, b, e, et, eg⟩
    | succ i => exact h2 i q t g (by simpa using e1) (by simpa using e2)
structure PotR (H : Hp) (p : Addr) (m : Nat) (tg : Rows) : Prop where
  ex : ∃ (ps pr pin pb : Addr) (ans : Int) (rs : List Addr), H p = some (.tup [.ref ps, .ref pr, .ref pin, .ref pb, .int ans]) ∧ H pr = some (.tup (rs.map V.ref)) ∧ Rls H rs tg m
  n8 : tg.length ≤ 8
  m8 : m ≤ 8
  m0 : 0 < m
theorem PotR.same {H H' : Hp} {p : Addr} {m : Nat} {tg : Rows} (k : Same H H') (h : PotR H p m tg) : PotR H' p m tg := let ⟨ps, pr, pin, pb, ans, rs, h1, h2, h3⟩ := h.ex; ⟨⟨ps, pr, pin, pb, ans, rs, k _ _ h1, k _ _ h2, h3.same k⟩, h.n8, h.m8, h.m0⟩
theorem PotR.tk {H H' : Hp} {p : Addr} {m : Nat} {tg : Rows} (k : TK H H') (h : PotR H p m tg) : PotR H' p m tg := let ⟨ps, pr, pin, pb, ans, rs, h1, h2, h3⟩ := h.ex; ⟨⟨ps, pr, pin, pb, ans, rs, k.t _ _ h1, k.t _ _ h2, h3.tk k⟩, h.n8, h.m8, h.m0⟩
theorem PotR.of {H : Hp} {p : Addr} {nm : List Str} {ins beg : List Int} {ans : Int} {m : Nat} (h : PotAt H p nm ins beg ans m) : ∃ tg, PotR H p m tg := by
  obtain ⟨⟨ps, pr, pin, pb, rs, e1, e2, e3, e4, e5, e6, e7⟩, hn, m0, m8, _⟩ := h
  obtain ⟨tg, ht⟩ := rls_of rs e4
  exact ⟨tg, ⟨ps, pr, pin, pb, ans, rs, e1, e3, ht⟩, by have := ht.1; omega, m8, m0⟩
/-! ### what the steps come to -/
def fits (st t : List Int) : Bool := (List.zipWith (fun s x => decide (x ≤ s)) st t).all id
def rl (tg : Rows) (r : Int) : List Int × List Int := tg.getD r.toNat ([], [])
def cg (tg : Rows) (st : List Int) (r : Int) : Bool := decide (0 ≤ r ∧ r < tg.length) && fits st (rl tg r).1
def goL (st : List Int) (x : List Int × List Int) : List Int := (List.range st.length).map fun i => st.getD i 0 - x.1.getD i 0 + x.2.getD i 0
def thN (tg : Rows) (st : List Int) (n : Nat) : List Int := ((List.range n).filter fun (r : Nat) => cg tg st (r : Int)).map fun (r : Nat) => (r : Int)
def thL (tg : Rows) (st : List Int) : List Int := thN tg st tg.length
theorem thN_succ {tg : Rows} {st : List Int} {n : Nat} : thN tg st (n + 1) = if cg tg st (n : Int) = true then thN tg st n ++ [(n : Int)] else thN tg st n := by
  unfold thN
  rw [List.range_succ, List.filter_append]
  by_cases h : cg tg st (n : Int) = true
  · simp [h]
  · simp [h]
theorem thN_len {tg : Rows} {st : List Int} {n : Nat} : (thN tg st n).length ≤ n := by
  unfold thN
  rw [List.length_map]
  exact Nat.le_trans (List.length_filter_le _ _) (by simp)
theorem th_mem {tg : Rows} {st : List Int} {r : Int} (h : r ∈ thL tg st) : cg tg st r = true := by
  obtain ⟨n, hn, rfl⟩ := List.mem_map.mp h
  exact (List.mem_filter.mp hn).2
theorem cg_range {tg : Rows} {st : List Int} {r : Int} (h : cg tg st r = true) : 0 ≤ r ∧ r < tg.length := by
  unfold cg at h
  rw [Bool.and_eq_true] at h
  exact of_decide_eq_true h.1
theorem go_len {st : List Int} {x : List Int × List Int} : (goL st x).length = st.length := by simp [goL]
def retCallComp (s : Stmt) : Scope := match s with
  | .Return (some (.Call _ [.ListComp _ _ sc _] _ _)) _ => sc
  | _ => { kind := .function, names := [], isGenerator := false, isCoroutine := false }
abbrev sINs : Stmt := methOf (top 2) 0
abbrev nINs : List Str := ["self", "place"]
theorem nmINs : Nm nINs (defScope sINs) := ⟨by decide +kernel, by decide +kernel⟩
theorem scINs : FnScope nINs ["self", "place"] (defScope sINs) := ⟨rfl, rfl, rfl, by decide +kernel, rfl, by decide +kernel, by decide +kernel⟩
section
variable {P : Program} {w : World} {K : PySem.W.Frag} {mg : Str → Option Value} {base : Heap}
set_option maxHeartbeats 4000000 in
theorem ok_INs {f : Addr} {fd : FuncData} (F : Fun K "__init__" "NoStep.__init__" sINs f fd) : FnOk P w K mg base CX0 1 f fd ["self", "place"] (spXi K ["place"]) := by
  refine F.ok scINs (fun vs H Q E h => ?_) (fun cdv A outer s H vs Q E hr h => ?_)
  · obtain ⟨a, C, v0, us, rfl, hl, _⟩ := h
    show us.length + 1 = 2
    rw [hl]; rfl
  · obtain ⟨a, C, v0, us, rfl, hl, ha, xa, hn, k⟩ := h
    match us, hl, k with
    | [u0], _, k =>
    refine' ⟨_, ?hb, ?rd⟩
    case hb =>
      refine' pss_one ?s1
      case' s1 => refine' ps_xf ?s2 ?s3
      case s2 => exact pvd nmINs 0
      case s3 => exact pvd nmINs 1
    case rd =>
      refine w_sxf (w_var rfl (w_var rfl ?_))
      refine ⟨a, C, none, v0, rfl, ha, xa, hn _ (by simp), fun dx hd hne => ?_⟩
      exact k dx hd hne
end
abbrev nCan : List Str := ["pot", "stand", "rule", "takes"]
theorem nmCan : Nm nCan (defScope sCan) := ⟨by decide +kernel, by decide +kernel⟩
theorem scCan : FnScope nCan ["pot", "stand", "rule"] (defScope sCan) := ⟨rfl, rfl, rfl, by decide +kernel, rfl, by decide +kernel, by decide +kernel⟩

abbrev cCan : Scope := retCallComp ((defBody sCan).getD 2 (.Pass ⟨0, 0, 0, 0⟩))
theorem bsCan : BScope (defScope sCan) cCan ["there", "taken"] [] [] := { okind := by decide +kernel, kind := by decide +kernel, nocell := by decide +kernel, names := by decide +kernel, fr := by decide +kernel, ff := by decide +kernel, nd := by decide +kernel, vis := by decide +kernel, loc := by decide +kernel, gl := by decide +kernel }

def spCan : Sp := fun vs H Q _ => ∃ (p s : Addr) (r : Int) (m : Nat) (tg : Rows) (st : List Int), vs = [.ref p, .ref s, .int r] ∧ PotR H p m tg ∧ H s = some (.tup (st.map V.int)) ∧ st.length = m ∧ ∀ H', Same H H' → Q (.bl (cg tg st r)) H'
section
variable {P : Program} {w : World} {K : PySem.W.Frag} {mg : Str → Option Value} {base : Heap}
set_option maxHeartbeats 4000000 in
theorem ok_Can {f : Addr} {fd : FuncData} (B : Blt8 mg) (F : Fun K "can_go" "can_go" sCan f fd) : FnOk P w K mg base CX0 1 f fd ["pot", "stand", "rule"] spCan := by
  refine F.ok scCan (fun vs H Q E h => ?_) (fun cdv A outer s H vs Q E hr h => ?_)
  · obtain ⟨p, s, r, m, tg, st, rfl, _⟩ := h
    rfl
  · obtain ⟨p, sa, r, m, tg, st, rfl, hP, hs, hst, k⟩ := h
    refine' ⟨_, ?hb, ?rd⟩
    case hb =>
      refine' pss_cons ?s1 ?r1
      case' r1 => refine' pss_cons ?s2 ?r2
      case' r2 => refine' pss_one ?s3
      case s1 =>
        refine' ps_if ?c1 (pss_one (ps_ret pe_bl)) pss_nil
        case' c1 => refine' pt_not ?c2
        case' c2 => refine' pt_chain op_le op_lt pe_int (pvd nmCan 2) ?c3
        case' c3 => refine' pe_cB call_len_seq B.len PySem.boot_len ?c4
        case c4 => exact pa_1 (pe_ix ix_d (pvd nmCan 0) (pe_k B.ruK) (fun _ _ => rfl))
      case s2 =>
        refine' ps_setD nmCan 3 ?d1
        case' d1 => refine' pe_ix ix_d ?d2 (pe_k B.taK) (fun _ _ => rfl)
        case d2 => exact pe_ix ix_d (pe_ix ix_d (pvd nmCan 0) (pe_k B.ruK) (fun _ _ => rfl)) (pvd nmCan 2) (fun _ _ => rfl)
      case s3 =>
        refine' ps_ret ?e1
        case' e1 => refine' pe_cB (call_all rfl) B.all PyProof.Rows.boot_all ?e2
        case' e2 => refine' pa_1 ?e3
        case e3 =>
          refine' pe_comp (ix := []) bsCan.toCScope rfl rfl (pi_zp B.zip (pa_2 (pvd nmCan 1) (pvd nmCan 3))) ?h4 ?h5 ?h6
          case h4 =>
            intro _ _ _ _ _ _
            refine' pgb_tup (n := 2) rfl ?z1
            case' z1 => refine' pgs_cons ?z2 ?z3
            case z2 => exact pgb bsCan 0
            case' z3 => refine' pgs_cons ?z4 pgs_nil
            case z4 => exact pgb bsCan 1
          case h5 => exact fun _ _ _ _ _ _ => pts_nil
          case h6 => exact fun _ _ _ _ _ _ => pe_cmpR op_ge (pvb bsCan 0) (pvb bsCan 1) (nomark _)
    case rd =>
      obtain ⟨ps, pr, pin, pb, ans, rs, h1, h2, h3⟩ := hP.ex
      have hrl := h3.1
      have n8 := hP.n8
      have m8 := hP.m8
      have no : ¬ (0 ≤ r ∧ r < (tg.length : Int)) → cg tg st r = false := fun z => by
        unfold cg
        rw [decide_eq_false z, Bool.false_and]
      walk_at "v"
      refine iteD (fun h0 => ?_) (fun h0 => ?_)
      · walk_at "v"
        refine w_ixT h1 rfl ?_
        walk_at "v"
        refine ⟨pr, _, rfl, .inr (SqT.of h2), ?_⟩
        rw [List.length_map, hrl]
        walk_at "v"
        refine iteDN (fun h => ?_) (fun h => ?_)
        · walk_at "v"
          have := k _ (Same.refl _)
          rw [no (by omega)] at this
          exact this
        · obtain ⟨j, rfl⟩ := Nat.ofI h0
          have hj : j < tg.length := by omega
          have hj' : j < rs.length := by omega
          obtain ⟨t, g, htg⟩ : ∃ t g, tg[j] = (t, g) := ⟨_, _, rfl⟩
          obtain ⟨lt, lg, bt, bg, a, b, e1, e2, e3⟩ := h3.2 j rs[j] t g (by simp [hj']) (by rw [List.getElem?_eq_getElem hj, htg])
          have hcg : cg tg st (j : Int) = fits st t := by
            unfold cg rl
            rw [decide_eq_true ⟨h0, h⟩, Bool.true_and, Int.toNat_natCast, List.getD_eq_getElem?_getD, List.getElem?_eq_getElem hj, htg]
            rfl
          rw [hcg] at k
          walk_at "v"
          refine w_ixT h1 rfl ?_
          walk_at "v"
          refine w_ixT (v := .ref rs[j]) h2 (atI_nat (by simp [hj'])) ?_
          walk_at "v"
          refine w_ixT e1 rfl ?_
          walk_at "v"
          refine ⟨sa, a, rfl, ⟨_, SqT.of hs⟩, ⟨_, SqT.of e2⟩, fun D hD => ?_⟩
          refine zip_mapV (ρ := []) (fun x y => .bl (decide (y ≤ x))) hs e2 (by omega) (by omega) (fun x y H' _ R kR => ?_) (fun H1 K1 hD1 => ?_) hD
          · walk_at "v"
            exact kR _ (Same.refl _)
          walk_at "v"
          refine ⟨D, List.zipWith (fun s x => decide (x ≤ s)) st t, rfl, ?_, k _ K1⟩
          rw [hD1, List.map_zipWith]
      · refine ⟨false, rfl, ?_⟩
        walk_at "v"
        refine iteT ?_
        walk_at "v"
        have := k _ (Same.refl _)
        rw [no (by omega)] at this
        exact this
abbrev nGone : List Str := ["pot", "stand", "rule", "takes", "gives"]
theorem nmGone : Nm nGone (defScope sGone) := ⟨by decide +kernel, by decide +kernel⟩
theorem scGone : FnScope nGone ["pot", "stand", "rule"] (defScope sGone) := ⟨rfl, rfl, rfl, by decide +kernel, rfl, by decide +kernel, by decide +kernel⟩

abbrev cGone : Scope := retCallComp ((defBody sGone).getD 3 (.Pass ⟨0, 0, 0, 0⟩))
theorem bsGone : BScope (defScope sGone) cGone ["there", "taken", "given"] [] [] := { okind := by decide +kernel, kind := by decide +kernel, nocell := by decide +kernel, names := by decide +kernel, fr := by decide +kernel, ff := by decide +kernel, nd := by decide +kernel, vis := by decide +kernel, loc := by decide +kernel, gl := by decide +kernel }

def spGone (cN : Addr) : Sp := fun vs H Q E => ∃ (p s : Addr) (r : Int) (m : Nat) (tg : Rows) (st : List Int), vs = [.ref p, .ref s, .int r] ∧ PotR H p m tg ∧ H s = some (.tup (st.map V.int)) ∧ st.length = m ∧ (cg tg st r = true → ∀ q H', Same H H' → H' q = some (.tup ((goL st (rl tg r)).map V.int)) → Q (.ref q) H') ∧
  (cg tg st r = false → ∀ dx H', Same H H' → H' dx = none → E (.ref cN) (some dx) (upd H' dx (XDct dx [("place", .int 0)])))
set_option maxHeartbeats 4000000 in
theorem ok_Gone {f : Addr} {fd : FuncData} {cN : Addr} (B : Blt8 mg) (C : Has P w K mg base 1 "can_go" ["pot", "stand", "rule"] spCan) (N : HasC P w K mg base 1 "NoStep" cN ["self", "place"] (spXi K ["place"])) (xa : XA K cN) (hna : NoAttr K cN "place") (F : Fun K "gone" "gone" sGone f fd) : FnOk P w K mg base (CXE P w) 3 f fd ["pot", "stand", "rule"] (spGone cN) := by
  refine F.okX scGone (fun vs H Q E h => ?_) (fun cdv A outer s H vs Q E hr h L => ?_)
  · obtain ⟨p, s, r, m, tg, st, rfl, _⟩ := h
    rfl
  · obtain ⟨p, sa, r, m, tg, st, rfl, hP, hs, hst, k, kx⟩ := h
    refine' ⟨_, ?hb, ?rd⟩
    case hb =>
      refine' pss_cons ?s1 ?r1
      case' r1 => refine' pss_cons ?s2 ?r2
      case' r2 => refine' pss_cons ?s3 ?r3
      case' r3 => refine' pss_one ?s4
      case s1 =>
        refine' ps_if ?c1 (pss_one (ps_raise N L rfl hr (by decide) (pa_1 pe_int))) pss_nil
        case' c1 => refine' pt_not ?c2
        case' c2 => refine' pt_val ?c3
        case c3 => exact pe_f C hr (by decide) (pa_c (pvd nmGone 0) (pa_2 (pvd nmGone 1) (pvd nmGone 2)))
      case s2 =>
        refine' ps_setD nmGone 3 ?d1
        case' d1 => refine' pe_ix ix_d ?d2 (pe_k B.taK) (fun _ _ => rfl)
        case d2 => exact pe_ix ix_d (pe_ix ix_d (pvd nmGone 0) (pe_k B.ruK) (fun _ _ => rfl)) (pvd nmGone 2) (fun _ _ => rfl)
      case s3 =>
        refine' ps_setD nmGone 4 ?f1
        case' f1 => refine' pe_ix ix_d ?f2 (pe_k B.giK) (fun _ _ => rfl)
        case f2 => exact pe_ix ix_d (pe_ix ix_d (pvd nmGone 0) (pe_k B.ruK) (fun _ _ => rfl)) (pvd nmGone 2) (fun _ _ => rfl)
      case s4 =>
        refine' ps_ret ?e1
        case' e1 => refine' pe_cT call_tuple_of B.tuple PyProof.Rows.boot_tuple ?e2
        case' e2 => refine' pa_1 ?e3
        case e3 =>
          refine' pe_comp (ix := []) bsGone.toCScope rfl rfl (pi_zt B.zip (pa_c (pvd nmGone 1) (pa_2 (pvd nmGone 3) (pvd nmGone 4)))) ?h4 ?h5 ?h6
          case h4 =>
            intro _ _ _ _ _ _
            refine' pgb_tup (n := 3) rfl ?z1
            case' z1 => refine' pgs_cons ?z2 ?z3
            case z2 => exact pgb bsGone 0
            case' z3 => refine' pgs_cons ?z4 ?z5
            case z4 => exact pgb bsGone 1
            case' z5 => refine' pgs_cons ?z6 pgs_nil
            case z6 => exact pgb bsGone 2
          case h5 => exact fun _ _ _ _ _ _ => pts_nil
          case h6 => exact fun _ _ _ _ _ _ => pe_op op_add (pe_op op_sub (pvb bsGone 0) (pvb bsGone 1)) (pvb bsGone 2)
    case rd =>
      have m8 := hP.m8
      walk_at "v"
      refine ⟨p, sa, _, m, tg, st, rfl, hP, hs, hst, fun H1 K1 => ?_⟩
      cases hc : cg tg st r with
      | false =>
        walk_at "v"
        refine iteT ?_
        refine w_raise xa (fun f hf => by rcases List.mem_singleton.mp hf with rfl; exact hna) ?_ (fun Q1 Q2 hQ h => hQ _ _ h)
        walk_at "v"
        exact ⟨rfl, by decide, fun dx hd => kx hc dx H1 K1 hd⟩
      | true =>
      replace k := k hc
      obtain ⟨h0, h0'⟩ := cg_range hc
      obtain ⟨j, rfl⟩ := Nat.ofI h0
      walk_at "v"
      refine iteF ?_
      obtain ⟨ps, pr, pin, pb, ans, rs, h1, h2, h3⟩ := (hP.same K1).ex
      have hrl := h3.1
      have hj : j < tg.length := by omega
      have hj' : j < rs.length := by omega
      obtain ⟨t, g, htg⟩ : ∃ t g, tg[j] = (t, g) := ⟨_, _, rfl⟩
      obtain ⟨lt, lg, bt, bg, a, b, e1, e2, e3⟩ := h3.2 j rs[j] t g (by simp [hj']) (by rw [List.getElem?_eq_getElem hj, htg])
      have hrl' : rl tg (j : Int) = (t, g) := by
        unfold rl
        rw [Int.toNat_natCast, List.getD_eq_getElem?_getD, List.getElem?_eq_getElem hj, htg]
        rfl
      rw [hrl'] at k
      walk_at "v"
      refine w_ixT h1 rfl ?_
      walk_at "v"
      refine w_ixT (v := .ref rs[j]) h2 (atI_nat (by simp [hj'])) ?_
      walk_at "v"
      refine w_ixT e1 rfl ?_
      walk_at "v"
      refine w_ixT h1 rfl ?_
      walk_at "v"
      refine w_ixT (v := .ref rs[j]) h2 (atI_nat (by simp [hj'])) ?_
      walk_at "v"
      refine w_ixT e1 rfl ?_
      walk_at "v"
      refine w_comp3 ?_
      walk_at "v"
      refine ⟨sa, a, b, rfl, ⟨_, SqT.of (K1 _ _ hs)⟩, ⟨_, SqT.of e2⟩, ⟨_, SqT.of e3⟩, fun D hD => ?_⟩
      refine zip3_map (ρ := []) (fun x y z => x - y + z) (K1 _ _ hs) e2 e3 (by omega) (by omega) (by omega) (fun x y z H' _ R kR => ?_) (fun H2 K2 hD2 => ?_) hD
      · walk_at "v"
        exact kR _ (Same.refl _)
      walk_at "v"
      refine ⟨D, _, rfl, .inl ⟨SqL.of hD2, fun q hq => ?_⟩⟩
      exact k q _ ((K1.trans K2).new hq) upd_same
/-! ### orders walked -/
def stA (tg : Rows) (st os : List Int) : Nat → List Int
  | 0 => st
  | i + 1 => goL (stA tg st os i) (rl tg (os.getD i 0))
theorem stA_len {tg : Rows} {st os : List Int} : ∀ i, (stA tg st os i).length = st.length
  | 0 => rfl
  | i + 1 => by
    show (goL (stA tg st os i) _).length = _
    rw [go_len, stA_len i]
def Good (tg : Rows) (st os : List Int) : Prop := ∀ j < os.length, cg tg (stA tg st os j) (os.getD j 0) = true
def Bad (tg : Rows) (st os : List Int) (n : Nat) : Prop := n < os.length ∧ (∀ j < n, cg tg (stA tg st os j) (os.getD j 0) = true) ∧ cg tg (stA tg st os n) (os.getD n 0) = false
/-- stands as they lie -/
def Sts (tg : Rows) (st os : List Int) (H : Hp) (as : List Addr) : Prop := ∀ (i : Nat) (a : Addr), as[i]? = some a → H a = some (.tup ((stA tg st os i).map V.int))
theorem Sts.same {tg : Rows} {st os : List Int} {H H' : Hp} {as : List Addr} (k : Same H H') (h : Sts tg st os H as) : Sts tg st os H' as := fun i a e => k _ _ (h i a e)
theorem Sts.snoc {tg : Rows} {st os : List Int} {H : Hp} {as : List Addr} {q : Addr} (h : Sts tg st os H as) (hq : H q = some (.tup ((stA tg st os as.length).map V.int))) : Sts tg st os H (as ++ [q]) := fun i a e => by
  by_cases hi : i < as.length
  · rw [List.getElem?_append_left hi] at e
    exact h i a e
  · rw [List.getElem?_append_right (by omega)] at e
    have hi' := (List.getElem?_eq_some_iff.mp e).1
    have : i = as.length := by simp at hi'; omega
    subst this
    simp at e
    rw [← e]; exact hq
structure WIn (H : Hp) (vs : List V) (m : Nat) (tg : Rows) (st os : List Int) : Prop where
  ex : ∃ p s o : Addr, vs = [.ref p, .ref s, .ref o] ∧ PotR H p m tg ∧ H s = some (.tup (st.map V.int)) ∧ SqA H o (os.map V.int)
  sl : st.length = m
  ol : os.length ≤ 70
def spStands (cN : Addr) : Sp := fun vs H Q E => ∃ (m : Nat) (tg : Rows) (st os : List Int), WIn H vs m tg st os ∧ (Good tg st os → ∀ (l : Addr) (as : List Addr) (H' : Hp), Same H H' → H l = none → H' l = some (.lst (as.map V.ref)) → as.length = os.length + 1 → Sts tg st os H' as → Q (.ref l) H') ∧
  (∀ n, Bad tg st os n → ∀ dx H', Same H H' → H' dx = none → E (.ref cN) (some dx) (upd H' dx (XDct dx [("place", .int (n : Int))])))
def spWalked (cN : Addr) : Sp := fun vs H Q E => ∃ (m : Nat) (tg : Rows) (st os : List Int), WIn H vs m tg st os ∧ (Good tg st os → ∀ (q : Addr) (H' : Hp), Same H H' → H' q = some (.tup ((stA tg st os os.length).map V.int)) → Q (.ref q) H') ∧
  (∀ n, Bad tg st os n → ∀ dx H', Same H H' → H' dx = none → E (.ref cN) (some dx) (upd H' dx (XDct dx [("place", .int (n : Int))])))
abbrev PSO : List Str := ["pot", "stand", "order"]
abbrev nStands : List Str := ["pot", "stand", "order", "stands", "place", "rule"]
theorem nmStands : Nm nStands (defScope sStands) := ⟨by decide +kernel, by decide +kernel⟩
theorem scStands : FnScope nStands ["pot", "stand", "order"] (defScope sStands) := ⟨rfl, rfl, rfl, by decide +kernel, rfl, by decide +kernel, by decide +kernel⟩
set_option maxHeartbeats 4000000 in
theorem ok_Stands {f : Addr} {fd : FuncData} {cN : Addr} (B : Blt8 mg) (C : Has P w K mg base 1 "can_go" ["pot", "stand", "rule"] spCan) (G : HasX P w K mg base 3 "gone" ["pot", "stand", "rule"] (spGone cN)) (N : HasC P w K mg base 1 "NoStep" cN ["self", "place"] (spXi K ["place"])) (xa : XA K cN) (hna : NoAttr K cN "place") (F : Fun K "stands_on" "stands_on" sStands f fd) : FnOk P w K mg base (CXE P w) 4 f fd ["pot", "stand", "order"] (spStands cN) := by
  refine F.okX scStands (fun vs H Q E h => ?_) (fun cdv A outer s H vs Q E hr h L => ?_)
  · obtain ⟨m, tg, st, os, ⟨⟨p, s, o, rfl, _⟩, _⟩, _⟩ := h
    rfl
  · obtain ⟨m, tg, st, os, ⟨⟨p, sa, o, rfl, hP, hs, ho⟩, hsl, hol⟩, kg, kb⟩ := h
    refine' ⟨_, ?hb, ?rd⟩
    case hb =>
      refine' pss_cons ?s1 ?r1
      case' r1 => refine' pss_cons ?s2 ?r2
      case' r2 => refine' pss_one ?s3
      case s1 => exact ps_setD nmStands 3 (pe_lst (pa_1 (pvd nmStands 1)))
      case s3 => exact ps_ret (pvd nmStands 3)
      case s2 =>
        refine' ps_for PassesOwn.leaving rfl (pi_en2 B.enu (pa_1 (pvd nmStands 2))) (pg_tup (n := 2) rfl (pgs_cons (pgd nmStands 4) (pgs_cons (pgd nmStands 5) pgs_nil))) ?b1
        case b1 =>
          refine' pss_cons ?t1 ?u1
          case' u1 => refine' pss_one ?t2
          case t1 =>
            refine' ps_if ?c1 (pss_one (ps_raise N L rfl hr (by decide) (pa_1 (pvd nmStands 4)))) pss_nil
            case' c1 => refine' pt_not ?c2
            case' c2 => refine' pt_val ?c3
            case c3 => exact pe_f C hr (by decide) (pa_c (pvd nmStands 0) (pa_2 (pe_ix ix_d (pvd nmStands 3) (pe_un un_neg pe_int) (fun _ _ => rfl)) (pvd nmStands 5)))
          case t2 =>
            refine' ps_expr ?d1
            case' d1 => refine' pe_bm PySem.F.plainAttrs_list PySem.F.slot_list_append PySem.F.type_list_append mt_append (pvd nmStands 3) ?d2
            case' d2 => refine' pa_1 ?d3
            case d3 => exact pe_f G.calm hr (by decide) (pa_c (pvd nmStands 0) (pa_2 (pe_ix ix_d (pvd nmStands 3) (pe_un un_neg pe_int) (fun _ _ => rfl)) (pvd nmStands 5)))
    case rd =>
      walk_at "v"
      refine ⟨by show 1 ≤ sizeLine; decide, fun sl hsl0 => ?_⟩
      have K1 : Same H (upd H sl (.lst [.ref sa])) := Same.new (Same.refl H) hsl0
      have e1 : upd H sl (.lst [.ref sa]) sl = some (.lst ([sa].map V.ref)) := upd_same
      generalize upd H sl (.lst [.ref sa]) = H1 at K1 e1 ⊢
      walk_at "v"
      refine for_en2 (xs := os.map V.int) rfl (fun i σ H' => ∃ (as : List Addr) (u4 u5 : Option V), σ = [some (.ref p), some (.ref sa), some (.ref o), some (.ref sl), u4, u5] ∧ Same H H' ∧ (∀ b ob, b ≠ sl → H1 b = some ob → H' b = some ob) ∧ H' sl = some (.lst (as.map V.ref)) ∧ as.length = i + 1 ∧ Sts tg st os H' as ∧ ∀ j < i, cg tg (stA tg st os j) (os.getD j 0) = true)
        (ho.same K1) ⟨[sa], none, none, rfl, K1, fun b ob _ e => e, e1, rfl, ?_, fun j hj => absurd hj (Nat.not_lt_zero _)⟩ ?_ ?_ ?_
      · intro i a e
        have hi := (List.getElem?_eq_some_iff.mp e).1
        have : i = 0 := by simp at hi; exact hi
        subst this
        simp at e
        rw [← e]; exact K1 _ _ hs
      · rintro i σ H2 ⟨as, u4, u5, rfl, K2, B2, e2, hal, hS, hg⟩
        rcases ho with ho | ho
        · rw [K2 _ _ ho, K1 _ _ ho]
        · rw [K2 _ _ ho, K1 _ _ ho]
      · rintro i xv σ H2 q hx ⟨as, u4, u5, rfl, K2, B2, e2, hal, hS, hg⟩ hq
        have hi : i < os.length := by
          have := (List.getElem?_eq_some_iff.mp hx).1
          simpa using this
        have ex : xv = .int (os.getD i 0) := by
          rw [List.getElem?_map, List.getElem?_eq_getElem hi] at hx
          rw [List.getD_eq_getElem?_getD, List.getElem?_eq_getElem hi]
          exact (Option.some.inj hx).symm
        subst ex
        have nsq : sl ≠ q := ne_of_none e2 hq
        have K3 : Same H2 (upd H2 q (.tup [.int (i : Int), .int (os.getD i 0)])) := Same.new (Same.refl H2) hq
        have eq3 : upd H2 q (.tup [.int (i : Int), .int (os.getD i 0)]) q = some (.tup [.int (i : Int), .int (os.getD i 0)]) := upd_same
        generalize upd H2 q (.tup [.int (i : Int), .int (os.getD i 0)]) = H3 at K3 eq3 ⊢
        have hla : i < as.length := by omega
        have hlast : as = as.take i ++ [as[i]] := by
          have := List.take_append_getElem hla
          rw [this, List.take_of_length_le (by omega)]
        have eas : (as.map V.ref) = (as.take i).map V.ref ++ [.ref as[i]] := by
          rw [← List.map_singleton, ← List.map_append, ← hlast]
        have hst := hS i as[i] (by simp [hla])
        refine ⟨q, _, rfl, SqT.of eq3, rfl, ?_⟩
        refine ⟨_, _, rfl, ?_⟩
        walk_at "v"
        refine ⟨_, _, rfl, ?_⟩
        walk_at "v"
        refine ⟨rfl, ?_⟩
        walk_at "v"
        refine ⟨_, rfl, ?_⟩
        refine w_ixL (v := .ref as[i]) (K3 _ _ e2) (by rw [eas]; exact atI_last _ _) ?_
        walk_at "v"
        refine ⟨p, as[i], _, m, tg, stA tg st os i, rfl, hP.same (K2.trans K3), K3 _ _ hst, by rw [stA_len]; exact hsl, fun H4 K4 => ?_⟩
        have K34 := K3.trans K4
        cases hc : cg tg (stA tg st os i) (os.getD i 0) with
        | false =>
          walk_at "v"
          refine iteT ?_
          refine w_raise xa (fun f hf => by rcases List.mem_singleton.mp hf with rfl; exact hna) ?_ (fun Q1 Q2 hQ h => by obtain ⟨v, e, h⟩ := h; exact ⟨v, e, hQ _ _ h⟩)
          walk_at "v"
          exact ⟨rfl, by decide, fun dx hd => kb i ⟨hi, hg, hc⟩ dx H4 (K2.trans K34) hd⟩
        | true =>
          walk_at "v"
          refine iteF ?_
          walk_at "v"
          refine ⟨.inl ⟨rfl, _, SqL.of (K34 _ _ e2)⟩, ?_⟩
          walk_at "v"
          refine ⟨_, rfl, ?_⟩
          refine w_ixL (v := .ref as[i]) (K34 _ _ e2) (by rw [eas]; exact atI_last _ _) ?_
          walk_at "v"
          refine ⟨p, as[i], _, m, tg, stA tg st os i, rfl, hP.same (K2.trans K34), K34 _ _ hst, by rw [stA_len]; exact hsl, fun _ r H5 K5 hr5 => ?_, fun z => by rw [hc] at z; cases z⟩
          have K25 := K34.trans K5
          walk_at "v"
          refine ⟨sl, _, _, rfl, rfl, K25 _ _ e2, by rw [List.length_map]; exact small1000 (by omega), ?_⟩
          walk_at "v"
          have nrs : r ≠ sl := fun z => by rw [z, K25 _ _ e2] at hr5; cases hr5
          have stay : ∀ b ob, b ≠ sl → H5 b = some ob → upd H5 sl (.lst (as.map V.ref ++ [.ref r])) b = some ob := fun b ob hb e => by rw [upd_ne hb]; exact e
          have nota : ∀ {b : Addr} {xs : List V}, H2 b = some (.tup xs) → b ≠ sl := fun {b xs} e z => by rw [z, e2] at e; cases e
          refine ⟨as ++ [r], _, _, rfl, ?_, fun b ob hb e => stay _ _ hb (K25 _ _ (B2 _ _ hb e)), by rw [upd_same, List.map_append]; rfl, by rw [List.length_append, hal]; rfl, ?_, ?_⟩
          · exact (K2.trans K25).put hsl0
          · refine Sts.snoc (fun j a e => stay _ _ (nota (hS j a e)) (K25 _ _ (hS j a e))) ?_
            rw [hal]
            exact stay _ _ nrs hr5
          · intro j hj
            by_cases z : j = i
            · rw [z]; exact hc
            · exact hg j (by omega)
      · rintro σ H2 ⟨as, u4, u5, rfl, K2, B2, e2, hal, hS, hg⟩
        rw [List.length_map] at hal hg
        walk_at "v"
        exact kg hg sl as H2 K2 hsl0 e2 hal hS
abbrev nWalked : List Str := ["pot", "stand", "order"]
theorem nmWalked : Nm nWalked (defScope sWalked) := ⟨by decide +kernel, by decide +kernel⟩
theorem scWalked : FnScope nWalked ["pot", "stand", "order"] (defScope sWalked) := ⟨rfl, rfl, rfl, by decide +kernel, rfl, by decide +kernel, by decide +kernel⟩
set_option maxHeartbeats 4000000 in
theorem ok_Walked {f : Addr} {fd : FuncData} {cN : Addr} (S : HasX P w K mg base 4 "stands_on" ["pot", "stand", "order"] (spStands cN)) (F : Fun K "walked" "walked" sWalked f fd) : FnOk P w K mg base (CXE P w) 5 f fd ["pot", "stand", "order"] (spWalked cN) := by
  refine F.okX scWalked (fun vs H Q E h => ?_) (fun cdv A outer s H vs Q E hr h L => ?_)
  · obtain ⟨m, tg, st, os, ⟨⟨p, s, o, rfl, _⟩, _⟩, _⟩ := h
    rfl
  · obtain ⟨m, tg, st, os, ⟨⟨p, sa, o, rfl, hP, hs, ho⟩, hsl, hol⟩, kg, kb⟩ := h
    refine' ⟨_, ?hb, ?rd⟩
    case hb =>
      refine' pss_one ?s1
      case' s1 => refine' ps_ret ?d1
      case' d1 => refine' pe_ix ix_d ?d2 (pe_un un_neg pe_int) (fun _ _ => rfl)
      case d2 => exact pe_fX S L hr (by decide) (pa_c (pvd nmWalked 0) (pa_2 (pvd nmWalked 1) (pvd nmWalked 2)))
    case rd =>
      walk_at "v"
      refine w_callX ?_
      walk_at "v"
      refine ⟨m, tg, st, os, ⟨⟨p, sa, o, rfl, hP, hs, ho⟩, hsl, hol⟩, fun hg l as H1 K1 _ hl hal hS => ?_, fun n hb dx H' K' hd => kb n hb dx H' K' hd⟩
      walk_at "v"
      refine ⟨_, rfl, ?_⟩
      have hla : os.length < as.length := by omega
      have hlast : as = as.take os.length ++ [as[os.length]] := by
        have := List.take_append_getElem hla
        rw [this, List.take_of_length_le (by omega)]
      have eas : (as.map V.ref) = (as.take os.length).map V.ref ++ [.ref as[os.length]] := by
        rw [← List.map_singleton, ← List.map_append, ← hlast]
      refine w_ixL (v := .ref as[os.length]) hl (by rw [eas]; exact atI_last _ _) ?_
      exact kg hg _ H1 K1 (hS _ _ (by simp [hla]))
end
end K7

set_option Elab.async false
set_option linter.all false
set_option maxRecDepth 100000
namespace L2
open PySem PySem.Spec PyProof.Rows
/-! ### comprehensions whose own names are read by one within them -/
structure NScope (o sc : Scope) (TN F : List Str) : Prop where
  okind : o.kind = .function
  kind : sc.kind = .function
  names : ∀ y ∈ sc.names, y.2 = .local → sc.names.lookup y.1 = some .local
  clN : ∀ y ∈ sc.names, y.2 = .cell → sc.names.lookup y.1 = some .cell
  fr : ∀ y ∈ sc.names, y.2 = .free → o.names.lookup y.1 = some .cell ∧ sc.names.lookup y.1 = some .free
  ff : ∀ y ∈ F, (y, NameKind.free) ∈ sc.names
theorem cellsFrom_name : ∀ (names : List (Str × NameKind)) (n : Nat) (acc : List (Str × Addr)) (x : Str) (c : Addr), (x, c) ∈ cellsFrom n names acc → (x, NameKind.cell) ∈ names ∨ (x, c) ∈ acc
  | [], n, acc, x, c, h => .inr h
  | (y, k) :: r, n, acc, x, c, h => by
    unfold cellsFrom at h
    split at h
    · rename_i hk
      have hk' : k = .cell := by simpa using hk
      subst hk'
      rcases cellsFrom_name r (n + 1) ((y, n) :: acc) x c h with z | z
      · exact .inl (List.mem_cons_of_mem _ z)
      · rcases List.mem_cons.mp z with e | z
        · cases e
          exact .inl List.mem_cons_self
        · exact .inr z
    · rcases cellsFrom_name r n acc x c h with z | z
      · exact .inl (List.mem_cons_of_mem _ z)
      · exact .inr z
/-- the cells of a block: its own, then those that it is given -/
def ownC (n : Nat) (sc : Scope) : List (Str × Addr) := cellsFrom (n + 1) sc.names []
def allC (env : Env) (n : Nat) (sc : Scope) : List (Str × Addr) := ownC n sc ++ cloF env sc.names []
theorem NScope.own {o sc : Scope} {TN F : List Str} (S : NScope o sc TN F) {n : Nat} {x : Str} {c : Addr} (h : (ownC n sc).lookup x = some c) : sc.names.lookup x = some .cell := by
  rcases cellsFrom_name sc.names (n + 1) [] x c (PySem.mem_of_lookup h) with z | z
  · exact S.clN _ z rfl
  · cases z
/-- the context of such a block -/
def cxN (X : Cx) (N : List Str) (sc : Scope) (cl : List (Str × Addr)) (C : Addr) (fp : List Addr) (s₃ : Shared) (H₃ : Hp) (xe : Value → Shared → Prop) : Cx :=
  { X with N := N, s₀ := s₃, H₀ := H₃, env := compEnvC sc cl C X.env, outer := X.stack, ex := fp, fn := fun y => sc.names.lookup y == some .cell, pn := [], xe := xe }



section
variable {X : Cx} {sc : Scope} {TN F : List Str} {ix : List Nat} {elt tg iter : Expr} {ifs : List Expr} {pos : Pos} {g : TG} {tc : TT} {te : TE} {wi : TI}
end
/-- such a block's names -/
structure NBScope (o sc : Scope) (TN F G : List Str) : Prop extends NScope o sc TN F where
  nd : (TN ++ F).Nodup
  vis : ∀ x ∈ TN ++ F, Vis (relabelS sc o) x
  loc : ∀ x ∈ TN, (relabelS sc o).names.lookup x = some .local ∨ ((relabelS sc o).names.lookup x = some .cell ∧ sc.names.lookup x = some .cell)
  gl : ∀ x ∈ G, (relabelS sc o).names.lookup x = some .globalImplicit
section
variable {X : Cx} {sc : Scope} {TN F G : List Str} {cl : List (Str × Addr)} {C : Addr} {fp : List Addr} {s3 : Shared} {H3 : Hp} {xe : Value → Shared → Prop} {x : Str} {pos : Pos}
theorem NBScope.g (S : NBScope X.env.scope sc TN F G) (i : Nat) (hG : G[i]? = some x := by rfl) : Gl (cxN X (TN ++ F) sc cl C fp s3 H3 xe) x := S.gl x (List.mem_of_getElem? hG)
end
end L2

set_option Elab.async false
set_option linter.all false
set_option maxRecDepth 100000
namespace PySem
open Sem (wp)
open Builtin
open AutoSeq1 (wpAny_loadPart')
end PySem
namespace L2
open PySem PySem.Spec PyProof.Rows
section
variable {X : Cx}
/-- a tuple times an int above 0; once: the tuple itself -/
def rRepT : R2 := fun x y H Q => ∃ a k xs, x = .ref a ∧ y = .int k ∧ H a = some (.tup xs) ∧ xs ≠ [] ∧ 0 < k ∧ k ≤ 1000 ∧ xs.length * k.toNat ≤ 1000 ∧ (k = 1 → Q (.ref a) H) ∧
  (k ≠ 1 → ∀ p, H p = none → Q (.ref p) (upd H p (.tup (List.replicate k.toNat xs).flatten)))
end
end L2

set_option Elab.async false
set_option linter.all false
set_option maxRecDepth 100000
namespace L2
open PySem PySem.Spec PyProof.Rows
section
variable {prog : Program} {w : World} {A : Around} {E : Value → Shared → Prop} {s : Shared}
end
end L2
namespace L2
open PySem PySem.Spec PyProof.Rows
abbrev zmH1 (h : Heap) (a : Addr) : Heap := h.push { cls := .type "tuple_iterator", data := .fields #[.ref a, .int 0 0] }
abbrev zmH2 (h : Heap) (a b : Addr) : Heap := (zmH1 h a).push { cls := .type "list_iterator", data := .fields #[.ref b, .int 0 0] }
abbrev zmH3 (h : Heap) (a b : Addr) : Heap := (zmH2 h a b).push { cls := .type "tuple", data := .seq #[.ref h.objs.size, .ref (zmH1 h a).objs.size] }
abbrev zmH4 (h : Heap) (a b : Addr) : Heap := (zmH3 h a b).push { cls := .type "tuple", data := .seq #[.none, .none] }
abbrev zmH5 (h : Heap) (a b : Addr) : Heap := (zmH4 h a b).push { cls := .type "zip", data := .fields #[.none, .bool false, .bool false, .ref (zmH2 h a b).objs.size, .ref (zmH3 h a b).objs.size] }
section
variable {prog : Program} {w : World} {A : Around} {E : Value → Shared → Prop} {s : Shared}
end
end L2
namespace L2
open PySem PySem.Spec PyProof.Rows
/-- zip over the tuples at a and b -/
def Itm (K : PySem.W.Frag) (a b : Addr) : It :=
  ⟨fun i H => ∃ xs ys x y, SqT K H a xs ∧ SqL K H b ys ∧ xs[i]? = some x ∧ ys[i]? = some y, fun i H v H' => ∃ p x y, v = .ref p ∧ H p = none ∧ H' = upd H p (.tup [x, y]) ∧ (∀ xs, SqT K H a xs → xs[i]? = some x) ∧ ∀ ys, SqL K H b ys → ys[i]? = some y,
    fun i H => ∃ xs ys, SqT K H a xs ∧ SqL K H b ys ∧ (xs.length ≤ i ∨ ys.length ≤ i)⟩
section
variable {X : Cx} {es : List Expr} {kt : Nat} {pt : Pos}
def iZm (K : PySem.W.Frag) (ta : TA) : TI := fun σ H R => ta σ H fun vs H1 => ∃ a b, vs = [.ref a, .ref b] ∧ (∃ xs, SqT K H1 a xs) ∧ (∃ ys, SqL K H1 b ys) ∧ R (Itm K a b) H1
end
section
variable {D : Addr} {te : TE} {tc : TT} {Q : VK} {ρ : St} {H : Hp}
end
end L2

set_option Elab.async false
set_option linter.all false
set_option maxRecDepth 100000
namespace HT
open PySem PyProof.Rows
section
variable {prog : Program} {w : World} {A : Around} {E : Value → Shared → Prop} {s : Shared}
end
end HT
namespace L2
open PySem PySem.Spec PyProof.Rows
section
variable {X : Cx}
/-- t[a:b], whatever it is -/
def rSlG : V → Option Int → Option Int → Hp → VK → Prop := fun x lo hi H Q => ∃ a xs, x = .ref a ∧ H a = some (.tup xs) ∧ ∀ q H', Same H H' → H' q = some (.tup (cutV xs lo hi)) → Q (.ref q) H'
/-- t + u, whatever they are -/
def rCatG : R2 := fun x y H Q => ∃ a b xs ys, x = .ref a ∧ y = .ref b ∧ H a = some (.tup xs) ∧ H b = some (.tup ys) ∧ xs.length + ys.length ≤ 1000 ∧ ∀ q H', Same H H' → H' q = some (.tup (xs ++ ys)) → Q (.ref q) H'
end
end L2
namespace PySem
open Sem (wp)
open Builtin
open AutoSeq1 (wpAny_loadPart')
end PySem
namespace L2
open PySem PySem.Spec PyProof.Rows
section
variable {X : Cx}
/-- (v,) times 0 or 1 -/
def rRepB : R2 := fun x y H Q => ∃ a k v, x = .ref a ∧ y = .int k ∧ H a = some (.tup [v]) ∧ (k = 0 ∨ k = 1) ∧ (k = 1 → Q (.ref a) H) ∧ (k = 0 → ∀ p, H p = none → Q (.ref p) (upd H p (.tup [])))
end
end L2

set_option Elab.async false
set_option linter.all false
set_option maxRecDepth 100000
namespace L2
open PySem PySem.Spec PyProof.Rows
theorem Same.none {H H' : Hp} {a : Addr} (k : Same H H') (h : H' a = .none) : H a = .none := by
  cases e : H a with
  | none => rfl
  | some o => rw [k _ _ e] at h; cases h
section
variable {X : Cx}
/-- (v,) times n, n from 0 on -/
def rRepG : R2 := fun x y H Q => ∃ (a : Addr) (k : Nat) (v : V), x = .ref a ∧ y = .int (k : Int) ∧ H a = some (.tup [v]) ∧ k ≤ 1000 ∧ ∀ q H', Same H H' → H' q = some (.tup (List.replicate k v)) → Q (.ref q) H'
/-- len of a tuple, in a block too -/
def rLnT : List V → Hp → VK → Prop := fun xs H Q => ∃ (p : Addr) (ys : List V), xs = [.ref p] ∧ H p = some (.tup ys) ∧ Q (.int ys.length) H
def rLnL : List V → Hp → VK → Prop := fun xs H Q => ∃ (p : Addr) (ys : List V), xs = [.ref p] ∧ H p = some (.lst ys) ∧ Q (.int ys.length) H
/-- tuple of a list, in a block too -/
def rTupL : List V → Hp → VK → Prop := fun xs H Q => ∃ (p : Addr) (ys : List V), xs = [.ref p] ∧ H p = some (.lst ys) ∧ ∀ q H', Same H H' → H' q = some (.tup ys) → Q (.ref q) H'
end
end L2
namespace G2
open PySem L2
/-! ### rows of forms -/
def Fms (H : Hp) : List Addr → List Fm → Prop
  | [], [] => True
  | q :: qs, f :: fs => FmAt H q f ∧ Fms H qs fs
  | _, _ => False
theorem Fms.tk {H H' : Hp} (k : TK H H') : ∀ {qs : List Addr} {fs : List Fm}, Fms H qs fs → Fms H' qs fs
  | [], [], _ => trivial
  | q :: qs, f :: fs, h => ⟨h.1.tk k, Fms.tk k h.2⟩
  | [], _ :: _, h => h.elim
  | _ :: _, [], h => h.elim
theorem Fms.len {H : Hp} : ∀ {qs : List Addr} {fs : List Fm}, Fms H qs fs → qs.length = fs.length
  | [], [], _ => rfl
  | q :: qs, f :: fs, h => by rw [List.length_cons, List.length_cons, Fms.len h.2]
  | [], _ :: _, h => h.elim
  | _ :: _, [], h => h.elim
theorem Fms.rd {H : Hp} : ∀ {qs : List Addr} {fs : List Fm}, Fms H qs fs → RdVs H (qs.map V.ref) (fs.map fmD)
  | [], [], _ => .nil
  | q :: qs, f :: fs, h => .cons (fm_rd h.1) (Fms.rd h.2)
  | [], _ :: _, h => h.elim
  | _ :: _, [], h => h.elim
theorem Fms.one {H : Hp} {q : Addr} {f : Fm} (h : FmAt H q f) : Fms H [q] [f] := ⟨h, trivial⟩
theorem Fms.two {H : Hp} {q r : Addr} {f g : Fm} (h : FmAt H q f) (h' : FmAt H r g) : Fms H [q, r] [f, g] := ⟨h, h', trivial⟩
/-! ### what may be shown -/
theorem all_shw {n h : Nat} : ∀ ds : List PyData, (∀ d ∈ ds, Shw d n h) → PyData.showableAll ds = true ∧ PyData.hasDictAll ds = false ∧ PyData.depthAll ds ≤ h ∧ ((PyData.shownAll ds).map (·.length)).sum ≤ n * ds.length ∧ (PyData.shownAll ds).length = ds.length
  | [], _ => ⟨rfl, rfl, Nat.zero_le _, Nat.zero_le _, rfl⟩
  | d :: ds, k => by
    obtain ⟨h1, h2, h3, h4, h5⟩ := all_shw ds fun x hx => k x (List.mem_cons_of_mem _ hx)
    have e := k d List.mem_cons_self
    have e3 := e.p
    have e4 := e.l
    refine ⟨?_, ?_, ?_, ?_, ?_⟩
    · simp only [PyData.showableAll, e.s, h1, Bool.and_self]
    · simp only [PyData.hasDictAll, e.nd, h2, Bool.or_self]
    · simp only [PyData.depthAll]
      omega
    · simp only [PyData.shownAll, List.map_cons, List.sum_cons, List.length_cons, Nat.mul_succ]
      omega
    · simp only [PyData.shownAll, List.length_cons, h5]
theorem Shw.tups {n h : Nat} {ds : List PyData} (k : ∀ d ∈ ds, Shw d n h) : Shw (.tuple ds) ((n + 2) * ds.length + 3) (h + 1) := by
  obtain ⟨h1, h2, h3, h4, h5⟩ := all_shw ds k
  refine ⟨by simp only [PyData.showable]; exact h1, by simp only [PyData.hasDict]; exact h2, ?_, ?_⟩
  · show PyData.depthAll _ + 1 ≤ h + 1
    omega
  · have := len_tup ds
    rw [Nat.add_mul]
    omega
theorem Shw.lsts {n h : Nat} {ds : List PyData} (k : ∀ d ∈ ds, Shw d n h) : Shw (.list ds) ((n + 2) * ds.length + 3) (h + 1) := by
  obtain ⟨h1, h2, h3, h4, h5⟩ := all_shw ds k
  refine ⟨by simp only [PyData.showable]; exact h1, by simp only [PyData.hasDict]; exact h2, ?_, ?_⟩
  · show PyData.depthAll _ + 1 ≤ h + 1
    omega
  · have e : (PyData.shown (.list ds)).length ≤ ((PyData.shownAll ds).map (·.length)).sum + 2 * (PyData.shownAll ds).length + 3 := listText_len_le _
    rw [Nat.add_mul]
    omega
/-- a value reads as one thing, as long as tuples stay; it may be shown -/
def Rs (H : Hp) (v : V) (n h : Nat) : Prop := ∃ d, (∀ H', TK H H' → RdV H' v d) ∧ Shw d n h
theorem Rs.up {H : Hp} {v : V} {n h m i : Nat} (r : Rs H v n h) (h1 : n ≤ m) (h2 : h ≤ i) : Rs H v m i := let ⟨d, a, b⟩ := r; ⟨d, a, b.up h1 h2⟩
theorem Rs.big {H : Hp} {i : Int} (h : Bg i) : Rs H (.int i) 91 0 := ⟨_, fun _ _ => .int i, Shw.big h⟩
theorem Rs.int {H : Hp} {i : Int} (h : Sm i) : Rs H (.int i) 16 0 := ⟨_, fun _ _ => .int i, Shw.int h⟩
theorem Rs.all {H : Hp} {n h : Nat} : ∀ {vs : List V}, (∀ v ∈ vs, Rs H v n h) → ∃ ds : List PyData, ds.length = vs.length ∧ (∀ H', TK H H' → RdVs H' vs ds) ∧ ∀ d ∈ ds, Shw d n h
  | [], _ => ⟨[], rfl, fun _ _ => .nil, fun d hd => by cases hd⟩
  | v :: vs, k => by
    obtain ⟨ds, h1, h2, h3⟩ := Rs.all fun x hx => k x (List.mem_cons_of_mem _ hx)
    obtain ⟨d, a, b⟩ := k v List.mem_cons_self
    refine ⟨d :: ds, by rw [List.length_cons, List.length_cons, h1], fun H' t => .cons (a H' t) (h2 H' t), fun x hx => ?_⟩
    rcases List.mem_cons.mp hx with rfl | hx
    · exact b
    · exact h3 x hx
theorem Rs.tup {H : Hp} {n h : Nat} {p : Addr} {vs : List V} (e : H p = some (.tup vs)) (k : ∀ v ∈ vs, Rs H v n h) : Rs H (.ref p) ((n + 2) * vs.length + 3) (h + 1) := by
  obtain ⟨ds, h1, h2, h3⟩ := Rs.all k
  refine ⟨.tuple ds, fun H' t => .tup (t.t _ _ e) (h2 H' t), ?_⟩
  rw [← h1]
  exact Shw.tups h3
theorem Rs.tk {H H' : Hp} {v : V} {n h : Nat} (t : TK H H') (r : Rs H v n h) : Rs H' v n h := let ⟨d, a, b⟩ := r; ⟨d, fun H2 t2 => a H2 (t.trans t2), b⟩
section
variable {D : Addr} {te : TE} {tc : TT} {Q : VK} {ρ : St} {H : Hp} {K : PySem.W.Frag} {a b : Addr}
end
end G2

set_option Elab.async false
set_option linter.all false
set_option maxRecDepth 100000
namespace L2
open PySem PySem.Spec PyProof.Rows

/-! ### lists of pairs as tables -/
section
variable {κ : Type} [DecidableEq κ]
def valV (kvs : List (κ × V)) (k : κ) : Option V := (kvs.find? fun kv => decide (kv.1 = k)).map (·.2)
/-- in its place, or at the end -/
def putK (kvs : List (κ × V)) (k : κ) (v : V) : List (κ × V) :=
  if (kvs.any fun kv => decide (kv.1 = k)) = true then kvs.map (fun kv => if kv.1 = k then (kv.1, v) else kv) else kvs ++ [(k, v)]
def dropK (kvs : List (κ × V)) (k : κ) : List (κ × V) := kvs.filter fun kv => decide (kv.1 ≠ k)

theorem valV_pos {p : κ × V} {r : List (κ × V)} {k : κ} (e : p.1 = k) : valV (p :: r) k = some p.2 := by simp [valV, List.find?_cons, e]
theorem valV_neg {p : κ × V} {r : List (κ × V)} {k : κ} (e : ¬ p.1 = k) : valV (p :: r) k = valV r k := by simp [valV, List.find?_cons, e]
theorem valV_any (k : κ) : ∀ kvs : List (κ × V), (kvs.any fun kv => decide (kv.1 = k)) = (valV kvs k).isSome
  | [] => rfl
  | p :: r => by
    rw [List.any_cons]
    by_cases e : p.1 = k
    · simp only [valV_pos e, decide_eq_true e, Bool.true_or, Option.isSome_some]
    · rw [valV_neg e, decide_eq_false e, Bool.false_or]; exact valV_any k r

theorem RelO.isSome_eq {o : Option V} {u : Option Value} (r : RelO o u) : o.isSome = u.isSome := by
  cases o with
  | none => cases u with
    | none => rfl
    | some _ => exact (show False from r).elim
  | some _ => cases u with
    | none => exact (show False from r).elim
    | some _ => rfl
theorem RelO.getD {o : Option V} {u : Option Value} {d : V} {d' : Value} (r : RelO o u) (rd : RelV d d') : RelV (o.getD d) (u.getD d') := by
  cases o with
  | none => cases u with
    | none => exact rd
    | some _ => exact (show False from r).elim
  | some _ => cases u with
    | none => exact (show False from r).elim
    | some _ => exact r

/-- raw tables of the same keys -/
theorem KV.val {kvs : List (κ × V)} {vs : List (κ × Value)} (r : KV kvs vs) (k : κ) : RelO (valV kvs k) (valueAt vs k) := by
  unfold KV at r
  induction r with
  | nil => exact True.intro
  | @cons p q ps qs h t ih =>
    obtain ⟨h1, h2⟩ := h
    by_cases e : p.1 = k
    · have e' : q.1 = k := h1.symm.trans e
      have b : valueAt (q :: qs) k = some q.2 := by simp [valueAt, List.find?_cons, e']
      rw [valV_pos e, b]; exact h2
    · have e' : ¬ q.1 = k := fun z => e (h1.trans z)
      have b : valueAt (q :: qs) k = valueAt qs k := by simp [valueAt, List.find?_cons, e']
      rw [valV_neg e, b]; exact ih
theorem KV.any {kvs : List (κ × V)} {vs : List (κ × Value)} (r : KV kvs vs) (k : κ) : (kvs.any fun kv => decide (kv.1 = k)) = vs.any fun kv => decide (kv.1 = k) := by
  unfold KV at r
  induction r with
  | nil => rfl
  | cons h t ih => rw [List.any_cons, List.any_cons, ih, h.1]
theorem KV.repl {kvs : List (κ × V)} {vs : List (κ × Value)} (r : KV kvs vs) (k : κ) {y : V} {u : Value} (ry : RelV y u) :
    KV (kvs.map fun kv => if kv.1 = k then (kv.1, y) else kv) (vs.map fun kv => if kv.1 = k then (kv.1, u) else kv) := by
  unfold KV at r ⊢
  induction r with
  | nil => exact .nil
  | @cons p q ps qs h t ih =>
    rw [List.map_cons, List.map_cons]
    refine .cons ?_ ih
    obtain ⟨h1, h2⟩ := h
    by_cases e : p.1 = k
    · rw [if_pos e, if_pos (h1.symm.trans e)]; exact ⟨h1, ry⟩
    · rw [if_neg e, if_neg (fun z => e (h1.trans z))]; exact ⟨h1, h2⟩
theorem KV.put {kvs : List (κ × V)} {vs : List (κ × Value)} (r : KV kvs vs) (k : κ) {y : V} {u : Value} (ry : RelV y u) : KV (putK kvs k y) (stored vs k u) := by
  unfold putK stored
  rw [r.any k]
  by_cases e : (vs.any fun kv => decide (kv.1 = k)) = true
  · rw [if_pos e, if_pos e]; exact r.repl k ry
  · rw [if_neg e, if_neg e]; exact Paired.snoc r ⟨rfl, ry⟩
theorem KV.drop {kvs : List (κ × V)} {vs : List (κ × Value)} (r : KV kvs vs) (k : κ) : KV (dropK kvs k) (without vs k) := by
  unfold KV at r ⊢
  unfold dropK without
  induction r with
  | nil => exact .nil
  | @cons p q ps qs h t ih =>
    obtain ⟨h1, h2⟩ := h
    rw [List.filter_cons, List.filter_cons]
    by_cases e : p.1 = k
    · have a : ¬ decide (p.1 ≠ k) = true := by simp [e]
      have b : ¬ decide (q.1 ≠ k) = true := by simp [h1.symm.trans e]
      rw [if_neg a, if_neg b]; exact ih
    · have e' : ¬ q.1 = k := fun z => e (h1.trans z)
      have a : decide (p.1 ≠ k) = true := by simp [e]
      have b : decide (q.1 ≠ k) = true := by simp [e']
      rw [if_pos a, if_pos b]; exact .cons ⟨h1, h2⟩ ih
theorem KV.keys {kvs : List (κ × V)} {vs : List (κ × Value)} (r : KV kvs vs) : kvs.map (·.1) = vs.map (·.1) := by
  unfold KV at r
  induction r with
  | nil => rfl
  | cons h t ih => rw [List.map_cons, List.map_cons, ih, h.1]
theorem KV.length {kvs : List (κ × V)} {vs : List (κ × Value)} (r : KV kvs vs) : kvs.length = vs.length := Paired.length r
end


/-! ### a tracked dict, its keys ints and texts or tuples of these -/

/-- raw entries of a dict with tuple keys -/
abbrev KT (H : Hp) : List (List Key × V) → List (List Key × Addr × Value) → Prop := Paired fun p q => p.1 = q.1 ∧ H q.2.1 = some (.tup (p.1.map kV)) ∧ RelV p.2 q.2.2
theorem KT.val {H : Hp} {kvs : List (List Key × V)} {xs : List (List Key × Addr × Value)} (r : KT H kvs xs) (k : List Key) : RelO (valV kvs k) ((atKey xs k).map (·.2)) := by
  induction r with
  | nil => exact True.intro
  | @cons p q ps qs h t ih =>
    obtain ⟨h1, _, h2⟩ := h
    by_cases e : p.1 = k
    · have e' : q.1 = k := h1.symm.trans e
      have b : atKey (q :: qs) k = some q.2 := by simp [atKey, List.find?_cons, e']
      rw [valV_pos e, b]; exact h2
    · have e' : ¬ q.1 = k := fun z => e (h1.trans z)
      have b : atKey (q :: qs) k = atKey qs k := by simp [atKey, List.find?_cons, e']
      rw [valV_neg e, b]; exact ih
theorem KT.repl {H : Hp} {kvs : List (List Key × V)} {xs : List (List Key × Addr × Value)} (r : KT H kvs xs) (k : List Key) {y : V} {u : Value} (ry : RelV y u) :
    KT H (kvs.map fun kv => if kv.1 = k then (kv.1, y) else kv) (xs.map (putAt k u)) := by
  induction r with
  | nil => exact .nil
  | @cons p q ps qs h t ih =>
    rw [List.map_cons, List.map_cons]
    refine .cons ?_ ih
    obtain ⟨h1, h2, h3⟩ := h
    unfold putAt
    by_cases e : p.1 = k
    · rw [if_pos e, if_pos (h1.symm.trans e)]; exact ⟨h1, h2, ry⟩
    · rw [if_neg e, if_neg (fun z => e (h1.trans z))]; exact ⟨h1, h2, h3⟩
theorem KT.put {H : Hp} {kvs : List (List Key × V)} {xs : List (List Key × Addr × Value)} (r : KT H kvs xs) (k : List Key) {b : Addr} {y : V} {u : Value} (hb : H b = some (.tup (k.map kV))) (ry : RelV y u) :
    KT H (putK kvs k y) (storedH xs k b u) := by
  have e : (kvs.any fun kv => decide (kv.1 = k)) = (atKey xs k).isSome := by
    rw [valV_any, (r.val k).isSome_eq, Option.isSome_map]
  unfold putK storedH
  rw [e]
  by_cases q : (atKey xs k).isSome = true
  · rw [if_pos q, if_pos q]; exact r.repl k ry
  · rw [if_neg q, if_neg q]; exact Paired.snoc r ⟨rfl, hb, ry⟩
theorem KT.keeps {H H' : Hp} {kvs : List (List Key × V)} {xs : List (List Key × Addr × Value)} (r : KT H kvs xs) (ht : ∀ b ys, H b = some (.tup ys) → H' b = some (.tup ys)) : KT H' kvs xs :=
  Paired.mapP r fun _ _ z => ⟨z.1, ht _ _ z.2.1, z.2.2⟩

section
variable {P : Program} {w : World} {H : Hp} {h : Heap} {a : Addr}
end

/-- what the dict at a holds at the key y -/
def DGet (H : Hp) (a : Addr) (y : V) (r : Option V) : Prop :=
  (∃ kvs k, Rd H a (.dK kvs) ∧ y = kV k ∧ r = valV kvs k) ∨ ∃ kvs k b, Rd H a (.dT kvs) ∧ y = .ref b ∧ H b = some (.tup (k.map kV)) ∧ r = valV kvs k
/-- the heap behind a[y] = v -/
def DPut (H : Hp) (a : Addr) (y v : V) (H' : Hp) : Prop :=
  (∃ kvs k, H a = some (.dK kvs) ∧ y = kV k ∧ kvs.length < sizeLine ∧ H' = upd H a (.dK (putK kvs k v))) ∨
  ∃ kvs k b, H a = some (.dT kvs) ∧ y = .ref b ∧ H b = some (.tup (k.map kV)) ∧ kvs.length < sizeLine ∧ H' = upd H a (.dT (putK kvs k v))
theorem DGet.k {H : Hp} {a : Addr} {kvs : List (Key × V)} {k : Key} (e : H a = some (.dK kvs)) : DGet H a (kV k) (valV kvs k) := .inl ⟨kvs, k, .inl e, rfl, rfl⟩
theorem DGet.t {H : Hp} {a b : Addr} {kvs : List (List Key × V)} {k : List Key} (e : H a = some (.dT kvs)) (eb : H b = some (.tup (k.map kV))) : DGet H a (.ref b) (valV kvs k) := .inr ⟨kvs, k, b, .inl e, rfl, eb, rfl⟩
theorem DPut.k {H : Hp} {a : Addr} {kvs : List (Key × V)} {k : Key} {v : V} (e : H a = some (.dK kvs)) (hl : kvs.length < sizeLine) : DPut H a (kV k) v (upd H a (.dK (putK kvs k v))) := .inl ⟨kvs, k, e, rfl, hl, rfl⟩
theorem DPut.t {H : Hp} {a b : Addr} {kvs : List (List Key × V)} {k : List Key} {v : V} (e : H a = some (.dT kvs)) (eb : H b = some (.tup (k.map kV))) (hl : kvs.length < sizeLine) :
    DPut H a (.ref b) v (upd H a (.dT (putK kvs k v))) := .inr ⟨kvs, k, b, e, rfl, eb, hl, rfl⟩


section
variable {X : Cx} {pins : List (Addr × Obj)} {σ : St} {H : Hp} {s : Shared} {a : Addr} {y v : V} {u r : Value} {o : Option V} {A : Around} {E : Value → Shared → Prop}

theorem Inv.big (I : Inv X pins σ H s) : sysModules < s.heap.objs.size := by
  have h : mainGlobals < s.heap.objs.size := (I.mod.glob.keeps I.bk).lt
  exact Nat.lt_trans (by decide) h

end

section
variable {X : Cx} {pins : List (Addr × Obj)} {σ : St} {H : Hp} {s : Shared} {a : Addr} {kvs : List (Key × V)} {k : Key} {u : Value} {A : Around} {E : Value → Shared → Prop}
end


/-! ### readings and rules -/
/-- the element of a subscription, not a slice -/
def NoSl (i : Expr) : Prop := ∀ ov iv, subscripted i false ov iv = operate [ov, iv] (getItem ov iv)


/-- d[y] -/
def tDGet (td ty : TE) : TE := fun σ H Q => td σ H fun x H1 => ty σ H1 fun y H2 => ∃ a v, x = .ref a ∧ DGet H2 a y (some v) ∧ Q v H2
/-- y in d, y not in d -/
def tDIn (ty td : TE) : TE := fun σ H Q => ty σ H fun y H1 => td σ H1 fun x H2 => ∃ a o, x = .ref a ∧ DGet H2 a y o ∧ Q (.bl o.isSome) H2
def tDNotIn (ty td : TE) : TE := fun σ H Q => ty σ H fun y H1 => td σ H1 fun x H2 => ∃ a o, x = .ref a ∧ DGet H2 a y o ∧ Q (.bl (!o.isSome)) H2
/-- d[y] = v -/
def sDPut (td ty tv : TE) : TS := fun D σ H => tv σ H fun v H1 => td σ H1 fun x H2 => ty σ H2 fun y H3 => ∃ a H4, x = .ref a ∧ DPut H3 a y v H4 ∧ D.nx σ H4
/-- d[y] op= v -/
def sDAug (td ty tv : TE) (rd : V → V → Hp → VK → Prop) : TS := fun D σ H => td σ H fun x H1 => ty σ H1 fun y H2 => ∃ a v, x = .ref a ∧ DGet H2 a y (some v) ∧
  tv σ H2 fun y2 H3 => rd v y2 H3 fun z H4 => ∃ H5, DPut H4 a y z H5 ∧ D.nx σ H5
/-- del d[y] -/
def sDDel (td ty : TE) : TS := fun D σ H => td σ H fun x H1 => ty σ H1 fun y H2 => ∃ a kvs k, x = .ref a ∧ H2 a = some (.dK kvs) ∧ y = kV k ∧ (valV kvs k).isSome = true ∧ D.nx σ (upd H2 a (.dK (dropK kvs k)))

section
variable {X : Cx} {o i e value : Expr} {pos pos' tpos : Pos} {td ty tv : TE}
end


/-! ### displays -/
/-- {}, to be a dict of the kind that is wanted -/
def tDNewK : TE := fun _ H Q => ∀ p, H p = none → Q (.ref p) (upd H p (.dK []))
def tDNewT : TE := fun _ H Q => ∀ p, H p = none → Q (.ref p) (upd H p (.dT []))
section
variable {X : Cx} {pos : Pos}
end

/-- the pairs of a display, from the left -/
def tPairs : List (TE × TE) → St → Hp → (List (V × V) → Hp → Prop) → Prop
  | [], _, H, Q => Q [] H
  | (tk, tv) :: r, σ, H, Q => tk σ H fun x H1 => tv σ H1 fun y H2 => tPairs r σ H2 fun ps H3 => Q ((x, y) :: ps) H3
abbrev VV : List (V × V) → List (Value × Value) → Prop := Paired fun p q => RelV p.1 q.1 ∧ RelV p.2 q.2
def PPs (X : Cx) (pos : Pos) (keys : List (Option Expr)) (values : List Expr) (trs : List (TE × TE)) : Prop :=
  ∀ (pins : List (Addr × Obj)) (s : Shared) (σ : St) (H : Hp) (Q : List (V × V) → Hp → Prop), Inv X pins σ H s → tPairs trs σ H Q →
    wpAny (model X.prog X.w) X.A (evalPairs (pairTrees keys values X.env pos)) (fun vs s' => ∃ ps H', Inv X pins σ H' s' ∧ VV ps vs ∧ Q ps H') X.xe s

def mergeK (kvs more : List (Key × V)) : List (Key × V) := more.foldl (fun acc kv => putK acc kv.1 kv.2) kvs
/-- {k: v, ..} with keys ints and texts; the new dict stands empty while the pairs are made -/
def tDisp (trs : List (TE × TE)) : TE := fun σ H Q => ∀ p, H p = none → tPairs trs σ (upd H p (.dK [])) fun ps H2 => H2 p = some (.dK []) ∧ ∃ kvs : List (Key × V), ps = kvs.map (fun kv => (kV kv.1, kv.2)) ∧ kvs.length ≤ 15 ∧ Q (.ref p) (upd H2 p (.dK (mergeK [] kvs)))


/-! ### methods -/
/-- a method call o.m(e) of a built-in, with one argument: what must be seen of the text -/
structure M1 (X : Cx) (o : Expr) (m : Str) (apos : Pos) (e : Expr) (cpos : Pos) : Prop where
  base : attributeBase o m X.env (eval o X.env) = eval o X.env
  few : ((backTo cpos (starEach [e] X.env)).all (fun x => !x.1) && (backToKw cpos (keywordEach [] X.env)).all (fun x => x.1.isSome)
    && decide (([e] : List Expr).length + ([] : List Keyword).length + (if ([] : List Keyword).isEmpty then 0 else 1) < 30)) = true
  line : (apos.endLine == cpos.line) = true
  trees : backTo cpos (starEach [e] X.env) = [(false, eval e X.env)]
structure M2 (X : Cx) (o : Expr) (m : Str) (apos : Pos) (e f : Expr) (cpos : Pos) : Prop where
  base : attributeBase o m X.env (eval o X.env) = eval o X.env
  few : ((backTo cpos (starEach [e, f] X.env)).all (fun x => !x.1) && (backToKw cpos (keywordEach [] X.env)).all (fun x => x.1.isSome)
    && decide (([e, f] : List Expr).length + ([] : List Keyword).length + (if ([] : List Keyword).isEmpty then 0 else 1) < 30)) = true
  line : (apos.endLine == cpos.line) = true
  trees : backTo cpos (starEach [e, f] X.env) = [(false, eval e X.env), (false, eval f X.env)]

/-- a is a dict, whatever its keys -/
def IsD (H : Hp) (a : Addr) : Prop := (∃ kvs, Rd H a (.dK kvs)) ∨ ∃ kvs, Rd H a (.dT kvs)

section
variable {X : Cx} {pins : List (Addr × Obj)} {σ : St} {H : Hp} {s : Shared} {a : Addr} {y d : V} {u r : Value} {o : Option V} {A : Around} {E : Value → Shared → Prop}
end

def tDGet1 (td ty : TE) : TE := fun σ H Q => td σ H fun x H1 => ∃ a, x = .ref a ∧ IsD H1 a ∧ ty σ H1 fun y H2 => ∃ o, DGet H2 a y o ∧ Q (o.getD .non) H2
def tDGet2 (td ty tx : TE) : TE := fun σ H Q => td σ H fun x H1 => ∃ a, x = .ref a ∧ IsD H1 a ∧ ty σ H1 fun y H2 => tx σ H2 fun z H3 => ∃ o, DGet H3 a y o ∧ Q (o.getD z) H3
/-- d.pop(k): there; d.pop(k, x): there or not -/
def tDPop1 (td ty : TE) : TE := fun σ H Q => td σ H fun x H1 => ∃ a, x = .ref a ∧ IsD H1 a ∧ ty σ H1 fun y H2 => ∃ kvs k v, H2 a = some (.dK kvs) ∧ y = kV k ∧ valV kvs k = some v ∧ Q v (upd H2 a (.dK (dropK kvs k)))
def tDPop2 (td ty tx : TE) : TE := fun σ H Q => td σ H fun x H1 => ∃ a, x = .ref a ∧ IsD H1 a ∧ ty σ H1 fun y H2 => tx σ H2 fun z H3 => ∃ kvs k, H3 a = some (.dK kvs) ∧ y = kV k ∧
  (∀ v, valV kvs k = some v → Q v (upd H3 a (.dK (dropK kvs k)))) ∧ (valV kvs k = none → Q z H3)
section
variable {X : Cx} {o e f : Expr} {apos cpos : Pos} {td ty tx : TE}
end

/-! ### dict(d): a copy -/
section
variable {X : Cx} {pins : List (Addr × Obj)} {σ : St} {H : Hp} {s : Shared} {a : Addr} {kvs : List (Key × V)} {A : Around} {E : Value → Shared → Prop}
end


section
variable {X : Cx} {pins : List (Addr × Obj)} {σ : St} {H : Hp} {s : Shared} {a : Addr} {y : V} {u : Value} {A : Around} {E : Value → Shared → Prop}
end
end L2

set_option Elab.async false
set_option linter.all false
set_option maxRecDepth 100000
namespace L2
open PySem PySem.Spec PyProof.Rows
section
variable {X : Cx} {pins : List (Addr × Obj)} {σ : St} {H : Hp} {s : Shared} {a o : Addr} {kvs more : List (Key × V)} {A : Around} {E : Value → Shared → Prop}
end
/-- d.update(e) -/
def tDUpd (td ty : TE) : TE := fun σ H Q => td σ H fun x H1 => ∃ a, x = .ref a ∧ IsD H1 a ∧ ty σ H1 fun y H2 => ∃ o kvs more, y = .ref o ∧ H2 a = some (.dK kvs) ∧ H2 o = some (.dK more) ∧ a ≠ o ∧ kvs.length + more.length ≤ 1000 ∧ Q .non (upd H2 a (.dK (mergeK kvs more)))
end L2

set_option Elab.async false
set_option linter.all false
set_option maxRecDepth 100000
namespace L2
open PySem PySem.Spec PyProof.Rows
section
variable {X : Cx} {k : Nat}
/-- xs == [], whatever stands in xs -/
def rEqE : R2 := fun x y H Q => ∃ (a z : Addr) (xs : List V), x = .ref a ∧ y = .ref z ∧ H a = some (.lst xs) ∧ H z = some (.lst []) ∧ Q (.bl xs.isEmpty) H
theorem op_eqE (hr : Room k X.A) : OpR X (compareOp .Eq) rEqE := by
  intro pins s σ H x y v u Q I rx ry h
  obtain ⟨a, z, xs, rfl, rfl, ha, hz, q⟩ := h
  cases rx
  cases ry
  have hu := hr.units
  obtain ⟨its, r, pl, _⟩ := I.list (SqL.of ha)
  obtain ⟨its2, r2, pl2, _⟩ := I.list (SqL.of hz)
  have e2 : its2 = [] := r2.nil_iff.mpr rfl
  subst e2
  cases xs with
  | nil =>
    have e1 : its = [] := r.nil_iff.mpr rfl
    subst e1
    have R := SeqAt.RcAt.lists (A := X.A) (e := fun _ => true) pl.isList pl2.isList rfl (by omega) (fun j h1 h2 => absurd h1 (by simp))
    exact R X.prog X.w X.xe _ ⟨.bl _, H, I, rfl, q⟩
  | cons y ys =>
    have hne : its ≠ [] := fun e => by have := r.nil_iff.mp e; cases this
    have R := SeqAt.RcAt.lists_lengths (A := X.A) pl.isList pl2.isList (by simp [hne]) (by omega)
    exact R X.prog X.w X.xe _ ⟨.bl _, H, I, rfl, q⟩
def rNeE : R2 := fun x y H Q => ∃ (a z : Addr) (xs : List V), x = .ref a ∧ y = .ref z ∧ H a = some (.lst xs) ∧ H z = some (.lst []) ∧ Q (.bl (!xs.isEmpty)) H
/-- dict(d) -/
def rDictC : List V → Hp → VK → Prop := fun xs H Q => ∃ (a : Addr) (kvs : List (Key × V)), xs = [.ref a] ∧ H a = some (.dK kvs) ∧ ∀ p, H p = none → Q (.ref p) (upd H p (.dK kvs))
end
end L2

set_option Elab.async false
set_option linter.all false
set_option maxRecDepth 100000
namespace L2
open PySem PySem.Spec PyProof.Rows
section
variable {X : Cx} {k : Nat}
/-- t != (), t == (), whatever stands in t -/
def rNeT : R2 := fun x y H Q => ∃ (a z : Addr) (xs : List V), x = .ref a ∧ y = .ref z ∧ H a = some (.tup xs) ∧ H z = some (.tup []) ∧ Q (.bl (!xs.isEmpty)) H
end
end L2

set_option Elab.async false
set_option linter.all false
set_option maxRecDepth 100000
namespace K7
open PySem L2 G2
local macro_rules | `(tactic| walk_at "v") => `(tactic| repeat (with_reducible first
  | refine w_seq ?_ | refine w_asg ?_ | refine w_gname ?_ | refine w_op ?_ | refine w_var rfl ?_ | refine w_c ?_ | refine w_rI0 ?_ | refine w_ifs ?_ | refine w_ife ?_ | refine w_test ?_ | refine w_tb ?_ | refine w_bl ?_ | refine w_not ?_ | refine w_ret ?_ | refine w_retN ?_
  | refine w_nil ?_ | refine w_cons ?_ | refine w_lst ?_ | refine w_tup ?_ | refine w_cb ?_ | refine w_call ?_ | refine w_gsub ?_ | refine w_and ?_ | refine w_or ?_ | refine w_next ?_ | refine w_all ?_ | refine w_vals ?_ | refine w_compR ?_ | refine w_compT ?_ | refine w_forR ?_ | refine w_forT ?_ | refine w_forL ?_ | refine w_drop ?_ | refine w_bm ?_ | refine w_compZ ?_ | refine w_compL ?_ | refine w_chain ?_ | refine w_sl ?_ | refine w_nopart ?_ | refine w_part ?_ | refine w_unI ?_ | refine iteT ?_ | refine iteF ?_))
abbrev sLgone : Stmt := top 18
theorem fits_iff {st t : List Int} (h : st.length = t.length) : fits st t = true ↔ ∀ i, i < st.length → t.getD i 0 ≤ st.getD i 0 := by
  unfold fits
  rw [List.all_eq_true]
  constructor
  · intro z i hi
    have hi' : i < t.length := by omega
    have := z (decide (t[i] ≤ st[i])) (by
      apply List.mem_iff_getElem?.mpr
      exact ⟨i, by simp [List.getElem?_zipWith, hi, hi']⟩)
    simpa [List.getD_eq_getElem?_getD, hi, hi'] using this
  · intro z b hb
    obtain ⟨i, hi⟩ := List.mem_iff_getElem?.mp hb
    rw [List.getElem?_zipWith] at hi
    cases e1 : st[i]? with
    | none => rw [e1] at hi; cases hi
    | some x =>
      cases e2 : t[i]? with
      | none => rw [e1, e2] at hi; cases hi
      | some y =>
        rw [e1, e2] at hi
        have hi1 := (List.getElem?_eq_some_iff.mp e1).1
        have := z i hi1
        rw [List.getD_eq_getElem?_getD, List.getD_eq_getElem?_getD, e1, e2] at this
        cases hi
        simpa using this
def lfL (st t : List Int) : List Int := (List.range st.length).map fun i => st.getD i 0 - t.getD i 0
theorem min_fits {st t : List Int} {M : Int} (h : st.length = t.length) (h1 : M ∈ lfL st t) (h2 : ∀ a ∈ lfL st t, M ≤ a) : (M < 0) ↔ fits st t = false := by
  rw [← Bool.not_eq_true, fits_iff h]
  constructor
  · intro hM z
    obtain ⟨i, hi, rfl⟩ := List.mem_map.mp h1
    have := z i (List.mem_range.mp hi)
    omega
  · intro z
    by_cases hM : M < 0
    · exact hM
    · exfalso
      apply z
      intro i hi
      have := h2 _ (List.mem_map.mpr ⟨i, List.mem_range.mpr hi, rfl⟩)
      omega
theorem cg_fits {tg : Rows} {st : List Int} {r : Int} (h0 : 0 ≤ r) (h1 : r < tg.length) : cg tg st r = fits st (rl tg r).1 := by
  unfold cg
  rw [decide_eq_true ⟨h0, h1⟩, Bool.true_and]
theorem go_left {st : List Int} {x : List Int × List Int} : (List.range st.length).map (fun i => (lfL st x.1).getD i 0 + x.2.getD i 0) = goL st x := by
  unfold goL
  apply List.map_congr_left
  intro i hi
  have hi' := List.mem_range.mp hi
  simp [lfL, List.getD_eq_getElem?_getD, hi']
def asgComp8 (s : Stmt) : Scope := match s with
  | .Assign _ (.ListComp _ _ sc _) _ => sc
  | _ => { kind := .function, names := [], isGenerator := false, isCoroutine := false }
abbrev nLgone : List Str := ["_law_pot_here", "_law_stand", "_law_rule_here", "_law_takes", "_law_gives", "_law_left"]
theorem nmLgone : Nm nLgone (defScope sLgone) := ⟨by decide +kernel, by decide +kernel⟩
theorem scLgone : FnScope nLgone ["_law_pot_here", "_law_stand", "_law_rule_here"] (defScope sLgone) := ⟨rfl, rfl, rfl, by decide +kernel, rfl, by decide +kernel, by decide +kernel⟩

abbrev cLgone1 : Scope := asgComp8 ((defBody sLgone).getD 2 (.Pass ⟨0, 0, 0, 0⟩))
abbrev cLgone3 : Scope := retCallComp ((defBody sLgone).getD 4 (.Pass ⟨0, 0, 0, 0⟩))
theorem bsLgone1 : BScope (defScope sLgone) cLgone1 ["_law_sort"] ["_law_stand", "_law_takes"] [] := { okind := by decide +kernel, kind := by decide +kernel, nocell := by decide +kernel, names := by decide +kernel, fr := by decide +kernel, ff := by decide +kernel, nd := by decide +kernel, vis := by decide +kernel, loc := by decide +kernel, gl := by decide +kernel }
theorem bsLgone3 : BScope (defScope sLgone) cLgone3 ["_law_sort"] ["_law_left", "_law_gives"] [] := { okind := by decide +kernel, kind := by decide +kernel, nocell := by decide +kernel, names := by decide +kernel, fr := by decide +kernel, ff := by decide +kernel, nd := by decide +kernel, vis := by decide +kernel, loc := by decide +kernel, gl := by decide +kernel }

def spLgone : Sp := fun vs H Q _ => ∃ (p s : Addr) (r : Int) (m : Nat) (tg : Rows) (st : List Int), vs = [.ref p, .ref s, .int r] ∧ PotR H p m tg ∧ H s = some (.tup (st.map V.int)) ∧ st.length = m ∧ (cg tg st r = false → ∀ H', Same H H' → Q .non H') ∧ (cg tg st r = true → ∀ q H', Same H H' → H' q = some (.tup ((goL st (rl tg r)).map V.int)) → Q (.ref q) H')
section
variable {P : Program} {w : World} {K : PySem.W.Frag} {mg : Str → Option Value} {base : Heap}
set_option maxHeartbeats 4000000 in
theorem ok_Lgone {f : Addr} {fd : FuncData} (B : Blt8 mg) (F : Fun K "_law_gone" "_law_gone" sLgone f fd) : FnOk P w K mg base CX0 1 f fd ["_law_pot_here", "_law_stand", "_law_rule_here"] spLgone := by
  refine F.ok scLgone (fun vs H Q E h => ?_) (fun cdv A outer s H vs Q E hr h => ?_)
  · obtain ⟨p, s, r, m, tg, st, rfl, _⟩ := h
    rfl
  · obtain ⟨p, sa, r, m, tg, st, rfl, hP, hs, hst, kn, ky⟩ := h
    refine' ⟨_, ?hb, ?rd⟩
    case hb =>
      refine' pss_cons ?s0 ?r0
      case s0 =>
        refine' ps_if ?z1 (pss_one (ps_ret pe_non)) pss_nil
        case' z1 => refine' PW.pt ?z2
        case' z2 => refine' pw_or (pt_cmpR op_lt (pvd nmLgone 2) pe_int (nomark _)) ?z3
        case' z3 => refine' pw_or1 ?z4
        case z4 => exact pt_cmpR op_ge (pvd nmLgone 2) (pe_cB call_len_seq B.len PySem.boot_len (pa_1 (pe_ix ix_d (pvd nmLgone 0) pe_int (fun _ _ => rfl)))) (nomark _)
      case' r0 => refine' pss_cons ?s1 ?r1
      case' r1 => refine' pss_cons ?s2 ?r2
      case' r2 => refine' pss_cons ?s3 ?r3
      case' r3 => refine' pss_one ?s4
      case s1 =>
        refine' ps_asg ?a1 ?a2
        case a1 => exact pe_ix ix_d (pe_ix ix_d (pvd nmLgone 0) pe_int (fun _ _ => rfl)) (pvd nmLgone 2) (fun _ _ => rfl)
        case a2 => exact pg_tup rfl (pgs_cons (pgd nmLgone 3) (pgs_cons (pgd nmLgone 4) pgs_nil))
      case s2 =>
        refine' ps_setD nmLgone 5 ?b1
        case b1 =>
          refine' pe_comp (ix := [1, 3]) bsLgone1.toCScope rfl rfl ?h3 ?h4 ?h5 ?h6
          case h3 =>
            refine' pi_r1 B.range ?h3a
            case' h3a => refine' pa_1 ?h3b
            case h3b => exact pe_cB call_len_seq B.len PySem.boot_len (pa_1 (pvd nmLgone 1))
          case h4 => exact fun _ _ _ _ _ _ => pgb bsLgone1 0
          case h5 => exact fun _ _ _ _ _ _ => pts_nil
          case h6 => exact fun _ _ _ _ _ _ => pe_op op_sub (pe_ix ix_d (pvb bsLgone1 1) (pvb bsLgone1 0) (fun _ _ => rfl)) (pe_ix ix_d (pvb bsLgone1 2) (pvb bsLgone1 0) (fun _ _ => rfl))
      case s3 =>
        refine' ps_if ?c1 (pss_one (ps_ret pe_non)) pss_nil
        case c1 => exact pt_cmpR op_lt (pe_cB (call_minL rfl) B.min PyProof.Rows.boot_min (pa_1 (pvd nmLgone 5))) pe_int (nomark _)
      case s4 =>
        refine' ps_ret ?e1
        case' e1 => refine' pe_cT call_tuple_of B.tuple PyProof.Rows.boot_tuple ?e2
        case' e2 => refine' pa_1 ?e3
        case e3 =>
          refine' pe_comp (ix := [5, 4]) bsLgone3.toCScope rfl rfl ?i3 ?i4 ?i5 ?i6
          case i3 =>
            refine' pi_r1 B.range ?i3a
            case' i3a => refine' pa_1 ?i3b
            case i3b => exact pe_cB call_len_seq B.len PySem.boot_len (pa_1 (pvd nmLgone 1))
          case i4 => exact fun _ _ _ _ _ _ => pgb bsLgone3 0
          case i5 => exact fun _ _ _ _ _ _ => pts_nil
          case i6 => exact fun _ _ _ _ _ _ => pe_op op_add (pe_ix ix_d (pvb bsLgone3 1) (pvb bsLgone3 0) (fun _ _ => rfl)) (pe_ix ix_d (pvb bsLgone3 2) (pvb bsLgone3 0) (fun _ _ => rfl))
    case rd =>
      have m8 := hP.m8
      have m0 := hP.m0
      have no : ¬ (0 ≤ r ∧ r < (tg.length : Int)) → cg tg st r = false := fun z => by
        unfold cg
        rw [decide_eq_false z, Bool.false_and]
      walk_at "v"
      refine iteD (fun hr0 => ?_) (fun hr0 => ?_)
      · walk_at "v"
        exact kn (no (by omega)) _ (Same.refl _)
      obtain ⟨ps, pr, pin, pb, ans, rs, h1, h2, h3⟩ := hP.ex
      have hrl := h3.1
      walk_at "v"
      refine w_ixT h1 rfl ?_
      walk_at "v"
      refine ⟨pr, _, rfl, .inr (SqT.of h2), ?_⟩
      rw [List.length_map, hrl]
      walk_at "v"
      refine iteD (fun hr1 => ?_) (fun hr1 => ?_)
      · walk_at "v"
        exact kn (no (by omega)) _ (Same.refl _)
      replace hr0 : 0 ≤ r := by omega
      replace hr1 : r < (tg.length : Int) := by omega
      have hcg := cg_fits (st := st) hr0 hr1
      obtain ⟨j, rfl⟩ := Nat.ofI hr0
      have hj : j < tg.length := by omega
      have hj' : j < rs.length := by omega
      obtain ⟨t, g, htg⟩ : ∃ t g, tg[j] = (t, g) := ⟨_, _, rfl⟩
      obtain ⟨lt, lg, bt, bg, a, b, e1, e2, e3⟩ := h3.2 j rs[j] t g (by simp [hj']) (by rw [List.getElem?_eq_getElem hj, htg])
      have hrl' : rl tg (j : Int) = (t, g) := by
        unfold rl
        rw [Int.toNat_natCast, List.getD_eq_getElem?_getD, List.getElem?_eq_getElem hj, htg]
        rfl
      rw [hrl'] at hcg ky
      walk_at "v"
      refine w_ixT h1 rfl ?_
      walk_at "v"
      refine w_ixT (v := .ref rs[j]) h2 (atI_nat (by simp [hj'])) ?_
      refine ⟨rs[j], _, rfl, SqT.of e1, rfl, ?_⟩
      refine ⟨_, _, rfl, ?_⟩
      walk_at "v"
      refine ⟨_, _, rfl, ?_⟩
      walk_at "v"
      refine ⟨rfl, ?_⟩
      walk_at "v"
      refine ⟨sa, _, rfl, .inr (SqT.of hs), ?_⟩
      rw [List.length_map]
      refine ⟨_, rfl, by omega, by omega, fun D hD => ?_⟩
      rw [Int.toNat_natCast]
      refine G2.rng_map (ρ := [some (.ref sa), some (.ref a)]) (fun i => st.getD i 0 - t.getD i 0) (by omega) (fun i H' hi K' R kR => ?_) (fun H1 K1 hD1 => ?_) hD
      · have hi' : i < t.length := by omega
        walk_at "v"
        refine w_ixT (v := .int (st.getD i 0)) (K' _ _ hs) (atI_nat (by simp [List.getD_eq_getElem?_getD, hi])) ?_
        walk_at "v"
        refine w_ixT (v := .int (t.getD i 0)) (K' _ _ e2) (atI_nat (by simp [List.getD_eq_getElem?_getD, hi'])) ?_
        walk_at "v"
        exact kR _ (Same.refl _)
      replace hD1 : H1 D = some (.lst ((lfL st t).map V.int)) := hD1
      have hll : (lfL st t).length = st.length := by simp [lfL]
      walk_at "v"
      refine ⟨D, lfL st t, rfl, hD1, by omega, fun M hM1 hM2 => ?_⟩
      have hmf := min_fits (by omega) hM1 hM2
      walk_at "v"
      refine iteD (fun hM => ?_) (fun hM => ?_)
      · walk_at "v"
        exact kn (by rw [hcg]; exact hmf.mp hM) _ K1
      · have hct : cg tg st (j : Int) = true := by
          rw [hcg]
          cases hf : fits st t with
          | true => rfl
          | false => exact absurd (hmf.mpr hf) hM
        walk_at "v"
        refine ⟨sa, _, rfl, .inr (SqT.of (K1 _ _ hs)), ?_⟩
        rw [List.length_map]
        refine ⟨_, rfl, by omega, by omega, fun D2 hD2 => ?_⟩
        rw [Int.toNat_natCast]
        refine G2.rng_map (ρ := [some (.ref D), some (.ref b)]) (fun i => (lfL st t).getD i 0 + g.getD i 0) (by omega) (fun i H' hi K' R kR => ?_) (fun H2 K2 hD3 => ?_) hD2
        · have hi' : i < g.length := by omega
          have hi'' : i < (lfL st t).length := by omega
          walk_at "v"
          refine w_ixL (v := .int ((lfL st t).getD i 0)) (K' _ _ hD1) (atI_nat (by simp [List.getD_eq_getElem?_getD, hi''])) ?_
          walk_at "v"
          refine w_ixT (v := .int (g.getD i 0)) (K' _ _ (K1 _ _ e3)) (atI_nat (by simp [List.getD_eq_getElem?_getD, hi'])) ?_
          walk_at "v"
          exact kR _ (Same.refl _)
        rw [go_left (x := (t, g))] at hD3
        walk_at "v"
        refine ⟨D2, _, rfl, .inl ⟨SqL.of hD3, fun q hq => ?_⟩⟩
        exact ky hct q _ ((K1.trans K2).new hq) upd_same
end
abbrev sWay : Stmt := top 19
abbrev nWay : List Str := ["_law_pot_here", "_law_stand", "_law_order_here", "_law_way_here", "_law_place"]
theorem nmWay : Nm nWay (defScope sWay) := ⟨by decide +kernel, by decide +kernel⟩
theorem scWay : FnScope nWay ["_law_pot_here", "_law_stand", "_law_order_here"] (defScope sWay) := ⟨rfl, rfl, rfl, by decide +kernel, rfl, by decide +kernel, by decide +kernel⟩

def spWay : Sp := fun vs H Q _ => ∃ (p s o : Addr) (m : Nat) (tg : Rows) (st os : List Int), vs = [.ref p, .ref s, .ref o] ∧ PotR H p m tg ∧ H s = some (.tup (st.map V.int)) ∧ H o = some (.lst (os.map V.int)) ∧ st.length = m ∧ os.length ≤ 70 ∧
  (Good tg st os → ∀ (l : Addr) (as : List Addr) (H' : Hp), Same H H' → H l = none → H' l = some (.lst (as.map V.ref)) → as.length = os.length + 1 → Sts tg st os H' as → Q (.ref l) H') ∧ (∀ n, Bad tg st os n → ∀ H', Same H H' → Q (.int (n : Int)) H')
section
variable {P : Program} {w : World} {K : PySem.W.Frag} {mg : Str → Option Value} {base : Heap}
set_option maxHeartbeats 4000000 in
theorem ok_Way {f : Addr} {fd : FuncData} (B : Blt8 mg) (G : Has P w K mg base 1 "_law_gone" ["_law_pot_here", "_law_stand", "_law_rule_here"] spLgone) (F : Fun K "_law_way" "_law_way" sWay f fd) : FnOk P w K mg base CX0 2 f fd ["_law_pot_here", "_law_stand", "_law_order_here"] spWay := by
  refine F.ok scWay (fun vs H Q E h => ?_) (fun cdv A outer s H vs Q E hr h => ?_)
  · obtain ⟨p, s, o, m, tg, st, os, rfl, _⟩ := h
    rfl
  · obtain ⟨p, sa, o, m, tg, st, os, rfl, hP, hs, ho, hst, hol, kg, kb⟩ := h
    refine' ⟨_, ?hb, ?rd⟩
    case hb =>
      refine' pss_cons ?s1 ?r1
      case' r1 => refine' pss_cons ?s2 ?r2
      case' r2 => refine' pss_one ?s3
      case s1 => exact ps_setD nmWay 3 (pe_lst (pa_1 (pvd nmWay 1)))
      case s3 => exact ps_ret (pvd nmWay 3)
      case s2 =>
        refine' ps_for PassesOwn.never rfl ?i1 (pgd nmWay 4) ?b1
        case' i1 => refine' pi_r1 B.range ?i2
        case' i2 => refine' pa_1 ?i3
        case i3 => exact pe_cB call_len_seq B.len PySem.boot_len (pa_1 (pvd nmWay 2))
        case b1 =>
          refine' pss_cons ?t1 ?u1
          case' u1 => refine' pss_cons ?t2 ?u2
          case' u2 => refine' pss_one ?t3
          case t1 =>
            refine' ps_setD nmWay 1 ?g1
            case g1 => exact pe_f G hr (by decide) (pa_c (pvd nmWay 0) (pa_2 (pvd nmWay 1) (pe_ix ix_d (pvd nmWay 2) (pvd nmWay 4) (fun _ _ => rfl))))
          case t2 => exact ps_if (pt_cmpR op_isN (pvd nmWay 1) pe_non (nomark _)) (pss_one (ps_ret (pvd nmWay 4))) pss_nil
          case t3 =>
            refine' ps_expr ?d1
            case d1 => exact pe_bm PySem.F.plainAttrs_list PySem.F.slot_list_append PySem.F.type_list_append mt_append (pvd nmWay 3) (pa_1 (pvd nmWay 1))
    case rd =>
      walk_at "v"
      refine ⟨by show 1 ≤ sizeLine; decide, fun sl hsl0 => ?_⟩
      have K1 : Same H (upd H sl (.lst [.ref sa])) := Same.new (Same.refl H) hsl0
      have e1 : upd H sl (.lst [.ref sa]) sl = some (.lst ([sa].map V.ref)) := upd_same
      generalize upd H sl (.lst [.ref sa]) = H1 at K1 e1 ⊢
      walk_at "v"
      refine ⟨o, _, rfl, .inl (SqL.of (K1 _ _ ho)), ?_⟩
      rw [List.length_map]
      refine ⟨_, rfl, by omega, by omega, ?_⟩
      refine for_range (n := os.length) (fun i σ H' => ∃ (as : List Addr) (u : Addr) (u4 : Option V), σ = [some (.ref p), some (.ref u), some (.ref o), some (.ref sl), u4] ∧ Same H H' ∧ H' u = some (.tup ((stA tg st os i).map V.int)) ∧ H' sl = some (.lst (as.map V.ref)) ∧ as.length = i + 1 ∧ Sts tg st os H' as ∧ ∀ j < i, cg tg (stA tg st os j) (os.getD j 0) = true)
        ⟨[sa], sa, none, rfl, K1, K1 _ _ hs, e1, rfl, ?_, fun j hj => absurd hj (Nat.not_lt_zero _)⟩ ?_ ?_
      · intro i a e
        have hi := (List.getElem?_eq_some_iff.mp e).1
        have : i = 0 := by simp at hi; exact hi
        subst this
        simp at e
        rw [← e]; exact K1 _ _ hs
      · rintro i σ H2 hi ⟨as, u, u4, rfl, K2, hu, e2, hal, hS, hg⟩
        rw [Int.zero_add]
        walk_at "v"
        refine w_ixL (v := .int (os.getD i 0)) (K2 _ _ ho) (atI_nat (by simp [List.getD_eq_getElem?_getD, hi])) ?_
        walk_at "v"
        refine ⟨p, u, _, m, tg, stA tg st os i, rfl, hP.same K2, hu, by rw [stA_len]; exact hst, fun hc H3 K3 => ?_, fun hc q H3 K3 hq => ?_⟩
        · walk_at "v"
          refine ⟨rfl, ?_⟩
          walk_at "v"
          refine iteT ?_
          walk_at "v"
          exact kb i ⟨hi, hg, hc⟩ H3 (K2.trans K3)
        · walk_at "v"
          refine ⟨rfl, ?_⟩
          walk_at "v"
          refine iteF ?_
          walk_at "v"
          refine ⟨.inl ⟨rfl, _, SqL.of (K3 _ _ e2)⟩, ?_⟩
          walk_at "v"
          refine ⟨sl, _, _, rfl, rfl, K3 _ _ e2, by rw [List.length_map]; exact small1000 (by omega), ?_⟩
          walk_at "v"
          have nrs : q ≠ sl := fun z => by rw [z, K3 _ _ e2] at hq; cases hq
          have stay : ∀ b ob, b ≠ sl → H3 b = some ob → upd H3 sl (.lst (as.map V.ref ++ [.ref q])) b = some ob := fun b ob hb e => by rw [upd_ne hb]; exact e
          have nota : ∀ {b : Addr} {xs : List V}, H2 b = some (.tup xs) → b ≠ sl := fun {b xs} e z => by rw [z, e2] at e; cases e
          refine ⟨as ++ [q], q, _, rfl, (K2.trans K3).put hsl0, stay _ _ nrs hq, by rw [upd_same, List.map_append]; rfl, by rw [List.length_append, hal]; rfl, ?_, ?_⟩
          · refine Sts.snoc (fun j a e => stay _ _ (nota (hS j a e)) (K3 _ _ (hS j a e))) ?_
            rw [hal]
            exact stay _ _ nrs hq
          · intro j hj
            by_cases z : j = i
            · rw [z]; exact hc
            · exact hg j (by omega)
      · rintro σ H2 ⟨as, u, u4, rfl, K2, hu, e2, hal, hS, hg⟩
        walk_at "v"
        exact kg hg sl as H2 K2 hsl0 e2 hal hS
end
end K7

set_option Elab.async false
set_option linter.all false
set_option maxRecDepth 100000
namespace K7
open PySem L2 G2
local macro_rules | `(tactic| walk_at "v") => `(tactic| repeat (with_reducible first
  | refine w_seq ?_ | refine w_asg ?_ | refine w_gname ?_ | refine w_op ?_ | refine w_var rfl ?_ | refine w_c ?_ | refine w_rI0 ?_ | refine w_ifs ?_ | refine w_ife ?_ | refine w_test ?_ | refine w_tb ?_ | refine w_bl ?_ | refine w_not ?_ | refine w_ret ?_ | refine w_retN ?_
  | refine w_nil ?_ | refine w_cons ?_ | refine w_lst ?_ | refine w_tup ?_ | refine w_cb ?_ | refine w_call ?_ | refine w_gsub ?_ | refine w_and ?_ | refine w_or ?_ | refine w_next ?_ | refine w_all ?_ | refine w_vals ?_ | refine w_compR ?_ | refine w_compT ?_ | refine w_forR ?_ | refine w_forT ?_ | refine w_forL ?_ | refine w_drop ?_ | refine w_bm ?_ | refine w_compZ ?_ | refine w_compL ?_ | refine w_chain ?_ | refine w_sl ?_ | refine w_nopart ?_ | refine w_part ?_ | refine w_unI ?_ | refine iteT ?_ | refine iteF ?_))
abbrev sOrder : Stmt := top 20
abbrev nOrder : List Str := ["_law_feed_here", "_law_pot_here", "_law_stand", "_law_order_here", "_law_k", "_law_there"]
theorem nmOrder : Nm nOrder (defScope sOrder) := ⟨by decide +kernel, by decide +kernel⟩
theorem scOrder : FnScope nOrder ["_law_feed_here", "_law_pot_here", "_law_stand"] (defScope sOrder) := ⟨rfl, rfl, rfl, by decide +kernel, rfl, by decide +kernel, by decide +kernel⟩

def forComp (s : Stmt) : Scope := match s with
  | .For _ _ (.Assign _ (.ListComp _ _ sc _) _ :: _) _ _ => sc
  | _ => { kind := .function, names := [], isGenerator := false, isCoroutine := false }
abbrev cOrder : Scope := forComp ((defBody sOrder).getD 1 (.Pass ⟨0, 0, 0, 0⟩))
theorem locThere : (defScope sOrder).names.lookup ("_law_there" : Str) = some .local := by decide +kernel
theorem bsOrder : BScope (defScope sOrder) cOrder ["_law_rule_here"] ["_law_pot_here", "_law_stand"] ["_law_gone"] := { okind := by decide +kernel, kind := by decide +kernel, nocell := by decide +kernel, names := by decide +kernel, fr := by decide +kernel, ff := by decide +kernel, nd := by decide +kernel, vis := by decide +kernel, loc := by decide +kernel, gl := by decide +kernel }

/-- the numbers of an order that the law made -/
def Ord (os : List Int) : Prop := (∀ x ∈ os, 0 ≤ x ∧ x ≤ 8) ∧ os.length ≤ 30
def spOrder : Sp := fun vs H Q _ => ∃ (f p s : Addr) (m : Nat) (tg : Rows) (st : List Int), vs = [.ref f, .ref p, .ref s] ∧ FeedAt H f ∧ PotR H p m tg ∧ H s = some (.tup (st.map V.int)) ∧ st.length = m ∧
  ∀ (l : Addr) (H' : Hp) (os : List Int), Ord os → H l = none → H' l = some (.lst (os.map V.int)) → FeedAt H' f → But f H H' → Q (.ref l) H'
theorem But.same {p : Addr} {H H' : Hp} (k : Same H H') : But p H H' := fun q o e _ => k q o e
section
variable {P : Program} {w : World} {K : PySem.W.Frag} {mg : Str → Option Value} {base : Heap}
set_option maxHeartbeats 4000000 in
theorem ok_Order {f : Addr} {fd : FuncData} (B : Blt8 mg) (D : Has P w K mg base 1 "_law_draw" ["_law_feed_here", "_law_many"] spDraw) (G : Has P w K mg base 1 "_law_gone" ["_law_pot_here", "_law_stand", "_law_rule_here"] spLgone) (F : Fun K "_law_order" "_law_order" sOrder f fd) : FnOk P w K mg base CX0 2 f fd ["_law_feed_here", "_law_pot_here", "_law_stand"] spOrder := by
  refine F.ok scOrder (fun vs H Q E h => ?_) (fun cdv A outer s H vs Q E hr h => ?_)
  · obtain ⟨f, p, s, m, tg, st, rfl, _⟩ := h
    rfl
  · obtain ⟨fe, p, sa, m, tg, st, rfl, hF, hP, hs, hst, k⟩ := h
    refine' ⟨_, ?hb, ?rd⟩
    case hb =>
      refine' pss_cons ?s1 ?r1
      case' r1 => refine' pss_cons ?s2 ?r2
      case' r2 => refine' pss_one ?s3
      case s1 => exact ps_setD nmOrder 3 (pe_lst pa_nil)
      case s3 => exact ps_ret (pvd nmOrder 3)
      case s2 =>
        refine' ps_for PassesOwn.never rfl ?i1 (pgd nmOrder 4) ?b1
        case' i1 => refine' pi_r1 B.range ?i2
        case' i2 => refine' pa_1 ?i3
        case i3 => exact pe_f D hr (by decide) (pa_2 (pvd nmOrder 0) pe_int)
        case b1 =>
          refine' pss_cons ?t1 ?u1
          case' u1 => refine' pss_cons ?t2 ?u2
          case' u2 => refine' pss_cons ?t3 ?u3
          case' u3 => refine' pss_one ?t4
          case t1 =>
            refine' ps_setC (i := 5) (ix := [1, 2]) nmOrder.nd rfl locThere bsOrder.toCScope rfl rfl ?h3 ?h4 ?h5 ?h6
            case h3 =>
              refine' pi_r1 B.range ?h3a
              case' h3a => refine' pa_1 ?h3b
              case' h3b => refine' pe_cB call_len_seq B.len PySem.boot_len ?h3c
              case h3c => exact pa_1 (pe_ix ix_d (pvd nmOrder 1) pe_int (fun _ _ => rfl))
            case h4 => exact fun _ _ _ _ _ _ => pgb bsOrder 0
            case h5 =>
              intro _ _ _ _ _ _
              refine' pts_one ?h5a
              case' h5a => refine' pt_cmpR op_notN ?h5b pe_non (nomark _)
              case h5b => exact pe_f G hr (by decide) (pa_c (pvb bsOrder 1) (pa_2 (pvb bsOrder 2) (pvb bsOrder 0))) (bsOrder.g 0)
            case h6 => exact fun _ _ _ _ _ _ => pvb bsOrder 0
          case t2 => exact ps_if (pt_cmpR (op_eqE hr) (pvd nmOrder 5) (pe_lst pa_nil) (nomark _)) (pss_one (ps_ret (pvd nmOrder 3))) pss_nil
          case t3 =>
            refine' ps_expr ?d1
            case' d1 => refine' pe_bm PySem.F.plainAttrs_list PySem.F.slot_list_append PySem.F.type_list_append mt_append (pvd nmOrder 3) ?d2
            case' d2 => refine' pa_1 ?d3
            case' d3 => refine' pe_ix ix_d (pvd nmOrder 5) ?d4 (fun _ _ => rfl)
            case d4 => exact pe_f D hr (by decide) (pa_2 (pvd nmOrder 0) (pe_cB call_len_seq B.len PySem.boot_len (pa_1 (pvd nmOrder 5))))
          case t4 =>
            refine' ps_setD nmOrder 2 ?g1
            case g1 => exact pe_f G hr (by decide) (pa_c (pvd nmOrder 1) (pa_2 (pvd nmOrder 2) (pe_ix ix_d (pvd nmOrder 3) (pe_un un_neg pe_int) (fun _ _ => rfl))))
    case rd =>
      have n8 := hP.n8
      have fT : ∀ {H : Hp} {b : Addr} {xs : List V}, FeedAt H fe → H b = some (.tup xs) → b ≠ fe := fun {H b xs} ⟨x, y, z, e⟩ e' q => by rw [q, e] at e'; cases e'
      walk_at "v"
      refine ⟨Nat.zero_le _, fun ol hol0 => ?_⟩
      have T1 : TK H (upd H ol (.lst [])) := TK.new hol0
      have B1 : But fe H (upd H ol (.lst [])) := But.refl.new hol0
      have F1 : FeedAt (upd H ol (.lst [])) fe := by
        obtain ⟨x, y, z, e⟩ := hF
        exact ⟨x, y, z, by rw [upd_ne (ne_of_none e hol0)]; exact e⟩
      have nof : ol ≠ fe := by
        obtain ⟨x, y, z, e⟩ := hF
        exact Ne.symm (ne_of_none e hol0)
      have e1 : upd H ol (.lst []) ol = some (.lst (([] : List Int).map V.int)) := upd_same
      generalize upd H ol (.lst []) = H1 at T1 B1 F1 e1 ⊢
      walk_at "v"
      refine ⟨fe, _, rfl, F1, by decide, by decide, fun r x y z r0 r1 => ?_⟩
      have T2 : TK H1 (upd H1 fe (.lst [.int x, .int y, .int z])) := TK.feed F1
      have B2 : But fe H1 (upd H1 fe (.lst [.int x, .int y, .int z])) := But.refl.at
      have F2 : FeedAt (upd H1 fe (.lst [.int x, .int y, .int z])) fe := FeedAt.here
      have e2 : upd H1 fe (.lst [.int x, .int y, .int z]) ol = some (.lst (([] : List Int).map V.int)) := by rw [upd_ne nof]; exact e1
      generalize upd H1 fe (.lst [.int x, .int y, .int z]) = H2 at T2 B2 F2 e2 ⊢
      obtain ⟨n, rfl⟩ := Nat.ofI r0
      refine ⟨_, rfl, by omega, by omega, ?_⟩
      refine for_range (n := n) (fun i σ H' => ∃ (os : List Int) (u : Addr) (st' : List Int) (u4 u5 : Option V), σ = [some (.ref fe), some (.ref p), some (.ref u), some (.ref ol), u4, u5] ∧ TK H H' ∧ But fe H H' ∧ FeedAt H' fe ∧ H' u = some (.tup (st'.map V.int)) ∧ st'.length = m ∧ H' ol = some (.lst (os.map V.int)) ∧ os.length = i ∧ ∀ x ∈ os, 0 ≤ x ∧ x ≤ 8)
        ⟨[], sa, st, none, none, rfl, T1.trans T2, B1.trans B2, F2, (T1.trans T2).t _ _ hs, hst, e2, rfl, fun x hx => by cases hx⟩ ?_ ?_
      · rintro i σ H3 hi ⟨os, u, st', u4, u5, rfl, T3, B3, F3, hu, hst', e3, hol, hos⟩
        rw [Int.zero_add]
        have hP3 := hP.tk T3
        obtain ⟨ps, pr, pin, pb, ans, rs, h1, h2, h3⟩ := hP3.ex
        have hrl := h3.1
        have hO : Ord os := ⟨hos, by omega⟩
        walk_at "v"
        refine w_ixT h1 rfl ?_
        walk_at "v"
        refine ⟨pr, _, rfl, .inr (SqT.of h2), ?_⟩
        rw [List.length_map, hrl]
        refine ⟨_, rfl, by omega, by omega, fun Dl hD => ?_⟩
        rw [Int.toNat_natCast]
        refine cgo_range (ρ := [some (.ref p), some (.ref u)]) (fun i ys H' => ys = (thN tg st' i).map V.int ∧ Same H3 H') ⟨rfl, Same.new (Same.refl H3) hD⟩ ?_ ?_
        · rintro i ys H' hi ⟨rfl, K'⟩ hDy R S kR kS
          rw [Int.zero_add]
          have hl := thN_len (tg := tg) (st := st') (n := i)
          walk_at "v"
          refine ⟨p, u, _, m, tg, st', rfl, hP3.same K', K' _ _ hu, hst', fun hc H4 K4 => ?_, fun hc q H4 K4 hq => ?_⟩
          · walk_at "v"
            refine ⟨rfl, ?_⟩
            walk_at "v"
            refine iteF ?_
            refine kS _ (K4 _ _ hDy) ⟨?_, K'.trans K4⟩
            rw [thN_succ, if_neg (by rw [hc]; exact Bool.false_ne_true)]
          · walk_at "v"
            refine ⟨rfl, ?_⟩
            walk_at "v"
            refine iteT ?_
            walk_at "v"
            refine kR _ _ (K4 _ _ hDy) (by rw [List.length_map]; exact small1000 (by omega)) ⟨?_, (K'.trans K4).put hD⟩
            rw [thN_succ, if_pos hc, List.map_append]
            rfl
        · rintro ys H4 ⟨rfl, K4⟩ hDy
          replace hDy : H4 Dl = some (.lst ((thL tg st').map V.int)) := hDy
          have hl := thN_len (tg := tg) (st := st') (n := tg.length)
          replace hl : (thL tg st').length ≤ tg.length := hl
          have sf : ∀ {Ha Hb : Hp}, Same Ha Hb → FeedAt Ha fe → FeedAt Hb fe := fun k ⟨x, y, z, e⟩ => ⟨x, y, z, k _ _ e⟩
          have st2 : ∀ {Ha Hb : Hp}, Same Ha Hb → TK Ha Hb := fun k => ⟨fun q xs e => k _ _ e, fun q o u e => k _ _ e⟩
          walk_at "v"
          refine ⟨Nat.zero_le _, fun zl hzl => ?_⟩
          have K5 : Same H4 (upd H4 zl (.lst [])) := Same.new (Same.refl H4) hzl
          have eZ : upd H4 zl (.lst []) zl = some (.lst []) := upd_same
          generalize upd H4 zl (.lst []) = H5 at K5 eZ ⊢
          have K35 := K4.trans K5
          refine ⟨Dl, zl, _, rfl, rfl, K5 _ _ hDy, eZ, ?_⟩
          have eb : ((thL tg st').map V.int).isEmpty = decide (thL tg st' = []) := by cases thL tg st' <;> rfl
          rw [eb]
          walk_at "v"
          refine iteD (fun he => ?_) (fun he => ?_)
          · walk_at "v"
            exact k ol H5 os hO hol0 (K35 _ _ e3) (sf K35 F3) (B3.trans (But.same K35))
          · have hne : 0 < (thL tg st').length := by
              cases hq : thL tg st' with
              | nil => exact absurd hq he
              | cons a l => exact Nat.succ_pos _
            walk_at "v"
            refine ⟨.inl ⟨rfl, _, SqL.of (K35 _ _ e3)⟩, ?_⟩
            walk_at "v"
            refine ⟨Dl, _, rfl, .inl (SqL.of (K5 _ _ hDy)), ?_⟩
            rw [List.length_map]
            walk_at "v"
            refine ⟨fe, _, rfl, sf K35 F3, by omega, by omega, fun r x y z r0 r1 => ?_⟩
            obtain ⟨j, rfl⟩ := Nat.ofI r0
            have hj : j < (thL tg st').length := by omega
            have F5 := sf K35 F3
            have T6 : TK H5 (upd H5 fe (.lst [.int x, .int y, .int z])) := TK.feed F5
            have B6 : But fe H5 (upd H5 fe (.lst [.int x, .int y, .int z])) := But.refl.at
            have F6 : FeedAt (upd H5 fe (.lst [.int x, .int y, .int z])) fe := FeedAt.here
            generalize upd H5 fe (.lst [.int x, .int y, .int z]) = H6 at T6 B6 F6 ⊢
            have nDf : Dl ≠ fe := by
              obtain ⟨x, y, z, e⟩ := F3
              exact Ne.symm (ne_of_none e hD)
            have eD6 := B6 _ _ (K5 _ _ hDy) nDf
            have eO6 := B6 _ _ (K35 _ _ e3) nof
            walk_at "v"
            refine w_ixL (v := .int (thL tg st')[j]) eD6 (atI_nat (by simp [hj])) ?_
            have hcj := th_mem (List.getElem_mem hj)
            have hrj := cg_range hcj
            generalize (thL tg st')[j] = rj at hcj hrj ⊢
            walk_at "v"
            refine ⟨ol, _, _, rfl, rfl, eO6, by rw [List.length_map]; exact small1000 (by omega), ?_⟩
            walk_at "v"
            have T7 : TK H6 (upd H6 ol (.lst (os.map V.int ++ [.int rj]))) := TK.lst eO6
            have eO7 : upd H6 ol (.lst (os.map V.int ++ [.int rj])) ol = some (.lst (os.map V.int ++ [.int rj])) := upd_same
            have B7 : But fe H (upd H6 ol (.lst (os.map V.int ++ [.int rj]))) := ((B3.trans (But.same K35)).trans B6).put hol0
            have F7 : FeedAt (upd H6 ol (.lst (os.map V.int ++ [.int rj]))) fe := by
              obtain ⟨x, y, z, e⟩ := F6
              exact ⟨x, y, z, by rw [upd_ne (Ne.symm nof)]; exact e⟩
            generalize upd H6 ol (.lst (os.map V.int ++ [.int rj])) = H7 at T7 eO7 B7 F7 ⊢
            have T37 := ((st2 K35).trans T6).trans T7
            have T7' := T3.trans T37
            refine ⟨_, rfl, ?_⟩
            refine w_ixL (v := .int rj) eO7 (atI_last _ _) ?_
            walk_at "v"
            refine ⟨p, u, _, m, tg, st', rfl, hP.tk T7', T37.t _ _ hu, hst', fun hc => (by rw [hcj] at hc; cases hc), fun _ q H8 K8 hq => ?_⟩
            walk_at "v"
            refine ⟨os ++ [rj], q, _, _, _, rfl, T7'.trans (st2 K8), B7.trans (But.same K8), sf K8 F7, hq, by rw [go_len]; exact hst', by rw [List.map_append]; exact K8 _ _ eO7, by rw [List.length_append, hol]; rfl, fun x hx => ?_⟩
            rcases List.mem_append.mp hx with hx | hx
            · exact hos x hx
            · rcases List.mem_singleton.mp hx with rfl
              exact ⟨hrj.1, by omega⟩
      · rintro σ H3 ⟨os, u, st', u4, u5, rfl, T3, B3, F3, hu, hst', e3, hol, hos⟩
        walk_at "v"
        exact k ol H3 os ⟨hos, by omega⟩ hol0 e3 F3 B3
end
end K7

set_option Elab.async false
set_option linter.all false
set_option maxRecDepth 100000
namespace K7
open PySem L2 G2
local macro_rules | `(tactic| walk_at "v") => `(tactic| repeat (with_reducible first
  | refine w_seq ?_ | refine w_asg ?_ | refine w_gname ?_ | refine w_op ?_ | refine w_var rfl ?_ | refine w_c ?_ | refine w_rI0 ?_ | refine w_ifs ?_ | refine w_ife ?_ | refine w_test ?_ | refine w_tb ?_ | refine w_bl ?_ | refine w_not ?_ | refine w_ret ?_ | refine w_retN ?_
  | refine w_nil ?_ | refine w_cons ?_ | refine w_lst ?_ | refine w_tup ?_ | refine w_cb ?_ | refine w_call ?_ | refine w_gsub ?_ | refine w_and ?_ | refine w_or ?_ | refine w_next ?_ | refine w_all ?_ | refine w_vals ?_ | refine w_compR ?_ | refine w_compT ?_ | refine w_forR ?_ | refine w_forT ?_ | refine w_forL ?_ | refine w_drop ?_ | refine w_bm ?_ | refine w_compZ ?_ | refine w_compL ?_ | refine w_chain ?_ | refine w_sl ?_ | refine w_nopart ?_ | refine w_part ?_ | refine w_unI ?_ | refine iteT ?_ | refine iteF ?_))
abbrev sAsked : Stmt := top 21
abbrev nAsked : List Str := ["_law_walks", "_law_pot_here", "_law_stand", "_law_order_here", "_law_told", "e"]
theorem nmAsked : Nm nAsked (defScope sAsked) := ⟨by decide +kernel, by decide +kernel⟩
theorem scAsked : FnScope nAsked ["_law_walks", "_law_pot_here", "_law_stand", "_law_order_here"] (defScope sAsked) := ⟨rfl, rfl, rfl, by decide +kernel, rfl, by decide +kernel, by decide +kernel⟩
theorem locE : (defScope sAsked).names.lookup ("e" : Str) = some .local := by decide +kernel
/-- what is told of an order: what the def that is handed answers, or the place at which it stops -/
def spAsked (P : Program) (w : World) (K : PySem.W.Frag) (mg : Str → Option Value) (base : Heap) (cN : Addr) : Sp := fun vs H Q _ => ∃ (f : Addr) (fd : FuncData) (k : Nat) (ps : List Str) (sp : Sp) (v1 v2 v3 : V), vs = [.ref f, v1, v2, v3] ∧ k ≤ 5 ∧ FnOk P w K mg base (CXE P w) k f fd ps sp ∧ PySem.W.keepIn K (.ref f) = true ∧ Binds K fd ps [] ∧
  ∀ (Q' : VK) (E' : XK), (∀ v H', Q v H' → Q' v H') → (∀ (dx : Addr) (n : Int) (H0 : Hp), H0 dx = none → (∀ q H', Same H0 H' → H' q = some (.tup [.str "place", .int n]) → Q (.ref q) H') → E' (.ref cN) (some dx) (upd H0 dx (XDct dx [("place", .int n)]))) → sp [v1, v2, v3] H Q' E'
section
variable {P : Program} {w : World} {K : PySem.W.Frag} {mg : Str → Option Value} {base : Heap}
set_option maxHeartbeats 4000000 in
theorem ok_Asked {f : Addr} {fd : FuncData} {cD cN : Addr} (B : Blt8 mg) (U : XUni K mg cD [("NoStep", cN)]) (hna : NoAttr K cN "place") (F : Fun K "_law_asked" "_law_asked" sAsked f fd) : FnOk P w K mg base CX0 6 f fd ["_law_walks", "_law_pot_here", "_law_stand", "_law_order_here"] (spAsked P w K mg base cN) := by
  refine F.ok scAsked (fun vs H Q E h => ?_) (fun cdv A outer s H vs Q E hr h => ?_)
  · obtain ⟨f, fd, k, ps, sp, v1, v2, v3, rfl, _⟩ := h
    rfl
  · obtain ⟨f1, fd1, k1, ps1, sp1, v1, v2, v3, rfl, hk5, F1, hk, hb, q⟩ := h
    refine' ⟨_, ?hb, ?rd⟩
    case hb =>
      refine' pss_cons ?s1 ?r1
      case' r1 => refine' pss_cons ?s2 ?r2
      case' r2 => refine' pss_one ?s3
      case s1 => exact ps_setD nmAsked 4 pe_non
      case s3 => exact ps_ret (pvd nmAsked 4)
      case s2 =>
        refine' ps_try (tb := fun EX => tAsg (tCallV P w K mg base 5 0 EX (tCons (tVar 1) (tCons (tVar 2) (tCons (tVar 3) tNil)))) (gName 4)) (i := 5) nmAsked rfl rfl rfl U.mD U.base rfl locE ?tb ?ts
        case tb =>
          intro pn xe EX _ L
          exact pss_one (ps_setD nmAsked 4 (pe_fV nmAsked L (hr.mono (by decide)) (pa_c (pvd nmAsked 1) (pa_2 (pvd nmAsked 2) (pvd nmAsked 3)))))
        case ts =>
          intro a
          refine' pss_cons ?u1 ?v1
          case' v1 => refine' pss_one ?u3
          case u1 => exact ps_setD nmAsked 4 pe_str
          case u3 =>
            refine' ps_if ?y1 ?z1 pss_nil
            case' y1 => refine' PW.pt ?y2
            case' y2 => refine' pw_and ?y3 ?y4
            case' y3 => refine' pt_val ?y5
            case y5 => exact pe_cB (isX_K (K := K) rfl) B.isi PyProof.Rows.boot_isinstance (pa_2 (pvd nmAsked 5) (pe_cls (C := cN) (U.cls ("NoStep", cN) (by simp)).1))
            case' y4 => refine' pw_and1 ?y6
            case' y6 => refine' pt_val ?y8
            case y8 => exact pe_cB (isX_K (K := K) rfl) B.isi PyProof.Rows.boot_isinstance (pa_2 (pvd nmAsked 5) (pe_bltn (v := .ty "ValueError") rfl B.vaE PyProof.Rows.Boot.«ValueError» rfl))
            case' z1 => refine' pss_one ?z2
            case' z2 => refine' ps_setD nmAsked 4 ?z3
            case' z3 => refine' pe_tup ?z4
            case z4 => exact pa_2 pe_str (pe_xfK (K := K) rfl (pvd nmAsked 5))
    case rd =>
      obtain ⟨_, xcN, xaN⟩ := U.cls ("NoStep", cN) (by simp)
      walk_at "v"
      refine w_try ?_
      walk_at "v"
      refine w_callV rfl hk5 F1 hk hb ?_
      walk_at "v"
      refine q _ _ (fun v H1 h1 => ?_) (fun dx n H1 hd k => ?_)
      · walk_at "v"
        exact h1
      · refine ⟨cN, _, rfl, xcN, contains_D, fun a vs ha => ?_⟩
        have hda : dx ≠ a := fun z => by rw [z, upd_same] at ha; cases ha
        have K2 : Same H1 (upd (upd H1 dx (XDct dx [("place", .int n)])) a (XObj a cN (some dx) vs)) := (Same.new (Same.refl H1) hd).new ha
        have ea : upd (upd H1 dx (XDct dx [("place", .int n)])) a (XObj a cN (some dx) vs) a = some (XObj a cN (some dx) vs) := upd_same
        have ed : upd (upd H1 dx (XDct dx [("place", .int n)])) a (XObj a cN (some dx) vs) dx = some (XDct dx [("place", .int n)]) := by rw [upd_ne hda, upd_same]
        generalize upd (upd H1 dx (XDct dx [("place", .int n)])) a (XObj a cN (some dx) vs) = H2 at K2 ea ed ⊢
        walk_at "v"
        refine w_isX (b := true) ea ed xaN (fun u hu => by cases hu; rw [kit_xx xcN xcN]; simp) ?_
        walk_at "v"
        refine w_isX (b := true) ea ed xaN (fun u hu => by cases hu; exact kit_xv xcN) ?_
        walk_at "v"
        refine w_xf ?_
        walk_at "v"
        refine ⟨a, cN, dx, vs, _, _, rfl, ea, ed, xaN, hna, rfl, ?_⟩
        walk_at "v"
        refine ⟨by show 2 ≤ sizeLine; decide, fun o ho => ?_⟩
        walk_at "v"
        refine w_unE ?_
        walk_at "v"
        exact k o _ (K2.new ho) upd_same
end
end K7

set_option Elab.async false
set_option linter.all false
set_option maxRecDepth 100000
namespace PySem.SeqAt
open PySem.MeetsSeq PySem PySem.Spec
section
variable {A : Around} {s : Shared}
end
end PySem.SeqAt
namespace HT
open PySem PySem.Spec PyProof.Rows
section
variable {prog : Program} {w : World} {A : Around} {E : Value → Shared → Prop} {s : Shared}
end
end HT
namespace L2
open PySem PySem.Spec PyProof.Rows
/-- t[::-1] -/
def tRev (te : TE) : TE := fun σ H Q => te σ H fun x H1 => ∃ (a : Addr) (xs : List V), x = .ref a ∧ H1 a = some (.tup xs) ∧ ∀ q, H1 q = none → Q (.ref q) (upd H1 q (.tup xs.reverse))
end L2

set_option Elab.async false
set_option linter.all false
set_option maxRecDepth 100000
namespace L2
open PySem PySem.Spec PyProof.Rows
/-! ### things of any kind -/
inductive Th where
  | non
  | bl (b : Bool)
  | int (i : Int)
  | str (s : Str)
  | tup (ts : List Th)
  | lst
  | dct
mutual
inductive ThAt (H : Hp) : V → Th → Prop
  | non : ThAt H .non .non
  | bl (b : Bool) : ThAt H (.bl b) (.bl b)
  | int (i : Int) : ThAt H (.int i) (.int i)
  | str (s : Str) : ThAt H (.str s) (.str s)
  | tup {p : Addr} {vs : List V} {ts : List Th} : H p = some (.tup vs) → ThsAt H vs ts → ThAt H (.ref p) (.tup ts)
  | lst {p : Addr} {vs : List V} : H p = some (.lst vs) → ThAt H (.ref p) .lst
  | dct {p : Addr} {kvs : List (Key × V)} : H p = some (.dK kvs) → ThAt H (.ref p) .dct
inductive ThsAt (H : Hp) : List V → List Th → Prop
  | nil : ThsAt H [] []
  | cons {v : V} {t : Th} {vs : List V} {ts : List Th} : ThAt H v t → ThsAt H vs ts → ThsAt H (v :: vs) (t :: ts)
end
/-- the kinds stay -/
structure KS (H H' : Hp) : Prop where
  t : ∀ q xs, H q = some (.tup xs) → H' q = some (.tup xs)
  l : ∀ q xs, H q = some (.lst xs) → ∃ ys, H' q = some (.lst ys)
  d : ∀ q xs, H q = some (.dK xs) → ∃ ys, H' q = some (.dK ys)
section
variable {H H' H'' : Hp} {a : Addr}
theorem KS.refl : KS H H := ⟨fun _ _ e => e, fun _ _ e => ⟨_, e⟩, fun _ _ e => ⟨_, e⟩⟩
theorem KS.same (k : Same H H') : KS H H' := ⟨fun _ _ e => k _ _ e, fun _ _ e => ⟨_, k _ _ e⟩, fun _ _ e => ⟨_, k _ _ e⟩⟩
theorem KS.trans (x : KS H H') (y : KS H' H'') : KS H H'' := ⟨fun q xs e => y.t _ _ (x.t _ _ e), fun q xs e => let ⟨ys, e'⟩ := x.l _ _ e; y.l _ _ e', fun q xs e => let ⟨ys, e'⟩ := x.d _ _ e; y.d _ _ e'⟩
theorem KS.new {o : HO} (h : H a = none) : KS H (upd H a o) := KS.same (Same.new (Same.refl H) h)
theorem KS.lst {xs ys : List V} (h : H a = some (.lst xs)) : KS H (upd H a (.lst ys)) :=
  ⟨fun q zs e => by rw [upd_ne (ne_of e h (by intro z; cases z))]; exact e, fun q zs e => by
    by_cases hq : q = a
    · subst hq
      exact ⟨_, upd_same⟩
    · exact ⟨_, by rw [upd_ne hq]; exact e⟩, fun q zs e => ⟨_, by rw [upd_ne (ne_of e h (by intro z; cases z))]; exact e⟩⟩
mutual
theorem ThAt.ks (k : KS H H') {v : V} {t : Th} : ThAt H v t → ThAt H' v t
  | .non => .non
  | .bl b => .bl b
  | .int i => .int i
  | .str s => .str s
  | .tup h hs => .tup (k.t _ _ h) (ThsAt.ks k hs)
  | .lst h => let ⟨_, h'⟩ := k.l _ _ h; .lst h'
  | .dct h => let ⟨_, h'⟩ := k.d _ _ h; .dct h'
theorem ThsAt.ks (k : KS H H') {vs : List V} {ts : List Th} : ThsAt H vs ts → ThsAt H' vs ts
  | .nil => .nil
  | .cons h hs => .cons (ThAt.ks k h) (ThsAt.ks k hs)
end
theorem ThsAt.len : ∀ {vs : List V} {ts : List Th}, ThsAt H vs ts → vs.length = ts.length
  | [], [], _ => rfl
  | v :: vs, t :: ts, .cons _ h => by rw [List.length_cons, List.length_cons, ThsAt.len h]
theorem ThsAt.at : ∀ {vs : List V} {ts : List Th}, ThsAt H vs ts → ∀ {i : Nat} {t : Th}, ts[i]? = some t → ∃ v, vs[i]? = some v ∧ ThAt H v t
  | v :: vs, t :: ts, .cons h hs, 0, u, e => ⟨v, rfl, by
    have : t = u := by simpa using e
    exact this ▸ h⟩
  | v :: vs, t :: ts, .cons h hs, i + 1, u, e => by
    obtain ⟨w, h1, h2⟩ := ThsAt.at hs (i := i) (t := u) (by simpa using e)
    exact ⟨w, by simpa using h1, h2⟩
  | [], [], .nil, i, u, e => by simp at e
theorem ThsAt.take : ∀ (n : Nat) {vs : List V} {ts : List Th}, ThsAt H vs ts → ThsAt H (vs.take n) (ts.take n)
  | 0, _, _, _ => by simpa using ThsAt.nil
  | n + 1, [], [], .nil => .nil
  | n + 1, _ :: _, _ :: _, .cons a b => .cons a (ThsAt.take n b)
theorem ThsAt.drop : ∀ (n : Nat) {vs : List V} {ts : List Th}, ThsAt H vs ts → ThsAt H (vs.drop n) (ts.drop n)
  | 0, _, _, h => h
  | n + 1, [], [], .nil => .nil
  | n + 1, _ :: _, _ :: _, .cons a b => ThsAt.drop n b
end
def cutT (ts : List Th) (lo hi : Option Int) : List Th := (ts.drop (HT.sIx ts.length 0 lo)).take (HT.sIx ts.length ts.length hi - HT.sIx ts.length 0 lo)
/-- the kinds -/
def Th.tn : Th → String
  | .non => "NoneType"
  | .bl _ => "bool"
  | .int _ => "int"
  | .str _ => "str"
  | .tup _ => "tuple"
  | .lst => "list"
  | .dct => "dict"
theorem ThAt.ty {K : PySem.W.Frag} {H : Hp} {v : V} {t : Th} (h : ThAt H v t) : TyOf K H v (.type t.tn) := by
  cases h with
  | non => exact .non
  | bl b => exact .bl b
  | int i => exact .int i
  | str s => exact .str s
  | tup h _ => exact .tup h
  | lst h => exact .lst h
  | dct h => exact .dK h
def Th.isI : Th → Bool
  | .bl _ => true
  | .int _ => true
  | _ => false
def Th.isB : Th → Bool
  | .bl _ => true
  | _ => false
def Th.isT : Th → Bool
  | .tup _ => true
  | _ => false
def Th.isS : Th → Bool
  | .str _ => true
  | _ => false
def Th.isL : Th → Bool
  | .lst => true
  | _ => false
def rIsTh (n : String) (f : Th → Bool) : List V → Hp → VK → Prop := fun xs H Q => ∃ v t, xs = [v, .ty n] ∧ ThAt H v t ∧ Q (.bl (f t)) H
section
variable {X : Cx} {k : Nat}
theorem is_th {n : String} {f : Th → Bool} (hk : ∀ t : Th, PySem.W.kitOne X.K (.type t.tn) (.type n) = some (f t)) : CallR X (.builtin "isinstance") (rIsTh n f) := fun pins s σ H xs us Q I r h => by
  obtain ⟨v, t, e, ht, q⟩ := h
  exact call_isI pins s σ H xs us Q I r ⟨v, n, _, f t, e, ht.ty, hk t, q⟩
theorem is_int : CallR X (.builtin "isinstance") (rIsTh "int" Th.isI) := is_th fun t => by cases t <;> rfl
/-- x not in a tuple of words -/
def Th.inW (ws : List Str) : Th → Bool
  | .str s => ws.any fun a => a == s
  | _ => false
def eqT : Th → Value → Bool
  | .str s, .str a _ => a == s
  | _, _ => false
def rNotW (K : PySem.W.Frag) (ws : List Str) : R2 := fun x y H Q => ∃ a t, y = .ref a ∧ SqT K H a (ws.map V.str) ∧ ThAt H x t ∧ Q (.bl (!t.inW ws)) H
end
/-- a tuple that a module holds -/
def GTup (K : PySem.W.Frag) (mg : Str → Option Value) (x : Str) (vs : List V) : Prop := ∃ (a : Addr) (o : Obj) (its : Array Value) (n : Nat), mg x = some (.ref a) ∧ K.lookup a = some o ∧ o.cls = .type "tuple" ∧ o.data = .seq its n ∧ its.size ≤ sizeLine ∧ Vals vs its.toList
theorem GTup.sq {K : PySem.W.Frag} {mg : Str → Option Value} {x : Str} {vs : List V} (g : GTup K mg x vs) : ∃ a, mg x = some (.ref a) ∧ ∀ H, SqT K H a vs := by
  obtain ⟨a, o, its, n, h1, h2, h3, h4, h5, h6⟩ := g
  exact ⟨a, h1, fun H => .inr ⟨o, its, n, h2, h3, h4, h5, h6⟩⟩
/-- its name, its items -/
def tGT (K : PySem.W.Frag) (vs : List V) : TE := fun _ H Q => ∀ a, SqT K H a vs → Q (.ref a) H
end L2

set_option Elab.async false
set_option linter.all false
set_option maxRecDepth 100000
namespace K7
open PySem L2 G2
local macro_rules | `(tactic| walk_at "v") => `(tactic| repeat (with_reducible first
  | refine w_seq ?_ | refine w_asg ?_ | refine w_gname ?_ | refine w_op ?_ | refine w_var rfl ?_ | refine w_c ?_ | refine w_rI0 ?_ | refine w_ifs ?_ | refine w_ife ?_ | refine w_test ?_ | refine w_tb ?_ | refine w_bl ?_ | refine w_not ?_ | refine w_ret ?_ | refine w_retN ?_
  | refine w_nil ?_ | refine w_cons ?_ | refine w_lst ?_ | refine w_tup ?_ | refine w_cb ?_ | refine w_call ?_ | refine w_gsub ?_ | refine w_and ?_ | refine w_or ?_ | refine w_next ?_ | refine w_all ?_ | refine w_vals ?_ | refine w_compR ?_ | refine w_compT ?_ | refine w_forR ?_ | refine w_forT ?_ | refine w_forL ?_ | refine w_drop ?_ | refine w_bm ?_ | refine w_compZ ?_ | refine w_compL ?_ | refine w_chain ?_ | refine w_sl ?_ | refine w_nopart ?_ | refine w_part ?_ | refine w_unI ?_ | refine iteT ?_ | refine iteF ?_))
abbrev sRight : Stmt := top 22
abbrev nRight : List Str := ["_law_pot_here", "_law_stand", "_law_order_here", "_law_due", "_law_handed", "_law_kept", "_law_found", "_law_last"]
theorem nmRight : Nm nRight (defScope sRight) := ⟨by decide +kernel, by decide +kernel⟩
theorem scRight : FnScope nRight ["_law_pot_here", "_law_stand", "_law_order_here"] (defScope sRight) := ⟨rfl, rfl, rfl, by decide +kernel, rfl, by decide +kernel, by decide +kernel⟩
theorem w_bm0 {K : PySem.W.Frag} {T : String} {r : V → List V → Hp → VK → Prop} {to : TE} {σ : St} {H : Hp} {Q : VK} (h : to σ H fun x H1 => tyV K T x H1 ∧ r x [] H1 Q) : tBM0 K T r to σ H Q := h
theorem rl_bd {H : Hp} {rs : List Addr} {tg : Rows} {m : Nat} (h : Rls H rs tg m) (r : Int) : (∀ x ∈ (rl tg r).1, 0 ≤ x ∧ x ≤ 30) ∧ ∀ x ∈ (rl tg r).2, 0 ≤ x ∧ x ≤ 30 := by
  unfold rl
  rw [List.getD_eq_getElem?_getD]
  cases e : tg[r.toNat]? with
  | none => exact ⟨fun x hx => (by cases hx), fun x hx => (by cases hx)⟩
  | some v =>
    obtain ⟨t, g⟩ := v
    have hj := (List.getElem?_eq_some_iff.mp e).1
    have hj' : r.toNat < rs.length := by rw [h.1]; exact hj
    obtain ⟨_, _, b1, b2, _⟩ := h.2 r.toNat rs[r.toNat] t g (by simp [hj']) e
    exact ⟨b1, b2⟩
theorem bad_good {tg : Rows} {st os : List Int} {n : Nat} (h : Good tg st os) (b : Bad tg st os n) : False := by
  have := h n b.1
  rw [b.2.2] at this
  cases this
theorem bad_one {tg : Rows} {st os : List Int} {n n' : Nat} (a : Bad tg st os n) (b : Bad tg st os n') : n = n' := by
  rcases Nat.lt_trichotomy n n' with h | h | h
  · have := b.2.1 n h
    rw [a.2.2] at this
    cases this
  · exact h
  · have := a.2.1 n' h
    rw [b.2.2] at this
    cases this
theorem gd_bd {l : List Int} {i : Nat} {A B : Int} (hA : A ≤ 0) (hB : 0 ≤ B) (h : ∀ x ∈ l, A ≤ x ∧ x ≤ B) : A ≤ l.getD i 0 ∧ l.getD i 0 ≤ B := by
  rw [List.getD_eq_getElem?_getD]
  cases e : l[i]? with
  | none => exact ⟨hA, hB⟩
  | some v => exact h v (List.mem_of_getElem? e)
theorem stA_bd {H : Hp} {rs : List Addr} {tg : Rows} {m : Nat} (h : Rls H rs tg m) {st os : List Int} (hs : ∀ x ∈ st, 0 ≤ x ∧ x ≤ 100) : ∀ (i : Nat), ∀ x ∈ stA tg st os i, -(30 * (i : Int)) ≤ x ∧ x ≤ 100 + 30 * (i : Int)
  | 0, x, hx => by
    have := hs x hx
    omega
  | i + 1, x, hx => by
    obtain ⟨j, hj, rfl⟩ := List.mem_map.mp hx
    have h1 := gd_bd (i := j) (by omega) (by omega) (stA_bd h (os := os) hs i)
    have h2 := gd_bd (i := j) (by decide) (by decide) (rl_bd h (os.getD i 0)).1
    have h3 := gd_bd (i := j) (by decide) (by decide) (rl_bd h (os.getD i 0)).2
    omega
theorem rd_sts {H : Hp} : ∀ (as : List Addr) (f : Nat → List Int), (∀ (i : Nat) (a : Addr), as[i]? = some a → H a = some (.tup ((f i).map V.int))) → RdVs H (as.map V.ref) ((List.range as.length).map fun i => PyData.tuple ((f i).map PyData.int))
  | [], _, _ => .nil
  | a :: as, f, h => by
    rw [List.length_cons, List.range_succ_eq_map, List.map_cons, List.map_cons, List.map_map]
    exact .cons (.tup (h 0 a rfl) (rdInts _)) (rd_sts as (fun i => f (i + 1)) fun i b e => h (i + 1) b (by simpa using e))
def dS (tg : Rows) (st os : List Int) : PyData := .list ((List.range (os.length + 1)).map fun i => PyData.tuple ((stA tg st os i).map PyData.int))
theorem rdS {H : Hp} {tg : Rows} {st os : List Int} {l : Addr} {as : List Addr} (hl : H l = some (.lst (as.map V.ref))) (hn : as.length = os.length + 1) (hS : Sts tg st os H as) : RdV H (.ref l) (dS tg st os) := by
  unfold dS
  rw [← hn]
  exact .lst hl (rd_sts as _ hS)
theorem st_sm {H : Hp} {rs : List Addr} {tg : Rows} {m : Nat} (h : Rls H rs tg m) {st os : List Int} (hs : ∀ x ∈ st, 0 ≤ x ∧ x ≤ 100) {i : Nat} (hi : i ≤ 100) : ∀ x ∈ stA tg st os i, G2.Sm x := fun x hx => by
  have := stA_bd h hs i x hx
  unfold G2.Sm
  omega
theorem shT {H : Hp} {rs : List Addr} {tg : Rows} {m : Nat} (h : Rls H rs tg m) {st os : List Int} (hs : ∀ x ∈ st, 0 ≤ x ∧ x ≤ 100) (hl : st.length ≤ 8) {i : Nat} (hi : i ≤ 100) : G2.Shw (.tuple ((stA tg st os i).map PyData.int)) 147 1 :=
  (G2.Shw.ints (st_sm h hs hi)).up (by rw [stA_len]; omega) (Nat.le_refl _)
theorem shS {H : Hp} {rs : List Addr} {tg : Rows} {m : Nat} (h : Rls H rs tg m) {st os : List Int} (hs : ∀ x ∈ st, 0 ≤ x ∧ x ≤ 100) (hl : st.length ≤ 8) (ho : os.length ≤ 70) : G2.Shw (dS tg st os) 20000 2 := by
  refine (G2.Shw.lsts (n := 147) (h := 1) fun d hd => ?_).up ?_ (Nat.le_refl _)
  · obtain ⟨i, hi, rfl⟩ := List.mem_map.mp hd
    exact shT h hs hl (by have := List.mem_range.mp hi; omega)
  · rw [List.length_map, List.length_range]
    omega
/-- an order that is handed, as it is shown -/
theorem rdA {H : Hp} {b : Addr} {os : List Int} (h : SqA H b (os.map V.int)) (hb : ∀ x ∈ os, G2.Bg x) (hl : os.length ≤ 70) : ∃ d, (∀ H', Same H H' → RdV H' (.ref b) d) ∧ G2.Shw d 10000 1 := by
  rcases h with h | h
  · exact ⟨_, fun H' k => .tup (k _ _ h) (rdInts _), (G2.Shw.bigs hb).up (by omega) (Nat.le_refl _)⟩
  · refine ⟨_, fun H' k => .lst (k _ _ h) (rdInts _), (G2.Shw.lsts (n := 91) (h := 0) fun d hd => ?_).up ?_ (Nat.le_refl _)⟩
    · obtain ⟨i, hi, rfl⟩ := List.mem_map.mp hd
      exact G2.Shw.big (hb i hi)
    · rw [List.length_map]
      omega
theorem shP {n : Nat} (h : n ≤ 100) : G2.Shw (.tuple [.str "place", .int (n : Int)]) 100 1 := by
  have h1 : G2.Shw (.str "place") 12 0 := ⟨rfl, rfl, Nat.zero_le _, by decide +kernel⟩
  have h2 : G2.Shw (.int (n : Int)) 16 0 := G2.Shw.int (by unfold G2.Sm; omega)
  exact (G2.Shw.two h1 h2).up (by omega) (Nat.le_refl _)
theorem rdP {H : Hp} {q : Addr} {n : Int} (h : H q = some (.tup [.str "place", .int n])) : RdV H (.ref q) (.tuple [.str "place", .int n]) := .tup h (.cons (.str _) (.cons (.int _) .nil))
def spRight : Sp := fun vs H Q _ => ∃ (p s o : Addr) (m : Nat) (tg : Rows) (st os : List Int), vs = [.ref p, .ref s, .ref o] ∧ PotR H p m tg ∧ H s = some (.tup (st.map V.int)) ∧ H o = some (.lst (os.map V.int)) ∧ st.length = m ∧ (∀ x ∈ st, 0 ≤ x ∧ x ≤ 100) ∧ (∀ x ∈ os, G2.Bg x) ∧ os.length ≤ 70 ∧ ∀ H', Same H H' → Q (.bl true) H'
section
variable {P : Program} {w : World} {K : PySem.W.Frag} {mg : Str → Option Value} {base : Heap}
set_option maxHeartbeats 4000000 in
theorem ok_Right {f : Addr} {fd : FuncData} {cN : Addr} (B : Blt8 mg) (fW : Has P w K mg base 2 "_law_way" ["_law_pot_here", "_law_stand", "_law_order_here"] spWay) (fA : Has P w K mg base 6 "_law_asked" ["_law_walks", "_law_pot_here", "_law_stand", "_law_order_here"] (spAsked P w K mg base cN))
    (gS : HasX P w K mg base 4 "stands_on" ["pot", "stand", "order"] (spStands cN)) (gW : HasX P w K mg base 5 "walked" ["pot", "stand", "order"] (spWalked cN)) (F : Fun K "_law_right" "_law_right" sRight f fd) : FnOk P w K mg base CX0 7 f fd ["_law_pot_here", "_law_stand", "_law_order_here"] spRight := by
  refine F.ok scRight (fun vs H Q E h => ?_) (fun cdv A outer s H vs Q E hr h => ?_)
  · obtain ⟨p, s, o, m, tg, st, os, rfl, _⟩ := h
    rfl
  · obtain ⟨p, sa, o, m, tg, st, os, rfl, hP, hs, ho, hst, hsb, hos, hol, k⟩ := h
    have gS' := gS
    obtain ⟨fS, fdS, FS, hmS, hkS, hbS⟩ := gS'
    obtain ⟨fV, fdV, FV, hmV, hkV, hbV⟩ := gW
    refine' ⟨_, ?hb, ?rd⟩
    case hb =>
      refine' pss_cons ?s1 ?r1
      case' r1 => refine' pss_cons ?s2 ?r2
      case' r2 => refine' pss_one ?s3
      case s1 => exact ps_setD nmRight 3 (pe_f fW hr (by decide) (pa_c (pvd nmRight 0) (pa_2 (pvd nmRight 1) (pvd nmRight 2))))
      case s3 => exact ps_ret pe_bl
      case s2 =>
        refine' ps_for PassesOwn.never rfl ?i1 (pgd nmRight 4) ?b1
        case' i1 => refine' pi_list ?i2
        case' i2 => refine' pe_lst ?i3
        case i3 => exact pa_2 (pe_cT call_tuple_of B.tuple PyProof.Rows.boot_tuple (pa_1 (pvd nmRight 2))) (pe_cT call_list_of B.list PyProof.Rows.boot_list (pa_1 (pvd nmRight 2)))
        case b1 =>
          refine' pss_cons ?t1 ?u1
          case' u1 => refine' pss_cons ?t2 ?u2
          case' u2 => refine' pss_cons ?t3 ?u3
          case' u3 => refine' pss_cons ?t4 ?u4
          case' u4 => refine' pss_one ?t5
          case t1 => exact ps_setD nmRight 5 (pe_cB (call_repr hr) B.repr PyProof.Rows.boot_repr (pa_1 (pvd nmRight 4)))
          case t2 => exact ps_setD nmRight 6 (pe_f fA hr (by decide) (pa_c (pe_cls (C := fS) hmS) (pa_c (pvd nmRight 0) (pa_2 (pvd nmRight 1) (pvd nmRight 4)))))
          case t3 => exact ps_setD nmRight 7 (pe_f fA hr (by decide) (pa_c (pe_cls (C := fV) hmV) (pa_c (pvd nmRight 0) (pa_2 (pvd nmRight 1) (pvd nmRight 4)))))
          case t4 => exact ps_if (pt_cmpR op_ne (pe_cB (call_repr hr) B.repr PyProof.Rows.boot_repr (pa_1 (pvd nmRight 4))) (pvd nmRight 5) (nomark _)) (pss_one (ps_ret pe_bl)) pss_nil
          case t5 =>
            refine' ps_if ?c1 ?c2 ?c3
            case' c1 => refine' pt_val ?c4
            case c4 => exact pe_cB is_int B.isi PyProof.Rows.boot_isinstance (pa_2 (pvd nmRight 3) (pe_bltn (v := .ty "int") rfl B.int PyProof.Rows.boot_int rfl))
            case c2 =>
              refine' pss_one ?d1
              case' d1 => refine' ps_if ?d2 (pss_one (ps_ret pe_bl)) pss_nil
              case' d2 => refine' PW.pt ?d3
              case' d3 => refine' pw_or ?d4 ?d5
              case d4 => exact pt_cmpR op_ne (pe_cB (call_repr hr) B.repr PyProof.Rows.boot_repr (pa_1 (pvd nmRight 6))) (pe_cB (call_repr hr) B.repr PyProof.Rows.boot_repr (pa_1 (pe_tup (pa_2 pe_str (pvd nmRight 3))))) (nomark _)
              case' d5 => refine' pw_or1 ?d6
              case d6 => exact pt_cmpR op_ne (pe_cB (call_repr hr) B.repr PyProof.Rows.boot_repr (pa_1 (pvd nmRight 7))) (pe_cB (call_repr hr) B.repr PyProof.Rows.boot_repr (pa_1 (pe_tup (pa_2 pe_str (pvd nmRight 3))))) (nomark _)
            case c3 =>
              refine' pss_one ?e1
              case' e1 => refine' ps_if ?e2 (pss_one (ps_ret pe_bl)) ?e3
              case' e2 => refine' PW.pt ?e4
              case' e4 => refine' pw_or ?e5 ?e6
              case e5 => exact pt_cmpR op_ne (pe_cB (call_repr hr) B.repr PyProof.Rows.boot_repr (pa_1 (pvd nmRight 6))) (pe_cB (call_repr hr) B.repr PyProof.Rows.boot_repr (pa_1 (pvd nmRight 3))) (nomark _)
              case' e6 => refine' pw_or1 ?e7
              case e7 => exact pt_cmpR op_ne (pe_cB (call_repr hr) B.repr PyProof.Rows.boot_repr (pa_1 (pvd nmRight 7))) (pe_cB (call_repr hr) B.repr PyProof.Rows.boot_repr (pa_1 (pe_ix ix_d (pvd nmRight 3) (pe_un un_neg pe_int) (fun _ _ => rfl)))) (nomark _)
              case' e3 => refine' pss_cons ?g1 ?g2
              case g1 =>
                refine' ps_expr ?g3
                case g3 => exact pe_bm0 PySem.F.plainAttrs_list PySem.F.slot_list_clear PySem.F.type_list_clear mt_clear (pvd nmRight 6)
              case' g2 => refine' pss_one ?g4
              case' g4 => refine' ps_if ?g5 (pss_one (ps_ret pe_bl)) pss_nil
              case g5 => exact pt_cmpR op_ne (pe_cB (call_repr hr) B.repr PyProof.Rows.boot_repr (pa_1 (pe_f gS.calm hr (by decide) (pa_c (pvd nmRight 0) (pa_2 (pvd nmRight 1) (pvd nmRight 4)))))) (pe_cB (call_repr hr) B.repr PyProof.Rows.boot_repr (pa_1 (pvd nmRight 3))) (nomark _)
    case rd =>
      have m8 := hP.m8
      obtain ⟨ps, pr, pin, pb, ans, rs, h1, h2, hR⟩ := hP.ex
      have two : ∀ (due : V) (H1 : Hp), Same H H1 → (∀ (t l a : Addr) (H3 : Hp), Same H1 H3 → H3 t = some (.tup (os.map V.int)) → H3 l = some (.lst (os.map V.int)) → H3 a = some (.lst [.ref t, .ref l]) → True) → True := fun _ _ _ _ => trivial
      walk_at "v"
      refine ⟨p, sa, o, m, tg, st, os, rfl, hP, hs, ho, hst, hol, fun hg dl das H1 K1 _ hdl hdn hdS => ?_, fun n hbad H1 K1 => ?_⟩
      · walk_at "v"
        refine ⟨o, _, rfl, .inl ⟨SqL.of (K1 _ _ ho), fun tp htp => ?_⟩⟩
        have K2 : Same H1 (upd H1 tp (.tup (os.map V.int))) := Same.new (Same.refl H1) htp
        have et2 : upd H1 tp (.tup (os.map V.int)) tp = some (.tup (os.map V.int)) := upd_same
        generalize upd H1 tp (.tup (os.map V.int)) = H2 at K2 et2 ⊢
        walk_at "v"
        refine ⟨o, _, rfl, .inl (SqL.of ((K1.trans K2) _ _ ho)), fun l2 hl2 => ?_⟩
        have K3 : Same H2 (upd H2 l2 (.lst (os.map V.int))) := Same.new (Same.refl H2) hl2
        have el2 : upd H2 l2 (.lst (os.map V.int)) l2 = some (.lst (os.map V.int)) := upd_same
        generalize upd H2 l2 (.lst (os.map V.int)) = H2' at K3 el2 ⊢
        walk_at "v"
        refine ⟨by show 2 ≤ sizeLine; decide, fun al hal => ?_⟩
        have K3' : Same H2' (upd H2' al (.lst [.ref tp, .ref l2])) := Same.new (Same.refl H2') hal
        have ea : upd H2' al (.lst [.ref tp, .ref l2]) al = some (.lst [.ref tp, .ref l2]) := upd_same
        have KA := ((K1.trans K2).trans K3).trans K3'
        have K13 := (K2.trans K3).trans K3'
        have et3 := (K3.trans K3') _ _ et2
        have el3 := K3' _ _ el2
        generalize upd H2' al (.lst [.ref tp, .ref l2]) = H3 at K3' ea KA K13 et3 el3 ⊢
        refine ⟨al, rfl, ⟨_, SqL.of ea⟩, ?_⟩
        refine for_list (xs := [.ref tp, .ref l2]) (fun i σ H' => ∃ (u4 u5 u6 u7 : Option V), σ = [some (.ref p), some (.ref sa), some (.ref o), some (.ref dl), u4, u5, u6, u7] ∧ Same H3 H') ⟨none, none, none, none, rfl, Same.refl _⟩ (fun i σ H' _ ⟨_, _, _, _, _, k'⟩ => SqL.of (k' _ _ ea)) ?_ ?_
        · rintro i xv σ H4 hx ⟨u4, u5, u6, u7, rfl, K4⟩
          obtain ⟨b, rfl, hb3⟩ : ∃ b, xv = .ref b ∧ SqA H3 b (os.map V.int) := by
            match i, hx with
            | 0, hx => exact ⟨tp, (Option.some.inj hx).symm, .inl et3⟩
            | 1, hx => exact ⟨l2, (Option.some.inj hx).symm, .inr el3⟩
            | i + 2, hx => simp at hx
          obtain ⟨d, hd, hsh⟩ := rdA hb3 hos (by omega)
          walk_at "v"
          refine G2.w_shw (hd _ K4) hsh (by omega) (by decide) ?_
          walk_at "v"
          refine ⟨fS, fdS, 4, _, spStands cN, _, _, _, rfl, by decide, FS, hkS, hbS, fun Q1 E1 hQ1 hE1 => ?_⟩
          refine ⟨m, tg, st, os, ⟨⟨p, sa, b, rfl, hP.same (KA.trans K4), (KA.trans K4) _ _ hs, hb3.same K4⟩, hst, hol⟩, fun _ fl fas H5 K5 hfl0 hfl hfn hfS => ?_, fun n' hb' => (bad_good hg hb').elim⟩
          refine hQ1 _ _ ?_
          have K45 := K4.trans K5
          walk_at "v"
          refine ⟨fV, fdV, 5, _, spWalked cN, _, _, _, rfl, by decide, FV, hkV, hbV, fun Q2 E2 hQ2 hE2 => ?_⟩
          refine ⟨m, tg, st, os, ⟨⟨p, sa, b, rfl, hP.same (KA.trans K45), (KA.trans K45) _ _ hs, hb3.same K45⟩, hst, hol⟩, fun _ q H6 K6 hq => ?_, fun n' hb' => (bad_good hg hb').elim⟩
          refine hQ2 _ _ ?_
          have K46 := K45.trans K6
          have K16 := K13.trans K46
          walk_at "v"
          refine G2.w_shw (hd _ K46) hsh (by omega) (by decide) ?_
          walk_at "v"
          refine ⟨rfl, ?_⟩
          walk_at "v"
          refine iteNS rfl ?_
          walk_at "v"
          refine ⟨_, .lst, rfl, .lst (K16 _ _ hdl), ?_⟩
          refine ⟨_, rfl, ?_⟩
          refine iteF ?_
          walk_at "v"
          refine G2.w_shw (rdS (K6 _ _ hfl) hfn (hfS.same K6)) (shS hR hsb (by omega) hol) (by omega) (by decide) ?_
          walk_at "v"
          refine G2.w_shw (rdS (K16 _ _ hdl) hdn (hdS.same K16)) (shS hR hsb (by omega) hol) (by omega) (by decide) ?_
          walk_at "v"
          refine ⟨rfl, ?_⟩
          walk_at "v"
          refine iteNS rfl ?_
          walk_at "v"
          refine G2.w_shw (.tup hq (rdInts _)) (shT hR hsb (by omega) (by omega)) (by omega) (by decide) ?_
          walk_at "v"
          refine ⟨_, rfl, ?_⟩
          have hla : os.length < das.length := by omega
          have hlast : das = das.take os.length ++ [das[os.length]] := by
            have := List.take_append_getElem hla
            rw [this, List.take_of_length_le (by omega)]
          have eas : (das.map V.ref) = (das.take os.length).map V.ref ++ [.ref das[os.length]] := by
            rw [← List.map_singleton, ← List.map_append, ← hlast]
          refine w_ixL (v := .ref das[os.length]) (K16 _ _ hdl) (by rw [eas]; exact atI_last _ _) ?_
          walk_at "v"
          refine G2.w_shw (.tup (K16 _ _ (hdS os.length das[os.length] (by simp [hla]))) (rdInts _)) (shT hR hsb (by omega) (by omega)) (by omega) (by decide) ?_
          walk_at "v"
          refine ⟨rfl, ?_⟩
          walk_at "v"
          refine iteNS rfl ?_
          walk_at "v"
          refine w_bm0 ?_
          walk_at "v"
          refine ⟨.inl ⟨rfl, _, SqL.of (K6 _ _ hfl)⟩, ?_⟩
          refine ⟨fl, _, rfl, rfl, K6 _ _ hfl, ?_⟩
          have K37 : Same H3 (upd H6 fl (.lst [])) := K46.put (K4.free hfl0)
          generalize upd H6 fl (.lst []) = H7 at K37 ⊢
          walk_at "v"
          refine ⟨m, tg, st, os, ⟨⟨p, sa, b, rfl, hP.same (KA.trans K37), (KA.trans K37) _ _ hs, hb3.same K37⟩, hst, hol⟩, fun _ gl gas H8 K8 _ hgl hgn hgS => ?_, fun n' hb' => (bad_good hg hb').elim⟩
          have K18 := K13.trans (K37.trans K8)
          walk_at "v"
          refine G2.w_shw (rdS hgl hgn hgS) (shS hR hsb (by omega) hol) (by omega) (by decide) ?_
          walk_at "v"
          refine G2.w_shw (rdS (K18 _ _ hdl) hdn (hdS.same K18)) (shS hR hsb (by omega) hol) (by omega) (by decide) ?_
          walk_at "v"
          refine ⟨rfl, ?_⟩
          walk_at "v"
          refine iteNS rfl ?_
          walk_at "v"
          exact ⟨_, _, _, _, rfl, K37.trans K8⟩
        · rintro σ H4 ⟨u4, u5, u6, u7, rfl, K4⟩
          walk_at "v"
          exact k _ (KA.trans K4)
      · walk_at "v"
        refine ⟨o, _, rfl, .inl ⟨SqL.of (K1 _ _ ho), fun tp htp => ?_⟩⟩
        have K2 : Same H1 (upd H1 tp (.tup (os.map V.int))) := Same.new (Same.refl H1) htp
        have et2 : upd H1 tp (.tup (os.map V.int)) tp = some (.tup (os.map V.int)) := upd_same
        generalize upd H1 tp (.tup (os.map V.int)) = H2 at K2 et2 ⊢
        walk_at "v"
        refine ⟨o, _, rfl, .inl (SqL.of ((K1.trans K2) _ _ ho)), fun l2 hl2 => ?_⟩
        have K3 : Same H2 (upd H2 l2 (.lst (os.map V.int))) := Same.new (Same.refl H2) hl2
        have el2 : upd H2 l2 (.lst (os.map V.int)) l2 = some (.lst (os.map V.int)) := upd_same
        generalize upd H2 l2 (.lst (os.map V.int)) = H2' at K3 el2 ⊢
        walk_at "v"
        refine ⟨by show 2 ≤ sizeLine; decide, fun al hal => ?_⟩
        have K3' : Same H2' (upd H2' al (.lst [.ref tp, .ref l2])) := Same.new (Same.refl H2') hal
        have ea : upd H2' al (.lst [.ref tp, .ref l2]) al = some (.lst [.ref tp, .ref l2]) := upd_same
        have KA := ((K1.trans K2).trans K3).trans K3'
        have K13 := (K2.trans K3).trans K3'
        have et3 := (K3.trans K3') _ _ et2
        have el3 := K3' _ _ el2
        generalize upd H2' al (.lst [.ref tp, .ref l2]) = H3 at K3' ea KA K13 et3 el3 ⊢
        refine ⟨al, rfl, ⟨_, SqL.of ea⟩, ?_⟩
        refine for_list (xs := [.ref tp, .ref l2]) (fun i σ H' => ∃ (u4 u5 u6 u7 : Option V), σ = [some (.ref p), some (.ref sa), some (.ref o), some (.int (n : Int)), u4, u5, u6, u7] ∧ Same H3 H') ⟨none, none, none, none, rfl, Same.refl _⟩ (fun i σ H' _ ⟨_, _, _, _, _, k'⟩ => SqL.of (k' _ _ ea)) ?_ ?_
        · rintro i xv σ H4 hx ⟨u4, u5, u6, u7, rfl, K4⟩
          obtain ⟨b, rfl, hb3⟩ : ∃ b, xv = .ref b ∧ SqA H3 b (os.map V.int) := by
            match i, hx with
            | 0, hx => exact ⟨tp, (Option.some.inj hx).symm, .inl et3⟩
            | 1, hx => exact ⟨l2, (Option.some.inj hx).symm, .inr el3⟩
            | i + 2, hx => simp at hx
          obtain ⟨d, hd, hsh⟩ := rdA hb3 hos (by omega)
          walk_at "v"
          refine G2.w_shw (hd _ K4) hsh (by omega) (by decide) ?_
          walk_at "v"
          refine ⟨fS, fdS, 4, _, spStands cN, _, _, _, rfl, by decide, FS, hkS, hbS, fun Q1 E1 hQ1 hE1 => ?_⟩
          refine ⟨m, tg, st, os, ⟨⟨p, sa, b, rfl, hP.same (KA.trans K4), (KA.trans K4) _ _ hs, hb3.same K4⟩, hst, hol⟩, fun hg => (bad_good hg hbad).elim, fun n' hb' dx H5 K5 hd5 => ?_⟩
          obtain rfl := bad_one hbad hb'
          refine hE1 dx _ H5 hd5 fun fq H6 K6 hfq => ?_
          have K46 := (K4.trans K5).trans K6
          walk_at "v"
          refine ⟨fV, fdV, 5, _, spWalked cN, _, _, _, rfl, by decide, FV, hkV, hbV, fun Q2 E2 hQ2 hE2 => ?_⟩
          refine ⟨m, tg, st, os, ⟨⟨p, sa, b, rfl, hP.same (KA.trans K46), (KA.trans K46) _ _ hs, hb3.same K46⟩, hst, hol⟩, fun hg => (bad_good hg hbad).elim, fun n' hb' dx' H7 K7 hd7 => ?_⟩
          obtain rfl := bad_one hbad hb'
          refine hE2 dx' _ H7 hd7 fun q H8 K8 hq => ?_
          have K68 := K7.trans K8
          have K48 := K46.trans K68
          have hn := hbad.1
          walk_at "v"
          refine G2.w_shw (hd _ K48) hsh (by omega) (by decide) ?_
          walk_at "v"
          refine ⟨rfl, ?_⟩
          walk_at "v"
          refine iteNS rfl ?_
          walk_at "v"
          refine ⟨_, .int (n : Int), rfl, .int _, ?_⟩
          refine ⟨_, rfl, ?_⟩
          refine iteT ?_
          walk_at "v"
          refine G2.w_shw (rdP (K68 _ _ hfq)) (shP (by omega)) (by omega) (by decide) ?_
          walk_at "v"
          refine ⟨by show 2 ≤ sizeLine; decide, fun z1 hz1 => ?_⟩
          have KZ : Same H8 (upd H8 z1 (.tup [.str "place", .int (n : Int)])) := Same.new (Same.refl H8) hz1
          have ez1 : upd H8 z1 (.tup [.str "place", .int (n : Int)]) z1 = some (.tup [.str "place", .int (n : Int)]) := upd_same
          generalize upd H8 z1 (.tup [.str "place", .int (n : Int)]) = H9 at KZ ez1 ⊢
          walk_at "v"
          refine G2.w_shw (rdP ez1) (shP (by omega)) (by omega) (by decide) ?_
          walk_at "v"
          refine ⟨rfl, ?_⟩
          walk_at "v"
          refine iteNS rfl ?_
          walk_at "v"
          refine G2.w_shw (rdP (KZ _ _ hq)) (shP (by omega)) (by omega) (by decide) ?_
          walk_at "v"
          refine ⟨by show 2 ≤ sizeLine; decide, fun z2 hz2 => ?_⟩
          have KY : Same H9 (upd H9 z2 (.tup [.str "place", .int (n : Int)])) := Same.new (Same.refl H9) hz2
          have ez2 : upd H9 z2 (.tup [.str "place", .int (n : Int)]) z2 = some (.tup [.str "place", .int (n : Int)]) := upd_same
          generalize upd H9 z2 (.tup [.str "place", .int (n : Int)]) = HA at KY ez2 ⊢
          walk_at "v"
          refine G2.w_shw (rdP ez2) (shP (by omega)) (by omega) (by decide) ?_
          walk_at "v"
          refine ⟨rfl, ?_⟩
          walk_at "v"
          refine iteNS rfl ?_
          walk_at "v"
          exact ⟨_, _, _, _, rfl, (K48.trans KZ).trans KY⟩
        · rintro σ H4 ⟨u4, u5, u6, u7, rfl, K4⟩
          walk_at "v"
          exact k _ (KA.trans K4)
end
end K7

set_option Elab.async false
set_option linter.all false
set_option maxRecDepth 100000
namespace K7
open PySem L2 G2
local macro_rules | `(tactic| walk_at "v") => `(tactic| repeat (with_reducible first
  | refine w_seq ?_ | refine w_asg ?_ | refine w_gname ?_ | refine w_op ?_ | refine w_var rfl ?_ | refine w_c ?_ | refine w_rI0 ?_ | refine w_ifs ?_ | refine w_ife ?_ | refine w_test ?_ | refine w_tb ?_ | refine w_bl ?_ | refine w_not ?_ | refine w_ret ?_ | refine w_retN ?_
  | refine w_nil ?_ | refine w_cons ?_ | refine w_lst ?_ | refine w_tup ?_ | refine w_cb ?_ | refine w_call ?_ | refine w_gsub ?_ | refine w_and ?_ | refine w_or ?_ | refine w_next ?_ | refine w_all ?_ | refine w_vals ?_ | refine w_compR ?_ | refine w_compT ?_ | refine w_forR ?_ | refine w_forT ?_ | refine w_forL ?_ | refine w_drop ?_ | refine w_bm ?_ | refine w_compZ ?_ | refine w_compL ?_ | refine w_chain ?_ | refine w_sl ?_ | refine w_nopart ?_ | refine w_part ?_ | refine w_unI ?_ | refine iteT ?_ | refine iteF ?_))
theorem tk2 {H H' : Hp} (k : TK H H') : G2.TK H H' := ⟨k.t, k.f⟩
theorem PotAt.tk {H H' : Hp} {p : Addr} {nm : List Str} {ins beg : List Int} {ans : Int} {m : Nat} (k : TK H H') (h : PotAt H p nm ins beg ans m) : PotAt H' p nm ins beg ans m := by
  obtain ⟨⟨ps, pr, pin, pb, rs, e1, e2, e3, e4, e5, e6, e7⟩, r1, r2, r3, r4, r5, r6, r7, r8⟩ := h
  exact ⟨⟨ps, pr, pin, pb, rs, k.t _ _ e1, k.tf e2, k.t _ _ e3, fun r hr => (e4 r hr).tk k, e5, k.t _ _ e6, k.t _ _ e7⟩, r1, r2, r3, r4, r5, r6, r7, r8⟩
abbrev sLaw : Stmt := top 23
abbrev nLaw : List Str := ["_law_script", "_law_k", "_law_feed_here", "_law_pot_here", "_law_stand", "_law_order_here", "_law_orders", "_law_j", "_law_at", "_law_odd", "_law_rest", "_law_one"]
theorem nmLaw : Nm nLaw (defScope sLaw) := ⟨by decide +kernel, by decide +kernel⟩
theorem scLaw : FnScope nLaw ["_law_script"] (defScope sLaw) := ⟨rfl, rfl, rfl, by decide +kernel, rfl, by decide +kernel, by decide +kernel⟩
def for2Comp (s : Stmt) : Scope := match s with
  | .For _ _ (_ :: _ :: .Assign _ (.Call _ [.ListComp _ _ sc _] _ _) _ :: _) _ _ => sc
  | _ => { kind := .function, names := [], isGenerator := false, isCoroutine := false }
abbrev cLaw : Scope := for2Comp ((defBody sLaw).getD 0 (.Pass ⟨0, 0, 0, 0⟩))
theorem bsLaw : BScope (defScope sLaw) cLaw ["_law_sort"] ["_law_feed_here"] ["_law_draw"] := { okind := by decide +kernel, kind := by decide +kernel, nocell := by decide +kernel, names := by decide +kernel, fr := by decide +kernel, ff := by decide +kernel, nd := by decide +kernel, vis := by decide +kernel, loc := by decide +kernel, gl := by decide +kernel }
theorem pickL {xs : List Int} {r : Int} (h0 : 0 ≤ r) (h1 : r < xs.length) : ∃ x, x ∈ xs ∧ atI (xs.map V.int) r = some (.int x) := by
  obtain ⟨n, rfl⟩ := Nat.ofI h0
  have hn : n < xs.length := by omega
  exact ⟨xs[n], List.getElem_mem hn, atI_nat (by simp [hn])⟩
theorem cutI (os : List Int) (lo hi : Option Int) : ∃ os' : List Int, cutV (os.map V.int) lo hi = os'.map V.int ∧ os'.length ≤ os.length ∧ ∀ x ∈ os', x ∈ os := by
  unfold cutV
  rw [← List.map_drop, ← List.map_take]
  refine ⟨_, rfl, ?_, fun x hx => List.mem_of_mem_drop (List.mem_of_mem_take hx)⟩
  rw [List.length_take, List.length_drop]
  omega
/-- an order -/
def OL (H : Hp) (r : Addr) : Prop := ∃ os : List Int, H r = some (.lst (os.map V.int)) ∧ (∀ x ∈ os, G2.Bg x) ∧ os.length ≤ 70
theorem OL.same {H H' : Hp} {r : Addr} (k : Same H H') (h : OL H r) : OL H' r := let ⟨os, e, b⟩ := h; ⟨os, k _ _ e, b⟩
structure Mk (H0 : Hp) (p ol od : Addr) (os : List Int) (rs : List Addr) (H : Hp) : Prop where
  F : FeedAt H p
  T : TK H0 H
  po : od ≠ p
  pl : ol ≠ p
  lo : ol ≠ od
  e5 : H ol = some (.lst (os.map V.int))
  e6 : H od = some (.lst (rs.map V.ref))
  all : ∀ r ∈ rs, r ≠ p ∧ r ≠ od ∧ OL H r
theorem Mk.draw {H0 H : Hp} {p ol od : Addr} {os : List Int} {rs : List Addr} {x y z : Int} (M : Mk H0 p ol od os rs H) : Mk H0 p ol od os rs (upd H p (.lst [.int x, .int y, .int z])) :=
  ⟨FeedAt.here, M.T.trans (TK.feed M.F), M.po, M.pl, M.lo, by rw [upd_ne M.pl]; exact M.e5, by rw [upd_ne M.po]; exact M.e6, fun r hr => let ⟨a, b, os, e, c⟩ := M.all r hr; ⟨a, b, os, by rw [upd_ne a]; exact e, c⟩⟩
theorem Mk.same {H0 H H' : Hp} {p ol od : Addr} {os : List Int} {rs : List Addr} (k : Same H H') (M : Mk H0 p ol od os rs H) : Mk H0 p ol od os rs H' :=
  ⟨let ⟨x, y, z, e⟩ := M.F; ⟨x, y, z, k _ _ e⟩, M.T.trans ⟨fun q xs e => k _ _ e, fun q o u e => k _ _ e⟩, M.po, M.pl, M.lo, k _ _ M.e5, k _ _ M.e6, fun r hr => let ⟨a, b, c⟩ := M.all r hr; ⟨a, b, c.same k⟩⟩
theorem Mk.add {H0 H : Hp} {p ol od r : Addr} {os : List Int} {rs : List Addr} (M : Mk H0 p ol od os rs H) (h1 : r ≠ p) (h2 : r ≠ od) (h3 : OL H r) : Mk H0 p ol od os (rs ++ [r]) (upd H od (.lst (rs.map V.ref ++ [.ref r]))) :=
  ⟨M.F.new (Ne.symm M.po), M.T.trans (TK.lst M.e6), M.po, M.pl, M.lo, by rw [upd_ne M.lo]; exact M.e5, by rw [upd_same, List.map_append]; rfl, fun q hq => by
    have go : ∀ {q : Addr}, q ≠ od → OL H q → OL (upd H od (.lst (rs.map V.ref ++ [.ref r]))) q := fun {q} n h => let ⟨os, e, b⟩ := h; ⟨os, by rw [upd_ne n]; exact e, b⟩
    rcases List.mem_append.mp hq with old | new
    · obtain ⟨a, b, c⟩ := M.all q old
      exact ⟨a, b, go b c⟩
    · rw [List.mem_singleton.mp new]
      exact ⟨h1, h2, go h2 h3⟩⟩
def spLaw (K : PySem.W.Frag) : Sp := fun vs H Q _ => ∃ (a : Addr) (ns : List Int), vs = [.ref a] ∧ SqF K H a (ns.map V.int) ∧ ns.length ≤ 63 ∧ ∀ H', Q (.bl true) H'
section
variable {P : Program} {w : World} {K : PySem.W.Frag} {mg : Str → Option Value} {base : Heap}
set_option maxHeartbeats 4000000 in
theorem ok_Law {f : Addr} {fd : FuncData} (B : Blt8 mg) (fF : Has P w K mg base 1 "_law_feed" ["_law_script", "_law_k"] (spFeed K)) (D : Has P w K mg base 1 "_law_draw" ["_law_feed_here", "_law_many"] spDraw) (fP : Has P w K mg base 3 "_law_pot" ["_law_feed_here"] spPot) (fO : Has P w K mg base 2 "_law_order" ["_law_feed_here", "_law_pot_here", "_law_stand"] spOrder)
    (fR : Has P w K mg base 7 "_law_right" ["_law_pot_here", "_law_stand", "_law_order_here"] spRight) (F : Fun K "law" "law" sLaw f fd) : FnOk P w K mg base CX0 8 f fd ["_law_script"] (spLaw K) := by
  refine F.ok scLaw (fun vs H Q E h => ?_) (fun cdv A outer s H vs Q E hr h => ?_)
  · obtain ⟨a, ns, rfl, _⟩ := h
    rfl
  · obtain ⟨a, ns, rfl, hS, hl, k⟩ := h
    refine' ⟨_, ?hb, ?rd⟩
    case hb =>
      refine' pss_cons ?s1 ?r1
      case' r1 => refine' pss_one ?s2
      case s2 => exact ps_ret pe_bl
      case s1 =>
        refine' ps_for PassesOwn.never rfl (pi_r1 B.range (pa_1 pe_int)) (pgd nmLaw 1) ?b1
        case b1 =>
          refine' pss_cons ?t1 ?u1
          case' u1 => refine' pss_cons ?t2 ?u2
          case' u2 => refine' pss_cons ?t3 ?u3
          case' u3 => refine' pss_cons ?t4 ?u4
          case' u4 => refine' pss_cons ?t5 ?u5
          case' u5 => refine' pss_cons ?t6 ?u6
          case' u6 => refine' pss_one ?t7
          case t1 => exact ps_setD nmLaw 2 (pe_f fF hr (by decide) (pa_2 (pvd nmLaw 0) (pvd nmLaw 1)))
          case t2 => exact ps_setD nmLaw 3 (pe_f fP hr (by decide) (pa_1 (pvd nmLaw 2)))
          case t3 =>
            refine' ps_setD nmLaw 4 ?y1
            case' y1 => refine' pe_cT call_tuple_of B.tuple PyProof.Rows.boot_tuple ?y2
            case' y2 => refine' pa_1 ?y3
            case y3 =>
              refine' pe_comp (ix := [2]) bsLaw.toCScope rfl rfl ?y4 ?y5 ?y6 ?y7
              case y4 =>
                refine' pi_tup ?y8
                case y8 => exact pe_ix ix_d (pvd nmLaw 3) pe_int (fun _ _ => rfl)
              case y5 => exact fun _ _ _ _ _ _ => pgb bsLaw 0
              case y6 => exact fun _ _ _ _ _ _ => pts_nil
              case y7 => exact fun _ _ _ _ _ _ => pe_f D hr (by decide) (pa_2 (pvb bsLaw 1) pe_int) (bsLaw.g 0)
          case t4 => exact ps_setD nmLaw 5 (pe_f fO hr (by decide) (pa_c (pvd nmLaw 2) (pa_2 (pvd nmLaw 3) (pvd nmLaw 4))))
          case t5 =>
            refine' ps_setD nmLaw 6 ?z1
            case' z1 => refine' pe_lst ?z2
            case' z2 => refine' pa_2 (pvd nmLaw 5) ?z3
            case' z3 => refine' pe_slice sl_list (pvd nmLaw 5) po_none ?z4
            case z4 => exact po_some (pe_f D hr (by decide) (pa_2 (pvd nmLaw 2) (pe_op op_add (pe_cB call_len_seq B.len PySem.boot_len (pa_1 (pvd nmLaw 5))) pe_int)))
          case t6 =>
            refine' ps_for PassesOwn.never rfl (pi_r1 B.range (pa_1 pe_int)) (pgd nmLaw 7) ?b2
            case b2 =>
              refine' pss_cons ?v1 ?w1
              case' w1 => refine' pss_cons ?v2 ?w2
              case' w2 => refine' pss_cons ?v3 ?w3
              case' w3 => refine' pss_one ?v4
              case v1 => exact ps_setD nmLaw 8 (pe_f D hr (by decide) (pa_2 (pvd nmLaw 2) (pe_op op_add (pe_cB call_len_seq B.len PySem.boot_len (pa_1 (pvd nmLaw 5))) pe_int)))
              case v2 =>
                refine' ps_setD nmLaw 9 ?o1
                case' o1 => refine' pe_ix ix_d ?o2 (pe_f D hr (by decide) (pa_2 (pvd nmLaw 2) pe_int)) (fun _ _ => rfl)
                case' o2 => refine' pe_lst ?o3
                case' o3 => refine' pa_c pe_int (pa_c pe_int (pa_c (pe_un un_neg pe_int) ?o4))
                case' o4 => refine' pa_c (pe_cB call_len_seq B.len PySem.boot_len (pa_1 (pe_ix ix_d (pvd nmLaw 3) pe_int (fun _ _ => rfl)))) ?o5
                case o5 => exact pa_c pe_int (pa_2 (pe_op op_pow pe_int pe_int) (pe_f D hr (by decide) (pa_2 (pvd nmLaw 2) pe_int)))
              case v3 =>
                refine' ps_setD nmLaw 10 ?x1
                case' x1 => refine' pe_slice sl_list (pvd nmLaw 5) ?x2 po_none
                case x2 => exact po_some (pe_op op_add (pvd nmLaw 8) (pe_f D hr (by decide) (pa_2 (pvd nmLaw 2) pe_int)))
              case v4 =>
                refine' ps_expr ?d1
                case' d1 => refine' pe_bm PySem.F.plainAttrs_list PySem.F.slot_list_append PySem.F.type_list_append mt_append (pvd nmLaw 6) ?d2
                case' d2 => refine' pa_1 ?d3
                case' d3 => refine' pe_op op_cat ?d4 (pvd nmLaw 10)
                case' d4 => refine' pe_op op_cat ?d5 (pe_lst (pa_1 (pvd nmLaw 9)))
                case d5 => exact pe_slice sl_list (pvd nmLaw 5) po_none (po_some (pvd nmLaw 8))
          case t7 =>
            refine' ps_for PassesOwn.never rfl (pi_list (pvd nmLaw 6)) (pgd nmLaw 11) ?b3
            case b3 =>
              refine' pss_one ?q1
              case' q1 => refine' ps_if ?c1 (pss_one (ps_ret pe_bl)) pss_nil
              case' c1 => refine' pt_not ?c2
              case' c2 => refine' pt_val ?c3
              case c3 => exact pe_f fR hr (by decide) (pa_c (pvd nmLaw 3) (pa_2 (pvd nmLaw 4) (pvd nmLaw 11)))
    case rd =>
      walk_at "v"
      refine ⟨8, rfl, by decide, by decide, ?_⟩
      refine for_range (n := 8) (fun i σ H' => ∃ (u1 u2 u3 u4 u5 u6 u7 u8 u9 u10 u11 : Option V), σ = [some (.ref a), u1, u2, u3, u4, u5, u6, u7, u8, u9, u10, u11] ∧ SqF K H' a (ns.map V.int)) ⟨none, none, none, none, none, none, none, none, none, none, none, rfl, hS⟩ ?_ ?_
      · rintro i σ H1 hi ⟨u1, u2, u3, u4, u5, u6, u7, u8, u9, u10, u11, rfl, S1⟩
        rw [Int.zero_add]
        walk_at "v"
        refine ⟨a, ns, i, rfl, S1.sq, hl, fun p x y z hp => ?_⟩
        have T1 : TK H1 (upd H1 p (.lst [.int x, .int y, .int z])) := TK.new hp
        have F1 : FeedAt (upd H1 p (.lst [.int x, .int y, .int z])) p := FeedAt.here
        generalize upd H1 p (.lst [.int x, .int y, .int z]) = H2 at T1 F1 ⊢
        walk_at "v"
        refine ⟨p, rfl, F1, fun pl H3 nm ins beg ans m _ hP F3 B3 => ?_⟩
        have T3 := T1.trans (TK.but F1 B3)
        have S3 := S1.tk (tk2 T3)
        obtain ⟨tg, hR⟩ := PotR.of hP
        obtain ⟨ps, pr, pin, pb, rs, e1, e2, e3, _, rl8, _⟩ := hP.ex
        have hnl := hP.hn.1
        have m8 := hP.m8
        have n8 := hR.n8
        walk_at "v"
        refine w_ixT e1 rfl ?_
        refine ⟨ps, rfl, ⟨_, e2.sq⟩, fun db hdb => ?_⟩
        have pdb := F3.ne hdb
        refine cgo_tup (xs := nm.map V.str) (ρ := [some (.ref p)]) (fun i ys H' => ∃ bs : List Int, ys = bs.map V.int ∧ bs.length = i ∧ (∀ b ∈ bs, 0 ≤ b ∧ b ≤ 100) ∧ FeedAt H' p ∧ TK H3 H')
          ⟨[], rfl, rfl, (fun b hb => by cases hb), F3.new pdb, TK.new hdb⟩ (fun i ys H' _ ⟨_, _, _, _, _, T⟩ => (T.tf e2).sq) ?_ ?_
        · rintro i' xv ys H5 hxi ⟨bs, rfl, hbl, hbs, F5, T5⟩ hD R' S' kR _
          have hi8 : i' < 8 := by
            have := (List.getElem?_eq_some_iff.mp hxi).1
            rw [List.length_map, hnl] at this
            omega
          walk_at "v"
          refine ⟨p, 13, rfl, F5, by decide, by decide, fun r x y z r0 r1 => ?_⟩
          have hD8 : upd H5 p (.lst [.int x, .int y, .int z]) db = some (.lst (bs.map V.int)) := by rw [upd_ne (Ne.symm pdb)]; exact hD
          refine kR _ _ hD8 (by rw [List.length_map]; exact small1000 (by omega)) ⟨bs ++ [r], by rw [List.map_append]; rfl, by simp [hbl], fun b hb => ?_, FeedAt.here.new pdb, (T5.trans (TK.feed F5)).trans (TK.lst hD8)⟩
          rcases List.mem_append.mp hb with old | new
          · exact hbs b old
          · rw [List.mem_singleton.mp new]
            omega
        · rintro ys H5 ⟨st, rfl, hsl, hsb, F5, T5⟩ hD
          rw [List.length_map, hnl] at hsl
          walk_at "v"
          refine ⟨db, _, rfl, .inl ⟨SqL.of hD, fun sa hsa => ?_⟩⟩
          have T6 := T5.trans (TK.new (o := .tup (st.map V.int)) hsa)
          have F6 := F5.new (o := .tup (st.map V.int)) (F5.ne hsa)
          have es : upd H5 sa (.tup (st.map V.int)) sa = some (.tup (st.map V.int)) := upd_same
          generalize upd H5 sa (.tup (st.map V.int)) = H6 at T6 F6 es ⊢
          walk_at "v"
          refine ⟨p, pl, sa, m, tg, st, rfl, F6, hR.tk T6, es, hsl, fun ol H7 os hO hol0 eo F7 B7 => ?_⟩
          have T7 := TK.but F6 B7
          have nol := F6.ne hol0
          obtain ⟨hob, hol⟩ := hO
          have hbg : ∀ x ∈ os, G2.Bg x := fun x hx => by
            have := hob x hx
            have h9 : (8 : Nat) < 10 ^ 90 := by decide +kernel
            unfold G2.Bg
            omega
          have OLof : ∀ {H : Hp} {q : Addr} {xs : List Int}, H q = some (.lst (xs.map V.int)) → (∀ x ∈ xs, x ∈ os) → xs.length ≤ os.length → OL H q := fun {H q xs} e h1 h2 => ⟨xs, e, fun x hx => hbg x (h1 x hx), by omega⟩
          walk_at "v"
          refine ⟨ol, _, rfl, .inl (SqL.of eo), ?_⟩
          rw [List.length_map]
          walk_at "v"
          refine ⟨p, _, rfl, F7, by omega, by omega, fun ra x y z ra0 ra1 => ?_⟩
          have T8 := T7.trans (TK.feed (o := .lst [.int x, .int y, .int z]) F7)
          have F8 : FeedAt (upd H7 p (.lst [.int x, .int y, .int z])) p := FeedAt.here
          have eo8 : upd H7 p (.lst [.int x, .int y, .int z]) ol = some (.lst (os.map V.int)) := by rw [upd_ne (Ne.symm nol)]; exact eo
          generalize upd H7 p (.lst [.int x, .int y, .int z]) = H8 at T8 F8 eo8 ⊢
          refine ⟨_, rfl, ?_⟩
          walk_at "v"
          refine ⟨ol, _, rfl, SqL.of eo8, fun q1 hq1 => ?_⟩
          obtain ⟨os1, ecut, hl1, hm1⟩ := cutI os none (some ra)
          rw [ecut]
          have K9 : Same H8 (upd H8 q1 (.lst (os1.map V.int))) := Same.new (Same.refl H8) hq1
          have eq1 : upd H8 q1 (.lst (os1.map V.int)) q1 = some (.lst (os1.map V.int)) := upd_same
          generalize upd H8 q1 (.lst (os1.map V.int)) = H9 at K9 eq1 ⊢
          walk_at "v"
          refine ⟨by show 2 ≤ sizeLine; decide, fun od hod => ?_⟩
          have K10 : Same H9 (upd H9 od (.lst [.ref ol, .ref q1])) := Same.new (Same.refl H9) hod
          have eod : upd H9 od (.lst [.ref ol, .ref q1]) od = some (.lst [.ref ol, .ref q1]) := upd_same
          generalize upd H9 od (.lst [.ref ol, .ref q1]) = HA at K10 eod ⊢
          have K8A := K9.trans K10
          have nq1 : q1 ≠ p := Ne.symm (F8.ne hq1)
          have nodp : od ≠ p := by
            obtain ⟨x, y, z, e⟩ := F8
            exact Ne.symm (ne_of_none (K9 _ _ e) hod)
          have M0 : Mk H6 p ol od os [ol, q1] HA := by
            refine ⟨let ⟨x, y, z, e⟩ := F8; ⟨x, y, z, K8A _ _ e⟩, T8.trans ⟨fun q xs e => K8A _ _ e, fun q o u e => K8A _ _ e⟩, nodp, Ne.symm nol, ne_of_none (K9 _ _ eo8) hod, K8A _ _ eo8, eod, fun r hr => ?_⟩
            simp only [List.mem_cons, List.not_mem_nil, or_false] at hr
            rcases hr with rfl | rfl
            · exact ⟨Ne.symm nol, ne_of_none (K9 _ _ eo8) hod, OLof (K8A _ _ eo8) (fun x hx => hx) (Nat.le_refl _)⟩
            · exact ⟨nq1, ne_of_none eq1 hod, OLof (K10 _ _ eq1) hm1 hl1⟩
          have e1' := T6.t _ _ e1
          have e3' := T6.t _ _ e3
          walk_at "v"
          refine ⟨3, rfl, by decide, by decide, ?_⟩
          refine for_range (n := 3) (fun j σ H' => ∃ (rs' : List Addr) (u7 u8 u9 u10 : Option V), σ = [some (.ref a), some (.int (i : Int)), some (.ref p), some (.ref pl), some (.ref sa), some (.ref ol), some (.ref od), u7, u8, u9, u10, u11] ∧ rs'.length = j + 2 ∧ Mk H6 p ol od os rs' H') ⟨[ol, q1], u7, u8, u9, u10, rfl, rfl, M0⟩ ?_ ?_
          · rintro j σ HB hj ⟨rs', u7, u8, u9, u10, rfl, hrl, M⟩
            walk_at "v"
            refine ⟨ol, _, rfl, .inl (SqL.of M.e5), ?_⟩
            rw [List.length_map]
            walk_at "v"
            refine ⟨p, _, rfl, M.F, by omega, by omega, fun at' x y z at0 at1 => ?_⟩
            have M1 := M.draw (x := x) (y := y) (z := z)
            generalize upd HB p (.lst [.int x, .int y, .int z]) = HC at M1 ⊢
            walk_at "v"
            refine ⟨_, rfl, ?_⟩
            walk_at "v"
            refine w_ixT (M1.T.t _ _ e1') rfl ?_
            walk_at "v"
            refine ⟨pr, _, rfl, .inr (SqT.of (M1.T.t _ _ e3')), ?_⟩
            rw [List.length_map]
            walk_at "v"
            refine w_rI ⟨by decide, by decide, by decide⟩ ?_
            have g0 : 0 ≤ (10 : Int) ^ (20 : Int).toNat := by decide +kernel
            have g1 : (10 : Int) ^ (20 : Int).toNat ≤ 100000000000000000000 := by decide +kernel
            generalize (10 : Int) ^ (20 : Int).toNat = big at g0 g1 ⊢
            walk_at "v"
            refine ⟨p, 6, rfl, M1.F, by decide, by decide, fun r6 x y z r60 r61 => ?_⟩
            have M2 := M1.draw (x := x) (y := y) (z := z)
            generalize upd HC p (.lst [.int x, .int y, .int z]) = HD at M2 ⊢
            walk_at "v"
            refine ⟨by show 7 ≤ sizeLine; decide, fun a7 ha7 => ?_⟩
            have na7 : a7 ≠ p := Ne.symm (M2.F.ne ha7)
            have M3 := M2.same (Same.new (o := .lst [.int 0, .int 1, .int (-1), .int (rs.length : Int), .int 7, .int big, .int r6]) (Same.refl HD) ha7)
            have e7 : upd HD a7 (.lst [.int 0, .int 1, .int (-1), .int (rs.length : Int), .int 7, .int big, .int r6]) a7 = some (.lst (([0, 1, -1, (rs.length : Int), 7, big, r6] : List Int).map V.int)) := upd_same
            generalize upd HD a7 (.lst [.int 0, .int 1, .int (-1), .int (rs.length : Int), .int 7, .int big, .int r6]) = HE at M3 e7 ⊢
            walk_at "v"
            refine ⟨p, 7, rfl, M3.F, by decide, by decide, fun r7 x y z r70 r71 => ?_⟩
            obtain ⟨odd, hodd, hat⟩ := pickL (xs := [0, 1, -1, (rs.length : Int), 7, big, r6]) r70 r71
            have M4 := M3.draw (x := x) (y := y) (z := z)
            have e74 : upd HE p (.lst [.int x, .int y, .int z]) a7 = some (.lst (([0, 1, -1, (rs.length : Int), 7, big, r6] : List Int).map V.int)) := by rw [upd_ne na7]; exact e7
            generalize upd HE p (.lst [.int x, .int y, .int z]) = HF at M4 e74 ⊢
            refine w_ixL e74 hat ?_
            have hbo : G2.Bg odd := by
              have h9 : (100000000000000000000 : Nat) < 10 ^ 90 := by decide +kernel
              simp only [List.mem_cons, List.not_mem_nil, or_false] at hodd
              unfold G2.Bg
              rcases hodd with rfl | rfl | rfl | rfl | rfl | rfl | rfl <;> omega
            walk_at "v"
            refine ⟨p, 2, rfl, M4.F, by decide, by decide, fun r2 x y z r20 r21 => ?_⟩
            have M5 := M4.draw (x := x) (y := y) (z := z)
            generalize upd HF p (.lst [.int x, .int y, .int z]) = HG at M5 ⊢
            walk_at "v"
            refine ⟨_, rfl, ?_⟩
            walk_at "v"
            refine ⟨ol, _, rfl, SqL.of M5.e5, fun q2 hq2 => ?_⟩
            obtain ⟨os2, ecut2, hl2, hm2⟩ := cutI os (some (at' + r2)) none
            rw [ecut2]
            have K6 : Same HG (upd HG q2 (.lst (os2.map V.int))) := Same.new (Same.refl HG) hq2
            have M6 := M5.same K6
            have eq2 : upd HG q2 (.lst (os2.map V.int)) q2 = some (.lst (os2.map V.int)) := upd_same
            generalize upd HG q2 (.lst (os2.map V.int)) = HH at K6 M6 eq2 ⊢
            walk_at "v"
            refine ⟨.inl ⟨rfl, _, SqL.of M6.e6⟩, ?_⟩
            walk_at "v"
            refine ⟨_, rfl, ?_⟩
            walk_at "v"
            refine ⟨ol, _, rfl, SqL.of M6.e5, fun q3 hq3 => ?_⟩
            obtain ⟨os3, ecut3, hl3, hm3⟩ := cutI os none (some at')
            rw [ecut3]
            have K7 : Same HH (upd HH q3 (.lst (os3.map V.int))) := Same.new (Same.refl HH) hq3
            have eq3 : upd HH q3 (.lst (os3.map V.int)) q3 = some (.lst (os3.map V.int)) := upd_same
            generalize upd HH q3 (.lst (os3.map V.int)) = HI at K7 eq3 ⊢
            walk_at "v"
            refine ⟨by show 1 ≤ sizeLine; decide, fun q4 hq4 => ?_⟩
            have K8 : Same HI (upd HI q4 (.lst [.int odd])) := Same.new (Same.refl HI) hq4
            have eq4 : upd HI q4 (.lst [.int odd]) q4 = some (.lst [.int odd]) := upd_same
            generalize upd HI q4 (.lst [.int odd]) = HJ at K8 eq4 ⊢
            refine ⟨q3, q4, _, _, rfl, rfl, K8 _ _ eq3, eq4, by simp only [List.length_map, List.length_cons, List.length_nil]; exact Nat.le_of_lt (small1000 (by omega)), fun q5 hq5 => ?_⟩
            have ec1 : os3.map V.int ++ [.int odd] = (os3 ++ [odd]).map V.int := by rw [List.map_append]; rfl
            rw [ec1]
            have K9 : Same HJ (upd HJ q5 (.lst ((os3 ++ [odd]).map V.int))) := Same.new (Same.refl HJ) hq5
            have eq5 : upd HJ q5 (.lst ((os3 ++ [odd]).map V.int)) q5 = some (.lst ((os3 ++ [odd]).map V.int)) := upd_same
            generalize upd HJ q5 (.lst ((os3 ++ [odd]).map V.int)) = HK at K9 eq5 ⊢
            have K69 := (K7.trans K8).trans K9
            walk_at "v"
            refine ⟨q5, q2, _, _, rfl, rfl, eq5, K69 _ _ eq2, by simp only [List.length_map, List.length_append, List.length_cons, List.length_nil]; exact Nat.le_of_lt (small1000 (by omega)), fun q6 hq6 => ?_⟩
            rw [← List.map_append]
            have K6A : Same HH (upd HK q6 (.lst ((os3 ++ [odd] ++ os2).map V.int))) := K69.trans (Same.new (Same.refl HK) hq6)
            have eq6 : upd HK q6 (.lst ((os3 ++ [odd] ++ os2).map V.int)) q6 = some (.lst ((os3 ++ [odd] ++ os2).map V.int)) := upd_same
            have M7 := M6.same K6A
            have n6p : q6 ≠ p := by
              obtain ⟨x, y, z, e⟩ := M6.F
              exact Ne.symm (ne_of_none (K69 _ _ e) hq6)
            have n6d : q6 ≠ od := Ne.symm (ne_of_none (K69 _ _ M6.e6) hq6)
            generalize upd HK q6 (.lst ((os3 ++ [odd] ++ os2).map V.int)) = HL at K6A eq6 M7 ⊢
            walk_at "v"
            refine ⟨od, _, _, rfl, rfl, M7.e6, by rw [List.length_map]; exact small1000 (by omega), ?_⟩
            walk_at "v"
            refine ⟨rs' ++ [q6], _, _, _, _, rfl, by rw [List.length_append, hrl]; rfl, M7.add n6p n6d ⟨_, eq6, fun x hx => ?_, ?_⟩⟩
            · rcases List.mem_append.mp hx with hx | hx
              · rcases List.mem_append.mp hx with hx | hx
                · exact hbg x (hm3 x hx)
                · rw [List.mem_singleton.mp hx]; exact hbo
              · exact hbg x (hm2 x hx)
            · simp only [List.length_append, List.length_cons, List.length_nil]
              omega
          · rintro σ HB ⟨rs', u7, u8, u9, u10, rfl, hrl, M⟩
            walk_at "v"
            refine ⟨od, rfl, ⟨_, SqL.of M.e6⟩, ?_⟩
            refine for_list (xs := rs'.map V.ref) (fun j σ H' => ∃ (u11 : Option V), σ = [some (.ref a), some (.int (i : Int)), some (.ref p), some (.ref pl), some (.ref sa), some (.ref ol), some (.ref od), u7, u8, u9, u10, u11] ∧ Same HB H') ⟨u11, rfl, Same.refl _⟩ (fun j σ H' _ ⟨_, _, k'⟩ => SqL.of (k' _ _ M.e6)) ?_ ?_
            · rintro j xv σ HC hx ⟨u11, rfl, KC⟩
              have hj : j < rs'.length := by
                have := (List.getElem?_eq_some_iff.mp hx).1
                simpa using this
              have ex : xv = .ref rs'[j] := by
                rw [List.getElem?_map, List.getElem?_eq_getElem hj] at hx
                exact (Option.some.inj hx).symm
              subst ex
              obtain ⟨_, _, os', eo', hb', hl'⟩ := M.all _ (List.getElem_mem hj)
              walk_at "v"
              refine ⟨pl, sa, rs'[j], m, tg, st, os', rfl, ((hR.tk T6).tk M.T).same KC, KC _ _ (M.T.t _ _ es), KC _ _ eo', hsl, hsb, hb', by omega, fun HD KD => ?_⟩
              walk_at "v"
              refine iteF ?_
              exact ⟨_, rfl, KC.trans KD⟩
            · rintro σ HC ⟨u11, rfl, KC⟩
              have TC : TK H3 HC := (T6.trans M.T).trans ⟨fun q xs e => KC _ _ e, fun q o u e => KC _ _ e⟩
              exact ⟨_, _, _, _, _, _, _, _, _, _, _, rfl, S3.tk (tk2 TC)⟩
      · rintro σ H1 ⟨u1, u2, u3, u4, u5, u6, u7, u8, u9, u10, u11, rfl, S1⟩
        walk_at "v"
        exact k _
end
end K7

set_option Elab.async false
set_option linter.all false
set_option maxRecDepth 100000
namespace K7
open PySem L2 G2
theorem all_mk {l : PySem.W.OpenLaw} {w : World} {K : PySem.W.Frag} {h : Heap} {mg : Str → Option Value} {fa f1 f2 f3 f4 f5 f6 f7 f8 f9 f10 f11 f12 f13 f14 f15 : Addr} (X : K.In h) (G : h.Ns mainGlobals mg) (hfa : mg "law" = some (.ref fa))
    {od1 an1 od2 an2 od3 an3 od4 an4 od5 an5 od6 an6 od7 an7 od8 an8 od9 an9 od10 an10 od11 an11 od12 an12 od13 an13 od14 an14 od15 an15 : Option Addr} {sl1 sl2 sl3 sl4 sl5 sl6 sl7 sl8 sl9 sl10 sl11 sl12 sl13 sl14 sl15 : Array (Option Value)} {oc1 kV1 dc1 pm1 cd1 ct1 oc2 kV2 dc2 pm2 cd2 ct2 oc3 kV3 dc3 pm3 cd3 ct3 oc4 kV4 dc4 pm4 cd4 ct4 oc5 kV5 dc5 pm5 cd5 ct5 oc6 kV6 dc6 pm6 cd6 ct6 oc7 kV7 dc7 pm7 cd7 ct7 oc8 kV8 dc8 pm8 cd8 ct8 oc9 kV9 dc9 pm9 cd9 ct9 oc10 kV10 dc10 pm10 cd10 ct10 oc11 kV11 dc11 pm11 cd11 ct11 oc12 kV12 dc12 pm12 cd12 ct12 oc13 kV13 dc13 pm13 cd13 ct13 oc14 kV14 dc14 pm14 cd14 ct14 oc15 kV15 dc15 pm15 cd15 ct15 : Value} {t1 t2 t3 : Tok}
    {x0 xN0 x1 xN1 : Addr} {xm0 xq0 xm1 xq1 : Str} {xb0 xu0 xb1 xu1 : List Value} {xn0 xn1 : List Str} {xh0 xh1 : Bool} {xo0 xo1 : Option Bool} {xd0 xd1 : Option Addr} {xk0_0 xk0_1 xk0_2 xk0_3 xk0_5 xk1_0 xk1_1 xk1_2 xk1_3 xk1_5 : Option Value}
    {i1 : Addr} {id1 ia1 : Option Addr} {is1 : Array (Option Value)} {ic1 iV1 iD1 ip1 iC1 iT1 : Value}
    (a1 : PySem.W.nsIn K mainGlobals "can_go" = some (some (.ref f1))) (l1 : K.lookup f1 = some ⟨oc1, od1, .func (PySem.W.fnOf "can_go" "can_go" (defArgs sCan) (defBody sCan) (defScope sCan) .none kV1 dc1 pm1 an1 cd1 ct1), sl1⟩) (c1 : PySem.W.codeIn K cd1 "can_go" = true) (k1 : PySem.W.keepIn K (.ref f1) = true)
    (a2 : PySem.W.nsIn K mainGlobals "gone" = some (some (.ref f2))) (l2 : K.lookup f2 = some ⟨oc2, od2, .func (PySem.W.fnOf "gone" "gone" (defArgs sGone) (defBody sGone) (defScope sGone) .none kV2 dc2 pm2 an2 cd2 ct2), sl2⟩) (c2 : PySem.W.codeIn K cd2 "gone" = true) (k2 : PySem.W.keepIn K (.ref f2) = true)
    (a3 : PySem.W.nsIn K mainGlobals "stands_on" = some (some (.ref f3))) (l3 : K.lookup f3 = some ⟨oc3, od3, .func (PySem.W.fnOf "stands_on" "stands_on" (defArgs sStands) (defBody sStands) (defScope sStands) .none kV3 dc3 pm3 an3 cd3 ct3), sl3⟩) (c3 : PySem.W.codeIn K cd3 "stands_on" = true) (k3 : PySem.W.keepIn K (.ref f3) = true)
    (a4 : PySem.W.nsIn K mainGlobals "walked" = some (some (.ref f4))) (l4 : K.lookup f4 = some ⟨oc4, od4, .func (PySem.W.fnOf "walked" "walked" (defArgs sWalked) (defBody sWalked) (defScope sWalked) .none kV4 dc4 pm4 an4 cd4 ct4), sl4⟩) (c4 : PySem.W.codeIn K cd4 "walked" = true) (k4 : PySem.W.keepIn K (.ref f4) = true)
    (a5 : PySem.W.nsIn K mainGlobals "_law_feed" = some (some (.ref f5))) (l5 : K.lookup f5 = some ⟨oc5, od5, .func (PySem.W.fnOf "_law_feed" "_law_feed" (defArgs sFeed) (defBody sFeed) (defScope sFeed) .none kV5 dc5 pm5 an5 cd5 ct5), sl5⟩) (c5 : PySem.W.codeIn K cd5 "_law_feed" = true) (k5 : PySem.W.keepIn K (.ref f5) = true)
    (a6 : PySem.W.nsIn K mainGlobals "_law_draw" = some (some (.ref f6))) (l6 : K.lookup f6 = some ⟨oc6, od6, .func (PySem.W.fnOf "_law_draw" "_law_draw" (defArgs sDraw) (defBody sDraw) (defScope sDraw) .none kV6 dc6 pm6 an6 cd6 ct6), sl6⟩) (c6 : PySem.W.codeIn K cd6 "_law_draw" = true) (k6 : PySem.W.keepIn K (.ref f6) = true)
    (a7 : PySem.W.nsIn K mainGlobals "_law_names" = some (some (.ref f7))) (l7 : K.lookup f7 = some ⟨oc7, od7, .func (PySem.W.fnOf "_law_names" "_law_names" (defArgs sNames) (defBody sNames) (defScope sNames) .none kV7 dc7 pm7 an7 cd7 ct7), sl7⟩) (c7 : PySem.W.codeIn K cd7 "_law_names" = true) (k7 : PySem.W.keepIn K (.ref f7) = true)
    (a8 : PySem.W.nsIn K mainGlobals "_law_rule" = some (some (.ref f8))) (l8 : K.lookup f8 = some ⟨oc8, od8, .func (PySem.W.fnOf "_law_rule" "_law_rule" (defArgs sRule) (defBody sRule) (defScope sRule) .none kV8 dc8 pm8 an8 cd8 ct8), sl8⟩) (c8 : PySem.W.codeIn K cd8 "_law_rule" = true) (k8 : PySem.W.keepIn K (.ref f8) = true)
    (a9 : PySem.W.nsIn K mainGlobals "_law_pot" = some (some (.ref f9))) (l9 : K.lookup f9 = some ⟨oc9, od9, .func (PySem.W.fnOf "_law_pot" "_law_pot" (defArgs sPot) (defBody sPot) (defScope sPot) .none kV9 dc9 pm9 an9 cd9 ct9), sl9⟩) (c9 : PySem.W.codeIn K cd9 "_law_pot" = true) (k9 : PySem.W.keepIn K (.ref f9) = true)
    (a10 : PySem.W.nsIn K mainGlobals "_law_gone" = some (some (.ref f10))) (l10 : K.lookup f10 = some ⟨oc10, od10, .func (PySem.W.fnOf "_law_gone" "_law_gone" (defArgs sLgone) (defBody sLgone) (defScope sLgone) .none kV10 dc10 pm10 an10 cd10 ct10), sl10⟩) (c10 : PySem.W.codeIn K cd10 "_law_gone" = true) (k10 : PySem.W.keepIn K (.ref f10) = true)
    (a11 : PySem.W.nsIn K mainGlobals "_law_way" = some (some (.ref f11))) (l11 : K.lookup f11 = some ⟨oc11, od11, .func (PySem.W.fnOf "_law_way" "_law_way" (defArgs sWay) (defBody sWay) (defScope sWay) .none kV11 dc11 pm11 an11 cd11 ct11), sl11⟩) (c11 : PySem.W.codeIn K cd11 "_law_way" = true) (k11 : PySem.W.keepIn K (.ref f11) = true)
    (a12 : PySem.W.nsIn K mainGlobals "_law_order" = some (some (.ref f12))) (l12 : K.lookup f12 = some ⟨oc12, od12, .func (PySem.W.fnOf "_law_order" "_law_order" (defArgs sOrder) (defBody sOrder) (defScope sOrder) .none kV12 dc12 pm12 an12 cd12 ct12), sl12⟩) (c12 : PySem.W.codeIn K cd12 "_law_order" = true) (k12 : PySem.W.keepIn K (.ref f12) = true)
    (a13 : PySem.W.nsIn K mainGlobals "_law_asked" = some (some (.ref f13))) (l13 : K.lookup f13 = some ⟨oc13, od13, .func (PySem.W.fnOf "_law_asked" "_law_asked" (defArgs sAsked) (defBody sAsked) (defScope sAsked) .none kV13 dc13 pm13 an13 cd13 ct13), sl13⟩) (c13 : PySem.W.codeIn K cd13 "_law_asked" = true) (k13 : PySem.W.keepIn K (.ref f13) = true)
    (a14 : PySem.W.nsIn K mainGlobals "_law_right" = some (some (.ref f14))) (l14 : K.lookup f14 = some ⟨oc14, od14, .func (PySem.W.fnOf "_law_right" "_law_right" (defArgs sRight) (defBody sRight) (defScope sRight) .none kV14 dc14 pm14 an14 cd14 ct14), sl14⟩) (c14 : PySem.W.codeIn K cd14 "_law_right" = true) (k14 : PySem.W.keepIn K (.ref f14) = true)
    (a15 : PySem.W.nsIn K mainGlobals "law" = some (some (.ref f15))) (l15 : K.lookup f15 = some ⟨oc15, od15, .func (PySem.W.fnOf "law" "law" (defArgs sLaw) (defBody sLaw) (defScope sLaw) .none kV15 dc15 pm15 an15 cd15 ct15), sl15⟩) (c15 : PySem.W.codeIn K cd15 "law" = true) (k15 : PySem.W.keepIn K (.ref f15) = true)
    (z1 : PySem.W.nsIn K mainGlobals "len" = some none) (z2 : PySem.W.nsIn K mainGlobals "range" = some none) (z3 : PySem.W.nsIn K mainGlobals "tuple" = some none) (z4 : PySem.W.nsIn K mainGlobals "int" = some none) (z5 : PySem.W.nsIn K mainGlobals "list" = some none) (z6 : PySem.W.nsIn K mainGlobals "min" = some none) (z7 : PySem.W.nsIn K mainGlobals "zip" = some none) (z8 : PySem.W.nsIn K mainGlobals "all" = some none) (z9 : PySem.W.nsIn K mainGlobals "repr" = some none) (z10 : PySem.W.nsIn K mainGlobals "isinstance" = some none) (z11 : PySem.W.nsIn K mainGlobals "ValueError" = some none) (z12 : PySem.W.nsIn K mainGlobals "enumerate" = some none)
    (g1 : PySem.W.nsIn K mainGlobals "RULES" = some (some (.int (1) t1))) (g2 : PySem.W.nsIn K mainGlobals "TAKES" = some (some (.int (0) t2))) (g3 : PySem.W.nsIn K mainGlobals "GIVES" = some (some (.int (1) t3)))
    (xa0 : PySem.W.nsIn K mainGlobals "DropError" = some (some (.ref x0))) (xl0 : K.lookup x0 = some (excClassObj xm0 xq0 x0 xN0 xb0 bmV true xn0 xu0 xh0 xo0 xd0 xk0_0 xk0_1 xk0_2 xk0_3 xk0_5 "ValueError.__new__"))
    (xa1 : PySem.W.nsIn K mainGlobals "NoStep" = some (some (.ref x1))) (xl1 : K.lookup x1 = some (excClassObj xm1 xq1 x1 xN1 xb1 (.ref x0 :: bmV) true xn1 xu1 xh1 xo1 xd1 xk1_0 xk1_1 xk1_2 xk1_3 xk1_5 "ValueError.__new__"))
    (xg1 : PySem.W.findIn K (.ref x1) "__getattribute__" = some (some (.builtin "BaseException.__getattribute__"))) (xt1 : PySem.W.findIn K (.ref x1) "__getattr__" = some none) (xs1 : PySem.W.findIn K (.ref x1) "__setattr__" = some (some (.builtin "object.__setattr__"))) (xc1 : PySem.W.findIn K (.ref x1) "__class__" = some (some (.builtin "object.__class__")))
    (xsg : PySem.W.specialIn K (.builtin "object.__class__") "__get__" = some (some (.builtin "getset_descriptor.__get__"))) (xtk : PySem.W.takesIn K (.builtin "object.__class__") = some true) (xnd : [x0, x1].Nodup)
    (ii1 : PySem.W.findIn K (.ref x1) "__init__" = some (some (.ref i1))) (il1 : K.lookup i1 = some ⟨ic1, id1, .func (PySem.W.fnOf "__init__" "NoStep.__init__" (defArgs sINs) (defBody sINs) (defScope sINs) .none iV1 iD1 ip1 ia1 iC1 iT1), is1⟩) (ie1 : PySem.W.codeIn K iC1 "NoStep.__init__" = true) (if1 : PySem.W.isFn K (.ref i1) = true) (ik1 : PySem.W.keepIn K (.ref i1) = true) (im1 : PySem.W.keepIn K (.ref x1) = true) (iq1_0 : PySem.W.findIn K (.ref x1) "place" = some none) :
    ∃ fd : FuncData, (∀ (s : Shared) (v : Value), BindsTo s fd ⟨[v], []⟩ [("_law_script", v)]) ∧ ∀ base : Heap, K.In base → base.Ns mainGlobals mg → FnOk l.prog w K mg base CX0 8 fa fd ["_law_script"] (spLaw K) := by
  have e := hfa.symm.trans (PySem.W.mg_of X G a15)
  cases e
  have F1 := fun_mk (st := sCan) l1 c1 k1
  have b1 := F1.binds (ps := ["pot", "stand", "rule"]) fun _ _ _ _ _ _ us hl => match us, hl with | [_, _, _], _ => rfl
  have m1 := PySem.W.mg_of X G a1
  have F2 := fun_mk (st := sGone) l2 c2 k2
  have b2 := F2.binds (ps := ["pot", "stand", "rule"]) fun _ _ _ _ _ _ us hl => match us, hl with | [_, _, _], _ => rfl
  have m2 := PySem.W.mg_of X G a2
  have F3 := fun_mk (st := sStands) l3 c3 k3
  have b3 := F3.binds (ps := ["pot", "stand", "order"]) fun _ _ _ _ _ _ us hl => match us, hl with | [_, _, _], _ => rfl
  have m3 := PySem.W.mg_of X G a3
  have F4 := fun_mk (st := sWalked) l4 c4 k4
  have b4 := F4.binds (ps := ["pot", "stand", "order"]) fun _ _ _ _ _ _ us hl => match us, hl with | [_, _, _], _ => rfl
  have m4 := PySem.W.mg_of X G a4
  have F5 := fun_mk (st := sFeed) l5 c5 k5
  have b5 := F5.binds (ps := ["_law_script", "_law_k"]) fun _ _ _ _ _ _ us hl => match us, hl with | [_, _], _ => rfl
  have m5 := PySem.W.mg_of X G a5
  have F6 := fun_mk (st := sDraw) l6 c6 k6
  have b6 := F6.binds (ps := ["_law_feed_here", "_law_many"]) fun _ _ _ _ _ _ us hl => match us, hl with | [_, _], _ => rfl
  have m6 := PySem.W.mg_of X G a6
  have F7 := fun_mk (st := sNames) l7 c7 k7
  have b7 := F7.binds (ps := ["_law_feed_here", "_law_many"]) fun _ _ _ _ _ _ us hl => match us, hl with | [_, _], _ => rfl
  have m7 := PySem.W.mg_of X G a7
  have F8 := fun_mk (st := sRule) l8 c8 k8
  have b8 := F8.binds (ps := ["_law_feed_here", "_law_many"]) fun _ _ _ _ _ _ us hl => match us, hl with | [_, _], _ => rfl
  have m8 := PySem.W.mg_of X G a8
  have F9 := fun_mk (st := sPot) l9 c9 k9
  have b9 := F9.binds (ps := ["_law_feed_here"]) fun _ _ _ _ _ _ us hl => match us, hl with | [_], _ => rfl
  have m9 := PySem.W.mg_of X G a9
  have F10 := fun_mk (st := sLgone) l10 c10 k10
  have b10 := F10.binds (ps := ["_law_pot_here", "_law_stand", "_law_rule_here"]) fun _ _ _ _ _ _ us hl => match us, hl with | [_, _, _], _ => rfl
  have m10 := PySem.W.mg_of X G a10
  have F11 := fun_mk (st := sWay) l11 c11 k11
  have b11 := F11.binds (ps := ["_law_pot_here", "_law_stand", "_law_order_here"]) fun _ _ _ _ _ _ us hl => match us, hl with | [_, _, _], _ => rfl
  have m11 := PySem.W.mg_of X G a11
  have F12 := fun_mk (st := sOrder) l12 c12 k12
  have b12 := F12.binds (ps := ["_law_feed_here", "_law_pot_here", "_law_stand"]) fun _ _ _ _ _ _ us hl => match us, hl with | [_, _, _], _ => rfl
  have m12 := PySem.W.mg_of X G a12
  have F13 := fun_mk (st := sAsked) l13 c13 k13
  have b13 := F13.binds (ps := ["_law_walks", "_law_pot_here", "_law_stand", "_law_order_here"]) fun _ _ _ _ _ _ us hl => match us, hl with | [_, _, _, _], _ => rfl
  have m13 := PySem.W.mg_of X G a13
  have F14 := fun_mk (st := sRight) l14 c14 k14
  have b14 := F14.binds (ps := ["_law_pot_here", "_law_stand", "_law_order_here"]) fun _ _ _ _ _ _ us hl => match us, hl with | [_, _, _], _ => rfl
  have m14 := PySem.W.mg_of X G a14
  have F15 := fun_mk (st := sLaw) l15 c15 k15
  have y1 := PySem.W.mg_none_of X G z1
  have y2 := PySem.W.mg_none_of X G z2
  have y3 := PySem.W.mg_none_of X G z3
  have y4 := PySem.W.mg_none_of X G z4
  have y5 := PySem.W.mg_none_of X G z5
  have y6 := PySem.W.mg_none_of X G z6
  have y7 := PySem.W.mg_none_of X G z7
  have y8 := PySem.W.mg_none_of X G z8
  have y9 := PySem.W.mg_none_of X G z9
  have y10 := PySem.W.mg_none_of X G z10
  have y11 := PySem.W.mg_none_of X G z11
  have y12 := PySem.W.mg_none_of X G z12
  have XC0 : XC K x0 bmV := ⟨⟨_, _, _, _, _, _, _, _, _, _, _, _, _, _, xl0⟩, .base⟩
  have XC1 : XC K x1 (.ref x0 :: bmV) := ⟨⟨_, _, _, _, _, _, _, _, _, _, _, _, _, _, xl1⟩, .own _ .base⟩
  have XA1 : XA K x1 := ⟨⟨_, XC1⟩, xg1, xt1, xs1, xc1, xsg, xtk⟩
  have U : XUni K mg x0 [("NoStep", x1)] := ⟨XC0, PySem.W.mg_of X G xa0, fun c hc => ?_, by simpa using xnd⟩
  rotate_left
  · simp only [List.mem_cons, List.not_mem_nil, or_false] at hc
    rcases hc with rfl
    · exact ⟨PySem.W.mg_of X G xa1, XC1, XA1⟩
  have FI1 := fun_mk (st := sINs) il1 ie1 ik1
  have BI1 := FI1.binds (ps := ["self", "place"]) fun _ _ _ _ _ _ us hl => match us, hl with | [_, _], _ => rfl
  have B1 : Blt mg := ⟨y1, y2, y3, y4⟩
  have B2 : Blt2 mg := ⟨B1, y5, y6⟩
  have B : Blt8 mg := ⟨B2, y7, y8, y9, y10, y11, y12, ⟨_, PySem.W.mg_of X G g1⟩, ⟨_, PySem.W.mg_of X G g2⟩, ⟨_, PySem.W.mg_of X G g3⟩⟩
  refine ⟨PySem.W.fnOf "law" "law" (defArgs sLaw) (defBody sLaw) (defScope sLaw) .none kV15 dc15 pm15 an15 cd15 ct15, fun s v => .of_eq rfl, fun base _ _ => ?_⟩
  have HC1 : HasC l.prog w K mg base 1 "NoStep" x1 ["self", "place"] (spXi K ["place"]) := ⟨_, _, ⟨ii1, if1, im1, XA1⟩, ok_INs FI1, PySem.W.mg_of X G xa1, BI1⟩
  have H1 : Has l.prog w K mg base 1 "can_go" ["pot", "stand", "rule"] spCan := ⟨_, _, ok_Can B F1, m1, k1, b1⟩
  have H2 : HasX l.prog w K mg base 3 "gone" ["pot", "stand", "rule"] (spGone x1) := ⟨_, _, ok_Gone B H1 HC1 XA1 iq1_0 F2, m2, k2, b2⟩
  have H3 : HasX l.prog w K mg base 4 "stands_on" ["pot", "stand", "order"] (spStands x1) := ⟨_, _, ok_Stands B H1 H2 HC1 XA1 iq1_0 F3, m3, k3, b3⟩
  have H4 : HasX l.prog w K mg base 5 "walked" ["pot", "stand", "order"] (spWalked x1) := ⟨_, _, ok_Walked H3 F4, m4, k4, b4⟩
  have H5 : Has l.prog w K mg base 1 "_law_feed" ["_law_script", "_law_k"] (spFeed K) := ⟨_, _, ok_feed y1 F5, m5, k5, b5⟩
  have H6 : Has l.prog w K mg base 1 "_law_draw" ["_law_feed_here", "_law_many"] spDraw := ⟨_, _, ok_draw F6, m6, k6, b6⟩
  have H7 : Has l.prog w K mg base 2 "_law_names" ["_law_feed_here", "_law_many"] spNames := ⟨_, _, ok_names y2 H6 F7, m7, k7, b7⟩
  have H8 : Has l.prog w K mg base 2 "_law_rule" ["_law_feed_here", "_law_many"] spRule := ⟨_, _, ok_rule B1 H6 F8, m8, k8, b8⟩
  have H9 : Has l.prog w K mg base 3 "_law_pot" ["_law_feed_here"] spPot := ⟨_, _, ok_pot B2 H6 H7 H8 F9, m9, k9, b9⟩
  have H10 : Has l.prog w K mg base 1 "_law_gone" ["_law_pot_here", "_law_stand", "_law_rule_here"] spLgone := ⟨_, _, ok_Lgone B F10, m10, k10, b10⟩
  have H11 : Has l.prog w K mg base 2 "_law_way" ["_law_pot_here", "_law_stand", "_law_order_here"] spWay := ⟨_, _, ok_Way B H10 F11, m11, k11, b11⟩
  have H12 : Has l.prog w K mg base 2 "_law_order" ["_law_feed_here", "_law_pot_here", "_law_stand"] spOrder := ⟨_, _, ok_Order B H6 H10 F12, m12, k12, b12⟩
  have H13 : Has l.prog w K mg base 6 "_law_asked" ["_law_walks", "_law_pot_here", "_law_stand", "_law_order_here"] (spAsked l.prog w K mg base x1) := ⟨_, _, ok_Asked B U iq1_0 F13, m13, k13, b13⟩
  have H14 : Has l.prog w K mg base 7 "_law_right" ["_law_pot_here", "_law_stand", "_law_order_here"] spRight := ⟨_, _, ok_Right B H11 H13 H3 H4 F14, m14, k14, b14⟩
  exact ok_Law B H5 H6 H9 H12 H14 F15
theorem walk {l : PySem.W.OpenLaw} {q : Program} {loose : List Str} {XP : (Str → Option Value) → Heap → Prop} {YP : World → Heap → Prop} {d : DefRec} {K : Params → PySem.W.Frag} (hn : l.most = some 63) (hdf : d.params.defaults = [])
    (hY : ∀ (w : World) (h : Heap), YP w h → (K w.params).In h)
    (F : ∀ (w : World) (mg : Str → Option Value) (fa : Addr) (h : Heap), (K w.params).In h → h.Ns mainGlobals mg → mg d.name = some (.ref fa) →
      ∃ fd : FuncData, (∀ (s : Shared) (u : Value), BindsTo s fd ⟨[u], []⟩ [("_law_script", u)]) ∧ ∀ base : Heap, (K w.params).In base → base.Ns mainGlobals mg → FnOk l.prog w (K w.params) mg base CX0 8 fa fd ["_law_script"] (spLaw (K w.params))) :
    PySem.W.WalkO q loose XP YP l.row.toRowW d [] (fun f vs => PySem.call f vs) :=
  L2.walk_of (n := 63) (k := 8) (x := "_law_script") (CX := fun _ => CX0) (sp := fun w => spLaw (K w.params)) hn (by decide) hdf ⟨rfl, by decide, by decide, rfl⟩ hY F (fun _ H a ns hl hO hS => ⟨a, ns, rfl, SqF.of hO hS, hl, fun _ => rfl⟩) fun _ _ _ _ _ z => z
end K7
open PySem PySem.W PyProof.Rows
set_option maxRecDepth 100000 in
set_option maxHeartbeats 0 in
theorem PySem.Challenge.cw_dropsums_k07_orders_walked_holds : PySem.Challenge.rw_dropsums_k07_orders_walked.Holds := by
  w_on; o_law; k_head; (case hw => w_witness2)
  k_fill
  refine K7.walk (l := PySem.Challenge.rw_dropsums_k07_orders_walked) rfl rfl (fun w h Y => PySem.W.kIn_of Y) ?F
  case F =>
    intro w mg fa h KX G hmg
    refine' K7.all_mk KX G hmg ?a1 ?l1 ?c1 ?k1 ?a2 ?l2 ?c2 ?k2 ?a3 ?l3 ?c3 ?k3 ?a4 ?l4 ?c4 ?k4 ?a5 ?l5 ?c5 ?k5 ?a6 ?l6 ?c6 ?k6 ?a7 ?l7 ?c7 ?k7 ?a8 ?l8 ?c8 ?k8 ?a9 ?l9 ?c9 ?k9 ?a10 ?l10 ?c10 ?k10 ?a11 ?l11 ?c11 ?k11 ?a12 ?l12 ?c12 ?k12 ?a13 ?l13 ?c13 ?k13 ?a14 ?l14 ?c14 ?k14 ?a15 ?l15 ?c15 ?k15 ?z1 ?z2 ?z3 ?z4 ?z5 ?z6 ?z7 ?z8 ?z9 ?z10 ?z11 ?z12 ?g1 ?g2 ?g3 ?xa0 ?xl0 ?xa1 ?xl1 ?xg1 ?xt1 ?xs1 ?xc1 ?xsg ?xtk ?xnd ?ii1 ?il1 ?ie1 ?if1 ?ik1 ?im1 ?iq1_0
    (case a1 => k_is)
    (case l1 => k_is)
    (case c1 => k_is)
    (case k1 => k_is)
    (case a2 => k_is)
    (case l2 => k_is)
    (case c2 => k_is)
    (case k2 => k_is)
    (case a3 => k_is)
    (case l3 => k_is)
    (case c3 => k_is)
    (case k3 => k_is)
    (case a4 => k_is)
    (case l4 => k_is)
    (case c4 => k_is)
    (case k4 => k_is)
    (case a5 => k_is)
    (case l5 => k_is)
    (case c5 => k_is)
    (case k5 => k_is)
    (case a6 => k_is)
    (case l6 => k_is)
    (case c6 => k_is)
    (case k6 => k_is)
    (case a7 => k_is)
    (case l7 => k_is)
    (case c7 => k_is)
    (case k7 => k_is)
    (case a8 => k_is)
    (case l8 => k_is)
    (case c8 => k_is)
    (case k8 => k_is)
    (case a9 => k_is)
    (case l9 => k_is)
    (case c9 => k_is)
    (case k9 => k_is)
    (case a10 => k_is)
    (case l10 => k_is)
    (case c10 => k_is)
    (case k10 => k_is)
    (case a11 => k_is)
    (case l11 => k_is)
    (case c11 => k_is)
    (case k11 => k_is)
    (case a12 => k_is)
    (case l12 => k_is)
    (case c12 => k_is)
    (case k12 => k_is)
    (case a13 => k_is)
    (case l13 => k_is)
    (case c13 => k_is)
    (case k13 => k_is)
    (case a14 => k_is)
    (case l14 => k_is)
    (case c14 => k_is)
    (case k14 => k_is)
    (case a15 => k_is)
    (case l15 => k_is)
    (case c15 => k_is)
    (case k15 => k_is)
    (case z1 => k_is)
    (case z2 => k_is)
    (case z3 => k_is)
    (case z4 => k_is)
    (case z5 => k_is)
    (case z6 => k_is)
    (case z7 => k_is)
    (case z8 => k_is)
    (case z9 => k_is)
    (case z10 => k_is)
    (case z11 => k_is)
    (case z12 => k_is)
    (case g1 => k_is)
    (case g2 => k_is)
    (case g3 => k_is)
    (case xa0 => k_is)
    (case xl0 => k_is)
    (case xa1 => k_is)
    (case xl1 => k_is)
    (case xg1 => k_is)
    (case xt1 => k_is)
    (case xs1 => k_is)
    (case xc1 => k_is)
    (case xsg => k_is)
    (case xtk => k_is)
    (case xnd => decide)
    (case ii1 => k_is)
    (case il1 => k_is)
    (case ie1 => k_is)
    (case if1 => k_is)
    (case ik1 => k_is)
    (case im1 => k_is)
    (case iq1_0 => k_is)

