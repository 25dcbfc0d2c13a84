import PyProof.Rows.All
import Wide.All
import OpenK.AllK
import Wide.FinOn
import Lean
import PyProof.EqAt
import PyProof.EqKinds
import PyProof.TupleCall
import PyProof.Rows.SumAny
import PyProof.Draws
import PyProof.ZipIter
import PyProof.EnumMake
import PyProof.Rows.ZipGen
import PyProof.FitsInt
import PyProof.ReprLen
import KE.IntBitsLaws
import PyProof.NeData
import PyProof.Rows.SeqMore
import PyProof.ListMulRoad
import PyProof.DictUpdate
import PySem.Challenge.RW_dropsums_k25_whole_pieces_tell_what_is_a
-- CHANGE: your row's module here, as the last of these rows
set_option Elab.async false
set_option linter.all false
set_option maxRecDepth 100000
/-! THE HAND LAYER, for ints, bools, texts, own classes, LISTS and tuples (index, slices, in, append, pop ..), calls, loops. Paste it whole ahead of your own text; what your proof does not reach may be deleted. -/
namespace L2
open PySem PySem.Spec PyProof.Rows

/-- a key: an int or a str -/
abbrev Key := Sum Int Str
def keyIs : Key → Value → Bool
  | .inl k, v => Value.isInt k v
  | .inr x, v => Value.isStrOf x v
def keyH (w : World) : Key → Int
  | .inl k => hashInt k
  | .inr x => hashStr w x
theorem keyIs_shape : ∀ {k : Key} {v : Value}, keyIs k v = true → (∃ i t, k = Sum.inl i ∧ v = Value.int i t) ∨ (∃ x t, k = Sum.inr x ∧ v = Value.str x t)
  | .inl i, v, h => by
    obtain ⟨t, e⟩ := Value.isInt_shape (k := i) (v := v) h
    exact .inl ⟨i, t, rfl, e⟩
  | .inr x, v, h => by
    obtain ⟨t, e⟩ := Value.isStrOf_shape (x := x) (v := v) h
    exact .inr ⟨x, t, rfl, e⟩
theorem keyIs_int (i : Int) (t : Tok) : keyIs (.inl i) (.int i t) = true := by simp [keyIs, Value.isInt]
theorem keyIs_str (x : Str) (t : Tok) : keyIs (.inr x) (.str x t) = true := by simp [keyIs, Value.isStrOf]
theorem key_ll (a b : Int) : decide ((Sum.inl a : Key) = Sum.inl b) = (a == b) := by
  by_cases e : a = b
  · subst e; simp
  · have h : ¬ (Sum.inl a : Key) = Sum.inl b := fun q => e (Sum.inl.inj q)
    rw [decide_eq_false h]
    exact (beq_eq_false_iff_ne.mpr e).symm
theorem key_rr (a b : Str) : decide ((Sum.inr a : Key) = Sum.inr b) = decide (a = b) := by
  by_cases e : a = b
  · subst e; simp
  · have h : ¬ (Sum.inr a : Key) = Sum.inr b := fun q => e (Sum.inr.inj q)
    rw [decide_eq_false h, decide_eq_false e]
theorem key_lr (a : Int) (b : Str) : decide ((Sum.inl a : Key) = Sum.inr b) = false := decide_eq_false (fun q => nomatch q)
theorem key_rl (a : Str) (b : Int) : decide ((Sum.inr a : Key) = Sum.inl b) = false := decide_eq_false (fun q => nomatch q)

def mixKind (prog : Program) (w : World) : PySem.KeyKind prog w Key where
  is := keyIs
  hash := keyH w
  inj := fun v a b ha hb => by
    rcases keyIs_shape ha with ⟨i, t, rfl, rfl⟩ | ⟨x, t, rfl, rfl⟩
    · rcases keyIs_shape hb with ⟨j, u, rfl, e⟩ | ⟨y, u, rfl, e⟩
      · injection e with e1 _; rw [e1]
      · exact nomatch e
    · rcases keyIs_shape hb with ⟨j, u, rfl, e⟩ | ⟨y, u, rfl, e⟩
      · exact nomatch e
      · injection e with e1 _; rw [e1]
  byValue := fun k v h => by
    rcases keyIs_shape h with ⟨i, t, rfl, rfl⟩ | ⟨x, t, rfl, rfl⟩ <;> rfl
  pyHash := fun hv h => by
    rcases keyIs_shape hv with ⟨i, t, rfl, rfl⟩ | ⟨x, t, rfl, rfl⟩
    · exact wpAny_pyHash_int h
    · exact wpAny_pyHash_str h
  eqBool := fun hu hv h => by
    rcases keyIs_shape hu with ⟨i, t, rfl, rfl⟩ | ⟨x, t, rfl, rfl⟩
    · rcases keyIs_shape hv with ⟨j, u, rfl, rfl⟩ | ⟨y, u, rfl, rfl⟩
      · rw [key_ll] at h; exact wpAny_eqBool_int h
      · rw [key_lr] at h; exact SeqAt.EqAt.int_str i t y u _ _ _ _ h
    · rcases keyIs_shape hv with ⟨j, u, rfl, rfl⟩ | ⟨y, u, rfl, rfl⟩
      · rw [key_rl] at h; exact SeqAt.EqAt.str_int x t j u _ _ _ _ h
      · rw [key_rr] at h; exact wpAny_eqBool_str h
  «strs» := fun k x t v h => by
    rcases keyIs_shape h with ⟨i, u, rfl, e⟩ | ⟨y, u, rfl, e⟩
    · exact nomatch e
    · injection e with e1 _
      subst e1
      cases v <;> rfl

theorem mixKind_is (prog : Program) (w : World) (k : Key) (v : Value) : (mixKind prog w).is k v = keyIs k v := rfl
theorem mixKind_int (prog : Program) (w : World) (i : Int) (t : Tok) : (mixKind prog w).is (.inl i) (.int i t) = true := keyIs_int i t
theorem mixKind_str (prog : Program) (w : World) (x : Str) (t : Tok) : (mixKind prog w).is (.inr x) (.str x t) = true := keyIs_str x t
end L2

namespace L2
open PySem PySem.Spec PyProof.Rows

/-- a value, without the heap -/
inductive V where
  | non | bl (b : Bool) | int (i : Int) | str (x : Str) | byt (b : Array UInt8) | flt (b : UInt64) | ref (a : Addr) | ty (n : String)
  deriving DecidableEq

def RelV : V → Value → Prop
  | .non, u => u = Value.none
  | .bl b, u => u = Value.bool b
  | .int i, u => ∃ t, u = Value.int i t
  | .str x, u => ∃ t, u = Value.str x t
  | .byt b, u => ∃ t, u = Value.bytes b t
  | .flt b, u => ∃ t, u = Value.float b t
  | .ref a, u => u = Value.ref a
  | .ty n, u => u = Value.type n

abbrev Vals : List V → List Value → Prop := Paired RelV
theorem Vals.length {xs : List V} {us : List Value} (r : Vals xs us) : xs.length = us.length := Paired.length r
theorem Vals.get : ∀ {xs : List V} {us : List Value} {i : Nat} {x : V}, Vals xs us → xs[i]? = some x → ∃ u, us[i]? = some u ∧ RelV x u
  | _, _, _, _, .nil, e => by simp at e
  | _, _, 0, _, .cons r _, e => by simp at e; subst e; exact ⟨_, rfl, r⟩
  | _, _, i + 1, x, .cons _ t, e => by
    obtain ⟨u, h1, h2⟩ := Vals.get (i := i) (x := x) t (by simpa using e)
    exact ⟨u, by simpa using h1, h2⟩
theorem Vals.set {x : V} {u : Value} (r : RelV x u) : ∀ {xs : List V} {us : List Value} (i : Nat), Vals xs us → Vals (xs.set i x) (us.set i u)
  | _, _, _, .nil => .nil
  | _, _, 0, .cons _ t => .cons r t
  | _, _, i + 1, .cons q t => .cons q (Vals.set r i t)
theorem Vals.append : ∀ {xs ys : List V} {us ws : List Value}, Vals xs us → Vals ys ws → Vals (xs ++ ys) (us ++ ws)
  | _, _, _, _, .nil, s => s
  | _, _, _, _, .cons r t, s => .cons r (Vals.append t s)
theorem Vals.take : ∀ {xs : List V} {us : List Value} (n : Nat), Vals xs us → Vals (xs.take n) (us.take n)
  | _, _, 0, _ => .nil
  | _, _, _ + 1, .nil => .nil
  | _, _, n + 1, .cons r t => .cons r (Vals.take n t)
theorem Vals.drop : ∀ {xs : List V} {us : List Value} (n : Nat), Vals xs us → Vals (xs.drop n) (us.drop n)
  | _, _, 0, r => r
  | _, _, _ + 1, .nil => .nil
  | _, _, n + 1, .cons _ t => Vals.drop n t
theorem Vals.none_of : ∀ {xs : List V} {us : List Value} {i : Nat}, Vals xs us → xs[i]? = none → us[i]? = none := fun {xs us i} r e => by
  have h1 := r.length
  have h2 : xs.length ≤ i := List.getElem?_eq_none_iff.mp e
  exact List.getElem?_eq_none_iff.mpr (by omega)

def RelO : Option V → Option Value → Prop
  | some v, some u => RelV v u
  | none, none => True
  | _, _ => False
def KV {κ : Type} : List (κ × V) → List (κ × Value) → Prop := Paired fun (p : κ × V) (q : κ × Value) => p.1 = q.1 ∧ RelV p.2 q.2

/-- a key of a dict (00_mix): an int or a text -/
def kV : Key → V
  | .inl i => .int i
  | .inr x => .str x

/-- what stands at a tracked address -/
inductive HO where
  /-- a list -/
  | lst (xs : List V)
  /-- a tuple (never changes) -/
  | tup (xs : List V)
  /-- a dict whose keys are ints and texts; one whose keys are tuples of ints and texts (the empty one is both) -/
  | dK (kvs : List (Key × V)) | dT (kvs : List (List Key × V))
  /-- a set of ints: its members, its size -/
  | set (S : Int → Bool) (n : Nat)
  /-- an instance of the class at C, its dict at dx, its attributes -/
  | ins (C dx : Addr) (fs : List (Str × V))
  /-- the dict of the instance at x -/
  | own (x : Addr)
  /-- the dict of an exception -/
  | xd (fs : List (Str × V))
  /-- a bound method, f of x -/
  | met (f x : Addr)
  /-- a range object lo, lo + 1, .. below hi -/
  | rng (lo hi : Int)
  /-- a thing that is known to the object (the script; a dict while a loop walks it): read, never written while it is so -/
  | frz (o : Obj) (u : HO)
  /-- a code object's table -/
  | tbl (ps : Array Value)
  /-- any other thing, by what is true of its one object (a def of one's own: SetO a S n := HO.ext fun h => ..) -/
  | ext (φ : Heap → Prop)

abbrev Hp := Addr → Option HO
def upd (H : Hp) (a : Addr) (o : HO) : Hp := fun b => if b = a then some o else H b
theorem upd_same {H : Hp} {a : Addr} {o : HO} : upd H a o a = some o := by unfold upd; rw [if_pos rfl]
theorem upd_ne {H : Hp} {a b : Addr} {o : HO} (h : b ≠ a) : upd H a o b = H b := by unfold upd; rw [if_neg h]
theorem upd_upd {H : Hp} {a : Addr} {o u : HO} : upd (upd H a o) a u = upd H a u := by
  funext b; unfold upd; split <;> rfl
/-- two objects of different content stand apart -/
theorem ne_of {H : Hp} {a b : Addr} {o u : HO} (h : H a = some o) (h' : H b = some u) (d : o ≠ u) : a ≠ b := by
  intro e; subst e; rw [h] at h'; exact d (Option.some.inj h')
theorem ne_of_none {H : Hp} {a b : Addr} {o : HO} (h : H a = some o) (h' : H b = none) : a ≠ b := by
  intro e; subst e; rw [h] at h'; cases h'

section
variable (P : Program) (w : World)
def ObjOk (H : Hp) (h : Heap) (a : Addr) : HO → Prop
  | .lst xs => xs.length ≤ sizeLine ∧ ∃ (its : List Value) (n : Nat), Vals xs its ∧ h.get? a = some { cls := .type "list", data := .seq its.toArray n }
  | .tup xs => xs.length ≤ sizeLine ∧ ∃ its : List Value, Vals xs its ∧ IsTup h a its.toArray
  | .dK kvs => kvs.length ≤ sizeLine ∧ (a == sysModules) = false ∧ ∃ vs, KV kvs vs ∧ h.DictOf (mixKind P w) a vs
  | .dT kvs => kvs.length ≤ sizeLine ∧ (a == sysModules) = false ∧ ∃ xs : List (List Key × Addr × Value),
      Paired (fun (p : List Key × V) (q : List Key × Addr × Value) => p.1 = q.1 ∧ H q.2.1 = some (.tup (p.1.map kV)) ∧ RelV p.2 q.2.2) kvs xs ∧
      ∃ o es ep, h.get? a = some o ∧ o.ExactDict ∧ o.data = .dict es ep ∧ es.toList = xs.map (entryOfKey (tupleKind (mixKind P w))) ∧ (xs.map (·.1)).Nodup
  | .set S n => h.SetOf (intKind P w) a S n
  | .ins C dx fs => H dx = some (.own a) ∧ fs.length ≤ 1000 ∧ dx ≠ a ∧ h.get? a = some (PySem.W.instObj C dx) ∧
      ∃ mA, h.Ns1 dx mA ∧ (∀ f, RelO (fs.lookup f) (mA f)) ∧ PySem.Within mA (fs.map (·.1))
  | .own _ => ∃ o, h.get? a = some o
  | .xd fs => ∃ mA, h.Ns1 a mA ∧ ∀ f, RelO (fs.lookup f) (mA f)
  | .rng lo hi => ∃ t u v, h.get? a = some { cls := .type "range", data := .fields #[.int lo t, .int hi u, .int 1 v] }
  | .frz o u => h.get? a = some o ∧ ObjOk H h a u
  | .tbl ps => h.get? a = some { cls := .none, data := .fields ps }
  | .met f x => h.get? a = some (PySem.W.methodObj (.ref f) (.ref x))
  | .ext φ => φ h ∧ (∃ o, h.get? a = some o) ∧ ∀ h1 h2 : Heap, φ h1 → (∀ o, h1.get? a = some o → h2.get? a = some o) → φ h2
/-- the abstract heap is held -/
def HOk (H : Hp) (h : Heap) : Prop := ∀ a o, H a = some o → ObjOk P w H h a o
end

section
variable {P : Program} {w : World} {H H' : Hp} {h h' : Heap} {a : Addr} {o : HO}
theorem ObjOk.lt (x : ObjOk P w H h a o) : a < h.objs.size := by
  cases o with
  | lst xs => obtain ⟨_, _, _, _, e⟩ := x; exact Heap.lt_size e
  | tup xs => obtain ⟨_, _, _, p⟩ := x; exact p.lt
  | dK kvs => obtain ⟨_, _, _, _, o, _, _, e, _⟩ := x; exact Heap.lt_size e
  | dT kvs => obtain ⟨_, _, _, _, o, _, _, e, _⟩ := x; exact Heap.lt_size e
  | set S n => obtain ⟨o, _, _, _, e, _⟩ := x; exact Heap.lt_size e
  | ins C dx fs => obtain ⟨_, _, _, e, _⟩ := x; exact Heap.lt_size e
  | own y => obtain ⟨_, e⟩ := x; exact Heap.lt_size e
  | xd fs => obtain ⟨_, ⟨_, _, _, e, _⟩, _⟩ := x; exact Heap.lt_size e
  | rng lo hi => obtain ⟨_, _, _, e⟩ := x; exact Heap.lt_size e
  | frz ob u => obtain ⟨e, _⟩ := x; exact Heap.lt_size e
  | tbl ps => exact Heap.lt_size (show h.get? a = some _ from x)
  | met f y => exact Heap.lt_size (show h.get? a = some _ from x)
  | ext φ => obtain ⟨_, ⟨_, e⟩, _⟩ := x; exact Heap.lt_size e
theorem Paired.mapP {α β : Type} {F G : α → β → Prop} : ∀ {l₁ : List α} {l₂ : List β}, Paired F l₁ l₂ → (∀ a b, F a b → G a b) → Paired G l₁ l₂
  | _, _, .nil, _ => .nil
  | _, _, .cons r t, f => .cons (f _ _ r) (Paired.mapP t f)
theorem Paired.imp' {α β : Type} {F G : α → β → Prop} (f : ∀ a b, F a b → G a b) {l₁ : List α} {l₂ : List β} (r : Paired F l₁ l₂) : Paired G l₁ l₂ := Paired.mapP r f
/-- what an object's description leans on: its own object, its own dict, the tuples -/
theorem ObjOk.stay (x : ObjOk P w H h a o) (k : ∀ b u, (b = a ∨ H b = some (.own a)) → h.get? b = some u → h'.get? b = some u)
    (ho : ∀ b, H b = some (.own a) → H' b = some (.own a)) (ht : ∀ b xs, H b = some (.tup xs) → H' b = some (.tup xs)) : ObjOk P w H' h' a o := by
  induction o with
  | lst xs => obtain ⟨z, its, n, r, e⟩ := x; exact ⟨z, its, n, r, k _ _ (.inl rfl) e⟩
  | tup xs => obtain ⟨z, its, r, ob, e, c⟩ := x; exact ⟨z, its, r, ob, k _ _ (.inl rfl) e, c⟩
  | dK kvs => obtain ⟨z, y, vs, r, ob, es, ep, e, c⟩ := x; exact ⟨z, y, vs, r, ob, es, ep, k _ _ (.inl rfl) e, c⟩
  | dT kvs =>
    obtain ⟨z, y, xs, r, ob, es, ep, e, c⟩ := x
    exact ⟨z, y, xs, Paired.mapP r fun p q z => ⟨z.1, ht _ _ z.2.1, z.2.2⟩, ob, es, ep, k _ _ (.inl rfl) e, c⟩
  | set S n => obtain ⟨ob, es, ep, t, e, c⟩ := x; exact ⟨ob, es, ep, t, k _ _ (.inl rfl) e, c⟩
  | ins C dx fs =>
    obtain ⟨d, z, ne, e, mA, ⟨od, es, ep, e2, c⟩, r⟩ := x
    exact ⟨ho _ d, z, ne, k _ _ (.inl rfl) e, mA, ⟨od, es, ep, k _ _ (.inr d) e2, c⟩, r⟩
  | own y => obtain ⟨ob, e⟩ := x; exact ⟨ob, k _ _ (.inl rfl) e⟩
  | xd fs => obtain ⟨mA, ⟨od, es, ep, e, c⟩, r⟩ := x; exact ⟨mA, ⟨od, es, ep, k _ _ (.inl rfl) e, c⟩, r⟩
  | rng lo hi => obtain ⟨t, u, v, e⟩ := x; exact ⟨t, u, v, k _ _ (.inl rfl) e⟩
  | frz ob u ih => obtain ⟨e, q⟩ := x; exact ⟨k _ _ (.inl rfl) e, ih q⟩
  | tbl ps =>
    have e : h.get? a = some { cls := .none, data := .fields ps } := x
    show h'.get? a = some { cls := .none, data := .fields ps }
    exact k a _ (.inl rfl) e
  | met f y =>
    have e : h.get? a = some (PySem.W.methodObj (.ref f) (.ref y)) := x
    show h'.get? a = some (PySem.W.methodObj (.ref f) (.ref y))
    exact k a _ (.inl rfl) e
  | ext φ => obtain ⟨p, ⟨o, e⟩, st⟩ := x; exact ⟨st _ _ p fun o q => k _ _ (.inl rfl) q, ⟨o, k _ _ (.inl rfl) e⟩, st⟩
theorem HOk.lt (x : HOk P w H h) (e : H a = some o) : a < h.objs.size := (x a o e).lt
theorem HOk.fresh (x : HOk P w H h) (e : h.objs.size ≤ a) : H a = none := by
  cases q : H a with
  | none => rfl
  | some u => exact absurd (Nat.lt_of_lt_of_le (x.lt q) e) (Nat.lt_irrefl _)
/-- every object of the heap is kept -/
theorem HOk.kept (x : HOk P w H h) (k : ∀ b u, h.get? b = some u → h'.get? b = some u) : HOk P w H h' := fun a o e =>
  (x a o e).stay (fun b u _ q => k b u q) (fun _ q => q) fun _ _ q => q
/-- a new object is laid and tracked -/
theorem HOk.laid (x : HOk P w H h) (k : ∀ b u, h.get? b = some u → h'.get? b = some u) (hp : h.objs.size ≤ a) (new : ObjOk P w (upd H a o) h' a o) : HOk P w (upd H a o) h' := fun b u e => by
  have hn := x.fresh hp
  by_cases hb : b = a
  · subst hb; rw [upd_same] at e; cases e; exact new
  · rw [upd_ne hb] at e
    exact (x b u e).stay (fun c v _ q => k c v q) (fun c q => by rw [upd_ne (ne_of_none q hn)]; exact q) fun c xs q => by rw [upd_ne (ne_of_none q hn)]; exact q
end

/-- what may be read as u: it is u, or a known u -/
def Rd (H : Hp) (a : Addr) (u : HO) : Prop := H a = some u ∨ ∃ o, H a = some (.frz o u)
theorem Rd.of {H : Hp} {a : Addr} {u : HO} (h : H a = some u) : Rd H a u := .inl h
theorem Rd.ok {P : Program} {w : World} {H : Hp} {h : Heap} {a : Addr} {u : HO} (r : Rd H a u) (x : HOk P w H h) : ObjOk P w H h a u := by
  rcases r with r | ⟨o, r⟩
  · exact x a u r
  · obtain ⟨_, q⟩ := x a _ r
    exact q
/-- what may be written -/
def Mut : Option HO → Prop
  | some (.lst _) => True
  | some (.dK _) => True
  | some (.dT _) => True
  | some (.set _ _) => True
  | some (.ins _ _ _) => True
  | some (.ext _) => True
  | _ => False
section
variable {P : Program} {w : World} {H : Hp} {h h' : Heap} {x e : Addr} {o' : HO}
/-- the object at e is changed: x itself, or the dict of the instance x -/
theorem HOk.write (ok : HOk P w H h) (mu : Mut (H x)) (he : e = x ∨ H e = some (.own x)) (k : ∀ b u, b ≠ e → h.get? b = some u → h'.get? b = some u) (heo : ∃ u, h'.get? e = some u)
    (new : ObjOk P w (upd H x o') h' x o') : HOk P w (upd H x o') h' := fun b u q => by
  have nown : ∀ c y, H c = some (.own y) → c ≠ x := fun c y r z => by subst z; rw [r] at mu; exact mu
  have ntup : ∀ c xs, H c = some (.tup xs) → c ≠ x := fun c xs r z => by subst z; rw [r] at mu; exact mu
  by_cases hb : b = x
  · subst hb; rw [upd_same] at q; cases q; exact new
  · rw [upd_ne hb] at q
    by_cases hbe : b = e
    · have q' : H b = some (.own x) := by
        rcases he with z | z
        · exact absurd (hbe.trans z) hb
        · rw [hbe]; exact z
      rw [q] at q'; cases q'
      obtain ⟨v, hv⟩ := heo
      exact ⟨v, by rw [hbe]; exact hv⟩
    · refine (ok b u q).stay (fun c v hc r => k c v ?_ r) (fun c r => by rw [upd_ne (nown c b r)]; exact r) fun c xs r => by rw [upd_ne (ntup c xs r)]; exact r
      rcases hc with rfl | hc
      · exact hbe
      · rintro rfl
        rcases he with z | z
        · exact nown c b hc z
        · rw [hc] at z; cases z; exact hb rfl
end

/-! ### kept unless tracked; of the frames at fs (the callers') the slots may change (an exception that passes writes there); of the records at ex (iterators) nothing is said -/
structure Un (fs ex : List Addr) (H H' : Hp) (h h' : Heap) : Prop where
  keep : ∀ b o, h.get? b = some o → H b = none → b ∉ fs → b ∉ ex → h'.get? b = some o
  slot : ∀ b o, h.get? b = some o → H b = none → b ∈ fs → b ∉ ex → ∃ sl, h'.get? b = some { o with slots := sl }
  free : ∀ b o, h.get? b = some o → H b = none → b ∉ ex → H' b = none
  there : ∀ b o, h.get? b = some o → b ∉ ex → ∃ o', h'.get? b = some o'
  tups : ∀ b xs, H b = some (.tup xs) → H' b = some (.tup xs)
  frzs : ∀ b o u, H b = some (.frz o u) → H' b = some (.frz o u)
  tbls : ∀ b ps, H b = some (.tbl ps) → ∃ more, H' b = some (.tbl (ps ++ more))
section
variable {fs fs' ex ex' : List Addr} {H H1 H2 : Hp} {h h1 h2 h' : Heap} {a x e : Addr} {o : HO}
theorem Un.any (u : Un fs ex H H1 h h1) {b : Addr} {ob : Obj} (q : h.get? b = some ob) (n : H b = none) (hx : b ∉ ex) : ∃ sl, h1.get? b = some { ob with slots := sl } := by
  by_cases hb : b ∈ fs
  · exact u.slot b ob q n hb hx
  · exact ⟨ob.slots, u.keep b ob q n hb hx⟩
theorem Un.trans (a : Un fs ex H H1 h h1) (b : Un fs ex H1 H2 h1 h2) : Un fs ex H H2 h h2 where
  keep := fun c ob q n hc hx => b.keep c ob (a.keep c ob q n hc hx) (a.free c ob q n hx) hc hx
  slot := fun c ob q n hc hx => by
    obtain ⟨sl, e1⟩ := a.slot c ob q n hc hx
    obtain ⟨sl', e2⟩ := b.slot c _ e1 (a.free c ob q n hx) hc hx
    exact ⟨sl', e2⟩
  free := fun c ob q n hx => by
    obtain ⟨o', e1⟩ := a.there c ob q hx
    exact b.free c o' e1 (a.free c ob q n hx) hx
  there := fun c ob q hx => by
    obtain ⟨o', e1⟩ := a.there c ob q hx
    exact b.there c o' e1 hx
  tups := fun c xs q => b.tups c xs (a.tups c xs q)
  frzs := fun c ob xs q => b.frzs c ob xs (a.frzs c ob xs q)
  tbls := fun c ps q => by
    obtain ⟨m1, e1⟩ := a.tbls c ps q
    obtain ⟨m2, e2⟩ := b.tbls c _ e1
    exact ⟨m1 ++ m2, by rw [e2, Array.append_assoc]⟩
theorem Un.kept (k : ∀ b u, h.get? b = some u → h'.get? b = some u) : Un fs ex H H h h' :=
  ⟨fun b ob q _ _ _ => k b ob q, fun b ob q _ _ _ => ⟨ob.slots, k b ob q⟩, fun _ _ _ n _ => n, fun b ob q _ => ⟨ob, k b ob q⟩, fun _ _ q => q, fun _ _ _ q => q, fun _ ps q => ⟨#[], by rw [q]; simp⟩⟩
theorem Un.refl : Un fs ex H H h h := Un.kept fun _ _ q => q
theorem Un.laid (k : ∀ b u, h.get? b = some u → h'.get? b = some u) (hp : h.objs.size ≤ a) (hn : H a = none) : Un fs ex H (upd H a o) h h' where
  keep := fun b u q _ _ _ => k b u q
  slot := fun b u q _ _ _ => ⟨u.slots, k b u q⟩
  free := fun b u q n _ => by rw [upd_ne (Nat.ne_of_lt (Nat.lt_of_lt_of_le (Heap.lt_size q) hp))]; exact n
  there := fun b u q _ => ⟨u, k b u q⟩
  tups := fun b xs q => by rw [upd_ne (ne_of_none q hn)]; exact q
  frzs := fun b u xs q => by rw [upd_ne (ne_of_none q hn)]; exact q
  tbls := fun b ps q => ⟨#[], by rw [upd_ne (ne_of_none q hn), q]; simp⟩
theorem Un.write (mu : Mut (H x)) (he : e = x ∨ H e = some (.own x)) (k : ∀ b u, b ≠ e → h.get? b = some u → h'.get? b = some u) (heo : ∃ u, h'.get? e = some u) : Un fs ex H (upd H x o) h h' := by
  have hx : ∀ b, H b = none → b ≠ x := fun b n z => by subst z; rw [n] at mu; exact mu
  have hb : ∀ b, H b = none → b ≠ e := fun b n z => by
    subst z
    rcases he with r | r
    · exact hx b n r
    · rw [n] at r; cases r
  have hm : ∀ b u, H b = some u → ¬ Mut (some u) → b ≠ x := fun b u q nm z => by subst z; rw [q] at mu; exact nm mu
  refine ⟨fun b u q n _ _ => k b u (hb b n) q, fun b u q n _ _ => ⟨u.slots, k b u (hb b n) q⟩, fun b u q n _ => by rw [upd_ne (hx b n)]; exact n, fun b u q _ => ?_,
    fun b xs q => by rw [upd_ne (hm b _ q fun z => z)]; exact q, fun b u xs q => by rw [upd_ne (hm b _ q fun z => z)]; exact q, fun b ps q => ⟨#[], by rw [upd_ne (hm b _ q fun z => z), q]; simp⟩⟩
  by_cases hbe : b = e
  · subst hbe; exact heo
  · exact ⟨u, k b u hbe q⟩
theorem Un.mono (u : Un fs ex H H1 h h1) (hs : ∀ b ∈ fs, b ∈ fs') (hx : ∀ b ∈ ex, b ∈ ex') : Un fs' ex' H H1 h h1 :=
  ⟨fun b ob q n hb he => u.keep b ob q n (fun z => hb (hs b z)) fun z => he (hx b z), fun _ _ q n _ he => u.any q n fun z => he (hx _ z), fun b ob q n he => u.free b ob q n fun z => he (hx b z), fun b ob q he => u.there b ob q fun z => he (hx b z), u.tups, u.frzs, u.tbls⟩
end

/-! ### the heap without what is tracked -/
def trk (h : Heap) (H : Hp) : List Addr := (List.range h.objs.size).filter fun a => (H a).isSome
def hidT (h : Heap) (H : Hp) : Heap := PySem.W.hideAll h (trk h H)
theorem hidT_size (h : Heap) (H : Hp) : (hidT h H).objs.size = h.objs.size := PySem.W.hideAll_size _ _
theorem hidT_get {h : Heap} {H : Hp} {b : Addr} {o : Obj} (e : h.get? b = some o) (n : H b = none) : (hidT h H).get? b = some o :=
  PySem.W.hideAll_get _ e fun hm => by
    have q : (H b).isSome = true := (List.mem_filter.mp hm).2
    rw [n] at q; simp at q
theorem of_hidT {h : Heap} {H : Hp} {b : Addr} {o : Obj} (e : (hidT h H).get? b = some o) : h.get? b = some o ∧ H b = none := by
  have e' : h.get? b = some o := PySem.W.of_hideAll (trk h H) e
  refine ⟨e', ?_⟩
  cases q : H b with
  | none => rfl
  | some x =>
    have hm : b ∈ trk h H := List.mem_filter.mpr ⟨List.mem_range.mpr (Heap.lt_size e'), by simp [q]⟩
    have z : (hidT h H).get? b = none := PySem.W.hideAll_none (trk h H) hm
    rw [z] at e; cases e

/-! ### OpenK's ledger, filled with every new object but one -/
def allNews (g h : Heap) (L : Addr) : List (Addr × Obj) := (List.range h.objs.size).filterMap fun a => if a = L ∨ (g.get? a).isSome = true then none else (h.get? a).map fun o => (a, o)
theorem mem_allNews {g h : Heap} {L a : Addr} {o : Obj} (h1 : a ≠ L) (h2 : g.get? a = none) (h3 : h.get? a = some o) : (a, o) ∈ allNews g h L :=
  List.mem_filterMap.mpr ⟨a, List.mem_range.mpr (Heap.lt_size h3), by simp [h1, h2, h3]⟩
theorem of_mem_allNews {g h : Heap} {L : Addr} {p : Addr × Obj} (hp : p ∈ allNews g h L) : p.1 ≠ L ∧ g.get? p.1 = none ∧ h.get? p.1 = some p.2 := by
  obtain ⟨b, _, e⟩ := List.mem_filterMap.mp hp
  split at e
  · cases e
  · rename_i hn
    cases q : h.get? b with
    | none => rw [q] at e; simp at e
    | some u =>
      rw [q] at e
      simp only [Option.map_some, Option.some.injEq] at e
      subst e
      refine ⟨fun z => hn (.inl z), ?_, q⟩
      show g.get? b = none
      cases r : g.get? b with
      | none => rfl
      | some v => exact (hn (.inr (by simp [r]))).elim
def rest (g h : Heap) (L d : Addr) : List (Addr × Obj) := (allNews g h L).filter fun p => decide (p.1 ≠ d)
theorem rest_ne {g h : Heap} {L d : Addr} : ∀ p ∈ rest g h L d, p.1 ≠ d := fun p hp => of_decide_eq_true (List.mem_filter.mp hp).2
theorem mem_rest {g h : Heap} {L d a : Addr} {o : Obj} (h1 : a ≠ L) (h2 : g.get? a = none) (h3 : h.get? a = some o) (h4 : a ≠ d) : (a, o) ∈ rest g h L d :=
  List.mem_filter.mpr ⟨mem_allNews h1 h2 h3, decide_eq_true h4⟩
theorem news_all {g h : Heap} {L : Addr} : News g L h (allNews g h L) := fun p hp => let ⟨a, b, c⟩ := of_mem_allNews hp; ⟨c, a, b⟩
theorem news_at {g h : Heap} {L d : Addr} {o : Obj} (h1 : d ≠ L) (h2 : g.get? d = none) (h3 : h.get? d = some o) : News g L h ((d, o) :: rest g h L d) := fun p hp => by
  rcases List.mem_cons.mp hp with rfl | hp
  · exact ⟨h3, h1, h2⟩
  · exact news_all p (List.mem_filter.mp hp).1
/-- behind a rule that changed d alone: all else but the frame is kept -/
theorem kept_of_news {g h h' : Heap} {L d : Addr} {m : Str → Option Value} (k : ∀ b o, g.get? b = some o → h.get? b = some o) (F : Fr g L h' m) (N : News g L h' (rest g h L d)) :
    ∀ b o, b ≠ L → b ≠ d → h.get? b = some o → h'.get? b = some o := fun b o h1 h2 e => by
  cases q : g.get? b with
  | some u =>
    have := k b u q
    rw [e] at this; cases this
    exact F.keep b _ q
  | none => exact (N (b, o) (mem_rest h1 q e h2)).1
end L2

namespace L2
open PySem PySem.Spec PyProof.Rows

/-- the module's facts, over the base: the heap at the law's entry without what is tracked there -/
structure Mod (K : PySem.W.Frag) (mg : Str → Option Value) (base : Heap) : Prop where
  kin : K.In base
  glob : base.Ns mainGlobals mg
  blt : ∃ mb, base.Ns builtinsNs mb ∧ ∀ x : Str, x ≠ "__name__" → mb x = bootBuiltins x
  nolimit : base.NoLimit

/-- the context: a def's body (or a comprehension's block) running. base: fixed through the whole law; s₀, H₀: the entry; outer: the frames whose slots others may change (a def's callers); stack: all frames that run;
   ex: iterators that were made ahead of the entry and are walked here (a comprehension's); fn: the names whose cells were made at the entry (a def: all; a comprehension's block: its own); calm: not within an except suite; pn: pins that every state bears; xe: what is wanted of an exception that leaves the code -/
structure Cx where
  prog : Program
  w : World
  K : PySem.W.Frag
  mg : Str → Option Value
  base : Heap
  A : Around
  N : List Str
  s₀ : Shared
  H₀ : Hp
  env : Env
  outer : List Env
  stack : List Env
  ex : List Addr
  fn : Str → Bool
  calm : Bool
  pn : List (Addr × Obj)
  xe : Value → Shared → Prop
/-- the callers' frames -/
def frs (l : List Env) : List Addr := l.filterMap (·.frame)
abbrev Cx.fs (X : Cx) : List Addr := frs X.outer

def Vis (sc : Scope) (x : Str) : Prop := sc.names.lookup x = some .local ∨ sc.names.lookup x = some .cell ∨ sc.names.lookup x = some .free
def Loc (sc : Scope) (x : Str) : Prop := sc.names.lookup x = some .local ∨ sc.names.lookup x = some .cell
def Look (env : Env) (h : Heap) (m : Str → Option Value) (x : Str) (u : Value) : Prop :=
  (env.kindOf x = some .local ∧ m x = some u) ∨ ((env.kindOf x = some .cell ∨ env.kindOf x = some .free) ∧ ∃ c, env.cells.lookup x = some c ∧ h.IsCell c (some u))

structure Cx.Ok (X : Cx) : Prop where
  mod : Mod X.K X.mg X.base
  kind : X.env.scope.kind = .function
  glob : X.env.globals = mainGlobals
  blt : X.env.builtins = builtinsNs
  above : X.s₀.heap.objs.size ≤ X.env.locals
  inj : ∀ x y c, X.env.cells.lookup x = some c → X.env.cells.lookup y = some c → x = y
  has : ∀ x, (X.env.kindOf x = some .cell ∨ X.env.kindOf x = some .free) → ∃ c, X.env.cells.lookup x = some c
  cab : ∀ x c, X.fn x = true → X.env.cells.lookup x = some c → X.s₀.heap.objs.size ≤ c
  hd : X.calm = true → X.A.handled = none
  frames : X.A.frames = some X.stack
  stk : X.stack = X.outer ∨ (X.stack = X.env :: X.outer ∧ X.env.frame = some X.env.locals)
  exf : ∀ b ∈ X.ex, b ≠ X.env.locals ∧ ∀ x c, X.env.cells.lookup x = some c → c ≠ b
  bs : ∀ b o, X.base.get? b = some o → X.s₀.heap.get? b = some o ∧ X.H₀ b = none
  bsz : X.base.objs.size ≤ X.s₀.heap.objs.size
  noex : ∀ b o, X.base.get? b = some o → b ∉ X.ex
  exfs : ∀ b ∈ X.ex, b ∉ X.fs
  funs : X.s₀.heap.FunFrames X.base X.outer
  frf : ∀ b ∈ X.fs, X.H₀ b = none

structure Inv (X : Cx) (pins : List (Addr × Obj)) (σ : List (Option V)) (H : Hp) (s : Shared) : Prop where
  ok : X.Ok
  os : s.os = X.s₀.os
  bare : AllBare s.gens
  base : Un X.fs X.ex X.H₀ H X.s₀.heap s.heap
  loc : ∃ m, s.heap.Ns X.env.locals m ∧ ∀ (i : Nat) (x : Str) (v : V), X.N[i]? = some x → σ[i]? = some (some v) → Vis X.env.scope x → ∃ u, RelV v u ∧ Look X.env s.heap m x u
  cell : ∀ x c, X.env.cells.lookup x = some c → ∃ v, s.heap.IsCell c v
  free : H X.env.locals = none
  freeC : ∀ x c, X.env.cells.lookup x = some c → H c = none
  pin : ∀ p ∈ X.pn ++ pins, s.heap.get? p.1 = some p.2 ∧ H p.1 = none ∧ p.1 ≠ X.env.locals ∧ p.1 ∉ X.fs ∧ ∀ v, p.2.data ≠ .cell v
  hok : HOk X.prog X.w H s.heap
  len : σ.length = X.N.length

section
variable {X : Cx} {pins : List (Addr × Obj)} {σ : List (Option V)} {H H' : Hp} {s : Shared} {h' : Heap}

theorem Cx.Ok.nofr (ok : X.Ok) {b : Addr} {o : Obj} (e : X.base.get? b = some o) : b ∉ X.fs := fun hb => by
  have := (ok.funs.mem hb).1
  rw [e] at this; cases this
theorem Inv.bs (I : Inv X pins σ H s) : ∀ b o, X.base.get? b = some o → s.heap.get? b = some o ∧ H b = none := fun b o e =>
  ⟨I.base.keep b o (I.ok.bs b o e).1 (I.ok.bs b o e).2 (I.ok.nofr e) (I.ok.noex b o e), I.base.free b o (I.ok.bs b o e).1 (I.ok.bs b o e).2 (I.ok.noex b o e)⟩
theorem Inv.bk (I : Inv X pins σ H s) : ∀ b o, X.base.get? b = some o → s.heap.get? b = some o := fun b o e => (I.bs b o e).1
theorem Inv.mod (I : Inv X pins σ H s) : Mod X.K X.mg X.base := I.ok.mod
theorem Inv.kIn (I : Inv X pins σ H s) : X.K.In s.heap := I.ok.mod.kin.keeps I.bk
theorem Inv.nolimit (I : Inv X pins σ H s) : s.heap.NoLimit := I.ok.mod.nolimit.keeps I.bk
/-- the frame over the base: for OpenK's rules (K.In X.base is I.mod.kin) -/
theorem Inv.fr (I : Inv X pins σ H s) : ∃ m, Fr X.base X.env.locals s.heap m :=
  let ⟨m, hn, _⟩ := I.loc
  ⟨m, hn, I.bk, Nat.le_trans I.ok.bsz I.ok.above⟩
theorem Inv.lt (I : Inv X pins σ H s) : X.env.locals < s.heap.objs.size := let ⟨_, hn, _⟩ := I.loc; hn.lt
theorem Inv.sz (I : Inv X pins σ H s) : X.s₀.heap.objs.size ≤ s.heap.objs.size := Nat.le_trans I.ok.above (Nat.le_of_lt I.lt)
theorem Inv.nofs (I : Inv X pins σ H s) {a : Addr} (h : s.heap.objs.size ≤ a) : a ∉ X.fs := fun hb => by
  obtain ⟨_, o, ho, _⟩ := I.ok.funs.mem hb
  exact absurd (Nat.lt_of_lt_of_le (Heap.lt_size ho) (Nat.le_trans I.sz h)) (Nat.lt_irrefl _)
theorem Inv.cne (I : Inv X pins σ H s) : ∀ x c, X.env.cells.lookup x = some c → c ≠ X.env.locals := fun x c e z => by
  obtain ⟨v, o, ho, hd⟩ := I.cell x c e
  obtain ⟨m, ⟨o', es, ep, ho', hd', _⟩, _⟩ := I.loc
  rw [z, ho'] at ho; cases ho; rw [hd'] at hd; cases hd
theorem Inv.funs (I : Inv X pins σ H s) : s.heap.FunFrames X.base X.outer := by
  have all : ∀ (l : List Env), (∀ b ∈ frs l, b ∈ X.fs) → X.s₀.heap.FunFrames X.base l → s.heap.FunFrames X.base l := by
    intro l
    induction l with
    | nil => intro _ _; trivial
    | cons env r ih =>
      intro hs hl
      obtain ⟨hk, ⟨L, o, hf, hn, ho, hd⟩, hr⟩ := hl
      have hL : L ∈ X.fs := hs L (by unfold frs; rw [List.filterMap_cons, hf]; exact List.mem_cons_self)
      obtain ⟨sl, e⟩ := I.base.slot L o ho (I.ok.frf L hL) hL fun z => I.ok.exfs L z hL
      exact ⟨hk, ⟨L, _, hf, hn, e, hd⟩, ih (fun b hb => hs b (by unfold frs; rw [List.filterMap_cons, hf]; exact List.mem_cons_of_mem _ hb)) hr⟩
  exact all X.outer (fun _ hb => hb) I.ok.funs

/-- the frames that run, for a call -/
theorem Inv.stack (I : Inv X pins σ H s) : s.heap.FunFrames X.base X.stack := by
  rcases I.ok.stk with e | ⟨e, hf⟩
  · rw [e]; exact I.funs
  · rw [e]
    obtain ⟨m, hn, _⟩ := I.loc
    refine .cons (by rw [I.ok.kind]; decide) hf hn ?_ I.funs
    exact Heap.get?_none_of_le (Nat.le_trans I.ok.bsz I.ok.above)
theorem Inv.stkSub (I : Inv X pins σ H s) : ∀ b ∈ frs X.stack, b ∈ X.env.locals :: X.fs := fun b hb => by
  rcases I.ok.stk with e | ⟨e, hf⟩
  · rw [e] at hb; exact List.mem_cons_of_mem _ hb
  · rw [e] at hb
    unfold frs at hb
    rw [List.filterMap_cons, hf] at hb
    exact hb
theorem Inv.stkFree (I : Inv X pins σ H s) : ∀ b ∈ frs X.stack, H b = none := fun b hb => by
  rcases List.mem_cons.mp (I.stkSub b hb) with e | hb
  · rw [e]; exact I.free
  · obtain ⟨_, o, ho, _⟩ := I.ok.funs.mem hb
    exact I.base.free b o ho (I.ok.frf b hb) fun z => I.ok.exfs b z hb

/-- THE STEP: the untracked objects but the frame and the records at ch are kept (the callers' frames up to slots), the frame's map is kept, the new abstract heap is held -/
theorem Inv.step {g' : Array GenState} {t' : Nat} {d' : Drawn} {ch : List Addr} (I : Inv X pins σ H s)
    (hch : ∀ b ∈ ch, (b ∈ X.ex ∨ X.s₀.heap.objs.size ≤ b) ∧ b ≠ X.env.locals ∧ (∀ x c, X.env.cells.lookup x = some c → c ≠ b) ∧ ∀ p ∈ X.pn ++ pins, p.1 ≠ b)
    (keep : ∀ b o, b ≠ X.env.locals → b ∉ X.fs → b ∉ ch → s.heap.get? b = some o → H b = none → h'.get? b = some o)
    (slot : ∀ b o, b ≠ X.env.locals → b ∈ X.fs → b ∉ ch → s.heap.get? b = some o → H b = none → ∃ sl, h'.get? b = some { o with slots := sl }) (free : ∀ b o, b ∉ ch → s.heap.get? b = some o → H b = none → H' b = none)
    (there : ∀ b o, b ∉ ch → s.heap.get? b = some o → ∃ o', h'.get? b = some o')
    (tups : ∀ b xs, H b = some (.tup xs) → H' b = some (.tup xs)) (frzs : ∀ b o u, H b = some (.frz o u) → H' b = some (.frz o u)) (tbls : ∀ b ps, H b = some (.tbl ps) → ∃ more, H' b = some (.tbl (ps ++ more)))
    (ns : ∀ m, s.heap.Ns X.env.locals m → h'.Ns X.env.locals m) (hok : HOk X.prog X.w H' h') (hg : AllBare g') :
    Inv X pins σ H' { s with heap := h', gens := g', drawn := d', toks := t' } := by
  have neL : ∀ b o, X.s₀.heap.get? b = some o → b ≠ X.env.locals := fun b o e => Nat.ne_of_lt (Nat.lt_of_lt_of_le (Heap.lt_size e) I.ok.above)
  have neC : ∀ b o, X.s₀.heap.get? b = some o → b ∉ X.ex → b ∉ ch := fun b o e hx hb => by
    rcases (hch b hb).1 with z | z
    · exact hx z
    · exact absurd (Nat.lt_of_lt_of_le (Heap.lt_size e) z) (Nat.lt_irrefl _)
  have cellK : ∀ x c, X.env.cells.lookup x = some c → ∀ v, s.heap.IsCell c v → h'.IsCell c v := fun x c e v ⟨o, ho, hd⟩ => by
    have nch : c ∉ ch := fun z => (hch c z).2.2.1 x c e rfl
    by_cases hc : c ∈ X.fs
    · obtain ⟨sl, q⟩ := slot c o (I.cne x c e) hc nch ho (I.freeC x c e)
      exact ⟨_, q, hd⟩
    · exact ⟨o, keep c o (I.cne x c e) hc nch ho (I.freeC x c e), hd⟩
  refine ⟨I.ok, I.os, hg, ⟨fun b o e n hb hx => ?_, fun b o e n hb hx => ?_, fun b o e n hx => ?_, fun b o e hx => ?_, fun b xs e => tups b xs (I.base.tups b xs e), fun b o xs e => frzs b o xs (I.base.frzs b o xs e), fun b ps e => ?_⟩, ?_, fun x c e => ?_, ?_, fun x c e => ?_, fun p hp => ?_, hok, I.len⟩
  · exact keep b o (neL b o e) hb (neC b o e hx) (I.base.keep b o e n hb hx) (I.base.free b o e n hx)
  · obtain ⟨sl, e1⟩ := I.base.slot b o e n hb hx
    obtain ⟨sl', e2⟩ := slot b _ (neL b o e) hb (neC b o e hx) e1 (I.base.free b o e n hx)
    exact ⟨sl', e2⟩
  · obtain ⟨o', e1⟩ := I.base.there b o e hx
    exact free b o' (neC b o e hx) e1 (I.base.free b o e n hx)
  · obtain ⟨o', e1⟩ := I.base.there b o e hx
    exact there b o' (neC b o e hx) e1
  · obtain ⟨m1, e1⟩ := I.base.tbls b ps e
    obtain ⟨m2, e2⟩ := tbls b _ e1
    exact ⟨m1 ++ m2, by rw [e2, Array.append_assoc]⟩
  · obtain ⟨m, hn, hl⟩ := I.loc
    refine ⟨m, ns m hn, fun i x v e1 e2 e3 => ?_⟩
    obtain ⟨u, r, l⟩ := hl i x v e1 e2 e3
    refine ⟨u, r, ?_⟩
    rcases l with l | ⟨k, c, e, z⟩
    · exact .inl l
    · exact .inr ⟨k, c, e, cellK x c e _ z⟩
  · obtain ⟨v, z⟩ := I.cell x c e
    exact ⟨v, cellK x c e v z⟩
  · obtain ⟨m, ⟨o, _, _, ho, _⟩, _⟩ := I.loc
    exact free _ o (fun z => (hch _ z).2.1 rfl) ho I.free
  · obtain ⟨v, o, ho, hd⟩ := I.cell x c e
    exact free c o (fun z => (hch c z).2.2.1 x c e rfl) ho (I.freeC x c e)
  · obtain ⟨e, n, ne, nf, d⟩ := I.pin p hp
    have nch : p.1 ∉ ch := fun z => (hch p.1 z).2.2.2 p hp rfl
    exact ⟨keep p.1 p.2 ne nf nch e n, free p.1 p.2 nch e n, ne, nf, d⟩
/-- .. where the frame's own object is kept too -/
theorem Inv.un {t' : Nat} (I : Inv X pins σ H s) (u : Un X.fs [] H H' s.heap h') (hok : HOk X.prog X.w H' h') : Inv X pins σ H' { s with heap := h', toks := t' } := by
  obtain ⟨m, ⟨o, es, ep, ho, r⟩, _⟩ := id I.loc
  obtain ⟨sl, hL⟩ := u.any ho I.free (by simp)
  exact I.step (g' := s.gens) (d' := s.drawn) (ch := []) (fun _ z => nomatch z) (fun b o _ hb _ e n => u.keep b o e n hb (by simp)) (fun b o _ hb _ e n => u.slot b o e n hb (by simp)) (fun b o _ e n => u.free b o e n (by simp)) (fun b o _ e => u.there b o e (by simp)) u.tups u.frzs u.tbls (fun m' hm => by
    obtain ⟨o', es', ep', ho', r'⟩ := hm
    rw [ho] at ho'; cases ho'
    exact ⟨_, es', ep', hL, r'⟩) hok I.bare
/-- behind a call (or a comprehension's block): the slots of this frame may have changed too, the records at ch may have turned -/
theorem Inv.call {g' : Array GenState} {t' : Nat} {d' : Drawn} {ch : List Addr} (I : Inv X pins σ H s) (u : Un (frs X.stack) ch H H' s.heap h') (hok : HOk X.prog X.w H' h') (hg : AllBare g')
    (hch : ∀ b ∈ ch, (b ∈ X.ex ∨ X.s₀.heap.objs.size ≤ b) ∧ b ≠ X.env.locals ∧ (∀ x c, X.env.cells.lookup x = some c → c ≠ b) ∧ ∀ p ∈ X.pn ++ pins, p.1 ≠ b) :
    Inv X pins σ H' { s with heap := h', gens := g', drawn := d', toks := t' } := by
  obtain ⟨m, ⟨o, es, ep, ho, r⟩, _⟩ := id I.loc
  obtain ⟨sl, hL⟩ := u.any ho I.free fun z => (hch _ z).2.1 rfl
  exact I.step (ch := ch) hch (fun b o hL hb hc e n => u.keep b o e n (fun z => (List.mem_cons.mp (I.stkSub b z)).elim hL hb) hc) (fun b o _ _ hc e n => u.any e n hc) (fun b o hc e n => u.free b o e n hc) (fun b o hc e => u.there b o e hc) u.tups u.frzs u.tbls (fun m' hm => by
    obtain ⟨o', es', ep', ho', r'⟩ := hm
    rw [ho] at ho'; cases ho'
    exact ⟨_, es', ep', hL, r'⟩) hok hg
/-- an untracked record of ours (an iterator) has turned -/
theorem Inv.turned {t' : Nat} {it : Addr} (I : Inv X pins σ H s) (k : ∀ b o, b ≠ it → s.heap.get? b = some o → h'.get? b = some o) (hn : H it = none) (hL : it ≠ X.env.locals)
    (h1 : it ∈ X.ex ∨ X.s₀.heap.objs.size ≤ it) (h2 : ∀ x c, X.env.cells.lookup x = some c → c ≠ it) (h3 : ∀ p ∈ X.pn ++ pins, p.1 ≠ it) : Inv X pins σ H { s with heap := h', toks := t' } := by
  have nit : ∀ b u, H b = some u → b ≠ it := fun b u e z => by rw [z, hn] at e; cases e
  refine I.step (g' := s.gens) (d' := s.drawn) (ch := [it]) (fun b hb => ?_) (fun b o _ _ hc e _ => k b o (fun z => hc (by simp [z])) e) (fun b o _ _ hc e _ => ⟨o.slots, k b o (fun z => hc (by simp [z])) e⟩) (fun _ _ _ _ n => n)
    (fun b o hc e => ⟨o, k b o (fun z => hc (by simp [z])) e⟩) (fun _ _ e => e) (fun _ _ _ e => e) (fun b ps e => ⟨#[], by rw [e]; simp⟩) (fun m hm => ?_) (fun b u e => ?_) I.bare
  · have e : b = it := by simpa using hb
    subst e
    exact ⟨h1, hL, h2, h3⟩
  · obtain ⟨o, es, ep, ho, r⟩ := hm
    exact ⟨o, es, ep, k _ o (Ne.symm hL) ho, r⟩
  · refine (I.hok b u e).stay (fun c v hc q => k c v ?_ q) (fun _ q => q) fun _ _ q => q
    rcases hc with z | z
    · rw [z]; exact nit b u e
    · exact nit c _ z
theorem Inv.tok (I : Inv X pins σ H s) (t : Nat) : Inv X pins σ H { s with toks := t } := I.un (h' := s.heap) (t' := t) Un.refl I.hok
/-- all objects kept -/
theorem Inv.kept {t' : Nat} (I : Inv X pins σ H s) (k : ∀ b u, s.heap.get? b = some u → h'.get? b = some u) : Inv X pins σ H { s with heap := h', toks := t' } := I.un (Un.kept k) (I.hok.kept k)
/-- a new object laid and tracked -/
theorem Inv.laid {a : Addr} {o : HO} {t' : Nat} (I : Inv X pins σ H s) (k : ∀ b u, s.heap.get? b = some u → h'.get? b = some u) (hp : s.heap.objs.size ≤ a) (new : ObjOk X.prog X.w (upd H a o) h' a o) :
    Inv X pins σ (upd H a o) { s with heap := h', toks := t' } := I.un (Un.laid k hp (I.hok.fresh hp)) (I.hok.laid k hp new)
/-- an object written -/
theorem Inv.write {x e : Addr} {o : HO} {t' : Nat} (I : Inv X pins σ H s) (mu : Mut (H x)) (he : e = x ∨ H e = some (.own x)) (k : ∀ b u, b ≠ e → s.heap.get? b = some u → h'.get? b = some u) (heo : ∃ u, h'.get? e = some u)
    (new : ObjOk X.prog X.w (upd H x o) h' x o) : Inv X pins σ (upd H x o) { s with heap := h', toks := t' } := I.un (Un.write mu he k heo) (I.hok.write mu he k heo new)
/-- forgetting slots, pins -/
theorem Inv.weak {σ' : List (Option V)} (I : Inv X pins σ H s) (hl : σ'.length = σ.length) (w : ∀ (i : Nat) v, σ'[i]? = some (some v) → σ[i]? = some (some v)) : Inv X pins σ' H s :=
  ⟨I.ok, I.os, I.bare, I.base, let ⟨m, hn, hl'⟩ := I.loc; ⟨m, hn, fun i x v e1 e2 e3 => hl' i x v e1 (w i v e2) e3⟩, I.cell, I.free, I.freeC, I.pin, I.hok, hl.trans I.len⟩
theorem Inv.pins_of {pins' : List (Addr × Obj)} (I : Inv X pins σ H s) (h : ∀ p ∈ pins', s.heap.get? p.1 = some p.2 ∧ H p.1 = none ∧ p.1 ≠ X.env.locals ∧ p.1 ∉ X.fs ∧ ∀ v, p.2.data ≠ .cell v) : Inv X pins' σ H s :=
  ⟨I.ok, I.os, I.bare, I.base, I.loc, I.cell, I.free, I.freeC, fun p hp => (List.mem_append.mp hp).elim (fun z => I.pin p (List.mem_append_left _ z)) (h p), I.hok, I.len⟩

theorem nodup_ix {N : List Str} (hN : N.Nodup) {i j : Nat} {x : Str} (a : N[i]? = some x) (b : N[j]? = some x) : i = j := by
  obtain ⟨h1, e1⟩ := List.getElem?_eq_some_iff.mp a
  obtain ⟨h2, e2⟩ := List.getElem?_eq_some_iff.mp b
  exact (List.getElem_inj hN).mp (e1.trans e2.symm)

/-- a name is stored; what changed -/
theorem store_ok2 {M : Model} {A : Around} {E : Value → Shared → Prop} {i : Nat} {x : Str} {v : V} {u : Value} {Q : Unit → Shared → Prop} (I : Inv X pins σ H s) (hN : X.N.Nodup) (hi : X.N[i]? = some x) (hx : Loc X.env.scope x) (r : RelV v u)
    (h : ∀ s', Inv X pins (σ.set i (some v)) H s' → (∃ a, Heap.SameBut a s.heap s'.heap ∧ (a = X.env.locals ∨ X.env.cells.lookup x = some a)) → Q () s') (hf : X.fn x = true ∨ X.env.scope.names.lookup x = some .local := by first | exact .inl rfl | exact .inr rfl | assumption) : wpAny M A (storeName X.env x u) Q E s := by
  obtain ⟨m, hn, hl⟩ := id I.loc
  have hcls : (X.env.scope.kind == .class || (X.env.scope.kind == .module && X.env.locals != X.env.globals)) = false := by rw [I.ok.kind]; rfl
  have hiσ : i < σ.length := by rw [I.len]; exact (List.getElem?_eq_some_iff.mp hi).1
  have cne := I.cne
  have tracked : ∀ {a : Addr} {h' : Heap}, (∃ o, s.heap.get? a = some o ∧ H a = none) → Heap.SameBut a s.heap h' → HOk X.prog X.w H h' := fun {a h'} ha hs b ob e => by
    obtain ⟨_, _, hfree⟩ := ha
    refine (I.hok b ob e).stay (fun c w' hc q => (hs.2 c ?_).trans q) (fun _ q => q) fun _ _ q => q
    rintro rfl
    rcases hc with rfl | hc
    · rw [hfree] at e; cases e
    · rw [hfree] at hc; cases hc
  rcases hx with hk | hk
  · refine wpAny_storeName_local hk hn (fun h' hn' hs => ?_) hcls
    obtain ⟨oL, _, _, hoL, _⟩ := id hn
    refine h _ ⟨I.ok, I.os, I.bare, ⟨fun b o e n hb hx => ?_, fun b o e n hb hx => ?_, I.base.free, fun b o e hx => ?_, I.base.tups, I.base.frzs, I.base.tbls⟩, ⟨_, hn', fun j y v' e1 e2 e3 => ?_⟩, fun y c e => ?_, I.free, I.freeC, fun p hp => ?_, tracked ⟨oL, hoL, I.free⟩ hs, by simpa using I.len⟩ ⟨_, hs, .inl rfl⟩
    · exact (hs.2 b (Nat.ne_of_lt (Nat.lt_of_lt_of_le (Heap.lt_size e) I.ok.above))).trans (I.base.keep b o e n hb hx)
    · obtain ⟨sl, e1⟩ := I.base.slot b o e n hb hx
      exact ⟨sl, (hs.2 b (Nat.ne_of_lt (Nat.lt_of_lt_of_le (Heap.lt_size e) I.ok.above))).trans e1⟩
    · obtain ⟨o', e1⟩ := I.base.there b o e hx
      exact ⟨o', (hs.2 b (Nat.ne_of_lt (Nat.lt_of_lt_of_le (Heap.lt_size e) I.ok.above))).trans e1⟩
    · by_cases hj : j = i
      · subst hj
        rw [hi] at e1; cases e1
        rw [List.getElem?_set_self hiσ] at e2
        cases e2
        exact ⟨u, r, .inl ⟨hk, by simp⟩⟩
      · rw [List.getElem?_set_ne (Ne.symm hj)] at e2
        obtain ⟨u', r', q⟩ := hl j y v' e1 e2 e3
        refine ⟨u', r', ?_⟩
        rcases q with ⟨k, e⟩ | ⟨k, c, e, z⟩
        · refine .inl ⟨k, ?_⟩
          have : y ≠ x := fun e => hj (nodup_ix hN e1 (e ▸ hi))
          simp [this, e]
        · exact .inr ⟨k, c, e, z.sameBut hs (cne y c e)⟩
    · obtain ⟨w', z⟩ := I.cell y c e
      exact ⟨w', z.sameBut hs (cne y c e)⟩
    · obtain ⟨e, n, ne, nf, d⟩ := I.pin p hp
      exact ⟨(hs.2 p.1 ne).trans e, n, ne, nf, d⟩
  · have hfn : X.fn x = true := by
      rcases hf with z | z
      · exact z
      · rw [z] at hk; cases hk
    obtain ⟨c, hc⟩ := I.ok.has x (.inl hk)
    obtain ⟨w', z⟩ := I.cell x c hc
    refine wpAny_storeName_cell I.ok.kind hk hc z (fun h' hc' hs => ?_)
    obtain ⟨oc, hoc, hocd⟩ := id z
    refine h { s with heap := h' } ⟨I.ok, I.os, I.bare, ⟨fun b o e n hb hx => ?_, fun b o e n hb hx => ?_, I.base.free, fun b o e hx => ?_, I.base.tups, I.base.frzs, I.base.tbls⟩, ⟨m, hn.sameBut hs (Ne.symm (cne x c hc)), fun j y v' e1 e2 e3 => ?_⟩, fun y c' e => ?_, I.free, I.freeC, fun p hp => ?_, tracked ⟨oc, hoc, I.freeC x c hc⟩ hs, by simpa using I.len⟩ ⟨c, hs, .inr hc⟩
    · exact (hs.2 b (Nat.ne_of_lt (Nat.lt_of_lt_of_le (Heap.lt_size e) (I.ok.cab x c hfn hc)))).trans (I.base.keep b o e n hb hx)
    · obtain ⟨sl, e1⟩ := I.base.slot b o e n hb hx
      exact ⟨sl, (hs.2 b (Nat.ne_of_lt (Nat.lt_of_lt_of_le (Heap.lt_size e) (I.ok.cab x c hfn hc)))).trans e1⟩
    · obtain ⟨o', e1⟩ := I.base.there b o e hx
      exact ⟨o', (hs.2 b (Nat.ne_of_lt (Nat.lt_of_lt_of_le (Heap.lt_size e) (I.ok.cab x c hfn hc)))).trans e1⟩
    · by_cases hj : j = i
      · subst hj
        rw [hi] at e1; cases e1
        rw [List.getElem?_set_self hiσ] at e2
        cases e2
        exact ⟨u, r, .inr ⟨.inl hk, c, hc, hc'⟩⟩
      · rw [List.getElem?_set_ne (Ne.symm hj)] at e2
        obtain ⟨u', r', q⟩ := hl j y v' e1 e2 e3
        refine ⟨u', r', ?_⟩
        rcases q with q | ⟨k, c', e, z'⟩
        · exact .inl q
        · refine .inr ⟨k, c', e, z'.sameBut hs ?_⟩
          rintro rfl
          exact hj (nodup_ix hN e1 (I.ok.inj _ _ _ e hc ▸ hi))
    · by_cases hcc : c' = c
      · subst hcc; exact ⟨_, hc'⟩
      · obtain ⟨w2, z2⟩ := I.cell y c' e
        exact ⟨w2, z2.sameBut hs hcc⟩
    · obtain ⟨e, n, ne, nf, d⟩ := I.pin p hp
      refine ⟨(hs.2 p.1 ?_).trans e, n, ne, nf, d⟩
      intro q
      rw [q, hoc] at e
      have q' : oc = p.2 := Option.some.inj e
      exact d w' (by rw [← q']; exact hocd)
theorem store_ok {M : Model} {A : Around} {E : Value → Shared → Prop} {i : Nat} {x : Str} {v : V} {u : Value} {Q : Unit → Shared → Prop} (I : Inv X pins σ H s) (hN : X.N.Nodup) (hi : X.N[i]? = some x) (hx : Loc X.env.scope x) (r : RelV v u)
    (h : ∀ s', Inv X pins (σ.set i (some v)) H s' → Q () s') (hf : X.fn x = true ∨ X.env.scope.names.lookup x = some .local := by first | exact .inl rfl | exact .inr rfl | assumption) : wpAny M A (storeName X.env x u) Q E s :=
  store_ok2 I hN hi hx r (fun s' I' _ => h s' I') hf
/-- behind a call or a block, the state as it is -/
theorem Inv.call' {s' : Shared} {ch : List Addr} (I : Inv X pins σ H s) (ho : s'.os = s.os) (u : Un (frs X.stack) ch H H' s.heap s'.heap) (hok : HOk X.prog X.w H' s'.heap) (hg : AllBare s'.gens)
    (hch : ∀ b ∈ ch, (b ∈ X.ex ∨ X.s₀.heap.objs.size ≤ b) ∧ b ≠ X.env.locals ∧ (∀ x c, X.env.cells.lookup x = some c → c ≠ b) ∧ ∀ p ∈ X.pn ++ pins, p.1 ≠ b) : Inv X pins σ H' s' := by
  obtain ⟨h', g', d', t', o'⟩ := s'
  have e : o' = s.os := ho
  subst e
  exact I.call (g' := g') (t' := t') (d' := d') u hok hg hch
end

/-! ### the judgements -/
/-- an exception: its class, its own dict's address (where it has one), the abstract heap behind it -/
abbrev XK := Value → Option Addr → Hp → Prop
abbrev St := List (Option V)
abbrev VK := V → Hp → Prop
/-- an expression's reading; a test's; an argument list's -/
abbrev TE := St → Hp → VK → Prop
abbrev TT := St → Hp → (Bool → Hp → Prop) → Prop
abbrev TA := St → Hp → (List V → Hp → Prop) → Prop
/-- what is wanted behind a statement -/
structure Ends where
  nx : St → Hp → Prop
  rt : VK
  bk : St → Hp → Prop := fun _ _ => False
  ct : St → Hp → Prop := fun _ _ => False
abbrev TS := Ends → St → Hp → Prop

def EP (X : Cx) (pins : List (Addr × Obj)) (σ : St) (Q : VK) (u : Value) (s' : Shared) : Prop := ∃ v H', Inv X pins σ H' s' ∧ RelV v u ∧ Q v H'
def TP (X : Cx) (pins : List (Addr × Obj)) (σ : St) (Q : Bool → Hp → Prop) (b : Bool) (s' : Shared) : Prop := ∃ H', Inv X pins σ H' s' ∧ Q b H'
def AP (X : Cx) (pins : List (Addr × Obj)) (σ : St) (Q : List V → Hp → Prop) (us : List Value) (s' : Shared) : Prop := ∃ vs H', Inv X pins σ H' s' ∧ Vals vs us ∧ Q vs H'
def SP (X : Cx) (pins : List (Addr × Obj)) (D : Ends) (f : Flow) (s' : Shared) : Prop :=
  match f with
  | .next => ∃ σ' H', Inv X pins σ' H' s' ∧ D.nx σ' H'
  | .brk => ∃ σ' H', Inv X pins σ' H' s' ∧ D.bk σ' H'
  | .cont => ∃ σ' H', Inv X pins σ' H' s' ∧ D.ct σ' H'
  | .ret u => ∃ v σ' H', Inv X pins σ' H' s' ∧ RelV v u ∧ D.rt v H'

def PE (X : Cx) (e : Expr) (t : TE) : Prop :=
  ∀ (pins : List (Addr × Obj)) (s : Shared) (σ : St) (H : Hp) (Q : VK), Inv X pins σ H s → t σ H Q → wpAny (model X.prog X.w) X.A (eval e X.env) (EP X pins σ Q) X.xe s
def PT (X : Cx) (e : Expr) (t : TT) : Prop :=
  ∀ (pins : List (Addr × Obj)) (s : Shared) (σ : St) (H : Hp) (Q : Bool → Hp → Prop), Inv X pins σ H s → t σ H Q → wpAny (model X.prog X.w) X.A (isTrue e X.env (eval e X.env)) (TP X pins σ Q) X.xe s
/-- a test whatever its 'whole' is (and, or) -/
def PW (X : Cx) (e : Expr) (t : TT) : Prop :=
  ∀ (whole : Sem Value) (pins : List (Addr × Obj)) (s : Shared) (σ : St) (H : Hp) (Q : Bool → Hp → Prop), Inv X pins σ H s → t σ H Q → wpAny (model X.prog X.w) X.A (isTrue e X.env whole) (TP X pins σ Q) X.xe s
theorem PW.pt {X : Cx} {e : Expr} {t : TT} (h : PW X e t) : PT X e t := h _
/-- an argument list (no star), from the left -/
def PA (X : Cx) (es : List Expr) (t : TA) : Prop :=
  ∀ (pos : Pos) (pins : List (Addr × Obj)) (s : Shared) (σ : St) (H : Hp) (Q : List V → Hp → Prop), Inv X pins σ H s → t σ H Q → wpAny (model X.prog X.w) X.A (spliced (backTo pos (starEach es X.env))) (AP X pins σ Q) X.xe s
def PS (X : Cx) (st : Stmt) (t : TS) : Prop :=
  ∀ (pins : List (Addr × Obj)) (s : Shared) (σ : St) (H : Hp) (D : Ends), Inv X pins σ H s → t D σ H → wpAny (model X.prog X.w) X.A (exec st X.env) (SP X pins D) X.xe s
def PSs (X : Cx) (st : List Stmt) (t : TS) : Prop :=
  ∀ (pins : List (Addr × Obj)) (s : Shared) (σ : St) (H : Hp) (D : Ends), Inv X pins σ H s → t D σ H → wpAny (model X.prog X.w) X.A (execs st X.env) (SP X pins D) X.xe s
/-- weaken the end -/
theorem thn {α : Type} {t : Sem α} {Q Q' : α → Shared → Prop} {M : Model} {A : Around} {E : Value → Shared → Prop} {s : Shared} (h : wpAny M A t Q E s) (hQ : ∀ a s, Q a s → Q' a s) : wpAny M A t Q' E s := wpAny_mono h hQ fun _ _ x => x
end L2

namespace L2
open PySem PySem.Spec PyProof.Rows
section
variable {X : Cx}

/-- two expressions in a row -/
theorem bin {a b : Expr} {ta tb : TE} (ha : PE X a ta) (hb : PE X b tb) {pins : List (Addr × Obj)} {s : Shared} {σ : St} {H : Hp} {R : V → V → Hp → Prop} (I : Inv X pins σ H s) (h : ta σ H fun x H1 => tb σ H1 fun y H2 => R x y H2)
    {α : Type} {Q : α → Shared → Prop} {f : Value → Value → Sem α}
    (hf : ∀ v u s2 x y H2, Inv X pins σ H2 s2 → RelV x v → RelV y u → R x y H2 → wpAny (model X.prog X.w) X.A (f v u) Q X.xe s2) :
    wpAny (model X.prog X.w) X.A (eval a X.env) (fun v s₁ => wpAny (model X.prog X.w) X.A (eval b X.env) (fun u s₂ => wpAny (model X.prog X.w) X.A (f v u) Q X.xe s₂) X.xe s₁) X.xe s := by
  refine thn (ha pins s σ H _ I h) fun v s1 ⟨x, H1, I1, r1, q1⟩ => ?_
  refine thn (hb pins s1 σ H1 _ I1 q1) fun u s2 ⟨y, H2, I2, r2, q2⟩ => ?_
  exact hf v u s2 x y H2 I2 r1 r2 q2

/-! ### names and constants -/
def tVar (i : Nat) : TE := fun σ H Q => ∃ v, σ[i]? = some (some v) ∧ Q v H
def tC (v : V) : TE := fun _ H Q => Q v H
theorem pe_var {i : Nat} {x : Str} {pos : Pos} (hN : X.N[i]? = some x) (hv : Vis X.env.scope x) (hd : (x == ("__debug__" : Str)) = false := by decide) (hcd : (x == ("__classdict__" : Str)) = false := by decide) : PE X (.Name x pos) (tVar i) := by
  intro pins s σ H Q I h
  obtain ⟨v, e, h⟩ := h
  obtain ⟨m, hn, hl⟩ := I.loc
  obtain ⟨u, r, l⟩ := hl i x v hN e hv
  have fin : EP X pins σ Q u s := ⟨v, H, I, r, h⟩
  rcases l with ⟨hk, hm⟩ | ⟨hk, c, hc, hcell⟩
  · exact wpAny_Name (wpAny_loadName_local I.ok.kind hk hn hm fin) hd
  · rcases hk with hk | hk
    · exact wpAny_Name (wpAny_loadName_cell I.ok.kind hk hc hcell fin) hd
    · exact wpAny_Name (wpAny_loadName_free I.ok.kind hk hc hcell fin hcd) hd
theorem pe_int {i j pos} : PE X (.Constant (.int i) j pos) (tC (.int i)) := fun _ _ _ H _ I h => wpAny_Constant_int ⟨.int i, H, I.tok _, ⟨_, rfl⟩, h⟩
theorem pe_bl {b j pos} : PE X (.Constant (.bool b) j pos) (tC (.bl b)) := fun _ _ _ H _ I h => Constant_bool ⟨.bl b, H, I, rfl, h⟩
theorem pe_non {j pos} : PE X (.Constant .none j pos) (tC .non) := fun _ _ _ H _ I h => Constant_none ⟨.non, H, I, rfl, h⟩
theorem pe_str {x j pos} : PE X (.Constant (.str x) j pos) (tC (.str x)) := fun _ _ _ H _ I h => Calls.Constant_str ⟨.str x, H, I.tok _, ⟨_, rfl⟩, h⟩

/-- a global name of the def -/
def Gl (X : Cx) (x : Str) : Prop := X.env.kindOf x = some .globalImplicit
theorem ld_glob {E : Value → Shared → Prop} {pins : List (Addr × Obj)} {s : Shared} {σ : St} {H : Hp} {x : Str} {u : Value} {pos : Pos} {Q : Value → Shared → Prop} (I : Inv X pins σ H s) (hg : Gl X x) (hm : X.mg x = some u) (h : Q u s)
    (hd : (x == ("__debug__" : Str)) = false := by decide) : wpAny (model X.prog X.w) X.A (eval (.Name x pos) X.env) Q E s :=
  Calls.Name_function_global I.ok.kind hg (Calls.loadGlobal_global (by rw [I.ok.glob]; exact I.mod.glob.keeps I.bk) hm h) hd
theorem ld_blt {E : Value → Shared → Prop} {pins : List (Addr × Obj)} {s : Shared} {σ : St} {H : Hp} {x : Str} {u : Value} {pos : Pos} {Q : Value → Shared → Prop} (I : Inv X pins σ H s) (hg : Gl X x) (hm : X.mg x = none) (hv : bootBuiltins x = some u) (h : Q u s)
    (hn : x ≠ "__name__" := by decide) (hd : (x == ("__debug__" : Str)) = false := by decide) : wpAny (model X.prog X.w) X.A (eval (.Name x pos) X.env) Q E s := by
  obtain ⟨mb, h1, h2⟩ := I.mod.blt
  exact Calls.Name_function_global I.ok.kind hg (Calls.loadGlobal_builtin (by rw [I.ok.glob]; exact I.mod.glob.keeps I.bk) hm (by rw [I.ok.blt]; exact h1.keeps I.bk) ((h2 x hn).trans hv) h) hd
/-- a module's constant, a class, a function, as a value -/
theorem pe_glob {x : Str} {v : V} {u : Value} {pos : Pos} (hg : Gl X x) (hm : X.mg x = some u) (r : RelV v u) (hd : (x == ("__debug__" : Str)) = false := by decide) : PE X (.Name x pos) (tC v) :=
  fun _ _ _ H _ I h => ld_glob I hg hm ⟨v, H, I, r, h⟩ hd
theorem pe_bltn {x : Str} {v : V} {u : Value} {pos : Pos} (hg : Gl X x) (hm : X.mg x = none) (hv : bootBuiltins x = some u) (r : RelV v u) (hn : x ≠ "__name__" := by decide) (hd : (x == ("__debug__" : Str)) = false := by decide) : PE X (.Name x pos) (tC v) :=
  fun _ _ _ H _ I h => ld_blt I hg hm hv ⟨v, H, I, r, h⟩ hn hd

/-! ### arithmetic -/
/-- two ints -/
def t2I (ta tb : TE) (k : Int → Int → Hp → Prop) : St → Hp → Prop := fun σ H => ta σ H fun x H1 => tb σ H1 fun y H2 => ∃ i j, x = .int i ∧ y = .int j ∧ k i j H2
def tAdd (ta tb : TE) : TE := fun σ H Q => t2I ta tb (fun i j H2 => Q (.int (i + j)) H2) σ H
def tSub (ta tb : TE) : TE := fun σ H Q => t2I ta tb (fun i j H2 => Q (.int (i - j)) H2) σ H
/-- the left factor below 2^64 -/
def tMul (ta tb : TE) : TE := fun σ H Q => t2I ta tb (fun i j H2 => (-(2 ^ 64) < i ∧ i < 2 ^ 64) ∧ Q (.int (i * j)) H2) σ H
variable {a b : Expr} {ta tb : TE} {pos : Pos}
theorem pe_add (ha : PE X a ta) (hb : PE X b tb) : PE X (.BinOp a .Add b pos) (tAdd ta tb) := by
  intro pins s σ H Q I h
  refine wpAny_BinOp (bin ha hb I h fun v u s2 x y H2 I2 rx ry q => ?_)
  obtain ⟨i, j, rfl, rfl, q⟩ := q
  obtain ⟨t, rfl⟩ := rx
  obtain ⟨t', rfl⟩ := ry
  exact add_int ⟨.int _, H2, I2.tok _, ⟨_, rfl⟩, q⟩
theorem pe_sub (ha : PE X a ta) (hb : PE X b tb) : PE X (.BinOp a .Sub b pos) (tSub ta tb) := by
  intro pins s σ H Q I h
  refine wpAny_BinOp (bin ha hb I h fun v u s2 x y H2 I2 rx ry q => ?_)
  obtain ⟨i, j, rfl, rfl, q⟩ := q
  obtain ⟨t, rfl⟩ := rx
  obtain ⟨t', rfl⟩ := ry
  exact sub_int ⟨.int _, H2, I2.tok _, ⟨_, rfl⟩, q⟩
theorem pe_mul (ha : PE X a ta) (hb : PE X b tb) : PE X (.BinOp a .Mult b pos) (tMul ta tb) := by
  intro pins s σ H Q I h
  refine wpAny_BinOp (bin ha hb I h fun v u s2 x y H2 I2 rx ry q => ?_)
  obtain ⟨i, j, rfl, rfl, ⟨q1, q2⟩, q⟩ := q
  obtain ⟨t, rfl⟩ := rx
  obtain ⟨t', rfl⟩ := ry
  exact mul_int ⟨.int _, H2, I2.tok _, ⟨_, rfl⟩, q⟩ (.of_left (intBits_le_64 q1 q2))

/-! ### comparisons -/
def PC (X : Cx) (op : CmpOp) (a b : Expr) (t : TE) : Prop :=
  ∀ (pins : List (Addr × Obj)) (s : Shared) (σ : St) (H : Hp) (Q : VK), Inv X pins σ H s → t σ H Q →
    wpAny (model X.prog X.w) X.A (eval a X.env) (fun v s₁ => wpAny (model X.prog X.w) X.A (eval b X.env) (fun u s₂ => wpAny (model X.prog X.w) X.A (compareOp op v u) (EP X pins σ Q) X.xe s₂) X.xe s₁) X.xe s
theorem nobehind (b : Expr) {op : CmpOp} (h : op ≠ .In) (h2 : op ≠ .NotIn) : behindInMarks op b = false := by
  have e1 : (op == CmpOp.In) = false := by cases op <;> first | rfl | exact absurd rfl h
  have e2 : (op == CmpOp.NotIn) = false := by cases op <;> first | rfl | exact absurd rfl h2
  cases b <;> simp [behindInMarks, e1, e2]
def tCmp (p : Int → Int → Bool) (ta tb : TE) : TE := fun σ H Q => t2I ta tb (fun i j H2 => Q (.bl (p i j)) H2) σ H
abbrev tLt : TE → TE → TE := tCmp fun i j => decide (i < j)
abbrev tLe : TE → TE → TE := tCmp fun i j => decide (i ≤ j)
abbrev tGt : TE → TE → TE := tCmp fun i j => decide (j < i)
abbrev tGe : TE → TE → TE := tCmp fun i j => decide (j ≤ i)
abbrev tEqI : TE → TE → TE := tCmp fun i j => decide (i = j)
abbrev tNeI : TE → TE → TE := tCmp fun i j => !decide (i = j)
/-- a comparison of two ints, by its rule -/
theorem pc_int {op : CmpOp} {p : Int → Int → Bool} (ha : PE X a ta) (hb : PE X b tb)
    (rule : ∀ (i j : Int) (t u : Tok) (Q : Value → Shared → Prop) (s : Shared), Q (.bool (p i j)) s → wpAny (model X.prog X.w) X.A (compareOp op (.int i t) (.int j u)) Q X.xe s) : PC X op a b (tCmp p ta tb) := by
  intro pins s σ H Q I h
  refine bin ha hb I h fun v u s2 x y H2 I2 rx ry q => ?_
  obtain ⟨i, j, rfl, rfl, q⟩ := q
  obtain ⟨t, rfl⟩ := rx
  obtain ⟨t', rfl⟩ := ry
  exact rule i j t t' _ s2 ⟨.bl _, H2, I2, rfl, q⟩
theorem pc_lt (ha : PE X a ta) (hb : PE X b tb) : PC X .Lt a b (tLt ta tb) := pc_int ha hb fun _ _ _ _ _ _ h => lt_int h
theorem pc_le (ha : PE X a ta) (hb : PE X b tb) : PC X .LtE a b (tLe ta tb) := pc_int ha hb fun _ _ _ _ _ _ h => le_int h
theorem pc_gt (ha : PE X a ta) (hb : PE X b tb) : PC X .Gt a b (tGt ta tb) := pc_int ha hb fun _ _ _ _ _ _ h => gt_int h
theorem pc_ge (ha : PE X a ta) (hb : PE X b tb) : PC X .GtE a b (tGe ta tb) := pc_int ha hb fun _ _ _ _ _ _ h => ge_int h
theorem pc_eqI (ha : PE X a ta) (hb : PE X b tb) : PC X .Eq a b (tEqI ta tb) := pc_int ha hb fun _ _ _ _ _ _ h => eq_int (by rw [Bool.beq_eq_decide_eq]; exact h)
theorem pc_neI (ha : PE X a ta) (hb : PE X b tb) : PC X .NotEq a b (tNeI ta tb) := pc_int ha hb fun _ _ _ _ _ _ h => ne_int (by rw [bne, Bool.beq_eq_decide_eq]; exact h)
/-- is None -/
def tIsN (ta : TE) : TE := fun σ H Q => ta σ H fun x H1 => Q (.bl (decide (x = .non))) H1
def tNotN (ta : TE) : TE := fun σ H Q => ta σ H fun x H1 => Q (.bl (!decide (x = .non))) H1
theorem RelV.none_iff {x : V} {v : Value} (r : RelV x v) : (v == Value.none) = decide (x = .non) := by
  cases x with
  | non => cases r; rfl
  | bl _ => cases r; rfl
  | int _ => obtain ⟨t, rfl⟩ := r; rfl
  | str _ => obtain ⟨t, rfl⟩ := r; rfl
  | byt _ => obtain ⟨t, rfl⟩ := r; rfl
  | flt _ => obtain ⟨t, rfl⟩ := r; rfl
  | ref _ => cases r; rfl
  | ty _ => cases r; rfl
theorem pc_isN {j pos'} (ha : PE X a ta) : PC X .Is a (.Constant .none j pos') (tIsN ta) := by
  intro pins s σ H Q I h
  refine thn (ha pins s σ H _ I h) fun v s1 ⟨x, H1, I1, r1, q1⟩ => ?_
  exact Constant_none (is_none_gen ⟨.bl _, H1, I1, by rw [r1.none_iff]; rfl, q1⟩)
theorem pc_notN {j pos'} (ha : PE X a ta) : PC X .IsNot a (.Constant .none j pos') (tNotN ta) := by
  intro pins s σ H Q I h
  refine thn (ha pins s σ H _ I h) fun v s1 ⟨x, H1, I1, r1, q1⟩ => ?_
  exact Constant_none (isnot_none_gen ⟨.bl _, H1, I1, by rw [r1.none_iff]; rfl, q1⟩)
/-- a comparison as a value, as a test -/
def tB (t : TE) : TT := fun σ H Q => t σ H fun x H1 => ∃ c, x = .bl c ∧ Q c H1
theorem pe_cmp {op : CmpOp} {t : TE} (h : PC X op a b t) (h1 : behindInMarks op b = false := by first | exact nobehind _ (by decide) (by decide) | rfl) : PE X (.Compare a [op] [b] pos) t := fun pins s σ H Q I hw => wpAny_Compare1 (h pins s σ H Q I hw) h1
theorem pt_cmp {op : CmpOp} {t : TE} (h : PC X op a b t) (h1 : behindInMarks op b = false := by first | exact nobehind _ (by decide) (by decide) | rfl) : PT X (.Compare a [op] [b] pos) (tB t) := by
  intro pins s σ H Q I hw
  refine wpAny_isTrue_Compare1 (thn (h pins s σ H _ I hw) fun v s1 h1 => thn h1 fun u s2 h2 => thn h2 fun c s3 ⟨x, H1, I1, r1, q1⟩ => ?_) h1
  obtain ⟨d, rfl, q⟩ := q1
  cases r1
  exact wpAny_truthy_bool ⟨H1, I1, q⟩
/-- an expression whose value is a bool, as a test -/
theorem pt_val {e : Expr} {t : TE} (h : PE X e t) (he : ∀ whole, isTrue e X.env whole = (do let v ← whole; standAt e.pos; holding [v] (truthy v)) := by intro _; rfl) : PT X e (tB t) := by
  intro pins s σ H Q I hw
  refine isTrue_plain (thn (h pins s σ H _ I hw) fun v s1 ⟨x, H1, I1, r1, q1⟩ => ?_) (he _)
  obtain ⟨d, rfl, q⟩ := q1
  cases r1
  exact wpAny_truthy_bool ⟨H1, I1, q⟩

/-! ### and, or, not -/
variable {tA tB' : TT} {rest : List Expr}
def tAnd (t u : TT) : TT := fun σ H Q => t σ H fun c H1 => if c = true then u σ H1 Q else Q false H1
def tOr (t u : TT) : TT := fun σ H Q => t σ H fun c H1 => if c = true then Q true H1 else u σ H1 Q
def tNot (t : TT) : TT := fun σ H Q => t σ H fun c H1 => Q (!c) H1
theorem pw_and1 (ha : PT X a tA) : PW X (.BoolOp .And [a] pos) tA := by
  intro wh pins s σ H Q I h
  refine isTrue_and (thn (ha pins s σ H Q I h) fun c s1 e => ?_)
  cases c with
  | true => exact isTrue_and_nil e
  | false => exact e
theorem pw_or1 (ha : PT X a tA) : PW X (.BoolOp .Or [a] pos) tA := by
  intro wh pins s σ H Q I h
  refine isTrue_or (thn (ha pins s σ H Q I h) fun c s1 e => ?_)
  cases c with
  | false => exact isTrue_or_nil e
  | true => exact e
theorem pw_and (ha : PT X a tA) (hb : PW X (.BoolOp .And (b :: rest) pos) tB') : PW X (.BoolOp .And (a :: b :: rest) pos) (tAnd tA tB') := by
  intro wh pins s σ H Q I h
  refine isTrue_and (thn (ha pins s σ H _ I h) fun c s1 ⟨H1, I1, q1⟩ => ?_)
  cases c with
  | true => exact hb wh pins s1 σ H1 Q I1 q1
  | false => exact ⟨H1, I1, q1⟩
theorem pw_or (ha : PT X a tA) (hb : PW X (.BoolOp .Or (b :: rest) pos) tB') : PW X (.BoolOp .Or (a :: b :: rest) pos) (tOr tA tB') := by
  intro wh pins s σ H Q I h
  refine isTrue_or (thn (ha pins s σ H _ I h) fun c s1 ⟨H1, I1, q1⟩ => ?_)
  cases c with
  | true => exact ⟨H1, I1, q1⟩
  | false => exact hb wh pins s1 σ H1 Q I1 q1
theorem pt_not (ha : PT X a tA) : PT X (.UnaryOp .Not a pos) (tNot tA) := by
  intro pins s σ H Q I h
  exact isTrue_not (ha pins s σ H (fun c H1 => Q (!c) H1) I h)
/-- .. as values (bools) -/
def tAndV (ta tb : TE) : TE := fun σ H Q => ta σ H fun x H1 => ∃ c, x = .bl c ∧ if c = true then tb σ H1 Q else Q (.bl false) H1
def tOrV (ta tb : TE) : TE := fun σ H Q => ta σ H fun x H1 => ∃ c, x = .bl c ∧ if c = true then Q (.bl true) H1 else tb σ H1 Q
def tNotV (ta : TE) : TE := fun σ H Q => ta σ H fun x H1 => ∃ c, x = .bl c ∧ Q (.bl (!c)) H1
theorem pe_one {op} {t : TE} (h : PE X a t) : PE X (.BoolOp op [a] pos) t := fun pins s σ H Q I hw => BoolOp_one (h pins s σ H Q I hw)
theorem pe_and (ha : PE X a ta) (hb : PE X (.BoolOp .And (b :: rest) pos) tb) : PE X (.BoolOp .And (a :: b :: rest) pos) (tAndV ta tb) := by
  intro pins s σ H Q I h
  refine BoolOp_and (thn (ha pins s σ H _ I h) fun v s1 ⟨x, H1, I1, r1, q1⟩ => ?_)
  obtain ⟨c, rfl, q1⟩ := q1
  cases r1
  refine wpAny_truthy_bool ?_
  cases c with
  | true => exact hb pins s1 σ H1 Q I1 q1
  | false => exact ⟨.bl false, H1, I1, rfl, q1⟩
theorem pe_or (ha : PE X a ta) (hb : PE X (.BoolOp .Or (b :: rest) pos) tb) : PE X (.BoolOp .Or (a :: b :: rest) pos) (tOrV ta tb) := by
  intro pins s σ H Q I h
  refine BoolOp_or (thn (ha pins s σ H _ I h) fun v s1 ⟨x, H1, I1, r1, q1⟩ => ?_)
  obtain ⟨c, rfl, q1⟩ := q1
  cases r1
  refine wpAny_truthy_bool ?_
  cases c with
  | false => exact hb pins s1 σ H1 Q I1 q1
  | true => exact ⟨.bl true, H1, I1, rfl, q1⟩
theorem pe_not (ha : PE X a ta) : PE X (.UnaryOp .Not a pos) (tNotV ta) := by
  intro pins s σ H Q I h
  refine UnaryOp_ (thn (ha pins s σ H _ I h) fun v s1 ⟨x, H1, I1, r1, q1⟩ => ?_)
  obtain ⟨c, rfl, q1⟩ := q1
  cases r1
  exact not_of (wpAny_truthy_bool ⟨.bl (!c), H1, I1, rfl, q1⟩)
/-- a if t else b -/
def tIf (t : TT) (ta tb : TE) : TE := fun σ H Q => t σ H fun c H1 => if c = true then ta σ H1 Q else tb σ H1 Q
theorem pe_ifExp {c : Expr} (hc : PT X c tA) (ha : PE X a ta) (hb : PE X b tb) : PE X (.IfExp c a b pos) (tIf tA ta tb) := by
  intro pins s σ H Q I h
  refine wpAny_IfExp (thn (hc pins s σ H _ I h) fun d s1 ⟨H1, I1, q1⟩ => ?_)
  cases d with
  | true => exact ha pins s1 σ H1 Q I1 q1
  | false => exact hb pins s1 σ H1 Q I1 q1
end
end L2

namespace L2
open PySem PySem.Spec PyProof.Rows

/-! ### a list, a tuple that is read: tracked, frozen, or an object of the module -/
def SqL (K : PySem.W.Frag) (H : Hp) (a : Addr) (xs : List V) : Prop :=
  Rd H a (.lst xs) ∨
    ∃ (o : Obj) (its : Array Value) (n : Nat), K.lookup a = some o ∧ o.cls = .type "list" ∧ o.dict = none ∧ o.data = .seq its n ∧ its.size ≤ sizeLine ∧ Vals xs its.toList
def SqT (K : PySem.W.Frag) (H : Hp) (a : Addr) (xs : List V) : Prop :=
  Rd H a (.tup xs) ∨
    ∃ (o : Obj) (its : Array Value) (n : Nat), K.lookup a = some o ∧ o.cls = .type "tuple" ∧ o.data = .seq its n ∧ its.size ≤ sizeLine ∧ Vals xs its.toList
def absV : Value → Option V
  | .none => some .non
  | .bool b => some (.bl b)
  | .int i _ => some (.int i)
  | .str x _ => some (.str x)
  | .bytes b _ => some (.byt b)
  | .float b _ => some (.flt b)
  | .ref a => some (.ref a)
  | .type n => some (.ty n)
  | _ => none
theorem RelV.abs {x : V} {u : Value} (r : RelV x u) : absV u = some x := by
  cases x with
  | non => cases r; rfl
  | bl _ => cases r; rfl
  | int _ => obtain ⟨t, rfl⟩ := r; rfl
  | str _ => obtain ⟨t, rfl⟩ := r; rfl
  | byt _ => obtain ⟨t, rfl⟩ := r; rfl
  | flt _ => obtain ⟨t, rfl⟩ := r; rfl
  | ref _ => cases r; rfl
  | ty _ => cases r; rfl
theorem RelV.inj {x y : V} {u : Value} (r : RelV x u) (q : RelV y u) : x = y := Option.some.inj (r.abs.symm.trans q.abs)
theorem Vals.inj : ∀ {xs ys : List V} {us : List Value}, Vals xs us → Vals ys us → xs = ys
  | _, _, _, .nil, .nil => rfl
  | _, _, _, .cons r t, .cons r' t' => by rw [r.inj r', Vals.inj t t']
section
variable {X : Cx} {pins : List (Addr × Obj)} {σ : St} {H : Hp} {s : Shared} {a : Addr} {xs ys : List V}
theorem SqL.of {K : PySem.W.Frag} (h : H a = some (.lst xs)) : SqL K H a xs := .inl (.inl h)
theorem SqT.of {K : PySem.W.Frag} (h : H a = some (.tup xs)) : SqT K H a xs := .inl (.inl h)
theorem Inv.list (I : Inv X pins σ H s) (h : SqL X.K H a xs) : ∃ its : List Value, Vals xs its ∧ PlainL s.heap a its.toArray ∧ xs.length ≤ sizeLine := by
  rcases h with h | ⟨o, its, n, hk, hc, hd, hs, hz, r⟩
  · obtain ⟨z, its, n, r, e⟩ := h.ok I.hok
    exact ⟨its, r, ⟨_, n, e, rfl, rfl, rfl⟩, z⟩
  · refine ⟨its.toList, r, ⟨o, n, I.kIn a o hk, hc, hd, by simpa using hs⟩, ?_⟩
    have e := r.length
    simp only [Array.length_toList] at e
    omega
theorem Inv.tuple (I : Inv X pins σ H s) (h : SqT X.K H a xs) : ∃ its : List Value, Vals xs its ∧ IsTup s.heap a its.toArray ∧ xs.length ≤ sizeLine := by
  rcases h with h | ⟨o, its, n, hk, hc, hs, hz, r⟩
  · obtain ⟨z, its, r, p⟩ := h.ok I.hok
    exact ⟨its, r, p, z⟩
  · refine ⟨its.toList, r, ⟨o, I.kIn a o hk, hc, n, by simpa using hs⟩, ?_⟩
    have e := r.length
    simp only [Array.length_toList] at e
    omega
theorem Inv.list_inj (I : Inv X pins σ H s) (h : SqL X.K H a xs) (h' : SqL X.K H a ys) : xs = ys := by
  obtain ⟨its, r, ⟨o, n, e, _, _, d⟩, _⟩ := I.list h
  obtain ⟨its', r', ⟨o', n', e', _, _, d'⟩, _⟩ := I.list h'
  rw [e] at e'; cases e'
  rw [d] at d'
  injection d' with d1 _
  have : its = its' := by simpa using congrArg Array.toList d1
  subst this
  exact r.inj r'
theorem Inv.tuple_inj (I : Inv X pins σ H s) (h : SqT X.K H a xs) (h' : SqT X.K H a ys) : xs = ys := by
  obtain ⟨its, r, ⟨o, e, _, n, d⟩, _⟩ := I.tuple h
  obtain ⟨its', r', ⟨o', e', _, n', d'⟩, _⟩ := I.tuple h'
  rw [e] at e'; cases e'
  rw [d] at d'
  injection d' with d1 _
  have : its = its' := by simpa using congrArg Array.toList d1
  subst this
  exact r.inj r'
end

/-! ### another wish about exceptions -/
abbrev Cx.wish (X : Cx) (E : Value → Shared → Prop) : Cx := { X with xe := E }
/-- no exception leaves -/
abbrev Cx.nox (X : Cx) : Cx := X.wish fun _ _ => False
theorem Cx.Ok.wish {X : Cx} (ok : X.Ok) (E : Value → Shared → Prop) : (X.wish E).Ok :=
  ⟨ok.mod, ok.kind, ok.glob, ok.blt, ok.above, ok.inj, ok.has, ok.cab, ok.hd, ok.frames, ok.stk, ok.exf, ok.bs, ok.bsz, ok.noex, ok.exfs, ok.funs, ok.frf⟩
theorem Cx.Ok.unwish {X : Cx} {E : Value → Shared → Prop} (ok : (X.wish E).Ok) : X.Ok :=
  ⟨ok.mod, ok.kind, ok.glob, ok.blt, ok.above, ok.inj, ok.has, ok.cab, ok.hd, ok.frames, ok.stk, ok.exf, ok.bs, ok.bsz, ok.noex, ok.exfs, ok.funs, ok.frf⟩
section
variable {X : Cx} {pins : List (Addr × Obj)} {σ : St} {H : Hp} {s : Shared} {E : Value → Shared → Prop}
theorem Inv.wish (I : Inv X pins σ H s) (E : Value → Shared → Prop) : Inv (X.wish E) pins σ H s := ⟨I.ok.wish E, I.os, I.bare, I.base, I.loc, I.cell, I.free, I.freeC, I.pin, I.hok, I.len⟩
theorem Inv.unwish (I : Inv (X.wish E) pins σ H s) : Inv X pins σ H s := ⟨I.ok.unwish, I.os, I.bare, I.base, I.loc, I.cell, I.free, I.freeC, I.pin, I.hok, I.len⟩
theorem SP.unwish {D : Ends} {f : Flow} {s' : Shared} (h : SP (X.wish E) pins D f s') : SP X pins D f s' := by
  cases f with
  | next => obtain ⟨σ', H', I, q⟩ := h; exact ⟨σ', H', I.unwish, q⟩
  | brk => obtain ⟨σ', H', I, q⟩ := h; exact ⟨σ', H', I.unwish, q⟩
  | cont => obtain ⟨σ', H', I, q⟩ := h; exact ⟨σ', H', I.unwish, q⟩
  | ret u => obtain ⟨v, σ', H', I, r, q⟩ := h; exact ⟨v, σ', H', I.unwish, r, q⟩
theorem PE.nox {e : Expr} {t : TE} (h : PE X.nox e t) : PE X e t := fun pins s σ H Q I hw =>
  wpAny_mono (h pins s σ H Q (I.wish _) hw) (fun _ _ ⟨v, H', I', r, q⟩ => ⟨v, H', I'.unwish, r, q⟩) fun _ _ z => False.elim z
theorem PT.nox {e : Expr} {t : TT} (h : PT X.nox e t) : PT X e t := fun pins s σ H Q I hw =>
  wpAny_mono (h pins s σ H Q (I.wish _) hw) (fun _ _ ⟨H', I', q⟩ => ⟨H', I'.unwish, q⟩) fun _ _ z => False.elim z
theorem PSs.nox {st : List Stmt} {t : TS} (h : PSs X.nox st t) : PSs X st t := fun pins s σ H D I hw =>
  wpAny_mono (h pins s σ H D (I.wish _) hw) (fun _ _ q => q.unwish) fun _ _ z => False.elim z
end

/-! ### blocks and small statements -/
section
variable {X : Cx} {st : Stmt} {rest : List Stmt} {t u : TS} {e : Expr} {te : TE} {pos : Pos}
def tNext : TS := fun D σ H => D.nx σ H
def tSeq (t u : TS) : TS := fun D σ H => t { D with nx := u D } σ H
theorem pss_nil : PSs X [] tNext := fun _ _ σ H _ I h => wpAny_execs_nil ⟨σ, H, I, h⟩
theorem pss_cons (h1 : PS X st t) (h2 : PSs X rest u) : PSs X (st :: rest) (tSeq t u) := by
  intro pins s σ H D I h
  refine wpAny_execs_cons (thn (h1 pins s σ H { D with nx := u D } I h) fun f s1 q => ?_)
  cases f with
  | next =>
    obtain ⟨σ', H', I', q⟩ := q
    exact h2 pins s1 σ' H' D I' q
  | ret v => exact q
  | brk => exact q
  | cont => exact q
theorem pss_one (h1 : PS X st t) : PSs X [st] t := by
  intro pins s σ H D I h
  refine wpAny_execs_cons (thn (h1 pins s σ H D I h) fun f s1 q => ?_)
  cases f with
  | next => exact wpAny_execs_nil q
  | ret v => exact q
  | brk => exact q
  | cont => exact q
def tBreak : TS := fun D σ H => D.bk σ H
def tCont : TS := fun D σ H => D.ct σ H
theorem ps_pass : PS X (.Pass pos) tNext := fun _ _ σ H _ I h => wpAny_Pass ⟨σ, H, I, h⟩
theorem ps_break : PS X (.Break pos) tBreak := fun _ _ σ H _ I h => wpAny_Break ⟨σ, H, I, h⟩
theorem ps_continue : PS X (.Continue pos) tCont := fun _ _ σ H _ I h => wpAny_Continue ⟨σ, H, I, h⟩
/-- in a def's body nothing is shown -/
theorem Inv.quiet {pins : List (Addr × Obj)} {σ : St} {H : Hp} {s : Shared} (I : Inv X pins σ H s) : interactive X.env = false := by simp [interactive, I.ok.kind]
/-- a docstring -/
theorem ps_doc {x j pos pos'} : PS X (.Expr (.Constant (.str x) j pos) pos') tNext := fun _ s σ H _ I h => wpAny_Expr (Calls.Constant_str (show SP X _ _ .next { s with toks := s.toks + 1 } from ⟨σ, H, I.tok _, h⟩)) I.quiet
/-- an expression whose value is dropped -/
def tDrop (te : TE) : TS := fun D σ H => te σ H fun _ H1 => D.nx σ H1
theorem ps_expr (he : PE X e te) (hs : swapsWith e none pos.line X.env = pure false := by rfl) : PS X (.Expr e pos) (tDrop te) := by
  intro pins s σ H D I h
  exact wpAny_Expr_any (thn (he pins s σ H _ I h) fun v s1 ⟨x, H1, I1, r1, q1⟩ => ⟨σ, H1, I1, q1⟩) I.quiet hs
def tRet (te : TE) : TS := fun D σ H => te σ H D.rt
theorem ps_ret (he : PE X e te) : PS X (.Return (some e) pos) (tRet te) := by
  intro pins s σ H D I h
  exact wpAny_Return_some (thn (he pins s σ H _ I h) fun v s1 ⟨x, H1, I1, r1, q1⟩ => ⟨x, σ, H1, I1, r1, q1⟩)
def tRetN : TS := fun D _ H => D.rt .non H
theorem ps_retN : PS X (.Return none pos) tRetN := fun _ _ σ H _ I h => wpAny_Return_none ⟨.non, σ, H, I, rfl, h⟩
def tIfS (c : TT) (t u : TS) : TS := fun D σ H => c σ H fun b H1 => if b = true then t D σ H1 else u D σ H1
theorem ps_if {c : Expr} {a b : List Stmt} {tc : TT} (hc : PT X c tc) (ha : PSs X a t) (hb : PSs X b u) : PS X (.If c a b pos) (tIfS tc t u) := by
  intro pins s σ H D I h
  refine wpAny_If (thn (hc pins s σ H _ I h) fun d s1 ⟨H1, I1, q1⟩ => ?_)
  cases d with
  | true => exact ha pins s1 σ H1 D I1 q1
  | false => exact hb pins s1 σ H1 D I1 q1
/-- code that the proof never comes to -/
def tNever : TS := fun _ _ _ => False
theorem ps_never : PS X st tNever := fun _ _ _ _ _ _ h => h.elim
theorem pss_never {sts : List Stmt} : PSs X sts tNever := fun _ _ _ _ _ _ h => h.elim
end

/-! ### targets -/
abbrev TG := V → St → Hp → (St → Hp → Prop) → Prop
abbrev TGs := List V → St → Hp → (St → Hp → Prop) → Prop
def PG (X : Cx) (target : Expr) (t : TG) : Prop :=
  ∀ (pins : List (Addr × Obj)) (s : Shared) (σ : St) (H : Hp) (v : V) (u : Value) (Q : St → Hp → Prop), Inv X pins σ H s → RelV v u → t v σ H Q →
    wpAny (model X.prog X.w) X.A (assign target X.env u) (fun _ s' => ∃ σ' H', Inv X pins σ' H' s' ∧ Q σ' H') X.xe s
/-- several targets, one after another -/
def PGs (X : Cx) (ts : List Expr) (t : TGs) : Prop :=
  ∀ (pins : List (Addr × Obj)) (s : Shared) (σ : St) (H : Hp) (vs : List V) (us : List Value) (Q : St → Hp → Prop), Inv X pins σ H s → Vals vs us → t vs σ H Q →
    wpAny (model X.prog X.w) X.A (assignInOrder ((assignEach ts X.env).map (·.2)) us) (fun _ s' => ∃ σ' H', Inv X pins σ' H' s' ∧ Q σ' H') X.xe s
/-- o[i] = v, by values -/
abbrev TSet := V → V → V → Hp → (Hp → Prop) → Prop
def PSet (X : Cx) (t : TSet) : Prop :=
  ∀ (pins : List (Addr × Obj)) (s : Shared) (σ : St) (H : Hp) (o i v : V) (ov iv u : Value) (Q : Hp → Prop), Inv X pins σ H s → RelV o ov → RelV i iv → RelV v u → t o i v H Q →
    wpAny (model X.prog X.w) X.A (setItem ov iv u) (fun _ s' => ∃ H', Inv X pins σ H' s' ∧ Q H') X.xe s
/-- a op= b, by values -/
abbrev TIp := V → V → Hp → VK → Prop
def PIp (X : Cx) (op : Operator) (t : TIp) : Prop :=
  ∀ (pins : List (Addr × Obj)) (s : Shared) (σ : St) (H : Hp) (x y : V) (v u : Value) (Q : VK), Inv X pins σ H s → RelV x v → RelV y u → t x y H Q →
    wpAny (model X.prog X.w) X.A (inplaceOp op v u) (EP X pins σ Q) X.xe s
section
variable {X : Cx} {pos : Pos}
def gName (i : Nat) : TG := fun v σ H Q => Q (σ.set i (some v)) H
theorem pg_name {i : Nat} {x : Str} (hN : X.N.Nodup) (hi : X.N[i]? = some x) (hx : Loc X.env.scope x) (hf : X.fn x = true ∨ X.env.scope.names.lookup x = some .local := by first | exact .inl rfl | exact .inr rfl | assumption) : PG X (.Name x pos) (gName i) := by
  intro pins s σ H v u Q I r h
  exact wpAny_assign_Name (store_ok I hN hi hx r (fun s' I' => ⟨_, H, I', h⟩) hf)
def gNil : TGs := fun vs σ H Q => vs = [] ∧ Q σ H
def gCons (t : TG) (u : TGs) : TGs := fun vs σ H Q => ∃ v r, vs = v :: r ∧ t v σ H fun σ' H' => u r σ' H' Q
theorem pgs_nil : PGs X [] gNil := by
  intro pins s σ H vs us Q I r h
  obtain ⟨e, h⟩ := h
  subst e
  cases r
  exact assignInOrder_nil ⟨σ, H, I, h⟩
theorem pgs_cons {e : Expr} {es : List Expr} {t : TG} {u : TGs} (h1 : PG X e t) (h2 : PGs X es u)
    (hs : (assignEach (e :: es) X.env).map (·.2) = assign e X.env :: (assignEach es X.env).map (·.2) := by rfl) : PGs X (e :: es) (gCons t u) := by
  intro pins s σ H vs us Q I r h
  obtain ⟨v, vr, e1, h⟩ := h
  subst e1
  cases r with
  | cons r rr =>
    rw [hs]
    refine assignInOrder_cons (thn (h1 pins s σ H _ _ _ I r h) fun _ s1 ⟨σ1, H1, I1, q1⟩ => ?_)
    exact h2 pins s1 σ1 H1 _ _ Q I1 rr q1
/-- (a, b, ..) = a tuple of that length -/
def gTup (K : PySem.W.Frag) (n : Nat) (t : TGs) : TG := fun v σ H Q => ∃ a xs, v = .ref a ∧ SqT K H a xs ∧ xs.length = n ∧ t xs σ H Q
theorem pg_tup {es : List Expr} {k : Nat} {t : TGs} {n : Nat} (hc : X.calm = true) (h : PGs X es t)
    (hn : (assignEach es X.env).length = n := by rfl) (hst : (assignEach es X.env).findIdx? (·.1) = none := by rfl) : PG X (.Tuple es k pos) (gTup X.K n t) := by
  intro pins s σ H v u Q I r hw
  obtain ⟨a, xs, e1, hq, hl, hw⟩ := hw
  subst e1
  cases r
  obtain ⟨its, rv, ht, hz⟩ := I.tuple hq
  refine assign_Tuple_tuple (I.ok.hd hc) ht (by simp [hn, ← hl, rv.length]) hst fun h' hx => ?_
  have I1 : Inv X pins σ H { s with heap := h' } := I.kept (t' := s.toks) fun b o e => hx b o (Nat.ne_of_lt (Heap.lt_size e)) e
  exact h pins _ σ H xs _ Q I1 (by simpa using rv) hw
/-- o[i] = .. -/
def gSub (to ti : TE) (t : TSet) : TG := fun v σ H Q => to σ H fun o H1 => ti σ H1 fun i H2 => t o i v H2 fun H3 => Q σ H3
theorem pg_sub {o i : Expr} {to ti : TE} {t : TSet} (ho : PE X o to) (hi : PE X i ti) (hs : PSet X t)
    (ha : ∀ v, assign (.Subscript o i pos) X.env v = (do
      let ov ← holding [v] (eval o X.env)
      let iv ← holding [v, ov] (eval i X.env)
      standAt pos
      holding [v, ov, iv] (setItem ov iv v)
      release [v, ov, iv] []) := by intro _; rfl) : PG X (.Subscript o i pos) (gSub to ti t) := by
  intro pins s σ H v u Q I r h
  rw [ha]
  refine wpAny_bind (wpAny_holding (thn (ho pins s σ H _ I h) fun ov s1 ⟨x, H1, I1, r1, q1⟩ => ?_))
  refine wpAny_bind (wpAny_holding (thn (hi pins s1 σ H1 _ I1 q1) fun iv s2 ⟨y, H2, I2, r2, q2⟩ => ?_))
  refine wpAny_bind (wpAny_standAt (wpAny_bind (wpAny_holding (thn (hs pins s2 σ H2 x y v ov iv u _ I2 r1 r2 r q2) fun _ s3 ⟨H3, I3, q3⟩ => ?_))))
  exact wpAny_release ⟨σ, H3, I3, q3⟩
/-- target = value -/
def tAsg (te : TE) (g : TG) : TS := fun D σ H => te σ H fun x H1 => g x σ H1 D.nx
theorem ps_asg {tg e : Expr} {te : TE} {g : TG} (he : PE X e te) (hg : PG X tg g) (hs : swapsWithSole [tg] e pos.line X.env = pure false := by rfl) (hw : swappedStores [tg] e X.env = pure none := by rfl)
    (h1 : (assignEach [tg] X.env).map (·.2) = [assign tg X.env] := by rfl) : PS X (.Assign [tg] e pos) (tAsg te g) := by
  intro pins s σ H D I h
  refine wpAny_Assign_stores (thn (he pins s σ H _ I h) fun v s1 ⟨x, H1, I1, r1, q1⟩ => ?_) hs hw
  rw [h1]
  exact thn (hg pins s1 σ H1 x v _ I1 r1 q1) fun _ s2 q => q
/-- name = value -/
theorem ps_set {i : Nat} {x : Str} {e : Expr} {te : TE} {pos' : Pos} (hN : X.N.Nodup) (hi : X.N[i]? = some x) (hx : Loc X.env.scope x) (he : PE X e te) (hs : swapsWith e (some (.Name x pos')) pos.line X.env = pure false := by rfl) (hf : X.fn x = true ∨ X.env.scope.names.lookup x = some .local := by first | exact .inl rfl | exact .inr rfl | assumption) :
    PS X (.Assign [.Name x pos'] e pos) (tAsg te (gName i)) := by
  intro pins s σ H D I h
  refine wpAny_Assign_Name (thn (he pins s σ H _ I h) fun v s1 ⟨y, H1, I1, r1, q1⟩ => ?_) hs
  exact store_ok I1 hN hi hx r1 (fun s2 I2 => ⟨_, H1, I2, q1⟩) hf
/-- a, b = x, y with plain local names: stored from the right; the pair itself is not tracked (the opening rows as in PyProof/Rows/TupAssign.lean:23) -/
def tPar (i j : Nat) (ta : TA) : TS := fun D σ H => ta σ H fun vs H1 => ∃ v w, vs = [v, w] ∧ D.nx ((σ.set i (some v)).set j (some w)) H1
theorem ps_par {i j : Nat} {x y : Str} {a b : Expr} {ta : TA} {px py pt : Pos} {kt k2 pt2} (hc : X.calm = true) (hN : X.N.Nodup) (hi : X.N[i]? = some x) (hj : X.N[j]? = some y) (hij : i ≠ j)
    (hx : X.env.scope.names.lookup x = some .local) (hy : X.env.scope.names.lookup y = some .local) (ha : PA X [a, b] ta)
    (hw : swappedStores [.Tuple [.Name x px, .Name y py] kt pt] (.Tuple [a, b] k2 pt2) X.env = pure (some [x, y]))
    (hs : swapsWithSole [.Tuple [.Name x px, .Name y py] kt pt] (.Tuple [a, b] k2 pt2) pos.line X.env = pure false := by rfl) :
    PS X (.Assign [.Tuple [.Name x px, .Name y py] kt pt] (.Tuple [a, b] k2 pt2) pos) (tPar i j ta) := by
  intro pins s σ H D I h
  rw [exec_Assign_arm]
  refine wpAny_bind (wpAny_standAt ?_)
  rw [hs]
  refine wpAny_bind (wpAny_pure ?_)
  rw [if_neg (by decide)]
  refine wpAny_bind (Tuple_ (thn (ha _ pins s σ H _ I h) fun us s1 ⟨vs, H1, I1, r1, q1⟩ => ?_))
  obtain ⟨v, w, e1, q1⟩ := q1
  subst e1
  obtain ⟨u1, u2, rfl, rv, rw'⟩ : ∃ u1 u2, us = [u1, u2] ∧ RelV v u1 ∧ RelV w u2 := by
    cases r1 with
    | cons p q =>
      cases q with
      | cons p' q' =>
        cases q'
        exact ⟨_, _, rfl, p, p'⟩
  refine wpAny_newObj_type ?_ (by show 2 ≤ sizeLine; decide)
  have I2 : Inv X pins σ H1 { s1 with heap := s1.heap.push { cls := .type "tuple", data := .seq [u1, u2].toArray } } := I1.kept (t' := s1.toks) fun b o e => Heap.get?_push_of_some _ e
  rw [hw]
  refine wpAny_bind (wpAny_pure ?_)
  show wpAny (model X.prog X.w) X.A (do rule "assign.swapped-stores"; let items ← unpackItems (.ref s1.heap.objs.size) 2 none; assignInOrder [fun v => bindName X.env y v, fun v => bindName X.env x v] items.reverse; pure Flow.next) _ _ _
  refine wpAny_bind (wpAny_rule (wpAny_bind (unpackItems_tuple (items := #[u1, u2]) (I.ok.hd hc) (IsTup.new s1.heap _) fun h' hx' => ?_)))
  have I3 := I2.kept (h' := h') (t' := s1.toks) fun b o e => hx' b o (Nat.ne_of_lt (Heap.lt_size e)) e
  show wpAny _ _ (assignInOrder [fun v => bindName X.env y v, fun v => bindName X.env x v] [u2, u1] >>= fun _ => pure Flow.next) _ _ _
  refine wpAny_bind (assignInOrder_cons (wpAny_bindName (store_ok I3 hN hj (.inl hy) rw' (fun s2 I4 => ?_) (.inr hy))))
  refine assignInOrder_cons (wpAny_bindName (store_ok I4 hN hi (.inl hx) rv (fun s3 I5 => assignInOrder_nil (wpAny_pure ?_)) (.inr hx)))
  rw [List.set_comm _ _ (Ne.symm hij)] at I5
  exact ⟨_, H1, I5, q1⟩
/-- name op= e -/
def tAug (i : Nat) (te : TE) (ti : TIp) : TS := fun D σ H => ∃ x, σ[i]? = some (some x) ∧ te σ H fun y H1 => ti x y H1 fun z H2 => D.nx (σ.set i (some z)) H2
theorem ps_aug {i : Nat} {x : Str} {e : Expr} {te : TE} {op : Operator} {ti : TIp} {pos' : Pos} (hN : X.N.Nodup) (hi : X.N[i]? = some x) (hx : Loc X.env.scope x) (he : PE X e te) (ho : PIp X op ti) (hf : X.fn x = true ∨ X.env.scope.names.lookup x = some .local := by first | exact .inl rfl | exact .inr rfl | assumption) :
    PS X (.AugAssign (.Name x pos') op e pos) (tAug i te ti) := by
  intro pins s σ H D I h
  obtain ⟨v, e1, h⟩ := h
  obtain ⟨m, hn, hl⟩ := I.loc
  have vis : Vis X.env.scope x := by rcases hx with k | k; exact .inl k; exact .inr (.inl k)
  obtain ⟨u, r, l⟩ := hl i x v hi e1 vis
  refine wpAny_AugAssign_Name ?_
  have go : wpAny (model X.prog X.w) X.A (eval e X.env) (fun w s₂ => wpAny (model X.prog X.w) X.A (inplaceOp op u w) (fun r s₃ => wpAny (model X.prog X.w) X.A (storeName X.env x r) (fun _ => SP X pins D .next) X.xe s₃) X.xe s₂) X.xe s := by
    refine thn (he pins s σ H _ I h) fun w s1 ⟨y, H1, I1, r1, q1⟩ => ?_
    refine thn (ho pins s1 σ H1 v y u w _ I1 r r1 q1) fun z s2 ⟨zv, H2, I2, r2, q2⟩ => ?_
    exact store_ok I2 hN hi hx r2 (fun s3 I3 => ⟨_, H2, I3, q2⟩) hf
  rcases l with ⟨hk, hm⟩ | ⟨hk, c, hc, hcell⟩
  · exact wpAny_loadName_local I.ok.kind hk hn hm go
  · rcases hk with hk | hk
    · exact wpAny_loadName_cell I.ok.kind hk hc hcell go
    · rcases hx with k | k
      · have : X.env.scope.names.lookup x = some .free := hk
        rw [k] at this; cases this
      · have : X.env.scope.names.lookup x = some .free := hk
        rw [k] at this; cases this
/-- o[i] op= e -/
def tAugS (to ti te : TE) (tget : V → V → Hp → VK → Prop) (tip : TIp) (tset : TSet) : TS := fun D σ H => to σ H fun o H1 => ti σ H1 fun i H2 => tget o i H2 fun x H3 => te σ H3 fun y H4 => tip x y H4 fun z H5 => tset o i z H5 fun H6 => D.nx σ H6
/-- o[i], by values -/
def PGet (X : Cx) (t : V → V → Hp → VK → Prop) : Prop :=
  ∀ (pins : List (Addr × Obj)) (s : Shared) (σ : St) (H : Hp) (o i : V) (ov iv : Value) (Q : VK), Inv X pins σ H s → RelV o ov → RelV i iv → t o i H Q →
    wpAny (model X.prog X.w) X.A (getItem ov iv) (EP X pins σ Q) X.xe s
theorem ps_augS {o i e : Expr} {to ti te : TE} {tget : V → V → Hp → VK → Prop} {tip : TIp} {tset : TSet} {op : Operator} {tpos : Pos} (ho : PE X o to) (hi : PE X i ti) (hg : PGet X tget) (he : PE X e te) (hp : PIp X op tip) (hs : PSet X tset)
    (ha : ∀ ov iv new, augStore i ov iv new = (do holding [new, ov, iv] (setItem ov iv new); release [new, ov, iv] []; pure .next) := by intros; rfl) : PS X (.AugAssign (.Subscript o i tpos) op e pos) (tAugS to ti te tget tip tset) := by
  intro pins s σ H D I h
  refine wpAny_AugAssign_SubscriptAny (thn (ho pins s σ H _ I h) fun ov s1 ⟨x1, H1, I1, r1, q1⟩ => ?_) ha
  refine thn (hi pins s1 σ H1 _ I1 q1) fun iv s2 ⟨x2, H2, I2, r2, q2⟩ => ?_
  refine thn (hg pins s2 σ H2 x1 x2 ov iv _ I2 r1 r2 q2) fun old s3 ⟨x3, H3, I3, r3, q3⟩ => ?_
  refine thn (he pins s3 σ H3 _ I3 q3) fun v s4 ⟨x4, H4, I4, r4, q4⟩ => ?_
  refine thn (hp pins s4 σ H4 x3 x4 old v _ I4 r3 r4 q4) fun new s5 ⟨x5, H5, I5, r5, q5⟩ => ?_
  exact thn (hs pins s5 σ H5 x1 x2 x5 ov iv new _ I5 r1 r2 r5 q5) fun _ s6 ⟨H6, I6, q6⟩ => ⟨σ, H6, I6, q6⟩
/-- ints -/
def ipI (f : Int → Int → Int) : TIp := fun x y H Q => ∃ i j, x = .int i ∧ y = .int j ∧ Q (.int (f i j)) H
theorem ip_add : PIp X .Add (ipI fun i j => i + j) := by
  intro pins s σ H x y v u Q I r1 r2 h
  obtain ⟨i, j, e1, e2, q⟩ := h
  subst e1; subst e2
  obtain ⟨t, rfl⟩ := r1
  obtain ⟨t', rfl⟩ := r2
  exact iadd_int ⟨.int _, H, I.tok _, ⟨_, rfl⟩, q⟩
theorem ip_sub : PIp X .Sub (ipI fun i j => i - j) := by
  intro pins s σ H x y v u Q I r1 r2 h
  obtain ⟨i, j, e1, e2, q⟩ := h
  subst e1; subst e2
  obtain ⟨t, rfl⟩ := r1
  obtain ⟨t', rfl⟩ := r2
  exact isub_int ⟨.int _, H, I.tok _, ⟨_, rfl⟩, q⟩
end

/-! ### while -/
section
variable {X : Cx} {pos : Pos}
/-- the invariant W with its measure -/
def tWhile (c : TT) (tb : TS) : TS := fun D σ H => ∃ W : Nat → St → Hp → Prop, (∃ m, W m σ H) ∧ ∀ m σ H, W m σ H →
  c σ H fun b H1 => if b = true then ∃ N : St → Hp → Prop, (∀ σ' H', N σ' H' → ∃ m', m' < m ∧ W m' σ' H') ∧ tb { D with nx := N, ct := N, bk := D.nx } σ H1 else D.nx σ H1
theorem ps_while {c : Expr} {body : List Stmt} {tc : TT} {tb : TS} (hp : PassesOwn (model X.prog X.w) X.A X.env X.xe) (hc : PT X c tc) (hb : PSs X body tb) : PS X (.While c body [] pos) (tWhile tc tb) := by
  intro pins s σ H D I h
  obtain ⟨W, ⟨m0, w0⟩, turn⟩ := h
  refine wpAny_While (codeAny_whileLoop (fun n s' => ∃ σ' H', Inv X pins σ' H' s' ∧ W n σ' H') ?_ m0 ⟨σ, H, I, w0⟩)
  rintro n s1 ⟨σ1, H1, I1, w1⟩
  refine wpAny_passesOwn hp (thn (hc pins s1 σ1 H1 _ I1 (turn n σ1 H1 w1)) fun b s2 ⟨H2, I2, q2⟩ => ?_)
  cases b with
  | true =>
    obtain ⟨N, hN, q2⟩ := q2
    rw [if_pos rfl]
    refine wpAny_passesOwn hp (thn (hb pins s2 σ1 H2 _ I2 q2) fun f s3 q3 => ?_)
    cases f with
    | next =>
      obtain ⟨σ3, H3, I3, n3⟩ := q3
      obtain ⟨m', hm, w3⟩ := hN σ3 H3 n3
      exact ⟨m', hm, σ3, H3, I3, w3⟩
    | cont =>
      obtain ⟨σ3, H3, I3, n3⟩ := q3
      obtain ⟨m', hm, w3⟩ := hN σ3 H3 n3
      exact ⟨m', hm, σ3, H3, I3, w3⟩
    | brk => exact q3
    | ret v => exact q3
  | false =>
    rw [if_neg Bool.false_ne_true]
    exact wpAny_execs_nil ⟨σ1, H2, I2, q2⟩
end

/-! ### what a loop or a comprehension walks -/
/-- at turn i: it yields x (the heap may grow), or it stops -/
structure It where
  go : Nat → Hp → Prop
  yld : Nat → Hp → V → Hp → Prop
  stop : Nat → Hp → Prop
/-- the iterator's own objects may turn: they are not the frame's, not pinned, younger than the entry (or a comprehension's own) -/
def FpOk (X : Cx) (pins : List (Addr × Obj)) (H : Hp) (b : Addr) : Prop :=
  H b = none ∧ b ≠ X.env.locals ∧ b ∉ X.fs ∧ (b ∈ X.ex ∨ X.s₀.heap.objs.size ≤ b) ∧ (∀ x c, X.env.cells.lookup x = some c → c ≠ b) ∧ ∀ p ∈ X.pn ++ pins, p.1 ≠ b
theorem Inv.fpOk {X : Cx} {pins : List (Addr × Obj)} {σ : St} {H H' : Hp} {s : Shared} {b : Addr} (I : Inv X pins σ H s) (hb : s.heap.objs.size ≤ b) (hn : H' b = none) : FpOk X pins H' b := by
  refine ⟨hn, Nat.ne_of_gt (Nat.lt_of_lt_of_le I.lt hb), I.nofs hb, .inr (Nat.le_trans I.sz hb), fun x c e z => ?_, fun p hp z => ?_⟩
  · obtain ⟨v, q⟩ := I.cell x c e
    exact absurd (Nat.lt_of_lt_of_le q.lt (by rw [z]; exact hb)) (Nat.lt_irrefl _)
  · exact absurd (Nat.lt_of_lt_of_le (Heap.lt_size (I.pin p hp).1) (by rw [z]; exact hb)) (Nat.lt_irrefl _)
structure Turn (P : Program) (w : World) (K : PySem.W.Frag) (tg : Expr) (J : It) (fp : List Addr) (it : Addr) (tn : Nat → Heap → Prop) : Prop where
  mem : it ∈ fp
  obj : ∀ i h, tn i h → ∀ b ∈ fp, ∃ o, h.get? b = some o ∧ ∀ v, o.data ≠ .cell v
  keep : ∀ i h h', tn i h → (∀ b ∈ fp, ∀ o, h.get? b = some o → h'.get? b = some o) → tn i h'
  item : ∀ (X : Cx), X.prog = P → X.w = w → X.K = K → X.calm = true → ∀ (i : Nat) (pins : List (Addr × Obj)) (s : Shared) (σ : St) (H : Hp) (E : Value → Shared → Prop), Inv X pins σ H s → (∀ b ∈ fp, FpOk X pins H b) → tn i s.heap → J.go i H →
    wpAny (model P w) X.A (pyNext (.ref it)) (fun r s1 => ∃ u, r = some u ∧
      wpAny (model P w) X.A (letOwnedTupleGo tg (.ref it) u) (fun _ s2 => ∃ x H', Inv X pins σ H' s2 ∧ RelV x u ∧ J.yld i H x H' ∧ tn (i + 1) s2.heap ∧ ∀ b ∈ fp, H' b = none) E s1) E s
  done : ∀ (X : Cx), X.prog = P → X.w = w → X.K = K → X.calm = true → ∀ (i : Nat) (pins : List (Addr × Obj)) (s : Shared) (σ : St) (H : Hp) (E : Value → Shared → Prop), Inv X pins σ H s → (∀ b ∈ fp, FpOk X pins H b) → tn i s.heap → J.stop i H →
    wpAny (model P w) X.A (pyNext (.ref it)) (fun r s1 => r = none ∧ Inv X pins σ H s1) E s
  self : ∀ (A : Around) (i : Nat) (s : Shared) (Q : Value → Shared → Prop) (E : Value → Shared → Prop), tn i s.heap → Q (.ref it) s → wpAny (model P w) A (pyIter (.ref it)) Q E s
abbrev TI := St → Hp → (It → Hp → Prop) → Prop
/-- an iterator has come -/
def PIE (X : Cx) (pins : List (Addr × Obj)) (σ : St) (tg : Expr) (R : It → Hp → Prop) (itv : Value) (s2 : Shared) : Prop :=
  ∃ (it : Addr) (fp : List Addr) (tn : Nat → Heap → Prop) (J : It) (H' : Hp), itv = .ref it ∧ Inv X pins σ H' s2 ∧ Turn X.prog X.w X.K tg J fp it tn ∧ tn 0 s2.heap ∧ (∀ b ∈ fp, FpOk X pins H' b) ∧ R J H'
def PI (X : Cx) (tg iter : Expr) (wi : TI) : Prop :=
  ∀ (pins : List (Addr × Obj)) (s : Shared) (σ : St) (H : Hp) (R : It → Hp → Prop), Inv X pins σ H s → wi σ H R →
    wpAny (model X.prog X.w) X.A (eval iter X.env) (fun v s1 => wpAny (model X.prog X.w) X.A (pyIter v) (PIE X pins σ tg R) X.xe s1) X.xe s

/-- the step ahead of the store is nothing for an iterator that keeps no tuple -/
theorem go_of {M : Model} {A : Around} {E : Value → Shared → Prop} {s : Shared} {tg : Expr} {it : Addr} {u : Value} {o : Obj} {n : String} {vs : Array Value} {Q : Unit → Shared → Prop} (ho : s.heap.get? it = some o) (hc : o.cls = .type n) (hd : o.data = .fields vs)
    (hn : ["enumerate", "zip", "dict_itemiterator", "dict_reverseitemiterator", "odict_iterator", "itertools.zip_longest", "itertools.pairwise"].contains n = false) (hQ : Q () s) : wpAny M A (letOwnedTupleGo tg (.ref it) u) Q E s := by
  unfold letOwnedTupleGo
  cases tg <;> first
    | exact wpAny_pure hQ
    | (cases u <;> first
        | exact wpAny_pure hQ
        | (refine wpAny_bind (wpAny_load ho ?_)
           rw [hc, hd]
           show wpAny M A (if (["enumerate", "zip", "dict_itemiterator", "dict_reverseitemiterator", "odict_iterator", "itertools.zip_longest", "itertools.pairwise"].contains n && vs[0]? == some (rawInt _)) = true then _ else _) Q E s
           rw [if_neg (by intro h; rw [hn, Bool.false_and] at h; cases h)]
           exact wpAny_pure hQ))

/-- the list at a, as it stands at each turn (a loop may append to it) -/
def Itl (K : PySem.W.Frag) (a : Addr) : It :=
  ⟨fun i H => ∃ xs x, SqL K H a xs ∧ xs[i]? = some x, fun i H x H' => H' = H ∧ ∀ xs, SqL K H a xs → xs[i]? = some x, fun i H => ∃ xs, SqL K H a xs ∧ xs.length ≤ i⟩
def Itt (K : PySem.W.Frag) (a : Addr) : It :=
  ⟨fun i H => ∃ xs x, SqT K H a xs ∧ xs[i]? = some x, fun i H x H' => H' = H ∧ ∀ xs, SqT K H a xs → xs[i]? = some x, fun i H => ∃ xs, SqT K H a xs ∧ xs.length ≤ i⟩
/-- lo, lo + 1, .. (n of them) -/
def Itr (lo : Int) (n : Nat) : It := ⟨fun i _ => i < n, fun i H x H' => H' = H ∧ x = .int (lo + i), fun i _ => n ≤ i⟩
theorem turn_list {P : Program} {w : World} {K : PySem.W.Frag} {tg : Expr} (a it : Addr) : Turn P w K tg (Itl K a) [it] it (fun i h => h.IsListIter it a i) where
  mem := by simp
  obj := fun i h st b hb => by
    have e : b = it := by simpa using hb
    subst e
    obtain ⟨o, e, c, d⟩ := st
    exact ⟨o, e, fun v z => by rw [d] at z; cases z⟩
  keep := fun i h h' st k => st.at fun o e => k it (by simp) o e
  item := by
    intro X hP hw hK hc i pins s σ H E I hf st hg
    subst hP hw hK
    obtain ⟨xs, x, hq, hx⟩ := hg
    obtain ⟨its, rv, p, hz⟩ := I.list hq
    obtain ⟨u, hu, ru⟩ := rv.get hx
    obtain ⟨f0, f1, f2, f3, f4, f5⟩ := hf it (by simp)
    refine wpAny_pyNext_list_item st p.isList (x := u) (by simpa using hu) fun h' st' sb => ?_
    have I1 : Inv X pins σ H { s with heap := h' } := I.turned (t' := s.toks) (fun b o hb e => (sb.2 b hb).trans e) f0 f1 f3 f4 f5
    obtain ⟨o, e, c, d⟩ := id st'
    exact ⟨u, rfl, go_of (s := { s with heap := h' }) e c d (by decide) ⟨x, H, I1, ru, ⟨rfl, fun ys hy => by rw [I.list_inj hy hq]; exact hx⟩, st', fun b hb => (hf b hb).1⟩⟩
  done := by
    intro X hP hw hK hc i pins s σ H E I hf st hg
    subst hP hw hK
    obtain ⟨xs, hq, hx⟩ := hg
    obtain ⟨its, rv, p, hz⟩ := I.list hq
    obtain ⟨f0, f1, f2, f3, f4, f5⟩ := hf it (by simp)
    have hl := rv.length
    exact wpAny_pyNext_list_end (I.ok.hd hc) st p.isList (by simp; omega) fun h' eb => ⟨rfl, I.turned (t' := s.toks) (fun b o hb e => eb b o hb e) f0 f1 f3 f4 f5⟩
  self := fun _ _ _ _ _ st h => wpAny_pyIter_listiter st h
theorem turn_tuple {P : Program} {w : World} {K : PySem.W.Frag} {tg : Expr} (a it : Addr) : Turn P w K tg (Itt K a) [it] it (fun i h => h.IsTupleIter it a i) where
  mem := by simp
  obj := fun i h st b hb => by
    have e : b = it := by simpa using hb
    subst e
    obtain ⟨o, e, c, d⟩ := st
    exact ⟨o, e, fun v z => by rw [d] at z; cases z⟩
  keep := fun i h h' st k => st.at fun o e => k it (by simp) o e
  item := by
    intro X hP hw hK hc i pins s σ H E I hf st hg
    subst hP hw hK
    obtain ⟨xs, x, hq, hx⟩ := hg
    obtain ⟨its, rv, p, hz⟩ := I.tuple hq
    obtain ⟨u, hu, ru⟩ := rv.get hx
    obtain ⟨f0, f1, f2, f3, f4, f5⟩ := hf it (by simp)
    refine wpAny_pyNext_tuple_item st (show s.heap.IsTuple a its.toArray from p) (x := u) (by simpa using hu) fun h' st' sb => ?_
    have I1 : Inv X pins σ H { s with heap := h' } := I.turned (t' := s.toks) (fun b o hb e => (sb.2 b hb).trans e) f0 f1 f3 f4 f5
    obtain ⟨o, e, c, d⟩ := id st'
    exact ⟨u, rfl, go_of (s := { s with heap := h' }) e c d (by decide) ⟨x, H, I1, ru, ⟨rfl, fun ys hy => by rw [I.tuple_inj hy hq]; exact hx⟩, st', fun b hb => (hf b hb).1⟩⟩
  done := by
    intro X hP hw hK hc i pins s σ H E I hf st hg
    subst hP hw hK
    obtain ⟨xs, hq, hx⟩ := hg
    obtain ⟨its, rv, p, hz⟩ := I.tuple hq
    obtain ⟨f0, f1, f2, f3, f4, f5⟩ := hf it (by simp)
    have hl := rv.length
    exact wpAny_pyNext_tuple_end (I.ok.hd hc) st (show s.heap.IsTuple a its.toArray from p) (by simp; omega) fun h' eb => ⟨rfl, I.turned (t' := s.toks) (fun b o hb e => eb b o hb e) f0 f1 f3 f4 f5⟩
  self := fun _ _ _ _ _ st h => wpAny_pyIter_tupleiter st h
theorem turn_range {P : Program} {w : World} {K : PySem.W.Frag} {tg : Expr} (it : Addr) (lo : Int) (n : Nat) : Turn P w K tg (Itr lo n) [it] it (fun i h => IsRangeIter h it (lo + (i : Nat) * 1) ((n : Int) - (i : Nat)) 1) where
  mem := by simp
  obj := fun i h st b hb => by
    have e : b = it := by simpa using hb
    subst e
    exact ⟨_, st, fun v z => by
      have z' : Data.fields _ = Data.cell v := z
      cases z'⟩
  keep := fun i h h' st k => k it (by simp) _ st
  item := by
    intro X hP hw hK hc i pins s σ H E I hf st hg
    subst hP hw hK
    obtain ⟨f0, f1, f2, f3, f4, f5⟩ := hf it (by simp)
    have W := Walks.range (prog := X.prog) (w := X.w) (I.ok.hd hc) it lo 1 n
    refine W.item i s _ _ hg st fun v h' tk hv st' kk => ?_
    obtain ⟨t, rfl⟩ := hv
    have I1 : Inv X pins σ H { s with heap := h', toks := tk } := I.turned (fun b o hb e => kk b o (by simpa using hb) e) f0 f1 f3 f4 f5
    refine ⟨_, rfl, go_of (s := { s with heap := h', toks := tk }) (n := "range_iterator") st' rfl rfl (by decide) ⟨.int (lo + i), H, I1, ⟨t, ?_⟩, ⟨rfl, rfl⟩, st', fun b hb => (hf b hb).1⟩⟩
    rw [Int.mul_one]
  done := by
    intro X hP hw hK hc i pins s σ H E I hf st hg
    subst hP hw hK
    obtain ⟨f0, f1, f2, f3, f4, f5⟩ := hf it (by simp)
    exact wpAny_pyNext_range_end (I.ok.hd hc) st (by have : n ≤ i := hg; omega) fun h' eb => ⟨rfl, I.turned (t' := s.toks) (fun b o hb e => eb b o hb e) f0 f1 f3 f4 f5⟩
  self := fun _ _ _ _ _ st h => wpAny_pyIter_rangeiter st h
end L2

namespace L2
open PySem PySem.Spec PyProof.Rows
section
variable {X : Cx} {tg : Expr}
def iList (K : PySem.W.Frag) (tl : TE) : TI := fun σ H R => tl σ H fun x H1 => ∃ a, x = .ref a ∧ (∃ xs, SqL K H1 a xs) ∧ R (Itl K a) H1
def iTup (K : PySem.W.Frag) (tl : TE) : TI := fun σ H R => tl σ H fun x H1 => ∃ a, x = .ref a ∧ (∃ xs, SqT K H1 a xs) ∧ R (Itt K a) H1
theorem pi_list {l : Expr} {tl : TE} (hl : PE X l tl) : PI X tg l (iList X.K tl) := by
  intro pins s σ H R I h
  refine thn (hl pins s σ H _ I h) fun v s1 ⟨x, H1, I1, r1, q1⟩ => ?_
  obtain ⟨a, e, ⟨xs, hq⟩, q⟩ := q1
  subst e
  cases r1
  obtain ⟨its, rv, p, hz⟩ := I1.list hq
  refine wpAny_pyIter_list p.isList ?_
  refine ⟨s1.heap.objs.size, [s1.heap.objs.size], _, _, H1, rfl, I1.kept (t' := s1.toks) fun b o e => Heap.get?_push_of_some _ e, turn_list a _, ⟨_, Heap.get?_push_size _ rfl, rfl, rfl⟩, fun b hb => ?_, q⟩
  have e : b = s1.heap.objs.size := by simpa using hb
  subst e
  exact I1.fpOk (Nat.le_refl _) (I1.hok.fresh (Nat.le_refl _))
theorem pi_tup {l : Expr} {tl : TE} (hl : PE X l tl) : PI X tg l (iTup X.K tl) := by
  intro pins s σ H R I h
  refine thn (hl pins s σ H _ I h) fun v s1 ⟨x, H1, I1, r1, q1⟩ => ?_
  obtain ⟨a, e, ⟨xs, hq⟩, q⟩ := q1
  subst e
  cases r1
  obtain ⟨its, rv, p, hz⟩ := I1.tuple hq
  refine wpAny_pyIter_tuple (show s1.heap.IsTuple a its.toArray from p) ?_
  refine ⟨s1.heap.objs.size, [s1.heap.objs.size], _, _, H1, rfl, I1.kept (t' := s1.toks) fun b o e => Heap.get?_push_of_some _ e, turn_tuple a _, ⟨_, Heap.get?_push_size _ rfl, rfl, rfl⟩, fun b hb => ?_, q⟩
  have e : b = s1.heap.objs.size := by simpa using hb
  subst e
  exact I1.fpOk (Nat.le_refl _) (I1.hok.fresh (Nat.le_refl _))
/-- a range object just made, walked -/
theorem range_it {pins : List (Addr × Obj)} {σ : St} {H : Hp} {s : Shared} {R : It → Hp → Prop} {E : Value → Shared → Prop} {lo hi : Int} {t u v : Tok} {tk : Nat} (I : Inv X pins σ H s) (h1 : -(2 ^ 62) ≤ lo) (h2 : lo < 2 ^ 62) (h3 : -(2 ^ 62) ≤ hi) (h4 : hi < 2 ^ 62)
    (q : R (Itr lo (hi - lo).toNat) H) : wpAny (model X.prog X.w) X.A (pyIter (.ref s.heap.objs.size)) (PIE X pins σ tg R) E { s with heap := s.heap.push { cls := .type "range", data := .fields #[.int lo t, .int hi u, .int 1 v] }, toks := tk } := by
  refine wpAny_pyIter_range (IsRange.new ..) (small_one h1 h2 h3 h4) ?_
  have I1 : Inv X pins σ H { s with heap := s.heap.push { cls := .type "range", data := .fields #[.int lo t, .int hi u, .int 1 v] }, toks := tk } := I.kept fun b o e => Heap.get?_push_of_some _ e
  refine ⟨(s.heap.push { cls := .type "range", data := .fields #[.int lo t, .int hi u, .int 1 v] }).objs.size, [(s.heap.push { cls := .type "range", data := .fields #[.int lo t, .int hi u, .int 1 v] }).objs.size], _, _, H, rfl,
    I1.kept (t' := tk) fun b o e => Heap.get?_push_of_some _ e, turn_range _ lo (hi - lo).toNat, ?_, fun b hb => ?_, q⟩
  · have e1 : lo + ((0 : Nat) : Int) * 1 = lo := by simp
    have e2 : (((hi - lo).toNat : Nat) : Int) - ((0 : Nat) : Int) = Builtin.Range.rangeSize lo hi 1 := by rw [rangeSize_one]; split <;> omega
    show IsRangeIter _ _ (lo + ((0 : Nat) : Int) * 1) ((((hi - lo).toNat : Nat) : Int) - ((0 : Nat) : Int)) 1
    rw [e1, e2]
    exact Heap.get?_push_size _ rfl
  · have e : b = (s.heap.push { cls := .type "range", data := .fields #[.int lo t, .int hi u, .int 1 v] }).objs.size := by simpa using hb
    subst e
    exact I1.fpOk (Nat.le_refl _) (I1.hok.fresh (Nat.le_refl _))
def iRng1 (ta : TA) : TI := fun σ H R => ta σ H fun vs H1 => ∃ j : Int, vs = [.int j] ∧ -(2 ^ 62) ≤ j ∧ j < 2 ^ 62 ∧ R (Itr 0 j.toNat) H1
def iRng2 (ta : TA) : TI := fun σ H R => ta σ H fun vs H1 => ∃ i j : Int, vs = [.int i, .int j] ∧ (-(2 ^ 62) ≤ i ∧ i < 2 ^ 62 ∧ -(2 ^ 62) ≤ j ∧ j < 2 ^ 62) ∧ R (Itr i (j - i).toNat) H1
theorem pi_range1 {a : Expr} {ta : TA} {p pos : Pos} (hg : Gl X "range") (hm : X.mg "range" = none) (ha : PA X [a] ta) (hs : starEach [a] X.env = [(false, eval a X.env)] := by rfl) : PI X tg (.Call (.Name "range" p) [a] [] pos) (iRng1 ta) := by
  intro pins s σ H R I h
  refine Call_ (ld_blt I hg hm boot_range (PyProof.Rows.callWith_type1 (thn (ha pos pins s σ H _ I h) fun us s1 ⟨vs, H1, I1, r1, q1⟩ => ?_) hs rfl))
  obtain ⟨j, e, q1, q2, q⟩ := q1
  subst e
  cases r1 with
  | cons r rr =>
    cases rr
    obtain ⟨t, rfl⟩ := r
    exact call_range_1 (range_it I1 (by omega) (by omega) q1 q2 (by simpa using q))
theorem pi_range2 {a b : Expr} {ta : TA} {p pos : Pos} (hg : Gl X "range") (hm : X.mg "range" = none) (ha : PA X [a, b] ta) (hs : starEach [a, b] X.env = [(false, eval a X.env), (false, eval b X.env)] := by rfl) (hs2 : starEach [b] X.env = [(false, eval b X.env)] := by rfl) :
    PI X tg (.Call (.Name "range" p) [a, b] [] pos) (iRng2 ta) := by
  intro pins s σ H R I h
  refine Call_ (ld_blt I hg hm boot_range (PyProof.Rows.callWith_type1 (thn (ha pos pins s σ H _ I h) fun us s1 ⟨vs, H1, I1, r1, q1⟩ => ?_) (by rw [hs, hs2]) (by rw [hs2]; rfl)))
  obtain ⟨i, j, e, ⟨q1, q2, q3, q4⟩, q⟩ := q1
  subst e
  cases r1 with
  | cons r rr =>
    cases rr with
    | cons r' rr =>
      cases rr
      obtain ⟨t, rfl⟩ := r
      obtain ⟨t', rfl⟩ := r'
      exact call_range_2 (range_it I1 q1 q2 q3 q4 q)

/-! ### for -/
/-- W: the invariant by the turn and a measure; N: what the body is to reach -/
def tFor (wi : TI) (g : TG) (tb : TS) : TS := fun D σ H => wi σ H fun J H1 => ∃ W : Nat → Nat → St → Hp → Prop, (∃ m, W 0 m σ H1) ∧ ∀ i m σ H, W i m σ H →
  (J.stop i H ∧ D.nx σ H) ∨ (J.go i H ∧ ∃ N : St → Hp → Prop, (∀ σ' H', N σ' H' → ∃ m', m' < m ∧ W (i + 1) m' σ' H') ∧ ∀ x H', J.yld i H x H' → g x σ H' fun σ2 H2 => tb { D with nx := N, ct := N, bk := D.nx } σ2 H2)
/-- the records at fp as they stand -/
def pinsAt (fp : List Addr) (h : Heap) : List (Addr × Obj) := fp.filterMap fun b => (h.get? b).map fun o => (b, o)
theorem mem_pinsAt {fp : List Addr} {h : Heap} {b : Addr} {o : Obj} (hb : b ∈ fp) (e : h.get? b = some o) : (b, o) ∈ pinsAt fp h := List.mem_filterMap.mpr ⟨b, hb, by rw [e]; rfl⟩
theorem of_pinsAt {fp : List Addr} {h : Heap} {p : Addr × Obj} (hp : p ∈ pinsAt fp h) : p.1 ∈ fp ∧ h.get? p.1 = some p.2 := by
  obtain ⟨b, hb, e⟩ := List.mem_filterMap.mp hp
  cases q : h.get? b with
  | none => rw [q] at e; cases e
  | some o =>
    rw [q] at e
    have e' : (b, o) = p := Option.some.inj e
    subst e'
    exact ⟨hb, q⟩
theorem Inv.pinned {pins : List (Addr × Obj)} {σ : St} {H : Hp} {s : Shared} {fp : List Addr} (I : Inv X pins σ H s) (hf : ∀ b ∈ fp, FpOk X pins H b) (ho : ∀ b ∈ fp, ∃ o, s.heap.get? b = some o ∧ ∀ v, o.data ≠ .cell v) : Inv X (pins ++ pinsAt fp s.heap) σ H s :=
  I.pins_of fun p hp => (List.mem_append.mp hp).elim (fun z => I.pin p (List.mem_append_right _ z)) fun z => by
    obtain ⟨hb, e⟩ := of_pinsAt z
    obtain ⟨f0, f1, f2, _⟩ := hf p.1 hb
    obtain ⟨o, e', d⟩ := ho p.1 hb
    rw [e] at e'; cases e'
    exact ⟨e, f0, f1, f2, d⟩
theorem Inv.unpinned {pins pl : List (Addr × Obj)} {σ : St} {H : Hp} {s : Shared} (I : Inv X (pins ++ pl) σ H s) : Inv X pins σ H s := I.pins_of fun p hp => I.pin p (List.mem_append_right _ (List.mem_append_left _ hp))
theorem ps_for {iter : Expr} {body : List Stmt} {wi : TI} {g : TG} {tb : TS} {pos : Pos} (hp : PassesOwn (model X.prog X.w) X.A X.env X.xe) (hc : X.calm = true) (hi : PI X tg iter wi) (hg : PG X tg g) (hb : PSs X body tb)
    (hs : ∀ x, foldedSetIterable iter X.env x = pure x := by intro _; rfl) : PS X (.For tg iter body [] pos) (tFor wi g tb) := by
  intro pins s σ H D I h
  refine wpAny_For (thn (hi pins s σ H _ I h) fun v s1 h1 => thn h1 fun itv s2 h2 => ?_) hs
  obtain ⟨it, fp, tn, J, H2, e, I2, T, st2, f2, W, ⟨m0, w0⟩, turn⟩ := h2
  subst e
  -- what stays true of the iterator's objects through the loop
  have stat : ∀ {H' : Hp}, (∀ b ∈ fp, H' b = none) → ∀ b ∈ fp, FpOk X pins H' b := fun hn b hb => ⟨hn b hb, (f2 b hb).2⟩
  refine codeAny_forLoop_any (fun n s' => ∃ i σ' H', Inv X pins σ' H' s' ∧ tn i s'.heap ∧ (∀ b ∈ fp, H' b = none) ∧ W i n σ' H') ?_ m0 ⟨0, σ, H2, I2, st2, fun b hb => (f2 b hb).1, w0⟩
  rintro n s3 ⟨i, σ3, H3, I3, st3, fr3, w3⟩
  rcases turn i n σ3 H3 w3 with ⟨stop, qn⟩ | ⟨go, N, hN, step⟩
  · refine wpAny_passesOwn hp (thn (T.done X rfl rfl rfl hc i pins s3 σ3 H3 X.xe I3 (stat fr3) st3 stop) fun r s4 ⟨hr, I4⟩ => ?_)
    subst hr
    exact wpAny_execs_nil ⟨σ3, H3, I4, qn⟩
  · refine wpAny_passesOwn hp (thn (T.item X rfl rfl rfl hc i pins s3 σ3 H3 X.xe I3 (stat fr3) st3 go) fun r s4 ⟨u, hr, h4⟩ => ?_)
    subst hr
    refine wpAny_passesOwn hp (thn h4 fun _ s5 ⟨x, H5, I5, r5, y5, st5, fr5⟩ => ?_)
    have I5' := I5.pinned (stat fr5) (T.obj _ _ st5)
    refine wpAny_passesOwn hp (thn (hg _ s5 σ3 H5 x u _ I5' r5 (step x H5 y5)) fun _ s6 ⟨σ6, H6, I6, q6⟩ => ?_)
    refine wpAny_passesOwn hp (thn (hb _ s6 σ6 H6 _ I6 q6) fun f s7 q7 => ?_)
    have again : ∀ {σ7 : St} {H7 : Hp}, Inv X (pins ++ pinsAt fp s5.heap) σ7 H7 s7 → N σ7 H7 → ∃ m, m < n ∧ ∃ i σ' H', Inv X pins σ' H' s7 ∧ tn i s7.heap ∧ (∀ b ∈ fp, H' b = none) ∧ W i m σ' H' := fun {σ7 H7} I7 n7 => by
      obtain ⟨m', hm, w7⟩ := hN σ7 H7 n7
      refine ⟨m', hm, i + 1, σ7, H7, I7.unpinned, T.keep _ _ _ st5 fun b hb o e => (I7.pin (b, o) (List.mem_append_right _ (List.mem_append_right _ (mem_pinsAt hb e)))).1, fun b hb => ?_, w7⟩
      obtain ⟨o, e, d⟩ := T.obj _ _ st5 b hb
      exact (I7.pin (b, o) (List.mem_append_right _ (List.mem_append_right _ (mem_pinsAt hb e)))).2.1
    cases f with
    | next => obtain ⟨σ7, H7, I7, n7⟩ := q7; exact again I7 n7
    | cont => obtain ⟨σ7, H7, I7, n7⟩ := q7; exact again I7 n7
    | brk => obtain ⟨σ7, H7, I7, q7⟩ := q7; exact ⟨σ7, H7, I7.unpinned, q7⟩
    | ret v => obtain ⟨x7, σ7, H7, I7, r7, q7⟩ := q7; exact ⟨x7, σ7, H7, I7.unpinned, r7, q7⟩
end

/-! ### the forms one uses -/
/-- over a list that the body leaves as it is -/
theorem for_list {K : PySem.W.Frag} {a : Addr} {xs : List V} {g : TG} {tb : TS} {D : Ends} {σ : St} {H : Hp} (Pv : Nat → St → Hp → Prop) (h0 : Pv 0 σ H) (hl : ∀ i σ H, i ≤ xs.length → Pv i σ H → SqL K H a xs)
    (hs : ∀ i x σ H, xs[i]? = some x → Pv i σ H → g x σ H fun σ2 H2 => tb { D with nx := Pv (i + 1), ct := Pv (i + 1), bk := D.nx } σ2 H2) (hd : ∀ σ H, Pv xs.length σ H → D.nx σ H) :
    ∃ W : Nat → Nat → St → Hp → Prop, (∃ m, W 0 m σ H) ∧ ∀ i m σ H, W i m σ H →
      ((Itl K a).stop i H ∧ D.nx σ H) ∨ ((Itl K a).go i H ∧ ∃ N : St → Hp → Prop, (∀ σ' H', N σ' H' → ∃ m', m' < m ∧ W (i + 1) m' σ' H') ∧ ∀ x H', (Itl K a).yld i H x H' → g x σ H' fun σ2 H2 => tb { D with nx := N, ct := N, bk := D.nx } σ2 H2) := by
  refine ⟨fun i m σ H => m = xs.length - i ∧ i ≤ xs.length ∧ Pv i σ H, ⟨xs.length, by simp, Nat.zero_le _, h0⟩, ?_⟩
  rintro i m σ H ⟨rfl, hi, p⟩
  have q := hl i σ H hi p
  by_cases hlt : i < xs.length
  · refine .inr ⟨⟨xs, xs[i], q, by simp [hlt]⟩, Pv (i + 1), fun σ' H' p' => ⟨xs.length - (i + 1), by omega, rfl, hlt, p'⟩, fun x H' y => ?_⟩
    obtain ⟨e, y⟩ := y
    subst e
    exact hs i x σ _ (y xs q) p
  · have e : i = xs.length := by omega
    subst e
    exact .inl ⟨⟨xs, q, Nat.le_refl _⟩, hd σ H p⟩
theorem for_tup {K : PySem.W.Frag} {a : Addr} {xs : List V} {g : TG} {tb : TS} {D : Ends} {σ : St} {H : Hp} (Pv : Nat → St → Hp → Prop) (h0 : Pv 0 σ H) (hl : ∀ i σ H, i ≤ xs.length → Pv i σ H → SqT K H a xs)
    (hs : ∀ i x σ H, xs[i]? = some x → Pv i σ H → g x σ H fun σ2 H2 => tb { D with nx := Pv (i + 1), ct := Pv (i + 1), bk := D.nx } σ2 H2) (hd : ∀ σ H, Pv xs.length σ H → D.nx σ H) :
    ∃ W : Nat → Nat → St → Hp → Prop, (∃ m, W 0 m σ H) ∧ ∀ i m σ H, W i m σ H →
      ((Itt K a).stop i H ∧ D.nx σ H) ∨ ((Itt K a).go i H ∧ ∃ N : St → Hp → Prop, (∀ σ' H', N σ' H' → ∃ m', m' < m ∧ W (i + 1) m' σ' H') ∧ ∀ x H', (Itt K a).yld i H x H' → g x σ H' fun σ2 H2 => tb { D with nx := N, ct := N, bk := D.nx } σ2 H2) := by
  refine ⟨fun i m σ H => m = xs.length - i ∧ i ≤ xs.length ∧ Pv i σ H, ⟨xs.length, by simp, Nat.zero_le _, h0⟩, ?_⟩
  rintro i m σ H ⟨rfl, hi, p⟩
  have q := hl i σ H hi p
  by_cases hlt : i < xs.length
  · refine .inr ⟨⟨xs, xs[i], q, by simp [hlt]⟩, Pv (i + 1), fun σ' H' p' => ⟨xs.length - (i + 1), by omega, rfl, hlt, p'⟩, fun x H' y => ?_⟩
    obtain ⟨e, y⟩ := y
    subst e
    exact hs i x σ _ (y xs q) p
  · have e : i = xs.length := by omega
    subst e
    exact .inl ⟨⟨xs, q, Nat.le_refl _⟩, hd σ H p⟩
theorem for_range {lo : Int} {n : Nat} {g : TG} {tb : TS} {D : Ends} {σ : St} {H : Hp} (Pv : Nat → St → Hp → Prop) (h0 : Pv 0 σ H)
    (hs : ∀ i σ H, i < n → Pv i σ H → g (.int (lo + i)) σ H fun σ2 H2 => tb { D with nx := Pv (i + 1), ct := Pv (i + 1), bk := D.nx } σ2 H2) (hd : ∀ σ H, Pv n σ H → D.nx σ H) :
    ∃ W : Nat → Nat → St → Hp → Prop, (∃ m, W 0 m σ H) ∧ ∀ i m σ H, W i m σ H →
      ((Itr lo n).stop i H ∧ D.nx σ H) ∨ ((Itr lo n).go i H ∧ ∃ N : St → Hp → Prop, (∀ σ' H', N σ' H' → ∃ m', m' < m ∧ W (i + 1) m' σ' H') ∧ ∀ x H', (Itr lo n).yld i H x H' → g x σ H' fun σ2 H2 => tb { D with nx := N, ct := N, bk := D.nx } σ2 H2) := by
  refine ⟨fun i m σ H => m = n - i ∧ i ≤ n ∧ Pv i σ H, ⟨n, by simp, Nat.zero_le _, h0⟩, ?_⟩
  rintro i m σ H ⟨rfl, hi, p⟩
  by_cases hlt : i < n
  · refine .inr ⟨hlt, Pv (i + 1), fun σ' H' p' => ⟨n - (i + 1), by omega, rfl, hlt, p'⟩, fun x H' y => ?_⟩
    obtain ⟨e, y⟩ := y
    subst e y
    exact hs i σ _ hlt p
  · have e : i = n := by omega
    subst e
    exact .inl ⟨Nat.le_refl _, hd σ H p⟩
/-- while, by a word and a measure of the state -/
theorem while_by {c : TT} {tb : TS} {D : Ends} {σ : St} {H : Hp} (Pv : St → Hp → Prop) (μ : St → Hp → Nat) (h0 : Pv σ H)
    (hs : ∀ σ H, Pv σ H → c σ H fun b H1 => if b = true then tb { D with nx := fun σ' H' => Pv σ' H' ∧ μ σ' H' < μ σ H, ct := fun σ' H' => Pv σ' H' ∧ μ σ' H' < μ σ H, bk := D.nx } σ H1 else D.nx σ H1)
    (mono : ∀ σ H Q Q', (∀ b H1, Q b H1 → Q' b H1) → c σ H Q → c σ H Q') : tWhile c tb D σ H := by
  refine ⟨fun m σ H => m = μ σ H ∧ Pv σ H, ⟨_, rfl, h0⟩, ?_⟩
  rintro m σ H ⟨rfl, p⟩
  refine mono σ H _ _ (fun b H1 q => ?_) (hs σ H p)
  cases b with
  | true => exact ⟨_, fun σ' H' ⟨p', l⟩ => ⟨_, l, rfl, p'⟩, q⟩
  | false => exact q
end L2

namespace L2
open PySem PySem.Spec PyProof.Rows

abbrev R2 := V → V → Hp → VK → Prop
/-- a two-place operation on values: f is binaryOp op, inplaceOp op or compareOp op -/
def OpR (X : Cx) (f : Value → Value → Sem Value) (r : R2) : Prop :=
  ∀ (pins : List (Addr × Obj)) (s : Shared) (σ : St) (H : Hp) (x y : V) (v u : Value) (Q : VK), Inv X pins σ H s → RelV x v → RelV y u → r x y H Q →
    wpAny (model X.prog X.w) X.A (f v u) (EP X pins σ Q) X.xe s
/-- a one-place operation -/
def UnR (X : Cx) (f : Value → Sem Value) (r : V → Hp → VK → Prop) : Prop :=
  ∀ (pins : List (Addr × Obj)) (s : Shared) (σ : St) (H : Hp) (x : V) (v : Value) (Q : VK), Inv X pins σ H s → RelV x v → r x H Q →
    wpAny (model X.prog X.w) X.A (f v) (EP X pins σ Q) X.xe s
/-- a call of a value that is known (a builtin, a type) with values -/
def CallR (X : Cx) (f : Value) (r : List V → Hp → VK → Prop) : Prop :=
  ∀ (pins : List (Addr × Obj)) (s : Shared) (σ : St) (H : Hp) (xs : List V) (us : List Value) (Q : VK), Inv X pins σ H s → Vals xs us → r xs H Q →
    wpAny (model X.prog X.w) X.A (call f us) (EP X pins σ Q) X.xe s
/-- a value's truth -/
def TruR (X : Cx) (r : V → Hp → (Bool → Hp → Prop) → Prop) : Prop :=
  ∀ (pins : List (Addr × Obj)) (s : Shared) (σ : St) (H : Hp) (x : V) (v : Value) (Q : Bool → Hp → Prop), Inv X pins σ H s → RelV x v → r x H Q →
    wpAny (model X.prog X.w) X.A (truthy v) (TP X pins σ Q) X.xe s

def tOp (r : R2) (ta tb : TE) : TE := fun σ H Q => ta σ H fun x H1 => tb σ H1 fun y H2 => r x y H2 Q
def tUn (r : V → Hp → VK → Prop) (ta : TE) : TE := fun σ H Q => ta σ H fun x H1 => r x H1 Q
/-- ints in, under C, and a value out -/
def rI (C : Int → Int → Prop) (g : Int → Int → V) : R2 := fun x y H Q => ∃ i j, x = .int i ∧ y = .int j ∧ C i j ∧ Q (g i j) H
def rI0 (g : Int → Int → V) : R2 := fun x y H Q => ∃ i j, x = .int i ∧ y = .int j ∧ Q (g i j) H
def rU (g : Int → V) : V → Hp → VK → Prop := fun x H Q => ∃ i, x = .int i ∧ Q (g i) H

section
variable {X : Cx} {a b c : Expr} {ta tb tc : TE} {pos : Pos}

theorem binT (ha : PE X a ta) (hb : PE X b tb) {pins : List (Addr × Obj)} {s : Shared} {σ : St} {H : Hp} {R : V → V → Hp → Prop} (I : Inv X pins σ H s)
    (h : ta σ H fun x H1 => tb σ H1 fun y H2 => R x y H2) {Q : Value → Shared → Prop} {f : Value → Value → Sem Value}
    (hf : ∀ v u s2 x y H2, Inv X pins σ H2 s2 → RelV x v → RelV y u → R x y H2 → wpAny (model X.prog X.w) X.A (f v u) Q X.xe s2) :
    wpAny (model X.prog X.w) X.A (eval a X.env) (fun v s₁ => wpAny (model X.prog X.w) X.A (eval b X.env) (fun u s₂ => wpAny (model X.prog X.w) X.A (f v u) Q X.xe s₂) X.xe s₁) X.xe s := by
  refine thn (ha pins s σ H _ I h) fun v s1 ⟨x, H1, I1, r1, q1⟩ => ?_
  refine thn (hb pins s1 σ H1 _ I1 q1) fun u s2 ⟨y, H2, I2, r2, q2⟩ => ?_
  exact hf v u s2 x y H2 I2 r1 r2 q2

theorem pe_op {op : Operator} {r : R2} (ho : OpR X (binaryOp op) r) (ha : PE X a ta) (hb : PE X b tb) : PE X (.BinOp a op b pos) (tOp r ta tb) := by
  intro pins s σ H Q I h
  exact wpAny_BinOp (binT ha hb I h fun v u s2 x y H2 I2 rx ry q => ho pins s2 σ H2 x y v u Q I2 rx ry q)
theorem pe_un {op : UnaryOp} {r : V → Hp → VK → Prop} (ho : UnR X (unaryOp op) r) (ha : PE X a ta) : PE X (.UnaryOp op a pos) (tUn r ta) := by
  intro pins s σ H Q I h
  exact UnaryOp_ (thn (ha pins s σ H _ I h) fun v s1 ⟨x, H1, I1, r1, q1⟩ => ho pins s1 σ H1 x v Q I1 r1 q1)
/-- a op= e at a name: the name's slot i -/
theorem augR {op : Operator} {r : R2} (ho : OpR X (inplaceOp op) r) {pins : List (Addr × Obj)} {s : Shared} {σ : St} {H : Hp} {x y : V} {v u : Value} {Q : VK} (I : Inv X pins σ H s)
    (rx : RelV x v) (ry : RelV y u) (q : r x y H Q) : wpAny (model X.prog X.w) X.A (inplaceOp op v u) (EP X pins σ Q) X.xe s := ho pins s σ H x y v u Q I rx ry q

/-! ### ints -/
theorem opI {f : Value → Value → Sem Value} {C : Int → Int → Prop} {g : Int → Int → Int}
    (rule : ∀ (i j : Int) (t u : Tok) (s : Shared) (Q : Value → Shared → Prop) (E : Value → Shared → Prop), C i j → Q (.int (g i j) s.toks) { s with toks := s.toks + 1 } → wpAny (model X.prog X.w) X.A (f (.int i t) (.int j u)) Q E s) :
    OpR X f (rI C fun i j => .int (g i j)) := by
  intro pins s σ H x y v u Q I rx ry h
  obtain ⟨i, j, rfl, rfl, hc, q⟩ := h
  obtain ⟨t, rfl⟩ := rx
  obtain ⟨t', rfl⟩ := ry
  exact rule i j t t' s _ _ hc ⟨.int (g i j), H, I.tok _, ⟨_, rfl⟩, q⟩
theorem opI0 {f : Value → Value → Sem Value} {g : Int → Int → Int}
    (rule : ∀ (i j : Int) (t u : Tok) (s : Shared) (Q : Value → Shared → Prop) (E : Value → Shared → Prop), Q (.int (g i j) s.toks) { s with toks := s.toks + 1 } → wpAny (model X.prog X.w) X.A (f (.int i t) (.int j u)) Q E s) :
    OpR X f (rI0 fun i j => .int (g i j)) := by
  intro pins s σ H x y v u Q I rx ry h
  obtain ⟨i, j, rfl, rfl, q⟩ := h
  obtain ⟨t, rfl⟩ := rx
  obtain ⟨t', rfl⟩ := ry
  exact rule i j t t' s _ _ ⟨.int (g i j), H, I.tok _, ⟨_, rfl⟩, q⟩
theorem opB0 {f : Value → Value → Sem Value} {g : Int → Int → Bool}
    (rule : ∀ (i j : Int) (t u : Tok) (s : Shared) (Q : Value → Shared → Prop) (E : Value → Shared → Prop), Q (.bool (g i j)) s → wpAny (model X.prog X.w) X.A (f (.int i t) (.int j u)) Q E s) :
    OpR X f (rI0 fun i j => .bl (g i j)) := by
  intro pins s σ H x y v u Q I rx ry h
  obtain ⟨i, j, rfl, rfl, q⟩ := h
  obtain ⟨t, rfl⟩ := rx
  obtain ⟨t', rfl⟩ := ry
  exact rule i j t t' s _ _ ⟨.bl (g i j), H, I, rfl, q⟩

def CDiv (i j : Int) : Prop := 0 < j ∧ j < 1073741824
def CDivN (i j : Int) : Prop := j ≠ 0 ∧ j.natAbs < 1073741824
def CPow (i j : Int) : Prop := 0 ≤ j ∧ j ≤ 1000000 ∧ i.natAbs < 2 ^ 64
def CMul (i j : Int) : Prop := (-(2 ^ 64) < i ∧ i < 2 ^ 64) ∨ (-(2 ^ 64) < j ∧ j < 2 ^ 64)
theorem CMul.ok {i j : Int} (h : CMul i j) : IntMulOk i j := by
  rcases h with ⟨h1, h2⟩ | ⟨h1, h2⟩
  · exact .of_left (intBits_le_64 h1 h2)
  · exact .of_right (intBits_le_64 h1 h2)
theorem two_pow_nn (k : Nat) : (0 : Int) ≤ 2 ^ k := by
  rw [two_pow_cast]
  exact Int.natCast_nonneg _

theorem op_add : OpR X (binaryOp .Add) (rI0 fun i j => .int (i + j)) := opI0 fun _ _ _ _ _ _ _ q => add_int q
theorem op_sub : OpR X (binaryOp .Sub) (rI0 fun i j => .int (i - j)) := opI0 fun _ _ _ _ _ _ _ q => sub_int q
theorem op_mul : OpR X (binaryOp .Mult) (rI CMul fun i j => .int (i * j)) := opI fun _ _ _ _ _ _ _ hc q => mul_int q hc.ok
/-- // by a positive divisor -/
theorem op_fdiv : OpR X (binaryOp .FloorDiv) (rI CDiv fun i j => .int (i / j)) := opI fun i j _ _ _ _ _ hc q => by
  have h1 : (0 : Int) < j := hc.1
  have h2 : j < 1073741824 := hc.2
  exact floordiv_int (by omega) (by rw [Int.fdiv_eq_ediv_of_nonneg i (by omega)]; exact q) (.inl (PyProof.noPylong_small (by omega)))
theorem op_fdivN : OpR X (binaryOp .FloorDiv) (rI CDivN fun i j => .int (i.fdiv j)) := opI fun _ _ _ _ _ _ _ hc q => floordiv_int hc.1 q (.inl (PyProof.noPylong_small hc.2))
/-- % by a positive divisor of any size -/
theorem op_mod : OpR X (binaryOp .Mod) (rI (fun _ j => 0 < j) fun i j => .int (i % j)) := opI fun i j _ _ _ _ _ hc q => by
  have h1 : (0 : Int) < j := hc
  exact mod_int' (by omega) (by rw [Int.fmod_eq_emod_of_nonneg i (by omega)]; exact q)
theorem op_modN : OpR X (binaryOp .Mod) (rI (fun _ j => j ≠ 0) fun i j => .int (i.fmod j)) := opI fun _ _ _ _ _ _ _ hc q => mod_int' hc q
theorem op_pow : OpR X (binaryOp .Pow) (rI CPow fun i j => .int (i ^ j.toNat)) := opI fun _ _ _ _ _ _ _ hc q => pow_int_small hc.1 hc.2.1 hc.2.2 q
theorem op_shl : OpR X (binaryOp .LShift) (rI CPow fun i j => .int (i * 2 ^ j.toNat)) := opI fun _ _ _ _ _ _ _ hc q => lshift_int_small hc.1 hc.2.1 hc.2.2 q
theorem op_shr : OpR X (binaryOp .RShift) (rI (fun _ j => 0 ≤ j) fun i j => .int (i / 2 ^ j.toNat)) := opI fun i j _ _ _ _ _ hc q =>
  rshift_int hc (by rw [Int.fdiv_eq_ediv_of_nonneg i (two_pow_nn _)]; exact q)
theorem op_and : OpR X (binaryOp .BitAnd) (rI0 fun i j => .int (Builtin.bitAnd i j)) := opI0 fun _ _ _ _ _ _ _ q => and_int q
theorem op_or : OpR X (binaryOp .BitOr) (rI0 fun i j => .int (Builtin.bitOr i j)) := opI0 fun _ _ _ _ _ _ _ q => or_int q
theorem op_xor : OpR X (binaryOp .BitXor) (rI0 fun i j => .int (Builtin.bitXor i j)) := opI0 fun _ _ _ _ _ _ _ q => xor_int q

theorem iop_add : OpR X (inplaceOp .Add) (rI0 fun i j => .int (i + j)) := opI0 fun _ _ _ _ _ _ _ q => iadd_int q
theorem iop_sub : OpR X (inplaceOp .Sub) (rI0 fun i j => .int (i - j)) := opI0 fun _ _ _ _ _ _ _ q => isub_int q
theorem iop_mul : OpR X (inplaceOp .Mult) (rI CMul fun i j => .int (i * j)) := opI fun _ _ _ _ _ _ _ hc q => imul_int q hc.ok
theorem iop_fdiv : OpR X (inplaceOp .FloorDiv) (rI CDiv fun i j => .int (i / j)) := opI fun i j _ _ _ _ _ hc q => by
  have h1 : (0 : Int) < j := hc.1
  have h2 : j < 1073741824 := hc.2
  exact ifloordiv_int (by omega) (by rw [Int.fdiv_eq_ediv_of_nonneg i (by omega)]; exact q) (.inl (PyProof.noPylong_small (by omega)))
theorem iop_mod : OpR X (inplaceOp .Mod) (rI (fun _ j => 0 < j) fun i j => .int (i % j)) := opI fun i j _ _ _ _ _ hc q => by
  have h1 : (0 : Int) < j := hc
  exact imod_int (by omega) (by rw [Int.fmod_eq_emod_of_nonneg i (by omega)]; exact q)
theorem iop_shl : OpR X (inplaceOp .LShift) (rI CPow fun i j => .int (i * 2 ^ j.toNat)) := opI fun _ _ _ _ _ _ _ hc q => ilshift_int_small hc.1 hc.2.1 hc.2.2 q
theorem iop_shr : OpR X (inplaceOp .RShift) (rI (fun _ j => 0 ≤ j) fun i j => .int (i / 2 ^ j.toNat)) := opI fun i j _ _ _ _ _ hc q =>
  irshift_int hc (by rw [Int.fdiv_eq_ediv_of_nonneg i (two_pow_nn _)]; exact q)
theorem iop_and : OpR X (inplaceOp .BitAnd) (rI0 fun i j => .int (Builtin.bitAnd i j)) := opI0 fun _ _ _ _ _ _ _ q => iand_int q
theorem iop_or : OpR X (inplaceOp .BitOr) (rI0 fun i j => .int (Builtin.bitOr i j)) := opI0 fun _ _ _ _ _ _ _ q => ior_int q
theorem iop_xor : OpR X (inplaceOp .BitXor) (rI0 fun i j => .int (Builtin.bitXor i j)) := opI0 fun _ _ _ _ _ _ _ q => ixor_int q

theorem unI {f : Value → Sem Value} {g : Int → Int}
    (rule : ∀ (i : Int) (t : Tok) (s : Shared) (Q : Value → Shared → Prop) (E : Value → Shared → Prop), Q (.int (g i) s.toks) { s with toks := s.toks + 1 } → wpAny (model X.prog X.w) X.A (f (.int i t)) Q E s) :
    UnR X f (rU fun i => .int (g i)) := by
  intro pins s σ H x v Q I rx h
  obtain ⟨i, rfl, q⟩ := h
  obtain ⟨t, rfl⟩ := rx
  exact rule i t s _ _ ⟨.int (g i), H, I.tok _, ⟨_, rfl⟩, q⟩
theorem un_neg : UnR X (unaryOp .USub) (rU fun i => .int (-i)) := unI fun _ _ _ _ _ q => neg_int q
theorem un_inv : UnR X (unaryOp .Invert) (rU fun i => .int (Builtin.bitNot i)) := unI fun _ _ _ _ _ q => invert_int q

/-! ### bools among ints: n += (a < b) -/
theorem op_add_ib : OpR X (binaryOp .Add) (fun x y H Q => ∃ i k, x = .int i ∧ y = .bl k ∧ Q (.int (i + b2i k)) H) := by
  intro pins s σ H x y v u Q I rx ry h
  obtain ⟨i, k, rfl, rfl, q⟩ := h
  obtain ⟨t, rfl⟩ := rx
  cases ry
  exact add_int_bool ⟨.int (i + b2i k), H, I.tok _, ⟨_, rfl⟩, q⟩
end

/-! ### comparisons -/
/-- the scalars that == tells apart as data does -/
def scal : V → V → Bool
  | .non, .non => true | .non, .int _ => true | .int _, .non => true | .non, .bl _ => true | .bl _, .non => true | .non, .str _ => true | .str _, .non => true
  | .int _, .int _ => true | .bl _, .bl _ => true | .str _, .str _ => true | .byt _, .byt _ => true
  | .int _, .str _ => true | .str _, .int _ => true | .bl _, .str _ => true | .str _, .bl _ => true
  | _, _ => false
def rEq : R2 := fun x y H Q => scal x y = true ∧ Q (.bl (decide (x = y))) H
def rNe : R2 := fun x y H Q => scal x y = true ∧ Q (.bl (!decide (x = y))) H

theorem dec_int {i j : Int} : decide (V.int i = V.int j) = (i == j) := by
  rw [Bool.eq_iff_iff]
  simp
theorem dec_bl {i j : Bool} : decide (V.bl i = V.bl j) = (i == j) := by
  rw [Bool.eq_iff_iff]
  simp
theorem dec_str {i j : Str} : decide (V.str i = V.str j) = (i == j) := by
  rw [Bool.eq_iff_iff]
  simp
theorem dec_byt {i j : Array UInt8} : decide (V.byt i = V.byt j) = (i.toList == j.toList) := by
  rw [Bool.eq_iff_iff]
  cases i
  cases j
  simp

section
variable {X : Cx} {a b c : Expr} {ta tb tc : TE} {pos : Pos}
theorem fin_bl {pins : List (Addr × Obj)} {σ : St} {H : Hp} {s : Shared} {Q : VK} {k k' : Bool} (I : Inv X pins σ H s) (q : Q (.bl k) H) (e : k = k') : EP X pins σ Q (.bool k') s := by
  subst e
  exact ⟨.bl k, H, I, rfl, q⟩
theorem op_eq : OpR X (compareOp .Eq) rEq := by
  intro pins s σ H x y v u Q I rx ry h
  obtain ⟨hs, q⟩ := h
  cases x with
  | non =>
    cases rx
    cases y with
    | non => cases ry; exact PySem.EqNone.eq_none_none (fin_bl I q (by simp))
    | bl j => cases ry; exact PySem.EqNone.eq_none_bool (fin_bl I q (by simp))
    | int j => obtain ⟨t', rfl⟩ := ry; exact PySem.EqNone.eq_none_int (fin_bl I q (by simp))
    | str j => obtain ⟨t', rfl⟩ := ry; exact PySem.EqNone.eq_none_str (fin_bl I q (by simp))
    | _ => exact absurd (show false = true from hs) Bool.false_ne_true
  | bl i =>
    cases rx
    cases y with
    | non => cases ry; exact PySem.EqNone.eq_bool_none (fin_bl I q (by simp))
    | bl j => cases ry; exact eq_bool (fin_bl I q dec_bl)
    | str j => obtain ⟨t', rfl⟩ := ry; exact PySem.EqMixed.eq_bool_str (fin_bl I q (by simp))
    | _ => exact absurd (show false = true from hs) Bool.false_ne_true
  | int i =>
    obtain ⟨t, rfl⟩ := rx
    cases y with
    | non => cases ry; exact PySem.EqNone.eq_int_none (fin_bl I q (by simp))
    | int j => obtain ⟨t', rfl⟩ := ry; exact eq_int (fin_bl I q dec_int)
    | str j => obtain ⟨t', rfl⟩ := ry; exact PySem.EqMixed.eq_int_str (fin_bl I q (by simp))
    | _ => exact absurd (show false = true from hs) Bool.false_ne_true
  | str i =>
    obtain ⟨t, rfl⟩ := rx
    cases y with
    | non => cases ry; exact PySem.EqNone.eq_str_none (fin_bl I q (by simp))
    | bl j => cases ry; exact PySem.EqMixed.eq_str_bool (fin_bl I q (by simp))
    | int j => obtain ⟨t', rfl⟩ := ry; exact PySem.EqMixed.eq_str_int (fin_bl I q (by simp))
    | str j => obtain ⟨t', rfl⟩ := ry; exact eq_str (fin_bl I q dec_str)
    | _ => exact absurd (show false = true from hs) Bool.false_ne_true
  | byt i =>
    obtain ⟨t, rfl⟩ := rx
    cases y with
    | byt j => obtain ⟨t', rfl⟩ := ry; exact PySem.W.eq_bytes (fin_bl I q dec_byt)
    | _ => exact absurd (show false = true from hs) Bool.false_ne_true
  | _ => cases y <;> exact absurd (show false = true from hs) Bool.false_ne_true
theorem op_ne : OpR X (compareOp .NotEq) rNe := by
  intro pins s σ H x y v u Q I rx ry h
  obtain ⟨hs, q⟩ := h
  cases x with
  | non =>
    cases rx
    cases y with
    | non => cases ry; exact PySem.EqNone.ne_none_none (fin_bl I q (by simp))
    | bl j => cases ry; exact PySem.EqNone.ne_none_bool (fin_bl I q (by simp))
    | int j => obtain ⟨t', rfl⟩ := ry; exact PySem.EqNone.ne_none_int (fin_bl I q (by simp))
    | str j => obtain ⟨t', rfl⟩ := ry; exact PySem.EqNone.ne_none_str (fin_bl I q (by simp))
    | _ => exact absurd (show false = true from hs) Bool.false_ne_true
  | bl i =>
    cases rx
    cases y with
    | non => cases ry; exact PySem.EqNone.ne_bool_none (fin_bl I q (by simp))
    | bl j => cases ry; exact ne_bool (fin_bl I q (congrArg not dec_bl))
    | str j => obtain ⟨t', rfl⟩ := ry; exact PySem.EqMixed.ne_bool_str (fin_bl I q (by simp))
    | _ => exact absurd (show false = true from hs) Bool.false_ne_true
  | int i =>
    obtain ⟨t, rfl⟩ := rx
    cases y with
    | non => cases ry; exact PySem.EqNone.ne_int_none (fin_bl I q (by simp))
    | int j => obtain ⟨t', rfl⟩ := ry; exact ne_int (fin_bl I q (congrArg not dec_int))
    | str j => obtain ⟨t', rfl⟩ := ry; exact PySem.EqMixed.ne_int_str (fin_bl I q (by simp))
    | _ => exact absurd (show false = true from hs) Bool.false_ne_true
  | str i =>
    obtain ⟨t, rfl⟩ := rx
    cases y with
    | non => cases ry; exact PySem.EqNone.ne_str_none (fin_bl I q (by simp))
    | bl j => cases ry; exact PySem.EqMixed.ne_str_bool (fin_bl I q (by simp))
    | int j => obtain ⟨t', rfl⟩ := ry; exact PySem.EqMixed.ne_str_int (fin_bl I q (by simp))
    | str j => obtain ⟨t', rfl⟩ := ry; exact ne_str (fin_bl I q (congrArg not dec_str))
    | _ => exact absurd (show false = true from hs) Bool.false_ne_true
  | byt i =>
    obtain ⟨t, rfl⟩ := rx
    cases y with
    | byt j => obtain ⟨t', rfl⟩ := ry; exact PySem.W.ne_bytes (fin_bl I q (congrArg not dec_byt))
    | _ => exact absurd (show false = true from hs) Bool.false_ne_true
  | _ => cases y <;> exact absurd (show false = true from hs) Bool.false_ne_true

theorem op_lt : OpR X (compareOp .Lt) (rI0 fun i j => .bl (decide (i < j))) := opB0 fun _ _ _ _ _ _ _ q => lt_int q
theorem op_le : OpR X (compareOp .LtE) (rI0 fun i j => .bl (decide (i ≤ j))) := opB0 fun _ _ _ _ _ _ _ q => le_int q
theorem op_gt : OpR X (compareOp .Gt) (rI0 fun i j => .bl (decide (j < i))) := opB0 fun _ _ _ _ _ _ _ q => gt_int q
theorem op_ge : OpR X (compareOp .GtE) (rI0 fun i j => .bl (decide (j ≤ i))) := opB0 fun _ _ _ _ _ _ _ q => ge_int q
theorem op_lt_str : OpR X (compareOp .Lt) (fun x y H Q => ∃ i j, x = .str i ∧ y = .str j ∧ Q (.bl (decide (i.cps.toList < j.cps.toList))) H) := by
  intro pins s σ H x y v u Q I rx ry h
  obtain ⟨i, j, rfl, rfl, q⟩ := h
  obtain ⟨t, rfl⟩ := rx
  obtain ⟨t', rfl⟩ := ry
  exact lt_str (fin_bl I q rfl)
/-- the one string within the other -/
theorem op_in_str : OpR X (compareOp .In) (fun x y H Q => ∃ i j, x = .str i ∧ y = .str j ∧ Q (.bl (!(Builtin.Str.occurrences j i 0 j.length 1).isEmpty)) H) := by
  intro pins s σ H x y v u Q I rx ry h
  obtain ⟨i, j, rfl, rfl, q⟩ := h
  obtain ⟨t, rfl⟩ := rx
  obtain ⟨t', rfl⟩ := ry
  exact in_str (fin_bl I q rfl)

/-- is None, is not None: the right side a value none -/
theorem op_isN : OpR X (compareOp .Is) (fun x y H Q => y = .non ∧ Q (.bl (decide (x = .non))) H) := by
  intro pins s σ H x y v u Q I rx ry h
  obtain ⟨rfl, q⟩ := h
  cases ry
  refine is_none_gen (fin_bl I q ?_)
  cases x <;> first
    | (cases rx; rfl)
    | (obtain ⟨t, rfl⟩ := rx; rfl)
theorem op_notN : OpR X (compareOp .IsNot) (fun x y H Q => y = .non ∧ Q (.bl (!decide (x = .non))) H) := by
  intro pins s σ H x y v u Q I rx ry h
  obtain ⟨rfl, q⟩ := h
  cases ry
  refine isnot_none_gen (fin_bl I q ?_)
  cases x <;> first
    | (cases rx; rfl)
    | (obtain ⟨t, rfl⟩ := rx; rfl)

theorem op_notin_str : OpR X (compareOp .NotIn) (fun x y H Q => ∃ i j, x = .str i ∧ y = .str j ∧ Q (.bl (!(!(Builtin.Str.occurrences j i 0 j.length 1).isEmpty))) H) := by
  intro pins s σ H x y v u Q I rx ry h
  obtain ⟨i, j, rfl, rfl, q⟩ := h
  obtain ⟨t, rfl⟩ := rx
  obtain ⟨t', rfl⟩ := ry
  exact notIn_str (fin_bl I q rfl)
/-- is, is not of two objects that are tracked lists or instances -/
def isObj : HO → Bool
  | .lst _ => true
  | .ins _ _ _ => true
  | _ => false
theorem obj_there {pins : List (Addr × Obj)} {s : Shared} {σ : St} {H : Hp} {a : Addr} {o : HO} (I : Inv X pins σ H s) (h : H a = some o) (p : isObj o = true) : ∃ ob, s.heap.get? a = some ob ∧ ob.cls ≠ .type "tuple" := by
  cases o with
  | lst xs =>
    obtain ⟨_, its, n, _, e⟩ : xs.length ≤ sizeLine ∧ ∃ (its : List Value) (n : Nat), Vals xs its ∧ s.heap.get? a = some { cls := .type "list", data := .seq its.toArray n } := I.hok a _ h
    exact ⟨_, e, (by show Value.type "list" ≠ .type "tuple"; decide +kernel)⟩
  | ins C dx fs =>
    have x := I.hok a _ h
    obtain ⟨_, _, _, e, _⟩ := x
    exact ⟨_, e, (by show Value.ref C ≠ .type "tuple"; exact fun z => by cases z)⟩
  | _ => exact absurd (show false = true from p) Bool.false_ne_true
theorem op_is_ref : OpR X (compareOp .Is) (fun x y H Q => ∃ a b oa ob, x = .ref a ∧ y = .ref b ∧ H a = some oa ∧ isObj oa = true ∧ H b = some ob ∧ isObj ob = true ∧ Q (.bl (decide (a = b))) H) := by
  intro pins s σ H x y v u Q I rx ry h
  obtain ⟨a, b, oa, ob, rfl, rfl, ha, pa, hb, pb, q⟩ := h
  cases rx
  cases ry
  obtain ⟨o1, e1, n1⟩ := obj_there I ha pa
  obtain ⟨o2, e2, _⟩ := obj_there I hb pb
  by_cases z : a = b
  · subst z
    exact wpAny_is_ref_self (fin_bl I q (by simp))
  · exact wpAny_is_ref_other z e1 e2 n1 (fin_bl I q (by simp [z]))
theorem op_isnot_ref : OpR X (compareOp .IsNot) (fun x y H Q => ∃ a b oa ob, x = .ref a ∧ y = .ref b ∧ H a = some oa ∧ isObj oa = true ∧ H b = some ob ∧ isObj ob = true ∧ Q (.bl (!decide (a = b))) H) := by
  intro pins s σ H x y v u Q I rx ry h
  obtain ⟨a, b, oa, ob, rfl, rfl, ha, pa, hb, pb, q⟩ := h
  cases rx
  cases ry
  obtain ⟨o1, e1, n1⟩ := obj_there I ha pa
  obtain ⟨o2, e2, _⟩ := obj_there I hb pb
  by_cases z : a = b
  · subst z
    exact wpAny_isNot_ref_self (fin_bl I q (by simp))
  · exact wpAny_isNot_ref_other z e1 e2 n1 (fin_bl I q (by simp [z]))

/-- two rules for one operation: by cases -/
theorem OpR.or {f : Value → Value → Sem Value} {r r' : R2} (h : OpR X f r) (h' : OpR X f r') : OpR X f (fun x y H Q => r x y H Q ∨ r' x y H Q) := by
  intro pins s σ H x y v u Q I rx ry q
  rcases q with q | q
  · exact h pins s σ H x y v u Q I rx ry q
  · exact h' pins s σ H x y v u Q I rx ry q

theorem nomark (b : Expr) {op : CmpOp} (h : op ≠ .In := by decide) (h2 : op ≠ .NotIn := by decide) : behindInMarks op b = false := by
  have e1 : (op == CmpOp.In) = false := by cases op <;> first | rfl | exact absurd rfl h
  have e2 : (op == CmpOp.NotIn) = false := by cases op <;> first | rfl | exact absurd rfl h2
  cases b <;> simp [behindInMarks, e1, e2]
/-- a comparison as a value; hm: nomark b, or (for in, not in) by with_unfolding_all rfl -/
theorem pe_cmpR {op : CmpOp} {r : R2} (ho : OpR X (compareOp op) r) (ha : PE X a ta) (hb : PE X b tb) (hm : behindInMarks op b = false) : PE X (.Compare a [op] [b] pos) (tOp r ta tb) := by
  intro pins s σ H Q I h
  exact wpAny_Compare1 (binT ha hb I h fun v u s2 x y H2 I2 rx ry q => ho pins s2 σ H2 x y v u Q I2 rx ry q) hm
/-- a reading of a value as a test -/
def tTest (t : TE) : TT := fun σ H Q => t σ H fun x H' => ∃ k, x = .bl k ∧ Q k H'
theorem pt_cmpR {op : CmpOp} {r : R2} (ho : OpR X (compareOp op) r) (ha : PE X a ta) (hb : PE X b tb) (hm : behindInMarks op b = false) : PT X (.Compare a [op] [b] pos) (tTest (tOp r ta tb)) := by
  intro pins s σ H Q I h
  refine wpAny_isTrue_Compare1 (thn (ha pins s σ H _ I h) fun v s1 ⟨x, H1, I1, r1, q1⟩ => thn (hb pins s1 σ H1 _ I1 q1) fun u s2 ⟨y, H2, I2, r2, q2⟩ =>
    thn (ho pins s2 σ H2 x y v u _ I2 r1 r2 q2) fun c s3 ⟨z, H3, I3, r3, k, e, q3⟩ => ?_) hm
  subst e
  cases r3
  exact wpAny_truthy_bool ⟨H3, I3, q3⟩
/-- a op1 b op2 c -/
def tChain (r r' : R2) (ta tb tc : TE) : TE := fun σ H Q => ta σ H fun x H1 => tb σ H1 fun y H2 => r x y H2 fun z H3 => ∃ k, z = .bl k ∧
  (if k = true then tc σ H3 fun w' H4 => r' y w' H4 Q else Q (.bl false) H3)
theorem pe_chain {op op' : CmpOp} {r r' : R2} (ho : OpR X (compareOp op) r) (ho' : OpR X (compareOp op') r') (ha : PE X a ta) (hb : PE X b tb) (hc : PE X c tc)
    (hm : lastMarks [op, op'] [b, c] = false := by with_unfolding_all rfl) : PE X (.Compare a [op, op'] [b, c] pos) (tChain r r' ta tb tc) := by
  intro pins s σ H Q I h
  refine Compare_chain (thn (ha pins s σ H _ I h) fun v s1 ⟨x, H1, I1, r1, q1⟩ => chain_link (thn (hb pins s1 σ H1 _ I1 q1) fun u s2 ⟨y, H2, I2, r2, q2⟩ =>
    thn (ho pins s2 σ H2 x y v u _ I2 r1 r2 q2) fun d s3 ⟨z, H3, I3, r3, k, e, q3⟩ => ?_)) hm
  subst e
  cases r3
  refine wpAny_truthy_bool ?_
  cases k with
  | false => exact ite_ff ⟨.bl false, H3, I3, rfl, q3⟩
  | true => exact ite_tt (chain_last (thn (hc pins s3 σ H3 _ I3 q3) fun w' s4 ⟨z', H4, I4, r4, q4⟩ => ho' pins s4 σ H4 y z' u w' Q I4 r2 r4 q4))
theorem pt_chain {op op' : CmpOp} {r r' : R2} (ho : OpR X (compareOp op) r) (ho' : OpR X (compareOp op') r') (ha : PE X a ta) (hb : PE X b tb) (hc : PE X c tc)
    (hm : lastMarks [op, op'] [b, c] = false := by with_unfolding_all rfl) : PT X (.Compare a [op, op'] [b, c] pos) (tTest (tChain r r' ta tb tc)) := by
  intro pins s σ H Q I h
  refine isTrue_chain (thn (ha pins s σ H _ I h) fun v s1 ⟨x, H1, I1, r1, q1⟩ => test_link (thn (hb pins s1 σ H1 _ I1 q1) fun u s2 ⟨y, H2, I2, r2, q2⟩ =>
    thn (ho pins s2 σ H2 x y v u _ I2 r1 r2 q2) fun d s3 ⟨z, H3, I3, r3, k, e, q3⟩ => ?_)) hm
  subst e
  cases r3
  refine wpAny_truthy_bool ?_
  cases k with
  | false =>
    obtain ⟨k', e', q'⟩ := q3
    cases e'
    exact ite_ff ⟨H3, I3, q'⟩
  | true =>
    refine ite_tt (test_last (thn (hc pins s3 σ H3 _ I3 q3) fun w' s4 ⟨z', H4, I4, r4, q4⟩ => thn (ho' pins s4 σ H4 y z' u w' _ I4 r2 r4 q4) fun d' s5 ⟨z2, H5, I5, r5, k2, e2, q5⟩ => ?_))
    subst e2
    cases r5
    exact wpAny_truthy_bool ⟨H5, I5, q5⟩

/-! ### truth -/
/-- a value's truth by the abstract heap -/
def TruV (K : PySem.W.Frag) (x : V) (H : Hp) (k : Bool) : Prop :=
  match x with
  | .non => k = false
  | .bl b => k = b
  | .int i => k = (i != 0)
  | .str y => y.length ≤ sizeLine ∧ k = ((y.length : Int) != 0)
  | .byt y => y.size ≤ sizeLine ∧ k = ((y.size : Int) != 0)
  | .ref p => (∃ xs, SqL K H p xs ∧ k = !xs.isEmpty) ∨ (∃ xs, SqT K H p xs ∧ k = !xs.isEmpty) ∨ ∃ kvs, H p = some (.dK kvs) ∧ k = !kvs.isEmpty
  | _ => False
theorem isEmpty_kv {κ : Type} {kvs : List (κ × V)} {vs : List (κ × Value)} (r : KV kvs vs) : (!vs.isEmpty) = !kvs.isEmpty := by
  cases r <;> rfl
theorem isEmpty_of {xs : List V} {its : List Value} (r : Vals xs its) : (!its.toArray.isEmpty) = !xs.isEmpty := by
  cases r <;> simp
theorem line63 : (sizeLine : Nat) < 2 ^ 63 := by rw [sizeLine_eq]; decide
theorem tru_ok : TruR X (fun x H Q => ∃ k, TruV X.K x H k ∧ Q k H) := by
  intro pins s σ H x v Q I rx h
  obtain ⟨k, e, q⟩ := h
  have hl := line63
  have hs : sizeLine = 16777216 := sizeLine_eq
  cases x with
  | non =>
    cases rx
    have e' : k = false := e
    subst e'
    exact truthy_none ⟨H, I, q⟩
  | bl b =>
    cases rx
    have e' : k = b := e
    subst e'
    exact wpAny_truthy_bool ⟨H, I, q⟩
  | int i =>
    obtain ⟨t, rfl⟩ := rx
    have e' : k = (i != 0) := e
    subst e'
    exact PySem.P.truthy_int ⟨H, I, q⟩
  | str y =>
    obtain ⟨t, rfl⟩ := rx
    obtain ⟨hy, e'⟩ : y.length ≤ sizeLine ∧ k = ((y.length : Int) != 0) := e
    subst e'
    exact PySem.P.truthy_str (by omega) ⟨H, I.tok _, q⟩
  | byt y =>
    obtain ⟨t, rfl⟩ := rx
    obtain ⟨hy, e'⟩ : y.size ≤ sizeLine ∧ k = ((y.size : Int) != 0) := e
    subst e'
    exact PySem.W.truthy_bytes (by omega) ⟨H, I.tok _, q⟩
  | ref p =>
    cases rx
    have e' : (∃ xs, SqL X.K H p xs ∧ k = !xs.isEmpty) ∨ (∃ xs, SqT X.K H p xs ∧ k = !xs.isEmpty) ∨ ∃ kvs, H p = some (.dK kvs) ∧ k = !kvs.isEmpty := e
    rcases e' with ⟨xs, hx, e'⟩ | ⟨xs, hx, e'⟩ | ⟨kvs, hx, e'⟩
    · subst e'
      obtain ⟨its, r, pl, hz⟩ := I.list hx
      have hlen := r.length
      exact wpAny_truthy_list pl.isList (by simp only [List.size_toArray]; omega) ⟨H, I.tok _, by rw [isEmpty_of r]; exact q⟩
    · subst e'
      obtain ⟨its, r, pl, hz⟩ := I.tuple hx
      have hlen := r.length
      exact truthy_tuple pl (by simp only [List.size_toArray]; omega) ⟨H, I.tok _, by rw [isEmpty_of r]; exact q⟩
    · subst e'
      obtain ⟨hz, hS, vs, r, m⟩ : kvs.length ≤ sizeLine ∧ (p == sysModules) = false ∧ ∃ vs, KV kvs vs ∧ s.heap.DictOf (mixKind X.prog X.w) p vs := I.hok p _ hx
      have hlen : kvs.length = vs.length := Paired.length r
      exact wpAny_truthy_dict hS m (by omega) ⟨H, I.tok _, by rw [isEmpty_kv r]; exact q⟩
  | _ => exact (show False from e).elim
/-- any expression whose test is its value's truth (a name, a call, a subscript, a field ..: he by fun _ => rfl) -/
theorem pt_truth (ha : PE X a ta) (he : ∀ whole, isTrue a X.env whole = (do let v ← whole; standAt a.pos; holding [v] (truthy v))) :
    PT X a (fun σ H Q => ta σ H fun x H' => ∃ k, TruV X.K x H' k ∧ Q k H') := by
  intro pins s σ H Q I h
  exact isTrue_plain (thn (ha pins s σ H _ I h) fun v s1 ⟨x, H1, I1, r1, q1⟩ => tru_ok pins s1 σ H1 x v Q I1 r1 q1) (he _)

/-! ### strs and bytes -/
theorem pe_byt {x : List UInt8} {k : Nat} : PE X (.Constant (.bytes x) k pos) (fun _ H Q => Q (.byt x.toArray) H) := fun _ _ _ H _ I h => PySem.W.Constant_bytes ⟨.byt x.toArray, H, I.tok _, ⟨_, rfl⟩, h⟩
theorem op_add_str : OpR X (binaryOp .Add) (fun x y H Q => ∃ i j, x = .str i ∧ y = .str j ∧ i.length + j.length ≤ sizeLine ∧ Q (.str (i ++ j)) H) := by
  intro pins s σ H x y v u Q I rx ry h
  obtain ⟨i, j, rfl, rfl, hz, q⟩ := h
  obtain ⟨t, rfl⟩ := rx
  obtain ⟨t', rfl⟩ := ry
  exact add_str (fun t' tk => ⟨.str (i ++ j), H, I.tok _, ⟨_, rfl⟩, q⟩) hz
theorem iop_add_str : OpR X (inplaceOp .Add) (fun x y H Q => ∃ i j, x = .str i ∧ y = .str j ∧ i.length + j.length ≤ sizeLine ∧ Q (.str (i ++ j)) H) := by
  intro pins s σ H x y v u Q I rx ry h
  obtain ⟨i, j, rfl, rfl, hz, q⟩ := h
  obtain ⟨t, rfl⟩ := rx
  obtain ⟨t', rfl⟩ := ry
  exact iadd_str (fun t' tk => ⟨.str (i ++ j), H, I.tok _, ⟨_, rfl⟩, q⟩) hz
theorem op_add_byt : OpR X (binaryOp .Add) (fun x y H Q => ∃ i j, x = .byt i ∧ y = .byt j ∧ i.size + j.size ≤ 16777216 ∧ Q (.byt (i ++ j)) H) := by
  intro pins s σ H x y v u Q I rx ry h
  obtain ⟨i, j, rfl, rfl, hz, q⟩ := h
  obtain ⟨t, rfl⟩ := rx
  obtain ⟨t', rfl⟩ := ry
  exact PySem.W.KBy.add_bytes hz (fun t' tk => ⟨.byt (i ++ j), H, I.tok _, ⟨_, rfl⟩, q⟩)

def PlainIxT (b : Expr) : Prop := ∀ o i, subscripted b false o i = operate [o, i] (getItem o i)
/-- s[i], 0 ≤ i < len -/
theorem pe_item_str (ha : PE X a ta) (hb : PE X b tb) (hs : PlainIxT b) :
    PE X (.Subscript a b pos) (tOp (fun x y H Q => ∃ z i c, x = .str z ∧ y = .int i ∧ 0 ≤ i ∧ i < 2 ^ 63 ∧ i < z.length ∧ z.cps[i.toNat]? = some c ∧ Q (.str ⟨#[c]⟩) H) ta tb) := by
  intro pins s σ H Q I h
  refine Subscript_ (binT ha hb I h fun v u s2 x y H2 I2 rx ry q => ?_)
  obtain ⟨z, i, c, rfl, rfl, h0, h63, h1, hc, q⟩ := q
  obtain ⟨t, rfl⟩ := rx
  obtain ⟨t', rfl⟩ := ry
  have e : seqIndex? i z.length = some i.toNat := PySem.StrLaws.seqIndex_nonneg h0 h1
  exact tail_any (typeIs_str s2 z t) slot_str_getitem.lookup (getItem_str (c := c) (by
    have e1 : decide (i < -(2 ^ 63 : Int)) = false := decide_eq_false (by omega)
    have e2 : decide (i ≥ 2 ^ 63) = false := decide_eq_false (by omega)
    rw [e1, e2] <;> rfl) (by rw [e]; exact hc) ⟨.str ⟨#[c]⟩, H2, I2.tok _, ⟨_, rfl⟩, q⟩) (hs _ _)
/-- b[i], 0 ≤ i < len -/
theorem pe_item_byt (ha : PE X a ta) (hb : PE X b tb) (hs : PlainIxT b) :
    PE X (.Subscript a b pos) (tOp (fun x y H Q => ∃ (z : List UInt8) (i : Int), x = .byt z.toArray ∧ y = .int i ∧ z.length ≤ sizeLine ∧ 0 ≤ i ∧ i < z.length ∧ Q (.int ((z.getD i.toNat 0).toNat : Nat)) H) ta tb) := by
  intro pins s σ H Q I h
  refine Subscript_ (binT ha hb I h fun v u s2 x y H2 I2 rx ry q => ?_)
  obtain ⟨z, i, rfl, rfl, hz, h0, h1, q⟩ := q
  obtain ⟨t, rfl⟩ := rx
  obtain ⟨t', rfl⟩ := ry
  have hl : sizeLine = 16777216 := sizeLine_eq
  exact tail_any (PySem.W.typeIs_bytes s2 z.toArray t) PySem.W.FB.slot_bytes_getitem.lookup (PySem.W.getItem_bytes (by omega) h0 h1 ⟨.int ((z.getD i.toNat 0).toNat : Nat), H2, I2.tok _, ⟨_, rfl⟩, q⟩) (hs _ _)

/-! ### scalar builtins, by CallR -/
theorem vals1 {x : V} {us : List Value} (r : Vals [x] us) : ∃ u, us = [u] ∧ RelV x u := by
  cases r with
  | cons r1 r2 => cases r2; exact ⟨_, rfl, r1⟩
theorem vals2 {x y : V} {us : List Value} (r : Vals [x, y] us) : ∃ u w', us = [u, w'] ∧ RelV x u ∧ RelV y w' := by
  cases r with
  | cons r1 r2 =>
    cases r2 with
    | cons r3 r4 => cases r4; exact ⟨_, _, rfl, r1, r3⟩
theorem call_abs : CallR X (.builtin "abs") (fun xs H Q => ∃ i, xs = [.int i] ∧ Q (.int (if i < 0 then -i else i)) H) := by
  intro pins s σ H xs us Q I r h
  obtain ⟨i, rfl, q⟩ := h
  obtain ⟨u, rfl, t, rfl⟩ := vals1 r
  exact call_abs_int fun u tk => ⟨.int (if i < 0 then -i else i), H, I.tok _, ⟨_, rfl⟩, q⟩
theorem call_max2 (hc : X.calm = true) : CallR X (.builtin "max") (fun xs H Q => ∃ i j, xs = [.int i, .int j] ∧ Q (.int (if j > i then j else i)) H) := by
  intro pins s σ H xs us Q I r h
  obtain ⟨i, j, rfl, q⟩ := h
  obtain ⟨u, w', rfl, ⟨t, rfl⟩, ⟨t', rfl⟩⟩ := vals2 r
  refine max_two_ints (I.ok.hd hc) fun h' tk k => ⟨_, H, I.kept k, ?_, q⟩
  by_cases hj : j > i
  · rw [if_pos hj, if_pos hj]; exact ⟨_, rfl⟩
  · rw [if_neg hj, if_neg hj]; exact ⟨_, rfl⟩
theorem call_min2 (hc : X.calm = true) : CallR X (.builtin "min") (fun xs H Q => ∃ i j, xs = [.int i, .int j] ∧ Q (.int (if j < i then j else i)) H) := by
  intro pins s σ H xs us Q I r h
  obtain ⟨i, j, rfl, q⟩ := h
  obtain ⟨u, w', rfl, ⟨t, rfl⟩, ⟨t', rfl⟩⟩ := vals2 r
  refine min_two_ints (I.ok.hd hc) fun h' tk k => ⟨_, H, I.kept k, ?_, q⟩
  by_cases hj : j < i
  · rw [if_pos hj, if_pos hj]; exact ⟨_, rfl⟩
  · rw [if_neg hj, if_neg hj]; exact ⟨_, rfl⟩
theorem call_int1 : CallR X (.type "int") (fun xs H Q => (∃ i, xs = [.int i] ∧ Q (.int i) H) ∨ ∃ k, xs = [.bl k] ∧ Q (.int (if k then 1 else 0)) H) := by
  intro pins s σ H xs us Q I r h
  rcases h with ⟨i, rfl, q⟩ | ⟨k, rfl, q⟩
  · obtain ⟨u, rfl, t, rfl⟩ := vals1 r
    exact call_int_int ⟨.int i, H, I, ⟨_, rfl⟩, q⟩
  · obtain ⟨u, rfl, r1⟩ := vals1 r
    cases r1
    exact call_int_bool ⟨.int (if k then 1 else 0), H, I.tok _, ⟨_, rfl⟩, q⟩
theorem call_bool1 : CallR X (.type "bool") (fun xs H Q => (∃ i, xs = [.int i] ∧ Q (.bl (i != 0)) H) ∨ ∃ k, xs = [.bl k] ∧ Q (.bl k) H) := by
  intro pins s σ H xs us Q I r h
  rcases h with ⟨i, rfl, q⟩ | ⟨k, rfl, q⟩
  · obtain ⟨u, rfl, t, rfl⟩ := vals1 r
    exact call_bool_int ⟨.bl (i != 0), H, I, rfl, q⟩
  · obtain ⟨u, rfl, r1⟩ := vals1 r
    cases r1
    exact call_bool_bool ⟨.bl k, H, I, rfl, q⟩
theorem call_str_int : CallR X (.type "str") (fun xs H Q => ∃ i, xs = [.int i] ∧ i.natAbs.log2 < 1920 ∧ Q (.str (toString i)) H) := by
  intro pins s σ H xs us Q I r h
  obtain ⟨i, rfl, hz, q⟩ := h
  obtain ⟨u, rfl, t, rfl⟩ := vals1 r
  exact PySem.P.str_of_int hz ⟨.str _, H, I.tok _, ⟨_, rfl⟩, q⟩
theorem call_ord : CallR X (.builtin "ord") (fun xs H Q => ∃ x, xs = [.str x] ∧ x.length = 1 ∧ Q (.int (x.cps.getD 0 0 : Nat)) H) := by
  intro pins s σ H xs us Q I r h
  obtain ⟨x, rfl, hz, q⟩ := h
  obtain ⟨u, rfl, t, rfl⟩ := vals1 r
  exact ord_of_one hz ⟨.int _, H, I.tok _, ⟨_, rfl⟩, q⟩
theorem call_chr : CallR X (.builtin "chr") (fun xs H Q => ∃ i, xs = [.int i] ∧ 0 ≤ i ∧ i ≤ 1114111 ∧ Q (.str ⟨#[i.toNat]⟩) H) := by
  intro pins s σ H xs us Q I r h
  obtain ⟨i, rfl, h0, h1, q⟩ := h
  obtain ⟨u, rfl, t, rfl⟩ := vals1 r
  exact chr_of_range h0 h1 ⟨.str _, H, I.tok _, ⟨_, rfl⟩, q⟩
/-- len of a str, a bytes, a list, a tuple -/
def LenV (K : PySem.W.Frag) (x : V) (H : Hp) (n : Nat) : Prop :=
  match x with
  | .str y => y.length ≤ sizeLine ∧ n = y.length
  | .byt y => y.size ≤ sizeLine ∧ n = y.size
  | .ref p => (∃ xs, SqL K H p xs ∧ n = xs.length) ∨ ∃ xs, SqT K H p xs ∧ n = xs.length
  | _ => False
theorem call_len : CallR X (.builtin "len") (fun xs H Q => ∃ x n, xs = [x] ∧ LenV X.K x H n ∧ Q (.int n) H) := by
  intro pins s σ H xs us Q I r h
  obtain ⟨x, n, rfl, e, q⟩ := h
  obtain ⟨u, rfl, rx⟩ := vals1 r
  have hl := line63
  have hs : sizeLine = 16777216 := sizeLine_eq
  cases x with
  | str y =>
    obtain ⟨t, rfl⟩ := rx
    obtain ⟨hy, e'⟩ : y.length ≤ sizeLine ∧ n = y.length := e
    subst e'
    exact len_str (by omega) ⟨.int _, H, I.tok _, ⟨_, rfl⟩, q⟩
  | byt y =>
    obtain ⟨t, rfl⟩ := rx
    obtain ⟨hy, e'⟩ : y.size ≤ sizeLine ∧ n = y.size := e
    subst e'
    exact PySem.W.len_bytes (by omega) ⟨.int _, H, I.tok _, ⟨_, rfl⟩, q⟩
  | ref p =>
    cases rx
    have e' : (∃ xs, SqL X.K H p xs ∧ n = xs.length) ∨ ∃ xs, SqT X.K H p xs ∧ n = xs.length := e
    rcases e' with ⟨xs, hx, e'⟩ | ⟨xs, hx, e'⟩
    · subst e'
      obtain ⟨its, r', pl, hz⟩ := I.list hx
      have hlen := r'.length
      exact Calls.call_len_list pl.isList (by simp only [List.size_toArray]; omega) ⟨.int xs.length, H, I.tok _, ⟨_, by simp only [List.size_toArray]; rw [hlen]⟩, q⟩
    · subst e'
      obtain ⟨its, r', pl, hz⟩ := I.tuple hx
      have hlen := r'.length
      exact len_tuple pl (by simp only [List.size_toArray]; omega) ⟨.int xs.length, H, I.tok _, ⟨_, by simp only [List.size_toArray]; rw [hlen]⟩, q⟩
  | _ => exact (show False from e).elim
/-- divmod: a new tuple -/
theorem call_divmod : CallR X (.builtin "divmod") (fun xs H Q => ∃ i j, xs = [.int i, .int j] ∧ CDiv i j ∧ ∀ p, H p = none → Q (.ref p) (upd H p (.tup [.int (i / j), .int (i % j)]))) := by
  intro pins s σ H xs us Q I r h
  obtain ⟨i, j, rfl, ⟨h1, h2⟩, q⟩ := h
  obtain ⟨u, w', rfl, ⟨t, rfl⟩, ⟨t', rfl⟩⟩ := vals2 r
  refine divmod_int (by omega) ?_ (.inl (PyProof.noPylong_small (by omega)))
  rw [Int.fdiv_eq_ediv_of_nonneg i (by omega), Int.fmod_eq_emod_of_nonneg i (by omega)]
  have hn : H s.heap.objs.size = none := I.hok.fresh (Nat.le_refl _)
  refine ⟨.ref s.heap.objs.size, _, ?_, rfl, q _ hn⟩
  refine I.laid (fun b o e => Heap.get?_push_of_some _ e) (Nat.le_refl _) ⟨by simp only [List.length_cons, List.length_nil]; rw [sizeLine_eq]; decide, [.int (i / j) s.toks, .int (i % j) (s.toks + 1)], .cons ⟨_, rfl⟩ (.cons ⟨_, rfl⟩ .nil), ?_⟩
  exact ⟨_, Heap.get?_push_size s.heap rfl, rfl, 0, rfl⟩
end
end L2

namespace L2
open PySem PySem.Spec PyProof.Rows

/-! ### an instance, its attributes a map -/
structure ObjM (h : Heap) (x dx C : Addr) (mA : Str → Option Value) : Prop where
  obj : h.get? x = some (PySem.W.instObj C dx)
  ns : h.Ns1 dx mA
  ne : dx ≠ x

theorem lookIn_ns {h : Heap} {dx : Addr} {mA : Str → Option Value} (n : h.Ns1 dx mA) : ∃ od, h.get? dx = some od ∧ ∀ name, PySem.W.lookIn name od = some (mA name) := by
  obtain ⟨o, es, ep, ho, hd, hk, _, hm⟩ := n
  refine ⟨o, ho, fun name => ?_⟩
  have e := hm name
  unfold nsFind findBy at e
  rw [← Array.find?_toList] at e
  unfold PySem.W.lookIn
  rw [hd]
  dsimp only
  split
  · rename_i y q
    rw [q] at e
    exact congrArg some e
  · rename_i q
    rw [q] at e
    have a : es.toList.any (·.refKey) = false := by
      rw [List.any_eq_false]
      intro y hy
      obtain ⟨z, t, hkey⟩ := hk y (Array.mem_toList_iff.mp hy)
      simp [DictEntry.refKey, hkey]
    have a' : ¬ es.toList.any (·.refKey) = true := by rw [a]; exact Bool.false_ne_true
    rw [if_neg a']
    exact congrArg some e

theorem ObjM.look {h : Heap} {x dx C : Addr} {mA : Str → Option Value} (I : ObjM h x dx C mA) : ∃ od, PySem.W.InstAt h x (PySem.W.instObj C dx) C (some od) ∧ ∀ name, PySem.W.lookIn name od = some (mA name) :=
  let ⟨od, ho, hl⟩ := lookIn_ns I.ns
  ⟨od, ⟨I.obj, rfl, rfl, ho⟩, hl⟩

section
variable {prog : Program} {w : World} {A : Around} {E : Value → Shared → Prop} {s : Shared} {K : PySem.W.Frag} {x dx C f : Addr} {mA : Str → Option Value} {name : Str} {v : Value}

theorem get_map {expr : Bool} {Q : Value → Shared → Prop} (X : K.In s.heap) (I : ObjM s.heap x dx C mA) (hg : PySem.W.plainGet K C name = true) (hh : PySem.W.hasDictIn K C = true)
    (ha : PySem.W.findIn K (.ref C) name = some none) (hv : mA name = some v) (hv' : PySem.W.handedIn v = true) (h : Q v { s with toks := s.toks + 1 }) :
    wpAny (model prog w) A (getAttr (.ref x) name expr) Q E s := by
  obtain ⟨od, J, hl⟩ := I.look
  exact PySem.W.get_value X J (PySem.W.plainGet_of hg).1 (PySem.W.findObj_own hh ha rfl (by rw [hl, hv])) hv' h

theorem get_const {expr : Bool} {a : Value} {Q : Value → Shared → Prop} (X : K.In s.heap) (I : ObjM s.heap x dx C mA) (hg : PySem.W.plainGet K C name = true) (hh : PySem.W.hasDictIn K C = true)
    (ha : PySem.W.findIn K (.ref C) name = some (some a)) (hn : PySem.W.specialIn K a "__get__" = some none) (hc : PySem.W.copiedNames.contains name = false) (hv : mA name = none) (hv' : PySem.W.handedIn a = true)
    (h : Q a { s with toks := s.toks + 1 }) : wpAny (model prog w) A (getAttr (.ref x) name expr) Q E s := by
  obtain ⟨od, J, hl⟩ := I.look
  exact PySem.W.get_value X J (PySem.W.plainGet_of hg).1 (PySem.W.findObj_cls hh ha hn hv' hc (by rw [hl, hv])) hv' h

theorem get_meth {pl : Sem Bool} {Q : Value × List Value → Shared → Prop} (X : K.In s.heap) (I : ObjM s.heap x dx C mA) (hg : PySem.W.plainGet K C name = true)
    (hf : PySem.W.findIn K (.ref C) name = some (some (.ref f))) (ht : PySem.W.isFn K (.ref f) = true) (hv : mA name = none) (h : Q (.ref f, [.ref x]) s) :
    wpAny (model prog w) A (getMethod (.ref x) name pl) Q E s := by
  obtain ⟨od, J, hl⟩ := I.look
  exact PySem.W.method_fn X J (PySem.W.plainGet_of hg).1 (PySem.W.plainGet_of hg).2 hf (beq_iff_eq.mp ht) (by show (PySem.W.lookIn name od).map (·.isSome) = some false; rw [hl, hv]; rfl) h

theorem set_map {ns : List Str} {Q : Unit → Shared → Prop} (X : K.In s.heap) (I : ObjM s.heap x dx C mA)
    (hs : PySem.W.findIn K (.ref C) "__setattr__" = some (some (.builtin "object.__setattr__"))) (hp : PySem.W.plainOver K C = true) (ht : PySem.W.takerIn K C name = some none) (hh : PySem.W.hasDictIn K C = true)
    (hw : PySem.Within mA ns) (hsz : ns.length ≤ sizeLine)
    (h : ∀ h', ObjM h' x dx C (fun y => if y = name then some v else mA y) → Heap.SameBut dx s.heap h' → Q () { s with heap := h', toks := s.toks + 2 }) :
    wpAny (model prog w) A (setAttr (.ref x) name v) Q E s := by
  obtain ⟨od, J, hl⟩ := I.look
  refine PySem.W.set_plain X J hs (PySem.W.osa_open (s := { s with toks := s.toks + 1 }) (r := none) X J hp ht fun b => ?_)
  obtain ⟨cd, hc, hd'⟩ := PySem.W.any_some hh
  have hx : s.heap.get? x = some ⟨.ref C, some dx, .plain, #[]⟩ := I.obj
  refine wpAny_bind (wpAny_pure (wpAny_bind (wpAny_bind (wpAny_loadPart hx (wpAny_bind (PySem.W.Looks.here (s := { s with toks := s.toks + 1 }) (PySem.W.looks_clsIn X hc) ?_))))))
  rw [hd']
  refine wpAny_pure (a := some dx) (wpAny_bind (wpAny_pure (wpAny_bind ?_)))
  refine wpAny_nsSet1 (s := { s with toks := s.toks + 1 }) I.ns fun h' hn2 hs2 => ?_
  obtain ⟨oD, esD, epD, hoD, hdD, hcD⟩ := hn2.count (PySem.Within.cons name v hw)
  refine wpAny_bind (wpAny_lookBehind hoD (by rw [hdD]; exact pastItsLine_dict (Nat.le_trans hcD (by rw [List.length_cons]; omega))) ?_)
  exact wpAny_pure (h _ ⟨(hs2.2 _ (Ne.symm I.ne)).trans I.obj, hn2, I.ne⟩ hs2)

/-- C(..): the dict at the heap's end, the instance behind it; then its __init__ -/
theorem make_map {R : Result → Shared → Prop} {vs : List Value} {kw : List (Str × Value)} (X : K.In s.heap) (hm : PySem.W.makesIn K C = true)
    (hi : PySem.W.findIn K (.ref C) "__init__" = some (some (.ref f))) (hf : PySem.W.typeIn K (.ref f) = some (.type "function"))
    (h : codeAny (model prog w) (A.under (.builtin "type.__call__" ⟨.ref C :: vs, kw⟩)) (.call (.ref f) ⟨.ref (s.heap.objs.size + 1) :: vs, kw⟩) (PySem.W.InitBack (s.heap.objs.size + 1) R)
      { s with heap := (s.heap.push PySem.W.emptyDict).push (PySem.W.instObj C s.heap.objs.size) }) :
    codeAny (model prog w) A (.call (.ref C) ⟨vs, kw⟩) R s := by
  obtain ⟨hh, g, d, t, os⟩ := s
  exact PySem.W.make_core (PySem.W.makes_of X hm) (PySem.W.looks_findIn X hi) (fun self => PySem.W.bind_fn X self hf) (.inl rfl) h
/-- C() where there is no __init__ but object's -/
theorem make_map0 {R : Result → Shared → Prop} (X : K.In s.heap) (hm : PySem.W.makesIn K C = true)
    (hi : PySem.W.findIn K (.ref C) "__init__" = some (some (.builtin "object.__init__")))
    (hb : ∀ self, PySem.W.Looks (model prog w) s.heap (bindSpecial (.builtin "object.__init__") self) (.builtin "object.__init__", [self]))
    (h : codeAny (model prog w) (A.under (.builtin "type.__call__" ⟨[.ref C], []⟩)) (.call (.builtin "object.__init__") ⟨[.ref (s.heap.objs.size + 1)], []⟩) (PySem.W.InitBack (s.heap.objs.size + 1) R)
      { s with heap := (s.heap.push PySem.W.emptyDict).push (PySem.W.instObj C s.heap.objs.size) }) :
    codeAny (model prog w) A (.call (.ref C) ⟨[], []⟩) R s := by
  obtain ⟨hh, g, d, t, os⟩ := s
  exact PySem.W.make_core (PySem.W.makes_of X hm) (PySem.W.looks_findIn X hi) hb (.inr ⟨rfl, rfl⟩) h
end

/-! ### the attributes as a list of pairs -/
def putF (f : Str) (v : V) : List (Str × V) → List (Str × V)
  | [] => [(f, v)]
  | (g, x) :: r => if g = f then (g, v) :: r else (g, x) :: putF f v r
theorem lookup_putF (f g : Str) (v : V) : ∀ fs : List (Str × V), (putF f v fs).lookup g = if g = f then some v else fs.lookup g
  | [] => by
    show List.lookup g [(f, v)] = _
    by_cases h : g = f
    · have hb : (g == f) = true := beq_iff_eq.mpr h
      simp only [List.lookup, hb, if_pos h]
    · have hb : (g == f) = false := beq_eq_false_iff_ne.mpr h
      simp only [List.lookup, hb, if_neg h]
  | (k, x) :: r => by
    have ih := lookup_putF f g v r
    rw [show putF f v ((k, x) :: r) = (if k = f then (k, v) :: r else (k, x) :: putF f v r) from rfl]
    by_cases hk : k = f
    · rw [if_pos hk]
      by_cases h : g = k
      · have hb : (g == k) = true := beq_iff_eq.mpr h
        simp only [List.lookup, hb, if_pos (h.trans hk)]
      · have hb : (g == k) = false := beq_eq_false_iff_ne.mpr h
        simp only [List.lookup, hb, if_neg (fun e : g = f => h (e.trans hk.symm))]
    · rw [if_neg hk]
      by_cases h : g = k
      · have hb : (g == k) = true := beq_iff_eq.mpr h
        simp only [List.lookup, hb, if_neg (fun e : g = f => hk (h.symm.trans e))]
      · have hb : (g == k) = false := beq_eq_false_iff_ne.mpr h
        simp only [List.lookup, hb]
        exact ih
theorem keys_putF (f : Str) (v : V) : ∀ fs : List (Str × V), f ∈ (putF f v fs).map (·.1) ∧ ∀ g, g ∈ fs.map (·.1) → g ∈ (putF f v fs).map (·.1)
  | [] => ⟨by simp [putF], fun g h => by simp at h⟩
  | (k, x) :: r => by
    obtain ⟨i1, i2⟩ := keys_putF f v r
    rw [show putF f v ((k, x) :: r) = (if k = f then (k, v) :: r else (k, x) :: putF f v r) from rfl]
    by_cases hk : k = f
    · rw [if_pos hk]
      subst hk
      exact ⟨by simp, fun g h => by simpa using h⟩
    · rw [if_neg hk]
      refine ⟨?_, fun g h => ?_⟩
      · rw [List.map_cons]
        exact List.mem_cons_of_mem _ i1
      · rw [List.map_cons] at h ⊢
        rcases List.mem_cons.mp h with e | e
        · exact List.mem_cons.mpr (.inl e)
        · exact List.mem_cons_of_mem _ (i2 g e)
theorem length_putF (f : Str) (v : V) : ∀ fs : List (Str × V), (putF f v fs).length ≤ fs.length + 1
  | [] => by simp [putF]
  | (k, x) :: r => by
    have ih := length_putF f v r
    rw [show putF f v ((k, x) :: r) = (if k = f then (k, v) :: r else (k, x) :: putF f v r) from rfl]
    by_cases hk : k = f
    · rw [if_pos hk, List.length_cons, List.length_cons]; omega
    · rw [if_neg hk, List.length_cons, List.length_cons]; omega

theorem RelO.some_of {v : V} {o : Option Value} (r : RelO (some v) o) : ∃ u, o = some u ∧ RelV v u := by
  cases o with
  | none => exact (show False from r).elim
  | some u => exact ⟨u, rfl, r⟩
theorem RelO.none_of {o : Option Value} (r : RelO none o) : o = none := by
  cases o with
  | none => rfl
  | some u => exact (show False from r).elim
theorem handed_of {v : V} {u : Value} (r : RelV v u) : PySem.W.handedIn u = true := by
  cases v with
  | non => cases (show u = Value.none from r); rfl
  | bl b => cases (show u = Value.bool b from r); rfl
  | int i => obtain ⟨t, e⟩ := (show ∃ t, u = Value.int i t from r); cases e; rfl
  | str x => obtain ⟨t, e⟩ := (show ∃ t, u = Value.str x t from r); cases e; rfl
  | byt b => obtain ⟨t, e⟩ := (show ∃ t, u = Value.bytes b t from r); cases e; rfl
  | flt b => obtain ⟨t, e⟩ := (show ∃ t, u = Value.float b t from r); cases e; rfl
  | ref a => cases (show u = Value.ref a from r); rfl
  | ty n => cases (show u = Value.type n from r); rfl

section
variable {P : Program} {w : World} {H H' : Hp} {h h' : Heap} {a C dx : Addr} {fs fs' : List (Str × V)}
theorem ins_get (hok : HOk P w H h) (e : H a = some (.ins C dx fs)) : ∃ mA, ObjM h a dx C mA ∧ (∀ f, RelO (fs.lookup f) (mA f)) ∧ PySem.Within mA (fs.map (·.1)) ∧ fs.length ≤ 1000 ∧ H dx = some (.own a) := by
  obtain ⟨d, z, ne, ob, mA, n, r, q⟩ := (show ObjOk P w H h a (.ins C dx fs) from hok a _ e)
  exact ⟨mA, ⟨ob, n, ne⟩, r, q, z, d⟩
end

/-! ### what of the text a class must have -/
structure Cls (K : PySem.W.Frag) (C : Addr) : Prop where
  pg : PySem.W.plainGet K C Str.empty = true
  hd : PySem.W.hasDictIn K C = true
  po : PySem.W.plainOver K C = true
  sa : PySem.W.findIn K (.ref C) "__setattr__" = some (some (.builtin "object.__setattr__"))
theorem Cls.get {K : PySem.W.Frag} {C : Addr} (c : Cls K C) (f : Str) : PySem.W.plainGet K C f = true := c.pg
/-- no class of it has the name -/
def NoAttr (K : PySem.W.Frag) (C : Addr) (f : Str) : Prop := PySem.W.findIn K (.ref C) f = some none
theorem NoAttr.taker {K : PySem.W.Frag} {C : Addr} {f : Str} (n : NoAttr K C f) : PySem.W.takerIn K C f = some none := by
  unfold PySem.W.takerIn
  rw [show PySem.W.findIn K (.ref C) f = some none from n]
  rfl
/-- a constant of the class -/
structure Con (K : PySem.W.Frag) (C : Addr) (f : Str) (v : V) (u : Value) : Prop where
  at_ : PySem.W.findIn K (.ref C) f = some (some u)
  rel : RelV v u
  get : PySem.W.specialIn K u "__get__" = some none
  cp : PySem.W.copiedNames.contains f = false
/-- a method: a plain def of the class or of one above it -/
structure Meth (K : PySem.W.Frag) (C : Addr) (m : Str) (f : Addr) : Prop where
  at_ : PySem.W.findIn K (.ref C) m = some (some (.ref f))
  fn : PySem.W.isFn K (.ref f) = true
  kp : PySem.W.keepIn K (.ref f) = true

section
variable {X : Cx} {pins : List (Addr × Obj)} {σ : St} {H : Hp} {s : Shared} {a C dx : Addr} {fs : List (Str × V)} {f : Str} {v : V} {A : Around} {E : Value → Shared → Prop}

theorem getattr_ok {b : Bool} {Q : Value → Shared → Prop} (I : Inv X pins σ H s) (e : H a = some (.ins C dx fs)) (c : Cls X.K C) (n : NoAttr X.K C f) (l : fs.lookup f = some v)
    (h : ∀ u s', Inv X pins σ H s' → RelV v u → Q u s') : wpAny (model X.prog X.w) A (getAttr (.ref a) f b) Q E s := by
  obtain ⟨mA, O, r, _, _, _⟩ := ins_get I.hok e
  obtain ⟨u, hu, ru⟩ := RelO.some_of (v := v) (o := mA f) (by rw [← l]; exact r f)
  exact get_map I.kIn O (c.get f) c.hd n hu (handed_of ru) (h u _ (I.tok _) ru)

theorem getcon_ok {b : Bool} {u : Value} {Q : Value → Shared → Prop} (I : Inv X pins σ H s) (e : H a = some (.ins C dx fs)) (c : Cls X.K C) (k : Con X.K C f v u) (l : fs.lookup f = none)
    (h : ∀ s', Inv X pins σ H s' → Q u s') : wpAny (model X.prog X.w) A (getAttr (.ref a) f b) Q E s := by
  obtain ⟨mA, O, r, _, _, _⟩ := ins_get I.hok e
  have hn : mA f = none := RelO.none_of (by rw [← l]; exact r f)
  exact get_const I.kIn O (c.get f) c.hd k.at_ k.get k.cp hn (handed_of k.rel) (h _ (I.tok _))

theorem getmeth_ok {m : Str} {g : Addr} {pl : Sem Bool} {Q : Value × List Value → Shared → Prop} (I : Inv X pins σ H s) (e : H a = some (.ins C dx fs)) (c : Cls X.K C) (k : Meth X.K C m g) (l : fs.lookup m = none)
    (h : Q (.ref g, [.ref a]) s) : wpAny (model X.prog X.w) A (getMethod (.ref a) m pl) Q E s := by
  obtain ⟨mA, O, r, _, _, _⟩ := ins_get I.hok e
  have hn : mA m = none := RelO.none_of (by rw [← l]; exact r m)
  exact get_meth I.kIn O (c.get m) k.at_ k.fn hn h

theorem setattr_ok {y : V} {u : Value} {Q : Unit → Shared → Prop} (I : Inv X pins σ H s) (e : H a = some (.ins C dx fs)) (c : Cls X.K C) (n : NoAttr X.K C f) (hl : fs.length < 1000) (ry : RelV y u)
    (h : ∀ s', Inv X pins σ (upd H a (.ins C dx (putF f y fs))) s' → Q () s') : wpAny (model X.prog X.w) A (setAttr (.ref a) f u) Q E s := by
  obtain ⟨mA, O, r, wi, _, ho⟩ := ins_get I.hok e
  have hz : (fs.map (·.1)).length ≤ sizeLine := by rw [List.length_map, sizeLine_eq]; omega
  refine set_map I.kIn O c.sa c.po n.taker c.hd wi hz fun h' O' sb => h _ ?_
  have hd : ∃ o, h'.get? dx = some o := let ⟨o, _, _, e', _⟩ := O'.ns; ⟨o, e'⟩
  refine I.write (x := a) (e := dx) (by rw [e]; exact True.intro) (.inr ho) (fun b q hb z => (sb.2 b hb).trans z) hd ?_
  refine ⟨by rw [upd_ne O.ne]; exact ho, ?_, O.ne, O'.obj, _, O'.ns, fun g => ?_, fun g hg => ?_⟩
  · have := length_putF f y fs; omega
  · show RelO ((putF f y fs).lookup g) (if g = f then some u else mA g)
    rw [lookup_putF]
    by_cases q : g = f
    · rw [if_pos q, if_pos q]; exact ry
    · rw [if_neg q, if_neg q]; exact r g
  · by_cases q : g = f
    · rw [q]; exact (keys_putF f y fs).1
    · refine (keys_putF f y fs).2 g (wi g fun z => hg ?_)
      show (if g = f then some u else mA g) = none
      rw [if_neg q]; exact z

/-- a new instance, tracked, without attributes -/
theorem Inv.made (I : Inv X pins σ H s) : Inv X pins σ (upd (upd H s.heap.objs.size (.own (s.heap.objs.size + 1))) (s.heap.objs.size + 1) (.ins C s.heap.objs.size []))
    { s with heap := (s.heap.push PySem.W.emptyDict).push (PySem.W.instObj C s.heap.objs.size) } := by
  have e1 : (s.heap.push PySem.W.emptyDict).get? s.heap.objs.size = some PySem.W.emptyDict := Heap.get?_push_size s.heap rfl
  have e2 : ((s.heap.push PySem.W.emptyDict).push (PySem.W.instObj C s.heap.objs.size)).get? (s.heap.objs.size + 1) = some (PySem.W.instObj C s.heap.objs.size) := by
    have := Heap.get?_push_size (s.heap.push PySem.W.emptyDict) (o := PySem.W.instObj C s.heap.objs.size) rfl
    rwa [Heap.size_push] at this
  have e3 : (s.heap.push PySem.W.emptyDict).Ns s.heap.objs.size (fun _ => none) := ⟨PySem.W.emptyDict, #[], _, e1, rfl, (fun e he => absurd he (by simp)), fun _ => rfl⟩
  have I1 := I.laid (a := s.heap.objs.size) (o := .own (s.heap.objs.size + 1)) (h' := s.heap.push PySem.W.emptyDict) (t' := s.toks) (fun b u q => Heap.get?_push_of_some _ q) (Nat.le_refl _) ⟨_, e1⟩
  refine I1.laid (a := s.heap.objs.size + 1) (o := .ins C s.heap.objs.size []) (t' := s.toks) (fun b u q => Heap.get?_push_of_some _ q) (Nat.le_of_eq (Heap.size_push _ _)) ?_
  have ne : s.heap.objs.size ≠ s.heap.objs.size + 1 := Nat.ne_of_lt (Nat.lt_succ_self _)
  refine ⟨by rw [upd_ne ne, upd_same], Nat.zero_le _, ne, e2, fun _ => none, (Heap.Ns1.of_empty e3).at fun o q => Heap.get?_push_of_some _ q, fun _ => True.intro, fun y hy => absurd rfl hy⟩

/-- e.f where nothing but the object is asked: through attributeBase (super) and the last hold -/
theorem attr_of {prog : Program} {w : World} {env : Env} {e : Expr} {f : Str} {pos : Pos} {s : Shared} {Q : Value → Shared → Prop} (hb : attributeBase e f env (eval e env) = eval e env)
    (h : wpAny (model prog w) A (eval e env) (fun o s₁ => wpAny (model prog w) A (getAttr o f true) Q E s₁) E s) : wpAny (model prog w) A (eval (.Attribute e f pos) env) Q E s :=
  Attribute_any_ h (by rw [arm_eval_Attribute, hb])
end

/-! ### readings and rules -/
/-- e.f, an attribute of the instance -/
def tFld (K : PySem.W.Frag) (ta : TE) (f : Str) : TE := fun σ H Q => ta σ H fun x H1 => ∃ a C dx fs v, x = .ref a ∧ H1 a = some (.ins C dx fs) ∧ Cls K C ∧ NoAttr K C f ∧ fs.lookup f = some v ∧ Q v H1
/-- e.f, a constant of the class -/
def tCon (K : PySem.W.Frag) (ta : TE) (f : Str) : TE := fun σ H Q => ta σ H fun x H1 => ∃ a C dx fs v u, x = .ref a ∧ H1 a = some (.ins C dx fs) ∧ Cls K C ∧ Con K C f v u ∧ fs.lookup f = none ∧ Q v H1
/-- e.f = value -/
def sFld (K : PySem.W.Frag) (ta tv : TE) (f : Str) : TS := fun D σ H => tv σ H fun y H1 => ta σ H1 fun x H2 => ∃ a C dx fs, x = .ref a ∧ H2 a = some (.ins C dx fs) ∧ Cls K C ∧ NoAttr K C f ∧ fs.length < 1000 ∧
  D.nx σ (upd H2 a (.ins C dx (putF f y fs)))
/-- an augmented operator on two values -/
def InOp (X : Cx) (op : Operator) (rd : V → V → Hp → VK → Prop) : Prop :=
  ∀ (pins : List (Addr × Obj)) (s : Shared) (σ : St) (H : Hp) (x y : V) (u v : Value) (Q : VK), Inv X pins σ H s → RelV x u → RelV y v → rd x y H Q → wpAny (model X.prog X.w) X.A (inplaceOp op u v) (EP X pins σ Q) X.xe s
/-- e.f op= value -/
def sFldAug (K : PySem.W.Frag) (ta tv : TE) (rd : V → V → Hp → VK → Prop) (f : Str) : TS := fun D σ H => ta σ H fun x H1 => ∃ a C dx fs v, x = .ref a ∧ H1 a = some (.ins C dx fs) ∧ Cls K C ∧ NoAttr K C f ∧ fs.lookup f = some v ∧
  tv σ H1 fun y H2 => rd v y H2 fun z H3 => ∃ dx' fs', H3 a = some (.ins C dx' fs') ∧ fs'.length < 1000 ∧ D.nx σ (upd H3 a (.ins C dx' (putF f z fs')))

section
variable {X : Cx} {o e value : Expr} {f : Str} {pos pos' tpos : Pos} {ta tv : TE}
theorem pe_fld (he : PE X e ta) (hb : attributeBase e f X.env (eval e X.env) = eval e X.env) : PE X (.Attribute e f pos) (tFld X.K ta f) := by
  intro pins s σ H Q I h
  refine attr_of hb (thn (he pins s σ H _ I h) fun u s1 ⟨x, H1, I1, rx, a, C, dx, fs, v, ex, ea, c, n, l, q⟩ => ?_)
  subst ex
  obtain rfl : u = Value.ref a := rx
  exact getattr_ok I1 ea c n l fun u' s2 I2 ru => ⟨v, H1, I2, ru, q⟩
theorem pe_con (he : PE X e ta) (hb : attributeBase e f X.env (eval e X.env) = eval e X.env) : PE X (.Attribute e f pos) (tCon X.K ta f) := by
  intro pins s σ H Q I h
  refine attr_of hb (thn (he pins s σ H _ I h) fun u s1 ⟨x, H1, I1, rx, a, C, dx, fs, v, u0, ex, ea, c, k, l, q⟩ => ?_)
  subst ex
  obtain rfl : u = Value.ref a := rx
  exact getcon_ok I1 ea c k l fun s2 I2 => ⟨v, H1, I2, k.rel, q⟩
theorem ps_fld (ha : PE X o ta) (hv : PE X value tv) (hs : swapsWith value (some (.Attribute o f pos')) pos.line X.env = pure false) : PS X (.Assign [.Attribute o f pos'] value pos) (sFld X.K ta tv f) := by
  intro pins s σ H D I h
  refine plainObj_wpAny_Assign_Attribute (thn (hv pins s σ H _ I h) fun u s1 ⟨y, H1, I1, ry, q⟩ => thn (ha pins s1 σ H1 _ I1 q) fun ov s2 ⟨x, H2, I2, rx, a, C, dx, fs, ex, ea, c, n, l, q2⟩ => ?_) hs
  subst ex
  obtain rfl : ov = Value.ref a := rx
  exact setattr_ok I2 ea c n l ry fun s3 I3 => ⟨σ, _, I3, q2⟩
theorem ps_fldaug {op : Operator} {rd : V → V → Hp → VK → Prop} (ha : PE X o ta) (hv : PE X value tv) (hop : InOp X op rd) : PS X (.AugAssign (.Attribute o f tpos) op value pos) (sFldAug X.K ta tv rd f) := by
  intro pins s σ H D I h
  refine wpAny_AugAssign_AttributeAny (thn (ha pins s σ H _ I h) fun ov s1 ⟨x, H1, I1, rx, a, C, dx, fs, v, ex, ea, c, n, l, q⟩ => ?_)
  subst ex
  obtain rfl : ov = Value.ref a := rx
  refine getattr_ok I1 ea c n l fun u s2 I2 ru => thn (hv pins s2 σ H1 _ I2 q) fun w3 s3 ⟨y, H2, I3, ry, q3⟩ => thn (hop pins s3 σ H2 v y u w3 _ I3 ru ry q3) fun w4 s4 ⟨z, H3, I4, rz, dx', fs', ea', l', q4⟩ => ?_
  exact setattr_ok I4 ea' c n l' rz fun s5 I5 => ⟨σ, _, I5, q4⟩
def rAdd : V → V → Hp → VK → Prop := fun x y H Q => ∃ i j, x = .int i ∧ y = .int j ∧ Q (.int (i + j)) H
def rSub : V → V → Hp → VK → Prop := fun x y H Q => ∃ i j, x = .int i ∧ y = .int j ∧ Q (.int (i - j)) H
theorem in_add : InOp X .Add rAdd := by
  rintro pins s σ H x y u v Q I rx ry ⟨i, j, rfl, rfl, q⟩
  obtain ⟨t, rfl⟩ := (show ∃ t, u = Value.int i t from rx)
  obtain ⟨t', rfl⟩ := (show ∃ t', v = Value.int j t' from ry)
  exact PyProof.Rows.iadd_int ⟨.int (i + j), H, I.tok _, ⟨_, rfl⟩, q⟩
theorem in_sub : InOp X .Sub rSub := by
  rintro pins s σ H x y u v Q I rx ry ⟨i, j, rfl, rfl, q⟩
  obtain ⟨t, rfl⟩ := (show ∃ t, u = Value.int i t from rx)
  obtain ⟨t', rfl⟩ := (show ∃ t', v = Value.int j t' from ry)
  exact PyProof.Rows.isub_int ⟨.int (i - j), H, I.tok _, ⟨_, rfl⟩, q⟩

/-- what is between an instance and its method: the tree of a method call -/
theorem methcall_of {pl : Sem Bool} {m : Str} {apos : Pos} {args : List Expr} {pins : List (Addr × Obj)} {s : Shared} {σ : St} {H : Hp} {Q : Value → Shared → Prop} {te : TE} (he : PE X e te) (I : Inv X pins σ H s)
    (h : te σ H fun x H1 => ∃ a C dx fs g, x = .ref a ∧ H1 a = some (.ins C dx fs) ∧ Cls X.K C ∧ Meth X.K C m g ∧ fs.lookup m = none ∧
      ∀ s1, Inv X pins σ H1 s1 → wpAny (model X.prog X.w) X.A (callWith pos (.ref g) [.ref a] (backTo pos (starEach args X.env)) (backToKw pos (keywordEach [] X.env))) Q X.xe s1)
    (ht : eval (.Call (.Attribute e m apos) args [] pos) X.env = (do
      let ov ← eval e X.env
      standAt apos.atName
      let (f, first) ← holding [ov] (getMethod ov m pl)
      callWith pos f first (backTo pos (starEach args X.env)) (backToKw pos (keywordEach [] X.env)))) :
    wpAny (model X.prog X.w) X.A (eval (.Call (.Attribute e m apos) args [] pos) X.env) Q X.xe s := by
  refine PySem.W.methodCall_KW (pl := pl) (thn (he pins s σ H _ I h) fun u s1 ⟨x, H1, I1, rx, a, C, dx, fs, g, ex, ea, c, k, l, q⟩ => ?_) ht
  subst ex
  obtain rfl : u = Value.ref a := rx
  exact getmeth_ok I1 ea c k l (q s1 I1)
end

/-! ### isinstance -/
section
variable {X : Cx} {pins : List (Addr × Obj)} {σ : St} {H : Hp} {s : Shared} {A : Around} {E : Value → Shared → Prop} {Q : Value → Shared → Prop} {c : Value} {b : Bool}
/-- the type of a value, as the fragment's deciders take it; for an instance its class -/
inductive TyOf (K : PySem.W.Frag) (H : Hp) : V → Value → Prop where
  | non : TyOf K H .non (.type "NoneType")
  | bl (x : Bool) : TyOf K H (.bl x) (.type "bool")
  | int (i : Int) : TyOf K H (.int i) (.type "int")
  | str (x : Str) : TyOf K H (.str x) (.type "str")
  | flt (x : UInt64) : TyOf K H (.flt x) (.type "float")
  | lst {a : Addr} {xs : List V} (e : H a = some (.lst xs)) : TyOf K H (.ref a) (.type "list")
  | frz {a : Addr} {o : Obj} {xs : List V} (e : H a = some (.frz o (.lst xs))) : TyOf K H (.ref a) (.type "list")
  | tup {a : Addr} {xs : List V} (e : H a = some (.tup xs)) : TyOf K H (.ref a) (.type "tuple")
  | dK {a : Addr} {kvs : List (Key × V)} (e : H a = some (.dK kvs)) : TyOf K H (.ref a) (.type "dict")
  | dT {a : Addr} {kvs : List (List Key × V)} (e : H a = some (.dT kvs)) : TyOf K H (.ref a) (.type "dict")
  | ins {a C dx : Addr} {fs : List (Str × V)} (e : H a = some (.ins C dx fs)) (cl : Cls K C) (ha : PySem.W.findIn K (.ref C) "__class__" = some (some (.builtin "object.__class__")))
      (hn : PySem.W.specialIn K (.builtin "object.__class__") "__get__" = some (some (.builtin "getset_descriptor.__get__"))) (htk : PySem.W.takesIn K (.builtin "object.__class__") = some true)
      (hm : PySem.W.mroIn K C (.type "object") = some true) : TyOf K H (.ref a) (.ref C)
/-- isinstance(x, c) for one class c, a built-in or an own one: kitOne's answer -/
theorem isinst_ok {x : V} {u t : Value} (I : Inv X pins σ H s) (rx : RelV x u) (ty : TyOf X.K H x t) (e : PySem.W.kitOne X.K t c = some b) (h : ∀ tk, Q (.bool b) { s with toks := tk }) :
    wpAny (model X.prog X.w) A (call (.builtin "isinstance") [u, c]) Q E s := by
  cases ty with
  | non => cases (show u = Value.none from rx); exact PySem.W.kia_one PySem.W.kitx_none I.kIn True.intro e (fun z => nomatch z) h
  | bl y => cases (show u = Value.bool y from rx); exact PySem.W.kia_one PySem.W.kitx_bool I.kIn True.intro e (fun z => nomatch z) h
  | int i => obtain ⟨t, q⟩ := (show ∃ t, u = Value.int i t from rx); cases q; exact PySem.W.kia_one PySem.W.kitx_int I.kIn True.intro e (fun z => nomatch z) h
  | str y => obtain ⟨t, q⟩ := (show ∃ t, u = Value.str y t from rx); cases q; exact PySem.W.kia_one PySem.W.kitx_str I.kIn True.intro e (fun z => nomatch z) h
  | flt y => obtain ⟨t, q⟩ := (show ∃ t, u = Value.float y t from rx); cases q; exact PySem.W.kia_one PySem.W.kitx_float I.kIn True.intro e (fun z => nomatch z) h
  | @lst a xs ea =>
    cases (show u = Value.ref a from rx)
    obtain ⟨_, _, n, _, h1⟩ := (show ObjOk X.prog X.w H s.heap a (.lst xs) from I.hok a _ ea)
    exact PySem.W.kia_one PySem.W.kitx_list I.kIn ⟨_, h1, rfl⟩ e (fun z => nomatch z) h
  | @frz a ob xs ea =>
    cases (show u = Value.ref a from rx)
    obtain ⟨_, _, _, n, _, h1⟩ := (show ObjOk X.prog X.w H s.heap a (.frz ob (.lst xs)) from I.hok a _ ea)
    exact PySem.W.kia_one PySem.W.kitx_list I.kIn ⟨_, h1, rfl⟩ e (fun z => nomatch z) h
  | @tup a xs ea =>
    cases (show u = Value.ref a from rx)
    obtain ⟨_, _, _, p⟩ := (show ObjOk X.prog X.w H s.heap a (.tup xs) from I.hok a _ ea)
    obtain ⟨o, h1, h2, _⟩ := p
    exact PySem.W.kia_one PySem.W.kitx_tuple I.kIn ⟨o, h1, h2⟩ e (fun z => nomatch z) h
  | @dK a kvs ea =>
    cases (show u = Value.ref a from rx)
    obtain ⟨_, _, vs, _, p⟩ := (show ObjOk X.prog X.w H s.heap a (.dK kvs) from I.hok a _ ea)
    obtain ⟨o, es, ep, h1, h2, _⟩ := p
    exact PySem.W.kia_one PySem.W.kitx_dict I.kIn ⟨o, h1, h2.1⟩ e (fun z => nomatch z) h
  | @dT a kvs ea =>
    cases (show u = Value.ref a from rx)
    obtain ⟨_, _, xs, _, o, es, ep, h1, h2, _⟩ := (show ObjOk X.prog X.w H s.heap a (.dT kvs) from I.hok a _ ea)
    exact PySem.W.kia_one PySem.W.kitx_dict I.kIn ⟨o, h1, h2.1⟩ e (fun z => nomatch z) h
  | @ins a C dx fs ea cl ha hn htk hm =>
    cases (show u = Value.ref a from rx)
    obtain ⟨mA, O, _⟩ := ins_get I.hok ea
    obtain ⟨od, J, _⟩ := O.look
    exact PySem.W.kia_one (PySem.W.kitx_own (cl.get _) cl.hd ha hn htk hm) I.kIn J e (fun z => nomatch z) h
end
end L2

namespace L2
open PySem PySem.Spec PyProof.Rows

/-! ### room -/
structure Room (k : Nat) (A : Around) : Prop where
  hd : A.handled = none
  dp : A.depth + 3 * k + 5 < recursionLimit
  un : A.units + 16 * k + 200 < cLine
  gd : A.guards = some []
theorem Room.mono {j k : Nat} {A : Around} (r : Room k A) (h : j ≤ k) : Room j A := ⟨r.hd, by have := r.dp; omega, by have := r.un; omega, r.gd⟩
theorem Room.deeper {k : Nat} {A : Around} (r : Room (k + 1) A) (env : Env) : Room k (A.deeper env) :=
  ⟨r.hd, by have := r.dp; show A.depth + 1 + 3 * k + 5 < _; omega, by have := r.un; show A.units + 3 + 16 * k + 200 < _; omega, r.gd⟩
theorem Room.in1 {k : Nat} {A : Around} (r : Room (k + 1) A) : Room k A.in1 :=
  ⟨r.hd, by have := r.dp; show A.depth + 3 * k + 5 < _; omega, by have := r.un; show A.units + 1 + 16 * k + 200 < _; omega, r.gd⟩
theorem make_depth {A : Around} {C : Addr} {us : List Value} {kw : List (Str × Value)} : (A.under (.builtin "type.__call__" ⟨.ref C :: us, kw⟩)).depth = A.depth + 1 := by
  first | rfl | simp [Around.under, Code.weight, Code.isCreation, Code.isGuard, Code.isCaller, Code.frames, Code.isFrame, guardIds]
theorem make_units {A : Around} {C : Addr} {us : List Value} {kw : List (Str × Value)} : (A.under (.builtin "type.__call__" ⟨.ref C :: us, kw⟩)).units = A.units + 1 := by
  first | rfl | simp [Around.under, Code.cUnits, Code.frames, Code.isFrame]
theorem Room.make {k : Nat} {A : Around} (r : Room (k + 1) A) (C : Addr) (us : List Value) (kw : List (Str × Value)) : Room k (A.under (.builtin "type.__call__" ⟨.ref C :: us, kw⟩)) :=
  ⟨r.hd, by have := r.dp; rw [make_depth]; omega, by have := r.un; rw [make_units]; omega, by first | exact r.gd | simpa [Around.under, Code.isGuard, Code.isFrame, guardIds] using r.gd⟩
theorem Room.depth {k : Nat} {A : Around} (r : Room k A) : A.depth < recursionLimit := by have := r.dp; omega
theorem Room.units {k : Nat} {A : Around} (r : Room k A) : A.units + 64 < cLine := by have := r.un; omega
theorem Room.units0 {k : Nat} {A : Around} (r : Room k A) : A.units < cLine := by have := r.un; omega

/-! ### argument lists and displays -/
def tNil : TA := fun _ H Q => Q [] H
def tCons (ta : TE) (tr : TA) : TA := fun σ H Q => ta σ H fun x H1 => tr σ H1 fun xs H2 => Q (x :: xs) H2
section
variable {X : Cx} {e : Expr} {es : List Expr} {te : TE} {t : TA} {pos : Pos}
theorem pa_nil : PA X [] tNil := fun _ _ _ _ H Q I h => Calls.spliced_nil ⟨[], H, I, .nil, h⟩
theorem pa_cons (ha : PE X e te) (hr : PA X es t) (hs : starEach (e :: es) X.env = (false, eval e X.env) :: starEach es X.env := by rfl) : PA X (e :: es) (tCons te t) := by
  intro pos pins s σ H Q I h
  rw [hs]
  show wpAny _ _ (spliced ((false, eval e X.env) :: backTo pos (starEach es X.env))) _ _ s
  refine Calls.spliced_cons (thn (ha pins s σ H _ I h) fun u s1 ⟨x, H1, I1, r1, q1⟩ => ?_)
  exact thn (hr pos pins s1 σ H1 _ I1 q1) fun us s2 ⟨xs, H2, I2, r2, q2⟩ => ⟨x :: xs, H2, I2, .cons r1 r2, q2⟩

/-- a tuple, a list of written items -/
def tTup (t : TA) : TE := fun σ H Q => t σ H fun xs H1 => xs.length ≤ sizeLine ∧ ∀ p, H1 p = none → Q (.ref p) (upd H1 p (.tup xs))
def tLst (t : TA) : TE := fun σ H Q => t σ H fun xs H1 => xs.length ≤ sizeLine ∧ ∀ p, H1 p = none → Q (.ref p) (upd H1 p (.lst xs))
theorem pe_tup {x1} (h : PA X es t) : PE X (.Tuple es x1 pos) (tTup t) := by
  intro pins s σ H Q I hq
  refine wpAny_Tuple_spliced (thn (h pos pins s σ H _ I hq) fun us s1 ⟨xs, H1, I1, r, z, q⟩ => ⟨by rw [← r.length]; exact z, ?_⟩)
  have hf : H1 s1.heap.objs.size = none := I1.hok.fresh (Nat.le_refl _)
  refine ⟨.ref s1.heap.objs.size, upd H1 s1.heap.objs.size (.tup xs), I1.laid (t' := s1.toks) (fun b u e => Heap.get?_push_of_some _ e) (Nat.le_refl _) ?_, rfl, q _ hf⟩
  exact ⟨z, us, r, ⟨_, Heap.get?_push_size _ rfl, rfl, _, rfl⟩⟩
theorem pe_lst (h : PA X es t) : PE X (.List es pos) (tLst t) := by
  intro pins s σ H Q I hq
  refine wpAny_List_spliced (thn (h pos pins s σ H _ I hq) fun us s1 ⟨xs, H1, I1, r, z, q⟩ => ⟨by rw [← r.length]; exact z, ?_⟩)
  have hf : H1 s1.heap.objs.size = none := I1.hok.fresh (Nat.le_refl _)
  refine ⟨.ref s1.heap.objs.size, upd H1 s1.heap.objs.size (.lst xs), I1.laid (t' := s1.toks) (fun b u e => Heap.get?_push_of_some _ e) (Nat.le_refl _) ?_, rfl, q _ hf⟩
  exact ⟨z, us, 0, r, Heap.get?_push_size _ rfl⟩
end

/-! ### what a def promises -/
/-- a def's promise: the bound arguments in the parameters' order, the heap, the wanted end, the wanted exception -/
abbrev Sp := List V → Hp → VK → XK → Prop
/-- how an exception lies behind a call (file 08 gives it): the callers' frames, abstract heap and state ahead of the call, the wish, the exception, the state -/
abbrev CXT := List Env → Hp → Shared → XK → Value → Shared → Prop

/-- the state at a call -/
structure Env0 (P : Program) (w : World) (K : PySem.W.Frag) (mg : Str → Option Value) (base : Heap) (A : Around) (outer : List Env) (s : Shared) (H : Hp) : Prop where
  frames : A.frames = some outer
  mod : Mod K mg base
  bs : ∀ b o, base.get? b = some o → s.heap.get? b = some o ∧ H b = none
  bsz : base.objs.size ≤ s.heap.objs.size
  funs : s.heap.FunFrames base outer
  frf : ∀ b ∈ frs outer, H b = none
  hok : HOk P w H s.heap
  bare : AllBare s.gens
/-- a call's end -/
def CE (outer : List Env) (P : Program) (w : World) (H : Hp) (s : Shared) (Q : VK) (u : Value) (s' : Shared) : Prop :=
  ∃ v H', s'.os = s.os ∧ AllBare s'.gens ∧ Un (frs outer) [] H H' s.heap s'.heap ∧ HOk P w H' s'.heap ∧ RelV v u ∧ Q v H'
def CR (CX : CXT) (outer : List Env) (P : Program) (w : World) (H : Hp) (s : Shared) (Q : VK) (E : XK) (r : Result) (s' : Shared) : Prop :=
  match r with
  | .ok (.ret u) => CE outer P w H s Q u s'
  | .ok _ => False
  | .error e => CX outer H s E e s'
structure FnOk (P : Program) (w : World) (K : PySem.W.Frag) (mg : Str → Option Value) (base : Heap) (CX : CXT) (k : Nat) (f : Addr) (fd : FuncData) (ps : List Str) (sp : Sp) : Prop where
  len : ∀ vs H Q E, sp vs H Q E → vs.length = ps.length
  run : ∀ (A : Around) (outer : List Env) (s : Shared) (H : Hp) (args : Args) (us : List Value) (vs : List V) (Q : VK) (E : XK), Room k A → Env0 P w K mg base A outer s H → BindsTo s fd args (ps.zip us) → Vals vs us → sp vs H Q E →
    codeAny (model P w) A (.call (.ref f) args) (CR CX outer P w H s Q E) s
theorem FnOk.mono {P : Program} {w : World} {K : PySem.W.Frag} {mg : Str → Option Value} {base : Heap} {CX : CXT} {j k : Nat} {f : Addr} {fd : FuncData} {ps : List Str} {sp : Sp} (F : FnOk P w K mg base CX j f fd ps sp) (h : j ≤ k) :
    FnOk P w K mg base CX k f fd ps sp := ⟨F.len, fun A outer s H args us vs Q E hr => F.run A outer s H args us vs Q E (hr.mono h)⟩
/-- a weaker promise -/
theorem FnOk.imp {P : Program} {w : World} {K : PySem.W.Frag} {mg : Str → Option Value} {base : Heap} {CX : CXT} {k : Nat} {f : Addr} {fd : FuncData} {ps : List Str} {sp sp' : Sp} (F : FnOk P w K mg base CX k f fd ps sp)
    (h : ∀ vs H Q E, sp' vs H Q E → sp vs H Q E) : FnOk P w K mg base CX k f fd ps sp' :=
  ⟨fun vs H Q E q => F.len vs H Q E (h _ _ _ _ q), fun A outer s H args us vs Q E hr he hb hv hs => F.run A outer s H args us vs Q E hr he hb hv (h _ _ _ _ hs)⟩

theorem Env0.make {P : Program} {w : World} {K : PySem.W.Frag} {mg : Str → Option Value} {base : Heap} {A : Around} {outer : List Env} {s : Shared} {H : Hp} (e : Env0 P w K mg base A outer s H) (C : Addr) (us : List Value) (kw : List (Str × Value)) :
    Env0 P w K mg base (A.under (.builtin "type.__call__" ⟨.ref C :: us, kw⟩)) outer s H := ⟨by first | exact e.frames | (simpa [Around.under, Code.envs, Code.isFrame, pushEnvs] using e.frames), e.mod, e.bs, e.bsz, e.funs, e.frf, e.hok, e.bare⟩
theorem Env0.in1 {P : Program} {w : World} {K : PySem.W.Frag} {mg : Str → Option Value} {base : Heap} {A : Around} {outer : List Env} {s : Shared} {H : Hp} (e : Env0 P w K mg base A outer s H) :
    Env0 P w K mg base A.in1 outer s H := ⟨e.frames, e.mod, e.bs, e.bsz, e.funs, e.frf, e.hok, e.bare⟩

section
variable {X : Cx} {pins : List (Addr × Obj)} {σ : St} {H : Hp} {s s' : Shared}
/-- from a body: what a callee wants -/
theorem Inv.env0 (I : Inv X pins σ H s) : Env0 X.prog X.w X.K X.mg X.base X.A X.stack s H :=
  ⟨I.ok.frames, I.ok.mod, I.bs, Nat.le_trans I.ok.bsz I.sz, I.stack, I.stkFree, I.hok, I.bare⟩
/-- behind a call -/
theorem Inv.after {Q : VK} {u : Value} (I : Inv X pins σ H s) (h : CE X.stack X.prog X.w H s Q u s') : EP X pins σ Q u s' := by
  obtain ⟨v, H', os, bare, un, hok, r, q⟩ := h
  obtain ⟨hh, g, d, t, os'⟩ := s'
  obtain rfl : os' = s.os := os
  exact ⟨v, H', I.call (h' := hh) (g' := g) (d' := d) (t' := t) (ch := []) un hok bare (fun b z => absurd z (by simp)), r, q⟩
end

/-! ### calls -/
/-- f(..): the written arguments, then the defaults dvs; E: what is wanted of an exception -/
def tCall (sp : Sp) (dvs : List V) (E : XK) (t : TA) : TE := fun σ H Q => t σ H fun vs H1 => sp (vs ++ dvs) H1 Q E
/-- o.m(..) of an instance of the class at C -/
def tMeth (C : Addr) (m : Str) (sp : Sp) (dvs : List V) (E : XK) (ta : TE) (t : TA) : TE := fun σ H Q => ta σ H fun x H1 => ∃ a dx fs, x = .ref a ∧ H1 a = some (.ins C dx fs) ∧ fs.lookup m = none ∧
  t σ H1 fun vs H2 => sp (x :: (vs ++ dvs)) H2 Q E
/-- C(..): a new instance and its dict, then __init__ -/
def tMake (C : Addr) (sp : Sp) (dvs : List V) (E : XK) (t : TA) : TE := fun σ H Q => t σ H fun vs H1 => ∀ x dx, H1 x = none → H1 dx = none → dx ≠ x →
  sp (.ref x :: (vs ++ dvs)) (upd (upd H1 dx (.own x)) x (.ins C dx [])) (fun v H2 => v = .non ∧ Q (.ref x) H2) E

/-- how the parameters are bound: us the positional arguments, kw the keywords' values by name, ds the defaults that fill up -/
def Binds (K : PySem.W.Frag) (fd : FuncData) (ps : List Str) (ds : List Value) : Prop :=
  ∀ (s : Shared) (us : List Value), K.In s.heap → (us ++ ds).length = ps.length → BindsTo s fd ⟨us, []⟩ (ps.zip (us ++ ds))
/-- every parameter is given -/
theorem Binds.all {K : PySem.W.Frag} {fd : FuncData} {ps : List Str} (h : ∀ us : List Value, us.length = ps.length → bindArgs fd ⟨us, []⟩ = pure (ps.zip us)) : Binds K fd ps [] := fun s us _ hl => by
  rw [List.append_nil] at hl ⊢
  exact .of_eq (h us hl)

/-- an exception of a callee reaches what this body wants of exceptions -/
def Passes (CX : CXT) (X : Cx) (E : XK) : Prop := ∀ (pins : List (Addr × Obj)) (σ : St) (H : Hp) (s : Shared) (e : Value) (s' : Shared), Inv X pins σ H s → CX X.stack H s E e s' → X.xe e s'

section
variable {X : Cx} {CX : CXT} {k : Nat} {f C : Addr} {fd : FuncData} {ps : List Str} {sp : Sp} {dvs : List V} {ds : List Value} {E : XK} {x m : Str} {p pos apos : Pos} {e o : Expr} {es : List Expr} {ta : TE} {t : TA}

/-- the callee runs -/
theorem run_fn {pins : List (Addr × Obj)} {σ : St} {H : Hp} {s : Shared} {Q : VK} {us : List Value} {vs : List V} (F : FnOk X.prog X.w X.K X.mg X.base CX k f fd ps sp) (hr : Room k X.A) (hb : Binds X.K fd ps ds) (hd : Vals dvs ds) (hx : Passes CX X E)
    (I : Inv X pins σ H s) (r : Vals vs us) (h : sp (vs ++ dvs) H Q E) : wpAny (model X.prog X.w) X.A (call (.ref f) us) (EP X pins σ Q) X.xe s := by
  have r2 : Vals (vs ++ dvs) (us ++ ds) := r.append hd
  have hl : (us ++ ds).length = ps.length := by rw [← r2.length]; exact F.len _ _ _ _ h
  refine wpAny_call (codeAny_mono (F.run X.A X.stack s H ⟨us, []⟩ (us ++ ds) (vs ++ dvs) Q E hr I.env0 (hb s us I.kIn hl) r2 h) fun r s' hq => ?_)
  cases r with
  | error e => exact hx pins σ H s e s' I hq
  | ok fl =>
    cases fl with
    | ret u => exact I.after hq
    | next => exact False.elim hq
    | brk => exact False.elim hq
    | cont => exact False.elim hq

theorem pe_call (F : FnOk X.prog X.w X.K X.mg X.base CX k f fd ps sp) (hr : Room k X.A) (hg : Gl X x) (hm : X.mg x = some (.ref f)) (hk : PySem.W.keepIn X.K (.ref f) = true) (hb : Binds X.K fd ps ds) (hd : Vals dvs ds) (hx : Passes CX X E)
    (ha : PA X (e :: es) t) (hdb : (x == ("__debug__" : Str)) = false := by decide) (he : starEach (e :: es) X.env = (false, eval e X.env) :: starEach es X.env := by rfl) (hpl : (backTo pos (starEach es X.env)).any (·.1) = false := by rfl) :
    PE X (.Call (.Name x p) (e :: es) [] pos) (tCall sp dvs E t) := by
  intro pins s σ H Q I h
  refine wpAny_Call_Name_kw (ld_glob I hg hm ?_ hdb)
  refine PySem.W.callWith_K (h₀ := X.base) I.ok.mod.kin hk (thn (ha pos pins s σ H _ I h) fun us s1 ⟨vs, H1, I1, r, q⟩ => ⟨I1.kIn, ?_⟩) he hpl
  exact run_fn F hr hb hd hx I1 r q
theorem pe_call0 (F : FnOk X.prog X.w X.K X.mg X.base CX k f fd ps sp) (hr : Room k X.A) (hg : Gl X x) (hm : X.mg x = some (.ref f)) (hk : PySem.W.keepIn X.K (.ref f) = true) (hb : Binds X.K fd ps ds) (hd : Vals dvs ds) (hx : Passes CX X E)
    (hdb : (x == ("__debug__" : Str)) = false := by decide) : PE X (.Call (.Name x p) [] [] pos) (tCall sp dvs E tNil) := by
  intro pins s σ H Q I h
  refine wpAny_Call_Name_kw (ld_glob I hg hm ?_ hdb)
  exact PySem.W.callWith_K0 I.kIn hk (run_fn (us := []) F hr hb hd hx I .nil h)

/-- o.m(e, ..) -/
theorem pe_meth {pl : Sem Bool} (he : PE X o ta) (c : Cls X.K C) (hm : Meth X.K C m f) (F : FnOk X.prog X.w X.K X.mg X.base CX k f fd ps sp) (hr : Room k X.A) (hb : Binds X.K fd ps ds) (hd : Vals dvs ds) (hx : Passes CX X E) (ha : PA X (e :: es) t)
    (hst : starEach (e :: es) X.env = (false, eval e X.env) :: starEach es X.env := by rfl) (hpl : (backTo pos (starEach es X.env)).any (·.1) = false := by rfl)
    (ht : eval (.Call (.Attribute o m apos) (e :: es) [] pos) X.env = (do
      let ov ← eval o X.env
      standAt apos.atName
      let (f, first) ← holding [ov] (getMethod ov m pl)
      callWith pos f first (backTo pos (starEach (e :: es) X.env)) (backToKw pos (keywordEach [] X.env))) := by rfl) :
    PE X (.Call (.Attribute o m apos) (e :: es) [] pos) (tMeth C m sp dvs E ta t) := by
  intro pins s σ H Q I h
  refine PySem.W.methodCall_KW (pl := pl) (thn (he pins s σ H _ I h) fun u s1 ⟨x, H1, I1, rx, a, dx, fs, ex, ea, l, q⟩ => ?_) ht
  subst ex
  obtain rfl : u = Value.ref a := rx
  refine getmeth_ok I1 ea c hm l ?_
  refine PySem.W.callWith_K (first := [.ref a]) (h₀ := X.base) I.ok.mod.kin hm.kp (thn (ha pos pins s1 σ H1 _ I1 q) fun us s2 ⟨vs, H2, I2, r, q2⟩ => ⟨I2.kIn, ?_⟩) hst hpl
  exact run_fn (us := .ref a :: us) (vs := .ref a :: vs) F hr hb hd hx I2 (.cons rfl r) q2
/-- o.m() -/
theorem pe_meth0 {pl : Sem Bool} (he : PE X o ta) (c : Cls X.K C) (hm : Meth X.K C m f) (F : FnOk X.prog X.w X.K X.mg X.base CX k f fd ps sp) (hr : Room k X.A) (hb : Binds X.K fd ps ds) (hd : Vals dvs ds) (hx : Passes CX X E)
    (ht : eval (.Call (.Attribute o m apos) [] [] pos) X.env = (do
      let ov ← eval o X.env
      standAt apos.atName
      let (f, first) ← holding [ov] (getMethod ov m pl)
      callWith pos f first (backTo pos (starEach [] X.env)) (backToKw pos (keywordEach [] X.env))) := by rfl) :
    PE X (.Call (.Attribute o m apos) [] [] pos) (tMeth C m sp dvs E ta tNil) := by
  intro pins s σ H Q I h
  refine PySem.W.methodCall_KW (pl := pl) (thn (he pins s σ H _ I h) fun u s1 ⟨x, H1, I1, rx, a, dx, fs, ex, ea, l, q⟩ => ?_) ht
  subst ex
  obtain rfl : u = Value.ref a := rx
  refine getmeth_ok I1 ea c hm l ?_
  exact PySem.W.callWith_K0 (first := [.ref a]) I1.kIn hm.kp (run_fn (us := [.ref a]) (vs := [.ref a]) F hr hb hd hx I1 (.cons rfl .nil) q)

/-- what a class must have to be made -/
structure Mk (K : PySem.W.Frag) (C f : Addr) : Prop where
  makes : PySem.W.makesIn K C = true
  init : PySem.W.findIn K (.ref C) "__init__" = some (some (.ref f))
  fn : PySem.W.isFn K (.ref f) = true
  kp : PySem.W.keepIn K (.ref C) = true

theorem run_make {pins : List (Addr × Obj)} {σ : St} {H : Hp} {s : Shared} {Q : VK} {us : List Value} {vs : List V} (M : Mk X.K C f) (F : FnOk X.prog X.w X.K X.mg X.base CX k f fd ps sp) (hr : Room (k + 1) X.A) (hb : Binds X.K fd ps ds) (hd : Vals dvs ds)
    (hx : Passes CX X E) (I : Inv X pins σ H s) (r : Vals vs us)
    (h : ∀ x dx, H x = none → H dx = none → dx ≠ x → sp (.ref x :: (vs ++ dvs)) (upd (upd H dx (.own x)) x (.ins C dx [])) (fun v H2 => v = .non ∧ Q (.ref x) H2) E) :
    wpAny (model X.prog X.w) X.A (call (.ref C) us) (EP X pins σ Q) X.xe s := by
  have hq := h (s.heap.objs.size + 1) s.heap.objs.size (I.hok.fresh (Nat.le_succ _)) (I.hok.fresh (Nat.le_refl _)) (Nat.ne_of_lt (Nat.lt_succ_self _))
  have I2 := Inv.made (C := C) I
  have r2 : Vals (V.ref (s.heap.objs.size + 1) :: (vs ++ dvs)) (Value.ref (s.heap.objs.size + 1) :: (us ++ ds)) := .cons rfl (r.append hd)
  have hl : (Value.ref (s.heap.objs.size + 1) :: us ++ ds).length = ps.length := by
    have e := r2.length
    rw [F.len _ _ _ _ hq] at e
    exact e.symm
  refine wpAny_call (make_map (f := f) I.kIn M.makes M.init (beq_iff_eq.mp M.fn) (codeAny_mono (F.run _ X.stack _ _ ⟨Value.ref (s.heap.objs.size + 1) :: us, []⟩ (Value.ref (s.heap.objs.size + 1) :: (us ++ ds)) _ _ E (hr.make C us [])
    (I2.env0.make C us []) (hb _ (Value.ref (s.heap.objs.size + 1) :: us) I2.kIn hl) r2 hq) fun r s' hq' => ?_))
  cases r with
  | error e => exact hx pins σ _ _ e s' I2 hq'
  | ok fl =>
    cases fl with
    | ret u =>
      obtain ⟨v, H', I3, rv, ev, q3⟩ := I2.after hq'
      subst ev
      exact ⟨rv, ⟨V.ref (s.heap.objs.size + 1), H', I3, rfl, q3⟩⟩
    | next => exact False.elim hq'
    | brk => exact False.elim hq'
    | cont => exact False.elim hq'
theorem pe_make (M : Mk X.K C f) (F : FnOk X.prog X.w X.K X.mg X.base CX k f fd ps sp) (hr : Room (k + 1) X.A) (hg : Gl X x) (hm : X.mg x = some (.ref C)) (hb : Binds X.K fd ps ds) (hd : Vals dvs ds) (hx : Passes CX X E)
    (ha : PA X (e :: es) t) (hdb : (x == ("__debug__" : Str)) = false := by decide) (he : starEach (e :: es) X.env = (false, eval e X.env) :: starEach es X.env := by rfl) (hpl : (backTo pos (starEach es X.env)).any (·.1) = false := by rfl) :
    PE X (.Call (.Name x p) (e :: es) [] pos) (tMake C sp dvs E t) := by
  intro pins s σ H Q I h
  refine wpAny_Call_Name_kw (ld_glob I hg hm ?_ hdb)
  refine PySem.W.callWith_K (h₀ := X.base) I.ok.mod.kin M.kp (thn (ha pos pins s σ H _ I h) fun us s1 ⟨vs, H1, I1, r, q⟩ => ⟨I1.kIn, ?_⟩) he hpl
  exact run_make M F hr hb hd hx I1 r q
theorem pe_make0 (M : Mk X.K C f) (F : FnOk X.prog X.w X.K X.mg X.base CX k f fd ps sp) (hr : Room (k + 1) X.A) (hg : Gl X x) (hm : X.mg x = some (.ref C)) (hb : Binds X.K fd ps ds) (hd : Vals dvs ds) (hx : Passes CX X E)
    (hdb : (x == ("__debug__" : Str)) = false := by decide) : PE X (.Call (.Name x p) [] [] pos) (tMake C sp dvs E tNil) := by
  intro pins s σ H Q I h
  refine wpAny_Call_Name_kw (ld_glob I hg hm ?_ hdb)
  exact PySem.W.callWith_K0 I.kIn M.kp (run_make (us := []) M F hr hb hd hx I .nil h)
end

/-! ### keywords -/
/-- the values of the keywords, from the left -/
def PK (X : Cx) (kws : List Keyword) (t : TA) : Prop :=
  ∀ (pos : Pos) (pins : List (Addr × Obj)) (s : Shared) (σ : St) (H : Hp) (Q : List V → Hp → Prop), Inv X pins σ H s → t σ H Q → wpAny (model X.prog X.w) X.A (evalAll ((backToKw pos (keywordEach kws X.env)).map (·.2))) (AP X pins σ Q) X.xe s
section
variable {X : Cx} {CX : CXT} {k : Nat} {f C : Addr} {fd : FuncData} {ps ks : List Str} {sp : Sp} {E : XK} {x m : Str} {p pos apos kpos : Pos} {e o : Expr} {es : List Expr} {kws : List Keyword} {te ta : TE} {t tk : TA} {nm : Option Str}
theorem pk_nil : PK X [] tNil := fun _ _ _ _ H Q I h => wpAny_evalAll_nil ⟨[], H, I, .nil, h⟩
theorem pk_cons (ha : PE X e te) (hr : PK X kws t) : PK X (⟨nm, e, kpos⟩ :: kws) (tCons te t) := by
  intro pos pins s σ H Q I h
  show wpAny _ _ (evalAll ((do let v ← eval e X.env; standAt pos; pure v) :: (backToKw pos (keywordEach kws X.env)).map (·.2))) _ _ s
  refine wpAny_evalAll_cons (wpAny_bind (thn (ha pins s σ H _ I h) fun u s1 ⟨x, H1, I1, r1, q1⟩ => wpAny_bind (wpAny_standAt (wpAny_pure ?_))))
  exact thn (hr pos pins s1 σ H1 _ I1 q1) fun us s2 ⟨xs, H2, I2, r2, q2⟩ => ⟨x :: xs, H2, I2, .cons r1 r2, q2⟩

/-- how a call with keywords binds: g puts the positional values us and the keywords' values ws (names ks) in the parameters' order, defaults among them -/
structure KBinds (K : PySem.W.Frag) (fd : FuncData) (ps ks : List Str) (g : List Value → List Value → List Value) (gV : List V → List V → List V) : Prop where
  to : ∀ (s : Shared) (us ws : List Value), K.In s.heap → (g us ws).length = ps.length → BindsTo s fd ⟨us, ks.zip ws⟩ (ps.zip (g us ws))
  rel : ∀ {vs : List V} {us : List Value} {zs : List V} {ws : List Value}, Vals vs us → Vals zs ws → Vals (gV vs zs) (g us ws)
def tCallK (sp : Sp) (gV : List V → List V → List V) (E : XK) (t tk : TA) : TE := fun σ H Q => t σ H fun vs H1 => tk σ H1 fun zs H2 => sp (gV vs zs) H2 Q E
variable {g : List Value → List Value → List Value} {gV : List V → List V → List V}
theorem run_fnk {pins : List (Addr × Obj)} {σ : St} {H : Hp} {s : Shared} {Q : VK} {us ws : List Value} {vs zs : List V} (F : FnOk X.prog X.w X.K X.mg X.base CX k f fd ps sp) (hr : Room k X.A) (hb : KBinds X.K fd ps ks g gV) (hx : Passes CX X E)
    (I : Inv X pins σ H s) (r : Vals vs us) (rz : Vals zs ws) (h : sp (gV vs zs) H Q E) : wpAny (model X.prog X.w) X.A (call (.ref f) us (ks.zip ws)) (EP X pins σ Q) X.xe s := by
  have r2 := hb.rel r rz
  have hl : (g us ws).length = ps.length := by rw [← r2.length]; exact F.len _ _ _ _ h
  refine wpAny_call (codeAny_mono (F.run X.A X.stack s H ⟨us, ks.zip ws⟩ (g us ws) (gV vs zs) Q E hr I.env0 (hb.to s us ws I.kIn hl) r2 h) fun r s' hq => ?_)
  cases r with
  | error e => exact hx pins σ H s e s' I hq
  | ok fl =>
    cases fl with
    | ret u => exact I.after hq
    | next => exact False.elim hq
    | brk => exact False.elim hq
    | cont => exact False.elim hq
/-- f(e, .., k = v, ..) -/
theorem pe_callK (F : FnOk X.prog X.w X.K X.mg X.base CX k f fd ps sp) (hr : Room k X.A) (hg : Gl X x) (hm : X.mg x = some (.ref f)) (hk : PySem.W.keepIn X.K (.ref f) = true) (hb : KBinds X.K fd ps ks g gV) (hx : Passes CX X E)
    (ha : PA X (e :: es) t) (hkw : PK X kws tk) (hall : (backToKw pos (keywordEach kws X.env)).all (·.1.isSome) = true := by rfl) (hks : (backToKw pos (keywordEach kws X.env)).filterMap (·.1) = ks := by rfl)
    (hdb : (x == ("__debug__" : Str)) = false := by decide) (he : starEach (e :: es) X.env = (false, eval e X.env) :: starEach es X.env := by rfl)
    (hpl : ((backTo pos (starEach (e :: es) X.env)).any (·.1) || (backToKw pos (keywordEach kws X.env)).any (·.1.isNone)) = false := by rfl) :
    PE X (.Call (.Name x p) (e :: es) kws pos) (tCallK sp gV E t tk) := by
  intro pins s σ H Q I h
  refine wpAny_Call_Name_kw (ld_glob I hg hm ?_ hdb)
  refine PySem.W.callWith_KW (h₀ := X.base) I.ok.mod.kin hk hall (thn (ha pos pins s σ H _ I h) fun us s1 ⟨vs, H1, I1, r, q⟩ => ?_) hpl he
  refine thn (hkw pos pins s1 σ H1 _ I1 q) fun ws s2 ⟨zs, H2, I2, rz, q2⟩ => ⟨I2.kIn, ?_⟩
  rw [hks]
  exact run_fnk F hr hb hx I2 r rz q2
end

/-! ### a def's body keeps its promise -/
/-- names: the parameters first -/
structure FnScope (N P : List Str) (sc : Scope) : Prop where
  kind : sc.kind = .function
  co : sc.isCoroutine = false
  gen : sc.isGenerator = false
  nd : N.Nodup
  pre : N.take P.length = P
  par : ∀ x ∈ P, sc.names.lookup x = some .local ∨ sc.names.lookup x = some .cell
  nofree : ∀ y ∈ sc.names, y.2 ≠ .free

theorem bindL_out {kindOf : Str → Option NameKind} {x : Str} : ∀ {binds : List (Str × Value)} {m : Str → Option Value}, (∀ v, (x, v) ∉ binds) → bindL kindOf binds m x = m x
  | [], _, _ => rfl
  | (n, v) :: r, m, h => by
    unfold bindL
    rw [bindL_out fun w hw => h w (List.mem_cons_of_mem _ hw)]
    split
    · have : x ≠ n := by rintro rfl; exact h v List.mem_cons_self
      simp [this]
    · rfl
theorem bindC_out {kindOf : Str → Option NameKind} {x : Str} : ∀ {binds : List (Str × Value)} {m : Str → Option Value}, (∀ v, (x, v) ∉ binds) → bindC kindOf binds m x = m x
  | [], _, _ => rfl
  | (n, v) :: r, m, h => by
    unfold bindC
    rw [bindC_out fun w hw => h w (List.mem_cons_of_mem _ hw)]
    split
    · rfl
    · have : x ≠ n := by rintro rfl; exact h v List.mem_cons_self
      simp [this]
theorem bindL_get {kindOf : Str → Option NameKind} {x : Str} {v : Value} : ∀ {P : List Str} {vs : List Value} {i : Nat} {m : Str → Option Value}, P.Nodup → P[i]? = some x → vs[i]? = some v → kindOf x = some .local →
    bindL kindOf (P.zip vs) m x = some v
  | [], _, _, _, _, h, _, _ => by simp at h
  | _ :: _, [], _, _, _, _, h, _ => by simp at h
  | p :: P, w :: vs, 0, m, nd, h1, h2, hk => by
    simp at h1 h2; subst h1; subst h2
    show bindL kindOf ((p, w) :: P.zip vs) m p = _
    unfold bindL
    rw [bindL_out fun v hv => (List.nodup_cons.mp nd).1 (List.of_mem_zip hv).1, if_pos hk]
    simp
  | p :: P, w :: vs, i + 1, m, nd, h1, h2, hk => by
    show bindL kindOf ((p, w) :: P.zip vs) m x = _
    unfold bindL
    exact bindL_get (i := i) (List.nodup_cons.mp nd).2 (by simpa using h1) (by simpa using h2) hk
theorem bindC_get {kindOf : Str → Option NameKind} {x : Str} {v : Value} : ∀ {P : List Str} {vs : List Value} {i : Nat} {m : Str → Option Value}, P.Nodup → P[i]? = some x → vs[i]? = some v → kindOf x ≠ some .local →
    bindC kindOf (P.zip vs) m x = some v
  | [], _, _, _, _, h, _, _ => by simp at h
  | _ :: _, [], _, _, _, _, h, _ => by simp at h
  | p :: P, w :: vs, 0, m, nd, h1, h2, hk => by
    simp at h1 h2; subst h1; subst h2
    show bindC kindOf ((p, w) :: P.zip vs) m p = _
    unfold bindC
    rw [bindC_out fun v hv => (List.nodup_cons.mp nd).1 (List.of_mem_zip hv).1, if_neg hk]
    simp
  | p :: P, w :: vs, i + 1, m, nd, h1, h2, hk => by
    show bindC kindOf ((p, w) :: P.zip vs) m x = _
    unfold bindC
    exact bindC_get (i := i) (List.nodup_cons.mp nd).2 (by simpa using h1) (by simpa using h2) hk

/-- the names' values at the entry -/
def start (N : List Str) (vs : List V) : St := vs.map some ++ List.replicate (N.length - vs.length) none

/-- the context of a def's body, at its entry; an exception leaves the frame, then lies as CX says -/
def cxOf (CX : CXT) (P : Program) (w : World) (K : PySem.W.Frag) (mg : Str → Option Value) (base : Heap) (N : List Str) (qual : Str) (scope : Scope) (f : Addr) (cd : Value) (A : Around) (outer : List Env) (s : Shared) (H : Hp) (E : XK) : Cx where
  prog := P
  w := w
  K := K
  mg := mg
  base := base
  A := A.deeper (envOfC qual scope s.heap.objs.size f cd)
  N := N
  s₀ := s
  H₀ := H
  env := envOfC qual scope s.heap.objs.size f cd
  outer := outer
  stack := envOfC qual scope s.heap.objs.size f cd :: outer
  ex := []
  calm := true
  fn := fun _ => true
  pn := []
  xe := fun e s' => wpAny (model P w) (A.deeper (envOfC qual scope s.heap.objs.size f cd)) (leaving (envOfC qual scope s.heap.objs.size f cd) e) (fun _ s'' => CX outer H s E e s'') (fun e' s'' => CX outer H s E e' s'') s'

theorem cell_has {sc : Scope} {n : Nat} {x : Str} (h : sc.names.lookup x = some .cell) : ∃ c, (cellsFrom n sc.names []).lookup x = some c := by
  have q := PySem.W.cellsFrom_some sc.names n [] (.inl h)
  exact Option.isSome_iff_exists.mp q

theorem inv_start {CX : CXT} {P : Program} {w : World} {K : PySem.W.Frag} {mg : Str → Option Value} {base : Heap} {N ps : List Str} {qual : Str} {scope : Scope} {f : Addr} {cd : Value} {A : Around} {outer : List Env} {s s1 : Shared} {H : Hp} {E : XK} {us : List Value} {vs : List V}
    (S : FnScope N ps scope) (hd : A.handled = none) (e0 : Env0 P w K mg base A outer s H) (hl : vs.length = ps.length) (r : Vals vs us)
    (x : InCallC s s.heap.objs.size (bindL (envOfC qual scope s.heap.objs.size f cd).kindOf (ps.zip us) fun _ => none) (cellsFrom (s.heap.objs.size + 1) scope.names []) (bindC (envOfC qual scope s.heap.objs.size f cd).kindOf (ps.zip us) fun _ => none) s1) :
    Inv (cxOf CX P w K mg base N qual scope f cd A outer s H E) [] (start N vs) H s1 := by
  have hpl : ps.length ≤ N.length := by have := congrArg List.length S.pre; rw [List.length_take] at this; omega
  obtain ⟨h1, tk, rfl, hk⟩ := x.done
  have noA : ∀ b : Addr, b ∉ (cxOf CX P w K mg base N qual scope f cd A outer s H E).ex := fun b z => absurd (show b ∈ ([] : List Addr) from z) (by simp)
  refine ⟨⟨e0.mod, S.kind, rfl, rfl, Nat.le_refl _, fun y z c h1 h2 => ?_, fun y hy => ?_, fun y c _ h => ?_, fun _ => hd, Around.frames_deeper e0.frames, .inr ⟨rfl, rfl⟩, fun b z => absurd z (noA b), e0.bs, e0.bsz, fun b _ _ => noA b, fun b z => absurd z (noA b), e0.funs, e0.frf⟩,
    rfl, e0.bare, Un.kept hk, ⟨_, x.toInCall.ns, fun i y v h1 h2 h3 => ?_⟩, fun y c h => ⟨_, x.cell y c h⟩, e0.hok.fresh (Nat.le_refl _), fun y c h => ?_, fun p hp => absurd (show p ∈ ([] : List (Addr × Obj)) from hp) (by simp), e0.hok.kept hk, ?_⟩
  · exact name_of_addr x.apart (PySem.mem_of_lookup h1) (PySem.mem_of_lookup h2)
  · have hy : scope.names.lookup y = some .cell ∨ scope.names.lookup y = some .free := hy
    rcases hy with hy | hy
    · exact cell_has hy
    · exact absurd rfl (S.nofree _ (PySem.mem_of_lookup hy))
  · exact Nat.le_of_lt (x.above y c (PySem.mem_of_lookup h))
  · have hi : i < vs.length := by
      unfold start at h2
      by_cases hi : i < vs.length
      · exact hi
      · rw [List.getElem?_append_right (by simpa using hi)] at h2
        rw [List.getElem?_replicate] at h2
        split at h2 <;> cases h2
    have ha : vs[i]? = some v := by
      unfold start at h2
      rw [List.getElem?_append_left (by simpa using hi), List.getElem?_map] at h2
      cases e : vs[i]? with
      | none => rw [e] at h2; cases h2
      | some a => rw [e] at h2; cases h2; rfl
    obtain ⟨u, hu, rv⟩ := r.get ha
    have hp : ps[i]? = some y := by
      rw [← S.pre, List.getElem?_take_of_lt (by omega)]; exact h1
    have ndP : ps.Nodup := by rw [← S.pre]; exact S.nd.sublist (List.take_sublist _ _)
    refine ⟨u, rv, ?_⟩
    rcases S.par y (List.mem_of_getElem? hp) with k | k
    · exact .inl ⟨k, bindL_get ndP hp hu k⟩
    · obtain ⟨c, e⟩ := cell_has (n := s.heap.objs.size + 1) k
      refine .inr ⟨.inl k, c, e, ?_⟩
      have q := x.cell y c e
      rw [bindC_get ndP hp hu (by show scope.names.lookup y ≠ _; rw [k]; decide)] at q
      exact q
  · exact e0.hok.fresh (Nat.le_of_lt (x.above y c (PySem.mem_of_lookup h)))
  · unfold start
    show _ = N.length
    rw [List.length_append, List.length_map, List.length_replicate]
    omega

/-- THE RULE: a def (or a method) of the text, by its body. The body's reading t is chosen for each entry; it is run at the parameters' values -/
theorem fn_of {CX : CXT} {P : Program} {w : World} {K : PySem.W.Frag} {mg : Str → Option Value} {base : Heap} {k : Nat} {f : Addr} {name qual : Str} {params : Arguments} {body : List Stmt} {scope : Scope} {dV kV doc pm cdv ct oc : Value} {an od : Option Addr}
    {osl : Array (Option Value)} {N ps : List Str} {sp : Sp} (lk : K.lookup f = some ⟨oc, od, .func (PySem.W.fnOf name qual params body scope dV kV doc pm an cdv ct), osl⟩) (hcd : PySem.W.codeIn K cdv qual = true) (S : FnScope N ps scope)
    (len : ∀ vs H Q E, sp vs H Q E → vs.length = ps.length)
    (hbody : ∀ (A : Around) (outer : List Env) (s : Shared) (H : Hp) (vs : List V) (Q : VK) (E : XK), Room k (A.deeper (envOfC qual scope s.heap.objs.size f cdv)) → sp vs H Q E →
      ∃ t, PSs (cxOf CX P w K mg base N qual scope f cdv A outer s H E) body t ∧ t { nx := fun _ H' => Q .non H', rt := Q } (start N vs) H) :
    FnOk P w K mg base CX (k + 1) f (PySem.W.fnOf name qual params body scope dV kV doc pm an cdv ct) ps sp := by
  refine ⟨len, fun A outer s H args us vs Q E hr e0 hb r hsp => ?_⟩
  have hl := len _ _ _ _ hsp
  have KX : K.In s.heap := e0.mod.kin.keeps fun b o e => (e0.bs b o e).1
  have lim : s.heap.NoLimit := e0.mod.nolimit.keeps fun b o e => (e0.bs b o e).1
  have hkind : ∀ y ∈ ps.zip us, scope.names.lookup y.1 = some .local ∨ (scope.names.lookup y.1 = some .cell ∧ ((cellsFrom (s.heap.objs.size + 1) scope.names []).lookup y.1).isSome = true) := fun ⟨n, v⟩ hy => by
    rcases S.par n (List.of_mem_zip hy).1 with q | q
    · exact .inl q
    · exact .inr ⟨q, PySem.W.cellsFrom_some _ _ _ (.inl q)⟩
  refine codeAny_call_function hr.depth (KX _ _ lk) rfl S.co S.gen rfl (PySem.W.codeRec_of KX hcd) (hb _ _ _ _ ?_)
  refine wpAny_newFunctionEnv_cells S.kind hkind fun env he s1 x => ?_
  subst he
  refine ⟨lim.keeps x.toInCall.keep, codeAny_func ?_⟩
  obtain ⟨t, ht, hq⟩ := hbody A outer s H vs Q E (hr.deeper _) hsp
  have I : Inv (cxOf CX P w K mg base N qual scope f cdv A outer s H E) [] (start N vs) H s1 := inv_start S hr.hd e0 hl r x
  refine wpAny_mono (ht [] s1 (start N vs) H _ I hq) (fun fl s' hs => ?_) fun e s' hs => hs
  have fin : ∀ {σ' : St} {H' : Hp} {v : V} {u : Value}, Inv (cxOf CX P w K mg base N qual scope f cdv A outer s H E) [] σ' H' s' → RelV v u → Q v H' → CE outer P w H s Q u s' :=
    fun {σ' H' v u} J rv q => ⟨v, H', J.os, J.bare, J.base, J.hok, rv, q⟩
  cases fl with
  | ret u =>
    obtain ⟨v, σ', H', J, rv, q⟩ := hs
    exact fin J rv q
  | next =>
    obtain ⟨σ', H', J, q⟩ := hs
    exact fin (v := V.non) (u := Value.none) J rfl q
  | brk =>
    obtain ⟨_, _, _, q⟩ := hs
    exact False.elim q
  | cont =>
    obtain ⟨_, _, _, q⟩ := hs
    exact False.elim q
end L2

namespace L2
open PySem PySem.Spec PyProof.Rows
section
variable {X : Cx} {x : Str} {p pos : Pos} {e : Expr} {es : List Expr} {t : TA} {id T : String} {r : List V → Hp → VK → Prop}

def tCB (r : List V → Hp → VK → Prop) (t : TA) : TE := fun σ H Q => t σ H fun vs H1 => r vs H1 Q
/-- f(e, ..), f a built-in function -/
theorem pe_callB (hc : CallR X (.builtin id) r) (hg : Gl X x) (hm : X.mg x = none) (hv : bootBuiltins x = some (.builtin id)) (ha : PA X (e :: es) t) (hn : x ≠ "__name__" := by decide) (hdb : (x == ("__debug__" : Str)) = false := by decide)
    (he : starEach (e :: es) X.env = (false, eval e X.env) :: starEach es X.env := by rfl) (hpl : (backTo pos (starEach es X.env)).any (·.1) = false := by rfl) : PE X (.Call (.Name x p) (e :: es) [] pos) (tCB r t) := by
  intro pins s σ H Q I h
  refine wpAny_Call_Name_kw (ld_blt I hg hm hv ?_ hn hdb)
  exact PyProof.Rows.callWith_builtin1 (thn (ha pos pins s σ H _ I h) fun us s1 ⟨vs, H1, I1, r1, q1⟩ => hc pins s1 σ H1 vs us Q I1 r1 q1) he hpl
/-- T(e, ..), T a built-in type -/
theorem pe_callTy (hc : CallR X (.type T) r) (hg : Gl X x) (hm : X.mg x = none) (hv : bootBuiltins x = some (.type T)) (ha : PA X (e :: es) t) (hn : x ≠ "__name__" := by decide) (hdb : (x == ("__debug__" : Str)) = false := by decide)
    (he : starEach (e :: es) X.env = (false, eval e X.env) :: starEach es X.env := by rfl) (hpl : (backTo pos (starEach es X.env)).any (·.1) = false := by rfl) : PE X (.Call (.Name x p) (e :: es) [] pos) (tCB r t) := by
  intro pins s σ H Q I h
  refine wpAny_Call_Name_kw (ld_blt I hg hm hv ?_ hn hdb)
  exact PyProof.Rows.callWith_type1 (thn (ha pos pins s σ H _ I h) fun us s1 ⟨vs, H1, I1, r1, q1⟩ => hc pins s1 σ H1 vs us Q I1 r1 q1) he hpl
/-- T() -/
theorem pe_callTy0 (hc : CallR X (.type T) r) (hg : Gl X x) (hm : X.mg x = none) (hv : bootBuiltins x = some (.type T)) (hn : x ≠ "__name__" := by decide) (hdb : (x == ("__debug__" : Str)) = false := by decide) :
    PE X (.Call (.Name x p) [] [] pos) (tCB r tNil) := by
  intro pins s σ H Q I h
  refine wpAny_Call_Name_kw (ld_blt I hg hm hv ?_ hn hdb)
  exact PyProof.Rows.callWith_type0 (hc pins s σ H [] [] Q I .nil h)
end
end L2

namespace HT
open PySem PyProof.Rows

/-- t < u of tuples of ints -/
def lexLt : List Int → List Int → Bool
  | [], [] => false
  | [], _ :: _ => true
  | _ :: _, [] => false
  | x :: xs, y :: ys => if x = y then lexLt xs ys else decide (x < y)
theorem lexLt_cons (x y : Int) (xs ys : List Int) : lexLt (x :: xs) (y :: ys) = if x = y then lexLt xs ys else decide (x < y) := rfl
theorem lexLt_nil_nil : lexLt [] [] = false := rfl
theorem lexLt_nil_cons (y : Int) (ys : List Int) : lexLt [] (y :: ys) = true := rfl
theorem lexLt_cons_nil (x : Int) (xs : List Int) : lexLt (x :: xs) [] = false := rfl

theorem eqAt_int (A : Around) (s : Shared) (a : Int) (t : Tok) (c : Int) (u : Tok) : ∃ e, SeqAt.EqAt A s (.int a t) (.int c u) e ∧ (e = true ↔ a = c) :=
  ⟨(a == c), SeqAt.EqAt.int_int a t c u, by simp⟩
theorem rcLt_int (A : Around) (s : Shared) (a : Int) (t : Tok) (c : Int) (u : Tok) (prog : Program) (w : World) (E : Value → Shared → Prop) (Q : Value → Shared → Prop) (h : Q (.bool (decide (a < c))) s) :
    wpAny (model prog w) A (richCompare .Lt (.int a t) (.int c u)) Q E s :=
  (PyProof.Rows.lt_int h : wpAny (model prog w) A (compareOp .Lt (.int a t) (.int c u)) Q E s)

section
open PySem.SeqAt
open PySem.AutoSeq1 (wpAny_loadPart')
open PySem.MeetsSeq PySem.MeetsSeq2 PySem.MeetsSeq3

theorem tuple_lt_ints (l b : Addr) (items items2 : Array Value) (n n2 : Nat) (dd dd2 : Option Addr) (sl sl2 : Array (Option Value)) (ns ms : List Int) (hi : IntsAre items.toList ns) (hj : IntsAre items2.toList ms) :
    Meets (Builtin.«tuple.__lt__» ⟨[.ref l, .ref b], []⟩)
      (fun _ R s => s.heap.get? l = some { cls := .type "tuple", dict := dd, data := .seq items n, slots := sl } ∧ s.heap.get? b = some { cls := .type "tuple", dict := dd2, data := .seq items2 n2, slots := sl2 } ∧
        R (.ok (.ret (.bool (lexLt ns ms)))) s) :=
  .of_wp fun prog w A R s h => by
    obtain ⟨hp, g, d, tk, os⟩ := s; obtain ⟨hl, hb, h⟩ := h
    have f2 := AutoSeq1.sub_tuple_tuple
    have z1 : items.size = ns.length := by rw [← hi.length]; simp
    have z2 : items2.size = ms.length := by rw [← hj.length]; simp
    wp_walk using wpAny_loadPart' hl, wpAny_loadPart' hb, wpAny_forIn_list _ (fun rest b s' => b.1 = none ∧ s' = ⟨hp, g, d, tk, os⟩ ∧ ∃ (vs ws : List Value) (ns' ms' : List Int), rest = vs.zip ws ∧
      IntsAre vs ns' ∧ IntsAre ws ms' ∧ ns'.length + items2.size = ms'.length + items.size ∧ R (.ok (.ret (.bool (lexLt ns' ms')))) ⟨hp, g, d, tk, os⟩) _
    case turn =>
      rintro ⟨y, x⟩ rest b s' ⟨hb', rfl, vs, ws, ns', ms', hz, hvi, hwi, hlen, hR⟩
      cases hvi with
      | nil => rw [List.zip_nil_left] at hz; cases hz
      | cons a t hvi' =>
        cases hwi with
        | nil => rw [List.zip_nil_right] at hz; cases hz
        | cons c u hwi' =>
          rw [List.zip_cons_cons] at hz
          injection hz with hyx hrest
          injection hyx with hy hx
          subst hy hx
          rw [lexLt_cons] at hR
          simp only [List.length_cons] at hlen
          obtain ⟨e, he, hiff⟩ := eqAt_int A.in1 ⟨hp, g, d, tk, os⟩ a t c u
          refine wpAny_bind (he prog w _ _ ?_)
          cases e with
          | true =>
            rw [if_pos (hiff.mp rfl)] at hR
            wp_walk
            exact ⟨rfl, rfl, _, _, _, _, hrest, hvi', hwi', by omega, hR⟩
          | false =>
            rw [if_neg (fun q => absurd (hiff.mpr q) Bool.false_ne_true)] at hR
            have hri := rcLt_int A.in1 ⟨hp, g, d, tk, os⟩ a t c u prog w
            wp_walk using hri
            exact ⟨_, rfl, by simpa using hR⟩
    case fin =>
      rintro ⟨b1, b2⟩ s' ⟨hb', rfl, vs, ws, ns', ms', hz, hvi, hwi, hlen, hR⟩
      simp only at hb'
      subst hb'
      have hv : lexLt ns' ms' = decide (items.size < items2.size) := by
        cases hvi with
        | nil =>
          cases hwi with
          | nil =>
            simp only [List.length_nil] at hlen
            rw [lexLt_nil_nil]
            exact (decide_eq_false (by omega)).symm
          | cons c u hw =>
            simp only [List.length_nil, List.length_cons] at hlen
            rw [lexLt_nil_cons]
            exact (decide_eq_true (by omega)).symm
        | cons a t hv =>
          cases hwi with
          | nil =>
            simp only [List.length_nil, List.length_cons] at hlen
            rw [lexLt_cons_nil]
            exact (decide_eq_false (by omega)).symm
          | cons c u hw =>
            rw [List.zip_cons_cons] at hz
            cases hz
      rw [hv] at hR
      wp_walk
      exact ⟨_, rfl, by simpa [Builtin.Tuple.tupleCompareSizes] using hR⟩
    case h =>
      exact ⟨rfl, rfl, items.toList, items2.toList, ns, ms, rfl, hi, hj, by omega, h⟩
end

section
variable {prog : Program} {w : World} {A : Around} {E : Value → Shared → Prop} {s : Shared}

theorem lt_tupInts {l b : Addr} {items items2 : Array Value} {ns ms : List Int} {Q : Value → Shared → Prop} (hl : IsTup s.heap l items) (hb : IsTup s.heap b items2) (hi : IntsAre items.toList ns) (hj : IntsAre items2.toList ms)
    (hu : A.units < cLine) (h : Q (.bool (lexLt ns ms)) s) : wpAny (model prog w) A (compareOp .Lt (.ref l) (.ref b)) Q E s := by
  obtain ⟨⟨cls, dd, data, sl⟩, ho, hc, n, hd⟩ := id hl
  obtain ⟨⟨cls2, dd2, data2, sl2⟩, ho2, hc2, n2, hd2⟩ := id hb
  simp only at hc hd hc2 hd2
  subst hc hd hc2 hd2
  exact richCompare_meets_room (op := .Lt) ⟨_, ho, rfl⟩ ⟨_, ho2, rfl⟩ PySem.F.slot_tuple_lt PySem.F.entry_tuple_lt (PySem.F.args_tuple_lt_2 _ _) (tuple_lt_ints l b items items2 n n2 dd dd2 sl sl2 ns ms hi hj)
    ⟨ho, ho2, show Value.bool (lexLt ns ms) ≠ Value.notImplemented ∧ Q (.bool (lexLt ns ms)) s from ⟨(fun x => nomatch x), h⟩⟩ hu

/-- t + u, t not empty -/
theorem cat_tup {t b : Addr} {vs ws : List Value} {Q : Value → Shared → Prop} (ht : IsTup s.heap t vs.toArray) (hb : IsTup s.heap b ws.toArray) (hv : vs ≠ [])
    (h1 : ws = [] → Q (.ref t) s) (h2 : ws ≠ [] → Q (.ref s.heap.objs.size) { s with heap := s.heap.push { cls := .type "tuple", data := .seq (vs ++ ws).toArray } })
    (hsz : vs.length + ws.length ≤ sizeLine) : wpAny (model prog w) A (binaryOp .Add (.ref t) (.ref b)) Q E s := by
  obtain ⟨⟨cls, dd, data, sl⟩, ho, hc, n, hd⟩ := id ht
  obtain ⟨⟨cls2, dd2, data2, sl2⟩, ho2, hc2, n2, hd2⟩ := id hb
  simp only at hc hd hc2 hd2
  subst hc hd hc2 hd2
  have e : vs.toArray ++ ws.toArray = (vs ++ ws).toArray := by simp
  by_cases hw : ws = []
  · exact concat_meets ⟨_, ho, rfl⟩ ⟨_, ho2, rfl⟩ noFill_tuple_add seq_tuple_add PySem.F.slot_tuple_add PySem.F.entry_tuple_add (PySem.F.args_tuple_add_2 _ _)
      (tuple_addW1 t b vs.toArray ws.toArray n n2 dd dd2 sl sl2 (by simpa using hv) (by simp [hw])) ⟨ho, ho2, h1 hw⟩
  · refine concat_meets ⟨_, ho, rfl⟩ ⟨_, ho2, rfl⟩ noFill_tuple_add seq_tuple_add PySem.F.slot_tuple_add PySem.F.entry_tuple_add (PySem.F.args_tuple_add_2 _ _)
      (tuple_addW2 t b vs.toArray ws.toArray n n2 dd dd2 sl sl2 (by simpa using hv) (by simpa using hw) (by rw [List.size_toArray, List.size_toArray]; exact hsz)) ⟨ho, ho2, ?_⟩
    rw [e]
    exact h2 hw

/-! ### t[a:b], not the whole -/
/-- a slice's bound as a place among n (d where it is left out) -/
def sIx (n d : Nat) : Option Int → Nat
  | none => d
  | some v => if v < 0 then (v + (n : Int)).toNat else min v.toNat n
theorem sIx_none (n d : Nat) : sIx n d none = d := rfl
theorem sIx_nat (n d k : Nat) : sIx n d (some (k : Int)) = min k n := by
  show (if (k : Int) < 0 then ((k : Int) + (n : Int)).toNat else min (k : Int).toNat n) = min k n
  rw [if_neg (by omega), Int.toNat_natCast]
theorem sIx_le (n d : Nat) (hd : d ≤ n) (o : Option Int) : sIx n d o ≤ n := by
  cases o with
  | none => exact hd
  | some v =>
    show (if v < 0 then (v + (n : Int)).toNat else min v.toNat n) ≤ n
    by_cases hv : v < 0
    · rw [if_pos hv]; omega
    · rw [if_neg hv]; exact Nat.min_le_right _ _
theorem clip_eq (v : Int) (n d : Nat) : (if v < 0 then max (v + (n : Int)) 0 else min v (n : Int)) = ((sIx n d (some v) : Nat) : Int) := by
  show (if v < 0 then max (v + (n : Int)) 0 else min v (n : Int)) = (((if v < 0 then (v + (n : Int)).toNat else min v.toNat n) : Nat) : Int)
  by_cases hv : v < 0
  · simp only [if_pos hv]; omega
  · simp only [if_neg hv]; omega
theorem adjust_gen (lo hi : Option Int) (n : Nat) : Builtin.Slice.sliceAdjust lo hi 1 (n : Int) = (((sIx n 0 lo : Nat) : Int), ((sIx n n hi : Nat) : Int)) := by
  have h1 : ¬ ((1 : Int) < 0) := by omega
  unfold Builtin.Slice.sliceAdjust
  simp only [h1, if_false]
  refine Prod.ext ?_ ?_
  · cases lo with
    | none => rfl
    | some v => exact clip_eq v n 0
  · cases hi with
    | none => rfl
    | some v => exact clip_eq v n n
theorem places_gen (i j : Nat) : Builtin.Slice.slicePlaces (i : Int) (j : Int) 1 = j - i := by
  unfold Builtin.Slice.slicePlaces
  have h1 : (1 : Int) > 0 := by omega
  simp only [h1, if_true, Int.ediv_one]
  split <;> omega
theorem slicePart_ {v : Value} {o : Option Int} {Q : Option Int → Shared → Prop} (p : IsPart v o) (h : Q o s) : wpAny (model prog w) A (Builtin.Slice.slicePartIndex v) Q E s := by
  cases p with
  | none => exact slicePart_none h
  | int i t => exact slicePart_int h
theorem sliceApplied_gen {sl : Addr} {vl vu : Value} {lo hi : Option Int} {n : Nat} {Q : Int × Int × Nat → Shared → Prop} (hs : s.heap.IsSliceOf sl vl vu .none) (pl : IsPart vl lo) (pu : IsPart vu hi)
    (h : Q (((sIx n 0 lo : Nat) : Int), 1, sIx n n hi - sIx n 0 lo) s) : wpAny (model prog w) A (Builtin.Slice.sliceApplied (.ref sl) (pure (n : Int))) Q E s := by
  obtain ⟨os, hos, hcs, hds⟩ := id hs
  unfold Builtin.Slice.sliceApplied Builtin.Slice.sliceFields
  refine wpAny_bind (wpAny_bind (wpAny_field hos hds (x := vl) rfl (wpAny_bind (wpAny_field hos hds (x := vu) rfl (wpAny_bind (wpAny_field hos hds (x := .none) rfl (wpAny_pure ?_)))))))
  refine wpAny_bind (slicePart_none ?_)
  show wpAny _ _ (if ((1 : Int) == 0) = true then _ else _) _ _ s
  rw [if_neg (by decide)]
  refine wpAny_bind (slicePart_ pl (wpAny_bind (slicePart_ pu (wpAny_bind (wpAny_pure ?_)))))
  show wpAny _ _ (match Builtin.Slice.sliceAdjust lo hi 1 (n : Int) with | (lo, hi) => pure (lo, (1 : Int), Builtin.Slice.slicePlaces lo hi 1)) _ _ s
  rw [adjust_gen lo hi n]
  show wpAny _ _ (pure (((sIx n 0 lo : Nat) : Int), (1 : Int), Builtin.Slice.slicePlaces ((sIx n 0 lo : Nat) : Int) ((sIx n n hi : Nat) : Int) 1)) _ _ s
  rw [places_gen]
  exact wpAny_pure h
theorem pick_gen (xs : Array Value) (i k : Nat) : ((List.range k).filterMap fun (m : Nat) => xs[((i : Int) + (m : Int) * 1).toNat]?).toArray = ((xs.toList.drop i).take k).toArray := by
  have e : (fun (m : Nat) => xs[((i : Int) + (m : Int) * 1).toNat]?) = fun m => xs[i + m]? := by
    funext m
    have : ((i : Int) + (m : Int) * 1).toNat = i + m := by omega
    rw [this]
  rw [e]
  have := pick_run xs i k
  rw [List.filterMap_map] at this
  have e2 : ((fun x => xs[x]?) ∘ fun x => i + x) = fun m => xs[i + m]? := rfl
  rw [e2] at this
  rw [this]

theorem getItem_tuple_cut {t sl : Addr} {items : Array Value} {vl vu : Value} {lo hi : Option Int} {Q : Value → Shared → Prop} (ht : IsTup s.heap t items) (hs : s.heap.IsSliceOf sl vl vu .none) (pl : IsPart vl lo) (pu : IsPart vu hi)
    (hw : ¬ (sIx items.size 0 lo = 0 ∧ sIx items.size items.size hi = items.size))
    (h : Q (.ref s.heap.objs.size) { s with heap := s.heap.push { cls := .type "tuple", data := .seq ((items.toList.drop (sIx items.size 0 lo)).take (sIx items.size items.size hi - sIx items.size 0 lo)).toArray } })
    (hsz : items.size ≤ sizeLine) : wpAny (model prog w) A (getItem (.ref t) (.ref sl)) Q E s := by
  have htake : sizeOk (.seq ((items.toList.drop (sIx items.size 0 lo)).take (sIx items.size items.size hi - sIx items.size 0 lo)).toArray) := by
    show ((items.toList.drop (sIx items.size 0 lo)).take (sIx items.size items.size hi - sIx items.size 0 lo)).toArray.size ≤ sizeLine
    rw [List.size_toArray, List.length_take, List.length_drop, Array.length_toList]
    omega
  have hj : sIx items.size items.size hi ≤ items.size := sIx_le _ _ (Nat.le_refl _) hi
  obtain ⟨os, hos, hcs, hds⟩ := id hs
  have hTs : s.TypeIs (.ref sl) "slice" := ⟨os, hos, hcs⟩
  unfold getItem
  try with_reducible refine wpAny_holding ?_
  first | refine wpAny_bind (wpAny_pure ?_) | skip
  refine wpAny_bind (wpAny_sequenceKey ht.typeIs (by decide) ?_)
  refine wpAny_bind (wpAny_callSpecial?_slot (name := Str.ofString "__getitem__") ht.typeIs PyProof.Rows.slot_tuple_getitem
    (wpAny_call_entry PyProof.Rows.slot_tuple_getitem ht.typeIs entry_tuple_getitem ?_ (args_tuple_getitem _ _)))
  show wpAny _ _ (Builtin.Tuple.tupleItemsOf (.ref t) >>= _) _ _ s
  refine wpAny_bind (tupleItemsOf_ ht ?_)
  refine wpAny_bind (wpAny_typeOf hTs ?_)
  rw [if_pos (by decide)]
  refine wpAny_bind (sliceApplied_gen hs pl pu ?_)
  have hno : ¬ ((((sIx items.size 0 lo : Nat) : Int) == 0 && (1 : Int) == 1 && (sIx items.size items.size hi - sIx items.size 0 lo) == items.size) = true) := by
    intro q
    rw [Bool.and_eq_true, Bool.and_eq_true] at q
    have q1 : ((sIx items.size 0 lo : Nat) : Int) = 0 := eq_of_beq q.1.1
    have q2 : sIx items.size items.size hi - sIx items.size 0 lo = items.size := eq_of_beq q.2
    exact hw ⟨by omega, by omega⟩
  show wpAny _ _ (if (((sIx items.size 0 lo : Nat) : Int) == 0 && (1 : Int) == 1 && (sIx items.size items.size hi - sIx items.size 0 lo) == items.size) = true then _ else _) _ _ s
  rw [if_neg hno, pick_gen]
  first
    | exact wpAny_bind (m := Builtin.Tuple.tupleExact _) (wpAny_newObj_type (wpAny_pure ⟨_, rfl, wpAny_pure h⟩) htake)
    | exact wpAny_bind (m := Builtin.Tuple.tupleExact _) (wpAny_newObj_type (wpAny_bind (wpAny_pure (wpAny_pure ⟨_, rfl, wpAny_pure h⟩))) htake)
    | exact wpAny_bind (wpAny_bind (m := Builtin.Tuple.tupleExact _) (wpAny_newObj_type (wpAny_pure (wpAny_pure ⟨_, rfl, wpAny_pure h⟩)) htake))
    | exact wpAny_bind (wpAny_bind (m := Builtin.Tuple.tupleExact _) (wpAny_newObj_type (wpAny_pure ⟨_, rfl, wpAny_pure h⟩) htake))
end
end HT

namespace L2
open PySem PySem.Spec PyProof.Rows

/-! ### the parts of a slice -/
abbrev TO := St → Hp → (Option Int → Hp → Prop) → Prop
/-- a slice's part (left out, or an int) -/
def PO (X : Cx) (e : Option Expr) (t : TO) : Prop :=
  ∀ (pins : List (Addr × Obj)) (s : Shared) (σ : St) (H : Hp) (Q : Option Int → Hp → Prop), Inv X pins σ H s → t σ H Q →
    wpAny (model X.prog X.w) X.A (evalPart e X.env) (fun u s' => ∃ o H', Inv X pins σ H' s' ∧ IsPart u o ∧ Q o H') X.xe s
def tNoPart : TO := fun _ H Q => Q none H
def tPart (t : TE) : TO := fun σ H Q => t σ H fun x H1 => ∃ i, x = .int i ∧ Q (some i) H1

theorem intsAre_of {ns : List Int} : ∀ {us : List Value}, Vals (ns.map V.int) us → IntsAre us ns := by
  induction ns with
  | nil => intro us r; rw [List.map_nil] at r; cases r; exact .nil
  | cons n ns ih =>
    intro us r
    rw [List.map_cons] at r
    cases r with
    | cons r1 r2 =>
      obtain ⟨t, e⟩ := r1
      subst e
      exact .cons n t (ih r2)

section
variable {X : Cx} {e : Expr} {te : TE} {lo hi : Option Expr} {tl th : TO} {pos p2 : Pos}

theorem po_none : PO X none tNoPart := by
  intro pins s σ H Q I h
  rw [evalPart_none]
  exact wpAny_pure ⟨none, H, I, .none, h⟩
theorem po_some (h : PE X e te) : PO X (some e) (tPart te) := by
  intro pins s σ H Q I hw
  rw [evalPart_some]
  refine thn (h pins s σ H _ I hw) fun u s1 ⟨x, H1, I1, r1, q1⟩ => ?_
  obtain ⟨i, rfl, q⟩ := q1
  obtain ⟨t, rfl⟩ := r1
  exact ⟨some i, H1, I1, .int i t, q⟩

/-- what a slice of a value is, by values: the slice object stands at sl -/
def SlR (X : Cx) (r : V → Option Int → Option Int → Hp → VK → Prop) : Prop :=
  ∀ (pins : List (Addr × Obj)) (s : Shared) (σ : St) (H : Hp) (x : V) (v vl vu : Value) (lo hi : Option Int) (sl : Addr) (Q : VK), Inv X pins σ H s → RelV x v → s.heap.IsSliceOf sl vl vu .none → IsPart vl lo → IsPart vu hi → r x lo hi H Q →
    ∃ T id, typeLookup (.type T) "__getitem__" = pure (some (.builtin id)) ∧ s.TypeIs v T ∧ wpAny (model X.prog X.w) X.A (getItem v (.ref sl)) (EP X pins σ Q) X.xe s
theorem SlR.or {r r' : V → Option Int → Option Int → Hp → VK → Prop} (h : SlR X r) (h' : SlR X r') : SlR X (fun x lo hi H Q => r x lo hi H Q ∨ r' x lo hi H Q) := by
  intro pins s σ H x v vl vu lo hi sl Q I rx hs pl pu q
  rcases q with q | q
  · exact h pins s σ H x v vl vu lo hi sl Q I rx hs pl pu q
  · exact h' pins s σ H x v vl vu lo hi sl Q I rx hs pl pu q
def tSl (r : V → Option Int → Option Int → Hp → VK → Prop) (te : TE) (tl th : TO) : TE := fun σ H Q => te σ H fun x H1 => tl σ H1 fun l H2 => th σ H2 fun u H3 => r x l u H3 Q
/-- a[lo:hi], any a -/
theorem pe_slice {r : V → Option Int → Option Int → Hp → VK → Prop} (hr : SlR X r) (he : PE X e te) (hl : PO X lo tl) (hu : PO X hi th) : PE X (.Subscript e (.Slice lo hi none p2) pos) (tSl r te tl th) := by
  intro pins s σ H Q I h
  refine Subscript_ (thn (he pins s σ H _ I h) fun v s1 ⟨x, H1, I1, r1, q1⟩ => ?_)
  refine wpAny_Slice (thn (hl pins s1 σ H1 _ I1 q1) fun vl s2 ⟨l, H2, I2, pl, q2⟩ => thn (hu pins s2 σ H2 _ I2 q2) fun vu s3 ⟨u, H3, I3, pu, q3⟩ => ?_)
  rw [evalPart_none]
  refine wpAny_pure ?_
  have I4 : Inv X pins σ H3 { s3 with heap := s3.heap.push { cls := .type "slice", data := .fields #[vl, vu, .none] } } := I3.kept (t' := s3.toks) fun b ob q => Heap.get?_push_of_some _ q
  obtain ⟨T, id, hT, ht, hg⟩ := hr pins { s3 with heap := s3.heap.push { cls := .type "slice", data := .fields #[vl, vu, .none] } } σ H3 x v vl vu l u s3.heap.objs.size Q I4 r1 (Heap.IsSliceOf.new ..) pl pu q3
  show wpAny (model X.prog X.w) X.A (subscriptTail e (.Slice lo hi none p2) v (.ref s3.heap.objs.size)) (EP X pins σ Q) X.xe { s3 with heap := s3.heap.push { cls := .type "slice", data := .fields #[vl, vu, .none] } }
  exact tail_any (ops := [.ref s3.heap.objs.size, v]) ht hT hg (by with_unfolding_all rfl)

/-- the items of xs[lo:hi] -/
def cutV (xs : List V) (lo hi : Option Int) : List V := (xs.drop (HT.sIx xs.length 0 lo)).take (HT.sIx xs.length xs.length hi - HT.sIx xs.length 0 lo)
theorem cutV_length (xs : List V) (lo hi : Option Int) : (cutV xs lo hi).length ≤ xs.length := by
  unfold cutV
  rw [List.length_take, List.length_drop]
  omega
/-- t[lo:hi], not the whole of it (the whole would be t itself) -/
def rSlT (K : PySem.W.Frag) : V → Option Int → Option Int → Hp → VK → Prop := fun x lo hi H Q => ∃ a xs, x = .ref a ∧ SqT K H a xs ∧
  ¬ (HT.sIx xs.length 0 lo = 0 ∧ HT.sIx xs.length xs.length hi = xs.length) ∧ ∀ p, H p = none → Q (.ref p) (upd H p (.tup (cutV xs lo hi)))
theorem sl_tup : SlR X (rSlT X.K) := by
  intro pins s σ H x v vl vu lo hi sl Q I rx hs pl pu h
  obtain ⟨a, xs, rfl, hx, hw, q⟩ := h
  cases rx
  obtain ⟨its, r, ht, hz⟩ := I.tuple hx
  have hlen : its.toArray.size = xs.length := by rw [List.size_toArray]; exact r.length.symm
  refine ⟨"tuple", _, PyProof.Rows.slot_tuple_getitem.lookup, ht.typeIs, ?_⟩
  refine HT.getItem_tuple_cut ht hs pl pu (by rw [hlen]; exact hw) ?_ (by rw [hlen]; exact hz)
  rw [hlen]
  refine ⟨.ref s.heap.objs.size, _, I.laid (t' := s.toks) (o := .tup (cutV xs lo hi)) (fun b ob q => Heap.get?_push_of_some _ q) (Nat.le_refl _) ?_, rfl, q _ (I.hok.fresh (Nat.le_refl _))⟩
  exact ⟨Nat.le_trans (cutV_length xs lo hi) hz, _, (r.drop (HT.sIx xs.length 0 lo)).take (HT.sIx xs.length xs.length hi - HT.sIx xs.length 0 lo), IsTup.new _ _⟩

/-! ### t < u, t + u -/
def rLtT (K : PySem.W.Frag) : R2 := fun x y H Q => ∃ a b ns ms, x = .ref a ∧ y = .ref b ∧ SqT K H a (ns.map V.int) ∧ SqT K H b (ms.map V.int) ∧ Q (.bl (HT.lexLt ns ms)) H
theorem op_ltT (hu : X.A.units < cLine) : OpR X (compareOp .Lt) (rLtT X.K) := by
  intro pins s σ H x y v u Q I rx ry h
  obtain ⟨a, b, ns, ms, rfl, rfl, ha, hb, q⟩ := h
  cases rx
  cases ry
  obtain ⟨its, r1, p1, _⟩ := I.tuple ha
  obtain ⟨its2, r2, p2, _⟩ := I.tuple hb
  have i1 : IntsAre its.toArray.toList ns := intsAre_of r1
  have i2 : IntsAre its2.toArray.toList ms := intsAre_of r2
  exact HT.lt_tupInts p1 p2 i1 i2 hu ⟨.bl (HT.lexLt ns ms), H, I, rfl, q⟩
/-- t + u, t not empty: u empty gives t itself -/
def rCatT (K : PySem.W.Frag) : R2 := fun x y H Q => ∃ a b xs ys, x = .ref a ∧ y = .ref b ∧ SqT K H a xs ∧ SqT K H b ys ∧ xs ≠ [] ∧ xs.length + ys.length ≤ sizeLine ∧
  (ys = [] → Q (.ref a) H) ∧ (ys ≠ [] → ∀ p, H p = none → Q (.ref p) (upd H p (.tup (xs ++ ys))))
theorem Vals.nil_iff {xs : List V} {us : List Value} (r : Vals xs us) : us = [] ↔ xs = [] := by
  cases r with
  | nil => simp
  | cons _ _ => simp
theorem op_catT : OpR X (binaryOp .Add) (rCatT X.K) := by
  intro pins s σ H x y v u Q I rx ry h
  obtain ⟨a, b, xs, ys, rfl, rfl, ha, hb, hx, hz, q1, q2⟩ := h
  cases rx
  cases ry
  obtain ⟨its, r1, p1, _⟩ := I.tuple ha
  obtain ⟨its2, r2, p2, _⟩ := I.tuple hb
  refine HT.cat_tup p1 p2 (fun z => hx (r1.nil_iff.mp z)) (fun z => ⟨.ref a, H, I, rfl, q1 (r2.nil_iff.mp z)⟩) (fun z => ?_) (by rw [← r1.length, ← r2.length]; exact hz)
  refine ⟨.ref s.heap.objs.size, _, I.laid (t' := s.toks) (o := .tup (xs ++ ys)) (fun b ob q => Heap.get?_push_of_some _ q) (Nat.le_refl _) ?_, rfl, q2 (fun w => z (r2.nil_iff.mpr w)) _ (I.hok.fresh (Nat.le_refl _))⟩
  exact ⟨by rw [List.length_append]; exact hz, _, r1.append r2, IsTup.new _ _⟩
/-- tuple(t) -/
theorem call_tupleT : CallR X (.type "tuple") (fun xs H Q => ∃ a ys, xs = [.ref a] ∧ SqT X.K H a ys ∧ Q (.ref a) H) := by
  intro pins s σ H xs us Q I r h
  obtain ⟨a, ys, rfl, ha, q⟩ := h
  obtain ⟨u, rfl, ru⟩ := vals1 r
  cases ru
  obtain ⟨its, _, p1, _⟩ := I.tuple ha
  exact call_tuple_same (items := its.toArray) p1 ⟨.ref a, H, I, rfl, q⟩
end
end L2

namespace L2
open PySem PySem.Spec PyProof.Rows

/-! ### places -/
/-- the place that an index of any sign means -/
def ixN (n : Nat) (i : Int) : Option Nat := if 0 ≤ i then (if i < n then some i.toNat else none) else if -(n : Int) ≤ i then some (i + n).toNat else none
def atI {α : Type} (xs : List α) (i : Int) : Option α := (ixN xs.length i).bind fun j => xs[j]?
theorem ixN_seq {n : Nat} {i : Int} {j : Nat} (h : ixN n i = some j) : seqIndex? i n = some j ∧ j < n ∧ -(n : Int) ≤ i ∧ i < n := by
  unfold ixN at h
  by_cases h0 : 0 ≤ i
  · rw [if_pos h0] at h
    by_cases h1 : i < n
    · rw [if_pos h1] at h
      have e : i.toNat = j := Option.some.inj h
      exact ⟨by rw [seqIndex_of h0 h1, e], by omega, by omega, h1⟩
    · rw [if_neg h1] at h; cases h
  · rw [if_neg h0] at h
    by_cases h1 : -(n : Int) ≤ i
    · rw [if_pos h1] at h
      have e : (i + n).toNat = j := Option.some.inj h
      exact ⟨by rw [seqIndex_neg (by omega) h1, e], by omega, h1, by omega⟩
    · rw [if_neg h1] at h; cases h
theorem atI_get {α : Type} {xs : List α} {i : Int} {v : α} (h : atI xs i = some v) : ∃ j, seqIndex? i xs.length = some j ∧ xs[j]? = some v ∧ j < xs.length ∧ -(xs.length : Int) ≤ i ∧ i < xs.length := by
  unfold atI at h
  cases e : ixN xs.length i with
  | none => rw [e] at h; cases h
  | some j =>
    rw [e] at h
    obtain ⟨h1, h2, h3, h4⟩ := ixN_seq e
    exact ⟨j, h1, h, h2, h3, h4⟩
theorem atI_nat {α : Type} {xs : List α} {j : Nat} {v : α} (h : xs[j]? = some v) : atI xs (j : Int) = some v := by
  have hj : j < xs.length := (List.getElem?_eq_some_iff.mp h).1
  have e : ixN xs.length (j : Int) = some j := by
    unfold ixN
    rw [if_pos (by omega), if_pos (by omega)]; simp
  unfold atI; rw [e]; exact h
theorem atI_last {α : Type} (xs : List α) (v : α) : atI (xs ++ [v]) (-1) = some v := by
  have hl : (xs ++ [v]).length = xs.length + 1 := by simp
  have e : ixN (xs ++ [v]).length (-1) = some xs.length := by
    unfold ixN
    rw [hl, if_neg (by decide), if_pos (by omega)]
    congr 1
    omega
  unfold atI
  rw [e]
  show (xs ++ [v])[xs.length]? = some v
  simp

/-! ### what may be subscripted -/
/-- what stands as an index of a plain subscript -/
def PlainIx (b : Expr) : Prop := ∀ o i, subscripted b false o i = operate [o, i] (getItem o i)
/-- a subscript by values -/
def IxR (X : Cx) (r : R2) : Prop :=
  ∀ (value slice : Expr) (pins : List (Addr × Obj)) (s : Shared) (σ : St) (H : Hp) (x y : V) (v u : Value) (Q : VK), Inv X pins σ H s → RelV x v → RelV y u → r x y H Q →
    subscripted slice false v u = operate [v, u] (getItem v u) → wpAny (model X.prog X.w) X.A (subscriptTail value slice v u) (EP X pins σ Q) X.xe s
/-- a call of a builtin's method by values: the receiver, the arguments -/
def MtR (X : Cx) (id : String) (r : V → List V → Hp → VK → Prop) : Prop :=
  ∀ (pins : List (Addr × Obj)) (s : Shared) (σ : St) (H : Hp) (x : V) (xs : List V) (v : Value) (us : List Value) (Q : VK), Inv X pins σ H s → RelV x v → Vals xs us → r x xs H Q →
    wpAny (model X.prog X.w) X.A (call (.builtin id) (v :: us)) (EP X pins σ Q) X.xe s
section
variable {X : Cx} {a b : Expr} {ta tb : TE} {pos : Pos}
theorem IxR.or {r r' : R2} (h : IxR X r) (h' : IxR X r') : IxR X (fun x y H Q => r x y H Q ∨ r' x y H Q) := by
  intro value slice pins s σ H x y v u Q I rx ry q hs
  rcases q with q | q
  · exact h value slice pins s σ H x y v u Q I rx ry q hs
  · exact h' value slice pins s σ H x y v u Q I rx ry q hs
theorem MtR.or {id : String} {r r' : V → List V → Hp → VK → Prop} (h : MtR X id r) (h' : MtR X id r') : MtR X id (fun x xs H Q => r x xs H Q ∨ r' x xs H Q) := by
  intro pins s σ H x xs v us Q I rx rs q
  rcases q with q | q
  · exact h pins s σ H x xs v us Q I rx rs q
  · exact h' pins s σ H x xs v us Q I rx rs q
/-- a[b] -/
theorem pe_ix {r : R2} (hr : IxR X r) (ha : PE X a ta) (hb : PE X b tb) (hs : PlainIx b) : PE X (.Subscript a b pos) (tOp r ta tb) := by
  intro pins s σ H Q I h
  exact Subscript_ (binT ha hb I h fun v u s2 x y H2 I2 rx ry q => hr a b pins s2 σ H2 x y v u Q I2 rx ry q (hs _ _))

def rIxL (K : PySem.W.Frag) : R2 := fun x y H Q => ∃ p xs i v, x = .ref p ∧ y = .int i ∧ SqL K H p xs ∧ atI xs i = some v ∧ Q v H
def rIxT (K : PySem.W.Frag) : R2 := fun x y H Q => ∃ p xs i v, x = .ref p ∧ y = .int i ∧ SqT K H p xs ∧ atI xs i = some v ∧ Q v H
def rIxS : R2 := fun x y H Q => ∃ z i c, x = .str z ∧ y = .int i ∧ z.length ≤ sizeLine ∧ atI z.cps.toList i = some c ∧ Q (.str ⟨#[c]⟩) H
theorem ix_list : IxR X (rIxL X.K) := by
  intro value slice pins s σ H x y v u Q I rx ry h hs
  obtain ⟨p, xs, i, z, rfl, rfl, hq, he, q⟩ := h
  cases rx
  obtain ⟨t, rfl⟩ := ry
  obtain ⟨its, r, pl, hz⟩ := I.list hq
  obtain ⟨j, h1, h2, h3, h4, h5⟩ := atI_get he
  obtain ⟨w, ew, rw'⟩ := r.get h2
  have hl := r.length
  have hn := line63
  have fin : EP X pins σ Q w s := ⟨z, H, I, rw', q⟩
  by_cases h0 : 0 ≤ i
  · have hj : i.toNat = j := by
      rw [seqIndex_of h0 h5] at h1
      exact Option.some.inj h1
    exact item_listR pl.isList h0 (by omega) (by rw [hj]; simpa using ew) fin hs
  · have hj : (i + (its.toArray.size : Int)).toNat = j := by
      rw [seqIndex_neg (by omega) h4] at h1
      rw [List.size_toArray, ← hl]
      exact Option.some.inj h1
    exact subscriptTail_builtinR (x := w) pl.isList.typeIs slot_list_getitem.lookup
      (wpAny_getItem_list_neg (Q := fun r s' => r = w ∧ EP X pins σ Q r s') pl.isList (by omega) (by rw [List.size_toArray] <;> omega) (by omega) (by rw [hj]; simpa using ew) ⟨rfl, fin⟩) hs
theorem ix_tup : IxR X (rIxT X.K) := by
  intro value slice pins s σ H x y v u Q I rx ry h hs
  obtain ⟨p, xs, i, z, rfl, rfl, hq, he, q⟩ := h
  cases rx
  obtain ⟨t, rfl⟩ := ry
  obtain ⟨its, r, pl, hz⟩ := I.tuple hq
  obtain ⟨j, h1, h2, h3, h4, h5⟩ := atI_get he
  obtain ⟨w, ew, rw'⟩ := r.get h2
  have hl := r.length
  have hn := line63
  have fin : EP X pins σ Q w s := ⟨z, H, I, rw', q⟩
  exact subscriptTail_builtinR (x := w) pl.typeIs slot_tuple_getitem.lookup
    (getItem_tuple (j := j) (Q := fun r s' => r = w ∧ EP X pins σ Q r s') pl (by omega) (by omega) (by rw [List.size_toArray, ← hl]; exact h1) (by simpa using ew) ⟨rfl, fin⟩) hs
theorem ix_str : IxR X rIxS := by
  intro value slice pins s σ H x y v u Q I rx ry h hs
  obtain ⟨z, i, c, rfl, rfl, hz, he, q⟩ := h
  obtain ⟨t, rfl⟩ := rx
  obtain ⟨t', rfl⟩ := ry
  obtain ⟨j, h1, h2, h3, h4, h5⟩ := atI_get he
  have hl : z.cps.toList.length = z.length := by simp [Str.length]
  rw [hl] at h1 h4 h5
  have hn := line63
  exact tail_any (typeIs_str s z t) slot_str_getitem.lookup (getItem_str (c := c) (by
    have e1 : decide (i < -(2 ^ 63 : Int)) = false := decide_eq_false (by omega)
    have e2 : decide (i ≥ 2 ^ 63) = false := decide_eq_false (by omega)
    rw [e1, e2, Bool.or_false]) (by rw [h1]; simpa using h2) ⟨.str ⟨#[c]⟩, H, I.tok _, ⟨_, rfl⟩, q⟩) hs
/-- list, tuple or str -/
def rIx (K : PySem.W.Frag) : R2 := fun x y H Q => rIxL K x y H Q ∨ rIxT K x y H Q ∨ rIxS x y H Q
theorem ix_seq : IxR X (rIx X.K) := ix_list.or (ix_tup.or ix_str)

/-! ### xs[i] = v, any sign -/
/-- the list's object behind a store -/
theorem mapSeq_set (its : List Value) (n j : Nat) (u : Value) : Obj.mapSeq (·.setIfInBounds j u) { cls := .type "list", data := .seq its.toArray n } = { cls := .type "list", data := .seq (its.set j u).toArray n } := by
  simp [Obj.mapSeq]
theorem Inv.lst {pins : List (Addr × Obj)} {σ : St} {H : Hp} {s : Shared} {p : Addr} {xs : List V} (I : Inv X pins σ H s) (h : H p = some (.lst xs)) :
    ∃ (its : List Value) (n : Nat), Vals xs its ∧ s.heap.get? p = some { cls := .type "list", data := .seq its.toArray n } ∧ xs.length ≤ sizeLine := by
  obtain ⟨z, its, n, r, e⟩ := I.hok p _ h
  exact ⟨its, n, r, e, z⟩
/-- the list at p is written by an update of its object -/
theorem Inv.lstUpd {pins : List (Addr × Obj)} {σ : St} {H : Hp} {s : Shared} {p : Addr} {xs ys : List V} {its its' : List Value} {n n' : Nat} {f : Obj → Obj} (I : Inv X pins σ H s) (h : H p = some (.lst xs))
    (ho : s.heap.get? p = some { cls := .type "list", data := .seq its.toArray n }) (hf : f { cls := .type "list", data := .seq its.toArray n } = { cls := .type "list", data := .seq its'.toArray n' }) (r : Vals ys its') (hz : ys.length ≤ sizeLine) (t : Nat) :
    Inv X pins σ (upd H p (.lst ys)) { s with heap := s.heap.update p f, toks := t } := by
  have e : (s.heap.update p f).get? p = some { cls := .type "list", data := .seq its'.toArray n' } := by
    rw [Heap.get?_update_self f ho (by rw [hf] <;> rfl), hf]
  refine I.write (x := p) (e := p) (by rw [h]; trivial) (.inl rfl) (fun b u hb q => (Heap.get?_update_other _ _ (Ne.symm hb)).trans q) ⟨_, e⟩ ?_
  exact ⟨hz, its', n', r, e⟩
def rSetL : V → V → V → Hp → (Hp → Prop) → Prop := fun o i v H Q => ∃ p xs k j, o = .ref p ∧ i = .int k ∧ H p = some (.lst xs) ∧ ixN xs.length k = some j ∧ Q (upd H p (.lst (xs.set j v)))
theorem set_list : PSet X rSetL := by
  intro pins s σ H o i v ov iv u Q I ro ri rv h
  obtain ⟨p, xs, k, j, rfl, rfl, hp, hj, q⟩ := h
  cases ro
  obtain ⟨t, rfl⟩ := ri
  obtain ⟨its, n, r, ho, hz⟩ := I.lst hp
  obtain ⟨h1, h2, h3, h4⟩ := ixN_seq hj
  have hl := r.length
  have hn := line63
  have I' : Inv X pins σ (upd H p (.lst (xs.set j v))) { s with heap := s.heap.update p (Obj.mapSeq (·.setIfInBounds j u)) } :=
    I.lstUpd hp ho (mapSeq_set its n j u) (r.set rv j) (by rw [List.length_set]; exact hz) s.toks
  by_cases h0 : 0 ≤ k
  · have hk : k.toNat = j := by
      rw [seqIndex_of h0 h4] at h1
      exact Option.some.inj h1
    exact PySem.W.ki_setAt ho h0 (by omega) (by rw [List.size_toArray, ← hl]; exact h4) (by rw [hk]; exact ⟨_, I', q⟩)
  · have hk : (k + (its.toArray.size : Int)).toNat = j := by
      rw [seqIndex_neg (by omega) h3] at h1
      rw [List.size_toArray, ← hl]
      exact Option.some.inj h1
    exact PySem.W.ki_setBack ho (by omega) (by rw [List.size_toArray, ← hl]; exact h3) (by omega) (by rw [hk]; exact ⟨_, I', q⟩)

/-! ### slices -/
theorem slice_bounds (lo hi : Option Int) (n : Nat) : (sliceBounds lo hi none n).1 = ((HT.sIx n 0 lo : Nat) : Int) ∧ (sliceBounds lo hi none n).2.1 = ((HT.sIx n n hi : Nat) : Int) ∧ (sliceBounds lo hi none n).2.2 = 1 := by
  refine ⟨?_, ?_, rfl⟩
  · cases lo with
    | none => simp [sliceBounds, HT.sIx]
    | some i =>
      simp only [sliceBounds, HT.sIx, Option.getD_none, show (1 : Int) > 0 by decide, if_true]
      by_cases h : i < 0
      · simp only [h, if_true] <;> omega
      · simp only [h, if_false] <;> omega
  · cases hi with
    | none => simp [sliceBounds, HT.sIx]
    | some i =>
      simp only [sliceBounds, HT.sIx, Option.getD_none, show (1 : Int) > 0 by decide, if_true]
      by_cases h : i < 0
      · simp only [h, if_true] <;> omega
      · simp only [h, if_false] <;> omega
theorem slicePick_cut (its : List Value) (lo hi : Option Int) : slicePick its.toArray lo hi none = ((its.drop (HT.sIx its.length 0 lo)).take (HT.sIx its.length its.length hi - HT.sIx its.length 0 lo)).toArray := by
  obtain ⟨h1, h2, h3⟩ := slice_bounds lo hi its.toArray.size
  unfold slicePick
  rw [h1, h2, h3]
  simp only [sliceRange_one, pick_run, List.size_toArray] <;> rfl
/-- xs[lo:hi] of a list: a new list -/
def rSlL (K : PySem.W.Frag) : V → Option Int → Option Int → Hp → VK → Prop := fun x lo hi H Q => ∃ a xs, x = .ref a ∧ SqL K H a xs ∧ ∀ p, H p = none → Q (.ref p) (upd H p (.lst (cutV xs lo hi)))
theorem sl_list : SlR X (rSlL X.K) := by
  intro pins s σ H x v vl vu lo hi sl Q I rx hs pl pu h
  obtain ⟨a, xs, rfl, hx, q⟩ := h
  cases rx
  obtain ⟨its, r, ht, hz⟩ := I.list hx
  have hlen := r.length
  refine ⟨"list", _, slot_list_getitem.lookup, ht.isList.typeIs, ?_⟩
  refine wpAny_getItem_list_slice ht.isList hs pl pu .none (by simp) ?_ (by rw [List.size_toArray] <;> omega)
  rw [slicePick_cut, ← hlen]
  refine ⟨.ref s.heap.objs.size, _, I.laid (t' := s.toks) (o := .lst (cutV xs lo hi)) (fun b ob q => Heap.get?_push_of_some _ q) (Nat.le_refl _) ?_, rfl, q _ (I.hok.fresh (Nat.le_refl _))⟩
  exact ⟨Nat.le_trans (cutV_length xs lo hi) hz, _, 0, (r.drop (HT.sIx xs.length 0 lo)).take (HT.sIx xs.length xs.length hi - HT.sIx xs.length 0 lo), Heap.get?_push_size _ rfl⟩

/-! ### in, not in: flat items -/
def flatV : V → Bool
  | .non => true
  | .bl _ => true
  | .int _ => true
  | .str _ => true
  | _ => false
/-- == of flat values -/
def eqV : V → V → Bool
  | .non, .non => true
  | .bl a, .bl b => a == b
  | .bl a, .int b => (if a then 1 else 0) == b
  | .int a, .bl b => a == (if b then 1 else 0)
  | .int a, .int b => a == b
  | .str a, .str b => a == b
  | _, _ => false
theorem eqAt_V {A : Around} {s : Shared} {y x : V} {u v : Value} (ry : RelV y u) (rx : RelV x v) (fy : flatV y = true) (fx : flatV x = true) : SeqAt.EqAt A s u v (eqV y x) := by
  cases y with
  | non =>
    cases ry
    cases x with
    | non => cases rx; exact SeqAt.EqAt.same _
    | bl b => cases rx; exact SeqAt.EqAt.none_bool b
    | int b => obtain ⟨t, rfl⟩ := rx; exact SeqAt.EqAt.none_int b t
    | str b => obtain ⟨t, rfl⟩ := rx; exact SeqAt.EqAt.none_str b t
    | _ => exact absurd (show false = true from fx) Bool.false_ne_true
  | bl a =>
    cases ry
    cases x with
    | non => cases rx; exact SeqAt.EqAt.bool_none a
    | bl b => cases rx; exact SeqAt.EqAt.bool_bool a b
    | int b => obtain ⟨t, rfl⟩ := rx; exact SeqAt.EqAt.bool_int a b t
    | str b => obtain ⟨t, rfl⟩ := rx; exact SeqAt.EqAt.bool_str a b t
    | _ => exact absurd (show false = true from fx) Bool.false_ne_true
  | int a =>
    obtain ⟨t', rfl⟩ := ry
    cases x with
    | non => cases rx; exact SeqAt.EqAt.int_none a t'
    | bl b => cases rx; exact SeqAt.EqAt.int_bool a t' b
    | int b => obtain ⟨t, rfl⟩ := rx; exact SeqAt.EqAt.int_int a t' b t
    | str b => obtain ⟨t, rfl⟩ := rx; exact SeqAt.EqAt.int_str a t' b t
    | _ => exact absurd (show false = true from fx) Bool.false_ne_true
  | str a =>
    obtain ⟨t', rfl⟩ := ry
    cases x with
    | non => cases rx; exact SeqAt.EqAt.str_none a t'
    | bl b => cases rx; exact SeqAt.EqAt.str_bool a t' b
    | int b => obtain ⟨t, rfl⟩ := rx; exact SeqAt.EqAt.str_int a t' b t
    | str b => obtain ⟨t, rfl⟩ := rx; exact SeqAt.EqAt.str_str a t' b t
    | _ => exact absurd (show false = true from fx) Bool.false_ne_true
  | _ => exact absurd (show false = true from fy) Bool.false_ne_true
/-- the items' answers, read off the values (a value's own answer does not lean on its token) -/
def eqU (x : V) (u : Value) : Bool := match u with
  | .none => eqV .non x
  | .bool b => eqV (.bl b) x
  | .int i _ => eqV (.int i) x
  | .str z _ => eqV (.str z) x
  | _ => false
theorem eqU_of {x y : V} {u : Value} (r : RelV y u) (f : flatV y = true) : eqU x u = eqV y x := by
  cases y with
  | non => cases r; rfl
  | bl b => cases r; rfl
  | int i => obtain ⟨t, rfl⟩ := r; rfl
  | str z => obtain ⟨t, rfl⟩ := r; rfl
  | _ => exact absurd (show false = true from f) Bool.false_ne_true
theorem any_eqU {x : V} : ∀ {xs : List V} {us : List Value}, Vals xs us → xs.all flatV = true → us.any (eqU x) = xs.any fun y => eqV y x
  | _, _, .nil, _ => rfl
  | y :: xs, u :: us, .cons r t, f => by
    rw [List.all_cons, Bool.and_eq_true] at f
    rw [List.any_cons, List.any_cons, eqU_of r f.1, any_eqU t f.2]
theorem mem_eqAt {A : Around} {s : Shared} {x : V} {v : Value} (rx : RelV x v) (fx : flatV x = true) : ∀ {xs : List V} {us : List Value}, Vals xs us → xs.all flatV = true → ∀ u ∈ us, SeqAt.EqAt A s u v (eqU x u)
  | _, _, .nil, _ => fun u hu => by cases hu
  | y :: xs, u :: us, .cons r t, f => fun u' hu => by
    rw [List.all_cons, Bool.and_eq_true] at f
    rcases List.mem_cons.mp hu with rfl | hu
    · rw [eqU_of r f.1]; exact eqAt_V r rx f.1 fx
    · exact mem_eqAt rx fx t f.2 u' hu
def inV (x : V) (xs : List V) : Bool := xs.any fun y => eqV y x
/-- x in a list or tuple of flat items -/
def rIn (K : PySem.W.Frag) (neg : Bool) : R2 := fun x y H Q => ∃ p xs, y = .ref p ∧ (SqL K H p xs ∨ SqT K H p xs) ∧ flatV x = true ∧ xs.all flatV = true ∧ Q (.bl (if neg then !inV x xs else inV x xs)) H
theorem op_in_seq : OpR X (compareOp .In) (rIn X.K false) := by
  intro pins s σ H x y v u Q I rx ry h
  obtain ⟨p, xs, rfl, hq, fx, fs, q⟩ := h
  cases ry
  rcases hq with hq | hq
  · obtain ⟨its, r, pl, hz⟩ := I.list hq
    refine SeqAt.in_listAt (eqU x) pl.isList (fun w hw => mem_eqAt rx fx r fs w (by simpa using hw)) ⟨.bl _, H, I, rfl, ?_⟩
    rw [show its.toArray.any (eqU x) = its.any (eqU x) by simp, any_eqU r fs]
    exact q
  · obtain ⟨its, r, pl, hz⟩ := I.tuple hq
    refine SeqAt.in_tupleAt (eqU x) pl (fun w hw => mem_eqAt rx fx r fs w (by simpa using hw)) ⟨.bl _, H, I, rfl, ?_⟩
    rw [show its.toArray.any (eqU x) = its.any (eqU x) by simp, any_eqU r fs]
    exact q
theorem op_notIn_seq : OpR X (compareOp .NotIn) (rIn X.K true) := by
  intro pins s σ H x y v u Q I rx ry h
  obtain ⟨p, xs, rfl, hq, fx, fs, q⟩ := h
  cases ry
  rcases hq with hq | hq
  · obtain ⟨its, r, pl, hz⟩ := I.list hq
    refine SeqAt.notIn_listAt (eqU x) pl.isList (fun w hw => mem_eqAt rx fx r fs w (by simpa using hw)) ⟨.bl _, H, I, rfl, ?_⟩
    rw [show its.toArray.any (eqU x) = its.any (eqU x) by simp, any_eqU r fs]
    exact q
  · obtain ⟨its, r, pl, hz⟩ := I.tuple hq
    refine SeqAt.notIn_tupleAt (eqU x) pl (fun w hw => mem_eqAt rx fx r fs w (by simpa using hw)) ⟨.bl _, H, I, rfl, ?_⟩
    rw [show its.toArray.any (eqU x) = its.any (eqU x) by simp, any_eqU r fs]
    exact q
theorem op_notIn_str : OpR X (compareOp .NotIn) (fun x y H Q => ∃ i j, x = .str i ∧ y = .str j ∧ Q (.bl (!(!(Builtin.Str.occurrences j i 0 j.length 1).isEmpty))) H) := by
  intro pins s σ H x y v u Q I rx ry h
  obtain ⟨i, j, rfl, rfl, q⟩ := h
  obtain ⟨t, rfl⟩ := rx
  obtain ⟨t', rfl⟩ := ry
  exact notIn_str ⟨.bl _, H, I, rfl, q⟩

/-! ### len, list(x), tuple(x) of any list or tuple that is read -/
theorem call_len_seq : CallR X (.builtin "len") (fun xs H Q => ∃ p ys, xs = [.ref p] ∧ (SqL X.K H p ys ∨ SqT X.K H p ys) ∧ Q (.int ys.length) H) := by
  intro pins s σ H xs us Q I r h
  obtain ⟨p, ys, rfl, hq, q⟩ := h
  obtain ⟨u, rfl, rx⟩ := vals1 r
  cases rx
  have hn := line63
  rcases hq with hq | hq
  · obtain ⟨its, r', pl, hz⟩ := I.list hq
    have hlen := r'.length
    exact Calls.call_len_list pl.isList (by simp only [List.size_toArray] <;> omega) ⟨.int ys.length, H, I.tok _, ⟨s.toks + 1, by rw [List.size_toArray, hlen]⟩, q⟩
  · obtain ⟨its, r', pl, hz⟩ := I.tuple hq
    have hlen := r'.length
    exact len_tuple pl (by simp only [List.size_toArray] <;> omega) ⟨.int ys.length, H, I.tok _, ⟨s.toks + 1, by rw [List.size_toArray, hlen]⟩, q⟩
theorem call_len_str : CallR X (.builtin "len") (fun xs H Q => ∃ z, xs = [.str z] ∧ z.length ≤ sizeLine ∧ Q (.int z.length) H) := by
  intro pins s σ H xs us Q I r h
  obtain ⟨z, rfl, hz, q⟩ := h
  obtain ⟨u, rfl, t, rfl⟩ := vals1 r
  have hn := line63
  exact len_str (by omega) ⟨.int z.length, H, I.tok _, ⟨_, rfl⟩, q⟩
theorem CallR.or {f : Value} {r r' : List V → Hp → VK → Prop} (h : CallR X f r) (h' : CallR X f r') : CallR X f (fun xs H Q => r xs H Q ∨ r' xs H Q) := by
  intro pins s σ H xs us Q I rs q
  rcases q with q | q
  · exact h pins s σ H xs us Q I rs q
  · exact h' pins s σ H xs us Q I rs q
theorem call_list_of : CallR X (.type "list") (fun xs H Q => ∃ p ys, xs = [.ref p] ∧ (SqL X.K H p ys ∨ SqT X.K H p ys) ∧ ∀ l, H l = none → Q (.ref l) (upd H l (.lst ys))) := by
  intro pins s σ H xs us Q I r h
  obtain ⟨p, ys, rfl, hq, q⟩ := h
  obtain ⟨u, rfl, rx⟩ := vals1 r
  cases rx
  have fin : ∀ (its : List Value), Vals ys its → ys.length ≤ sizeLine → ∀ (h' : Heap) (c' : Nat), (∀ b o', s.heap.get? b = some o' → h'.get? b = some o') →
      h'.get? s.heap.objs.size = some { cls := .type "list", dict := none, data := .seq its.toArray c', slots := #[] } → EP X pins σ Q (.ref s.heap.objs.size) { s with heap := h' } := fun its r' hz h' c' kp e =>
    ⟨.ref s.heap.objs.size, _, I.laid (t' := s.toks) kp (Nat.le_refl _) (show ObjOk X.prog X.w _ h' _ (.lst ys) from ⟨hz, its, c', r', e⟩), rfl, q _ (I.hok.fresh (Nat.le_refl _))⟩
  rcases hq with hq | hq
  · obtain ⟨its, r', pl, hz⟩ := I.list hq
    have hlen := r'.length
    obtain ⟨o, ho, hc, n, hd⟩ := pl.isList
    exact call_list_seq p (.inl rfl) ho hc hd (fun h' c' kp e => fin its r' hz h' c' kp e) (by simp only [List.size_toArray] <;> omega)
  · obtain ⟨its, r', pl, hz⟩ := I.tuple hq
    have hlen := r'.length
    obtain ⟨o, ho, hc, n, hd⟩ := pl
    exact call_list_seq p (.inr rfl) ho hc hd (fun h' c' kp e => fin its r' hz h' c' kp e) (by simp only [List.size_toArray] <;> omega)
theorem call_tuple_of : CallR X (.type "tuple") (fun xs H Q => ∃ p ys, xs = [.ref p] ∧ ((SqL X.K H p ys ∧ ∀ l, H l = none → Q (.ref l) (upd H l (.tup ys))) ∨ (SqT X.K H p ys ∧ Q (.ref p) H))) := by
  intro pins s σ H xs us Q I r h
  obtain ⟨p, ys, rfl, h⟩ := h
  obtain ⟨u, rfl, rx⟩ := vals1 r
  cases rx
  rcases h with ⟨hq, q⟩ | ⟨hq, q⟩
  · obtain ⟨its, r', pl, hz⟩ := I.list hq
    have hlen := r'.length
    refine call_tuple_list pl.isList (fun h' kp => ?_) (by simp only [List.size_toArray] <;> omega)
    have I1 : Inv X pins σ H { s with heap := h' } := I.kept (t' := s.toks) kp
    have I2 : Inv X pins σ (upd H h'.objs.size (.tup ys)) { s with heap := h'.push { cls := .type "tuple", data := .seq its.toArray } } :=
      I1.laid (t' := s.toks) (fun b o e => Heap.get?_push_of_some _ e) (Nat.le_refl _) (show ObjOk X.prog X.w _ _ _ (.tup ys) from ⟨hz, its, r', IsTup.new _ _⟩)
    exact ⟨.ref h'.objs.size, _, I2, rfl, q _ (I1.hok.fresh (Nat.le_refl _))⟩
  · obtain ⟨its, r', pl, hz⟩ := I.tuple hq
    exact call_tuple_same pl ⟨.ref p, H, I, rfl, q⟩

/-! ### the call of a builtin's method: o.m(..) -/
/-- the value is of that builtin type -/
def tyV (K : PySem.W.Frag) (T : String) (x : V) (H : Hp) : Prop := match x with
  | .str _ => T = "str"
  | .int _ => T = "int"
  | .ref p => (T = "list" ∧ ∃ xs, SqL K H p xs) ∨ (T = "tuple" ∧ ∃ o, K.lookup p = some o ∧ o.cls = .type "tuple" ∧ o.dict = none) ∨
      (T = "dict" ∧ ((∃ kvs, H p = some (.dK kvs)) ∨ ∃ kvs, H p = some (.dT kvs))) ∨ (T = "set" ∧ ∃ S n, H p = some (.set S n))
  | _ => False
theorem tyV_is {pins : List (Addr × Obj)} {σ : St} {H : Hp} {s : Shared} {T : String} {x : V} {v : Value} (I : Inv X pins σ H s) (r : RelV x v) (ty : tyV X.K T x H) :
    s.TypeIs v T ∧ ∀ a, v = .ref a → ∃ ob, s.heap.get? a = some ob ∧ ob.dict = none := by
  cases x with
  | str z =>
    obtain ⟨t, rfl⟩ := r
    cases (show T = "str" from ty)
    exact ⟨typeIs_str s z t, fun _ e => nomatch e⟩
  | int i =>
    obtain ⟨t, rfl⟩ := r
    cases (show T = "int" from ty)
    exact ⟨typeIs_int s i t, fun _ e => nomatch e⟩
  | ref p =>
    cases r
    rcases ty with ⟨rfl, xs, hq⟩ | ⟨rfl, o, hk, hc, hd⟩ | ⟨rfl, hk⟩ | ⟨rfl, S, n, hk⟩
    · obtain ⟨its, _, pl, _⟩ := I.list hq
      refine ⟨pl.isList.typeIs, fun a e => ?_⟩
      cases e
      obtain ⟨o, n, e, c, hd, _⟩ := pl
      exact ⟨o, e, hd⟩
    · refine ⟨⟨o, I.kIn p o hk, hc⟩, fun a e => ?_⟩
      cases e
      exact ⟨o, I.kIn _ o hk, hd⟩
    · have z : ∃ o, s.heap.get? p = some o ∧ o.ExactDict := by
        rcases hk with ⟨kvs, hk⟩ | ⟨kvs, hk⟩
        · obtain ⟨_, _, _, _, o, _, _, e, ex, _⟩ := I.hok p _ hk
          exact ⟨o, e, ex⟩
        · obtain ⟨_, _, _, _, o, _, _, e, ex, _⟩ := I.hok p _ hk
          exact ⟨o, e, ex⟩
      obtain ⟨o, e, ex⟩ := z
      refine ⟨⟨o, e, ex.1⟩, fun a e2 => ?_⟩
      cases e2
      exact ⟨o, e, ex.2.1⟩
    · obtain ⟨o, _, _, _, e, ex, _⟩ := I.hok p _ hk
      refine ⟨⟨o, e, ex.1⟩, fun a e2 => ?_⟩
      cases e2
      exact ⟨o, e, ex.2.1⟩
  | _ => exact False.elim ty
def tBM0 (K : PySem.W.Frag) (T : String) (r : V → List V → Hp → VK → Prop) (to : TE) : TE := fun σ H Q => to σ H fun x H1 => tyV K T x H1 ∧ r x [] H1 Q
def tBM (K : PySem.W.Frag) (T : String) (r : V → List V → Hp → VK → Prop) (to : TE) (t : TA) : TE := fun σ H Q => to σ H fun x H1 => tyV K T x H1 ∧ t σ H1 fun xs H2 => r x xs H2 Q
variable {o e : Expr} {es : List Expr} {to : TE} {t : TA} {name : Str} {apos cpos : Pos} {T id : String} {r : V → List V → Hp → VK → Prop}
theorem pe_bm0 (pa : PlainAttrs T) (slot : Slot T name id) (hty : typeOf (.builtin id) = pure (.type "method_descriptor")) (hm : MtR X id r) (ho : PE X o to)
    (hbase : attributeBase o name X.env (eval o X.env) = eval o X.env := by rfl) (hline : (apos.endLine == cpos.line) = true := by rfl) : PE X (.Call (.Attribute o name apos) [] [] cpos) (tBM0 X.K T r to) := by
  intro pins s σ H Q I h
  refine wpAny_Call_method0_late hbase hline (thn (ho pins s σ H _ I h) fun v s1 ⟨x, H1, I1, r1, ty, q1⟩ => ?_)
  obtain ⟨h1, h2⟩ := tyV_is I1 r1 ty
  exact ⟨T, id, pa, slot, hty, h1, h2, Calls.callWith_builtin rfl (PySem.evalArgs_none (hm pins s1 σ H1 x [] v [] Q I1 r1 .nil q1))⟩
theorem pe_bm (pa : PlainAttrs T) (slot : Slot T name id) (hty : typeOf (.builtin id) = pure (.type "method_descriptor")) (hm : MtR X id r) (ho : PE X o to) (ha : PA X (e :: es) t)
    (hbase : attributeBase o name X.env (eval o X.env) = eval o X.env := by rfl)
    (hfew : ((backTo cpos (starEach (e :: es) X.env)).all (fun x => !x.1) && (backToKw cpos (keywordEach [] X.env)).all (fun x => x.1.isSome)
      && decide ((e :: es).length + ([] : List Keyword).length + (if ([] : List Keyword).isEmpty then 0 else 1) < 30)) = true := by rfl)
    (hline : (apos.endLine == cpos.line) = true := by rfl) (hs : starEach (e :: es) X.env = (false, eval e X.env) :: starEach es X.env := by rfl) (hplain : (backTo cpos (starEach es X.env)).any (·.1) = false := by rfl) :
    PE X (.Call (.Attribute o name apos) (e :: es) [] cpos) (tBM X.K T r to t) := by
  intro pins s σ H Q I h
  refine wpAny_Call_method_late hbase hfew hline rfl (thn (ho pins s σ H _ I h) fun v s1 ⟨x, H1, I1, r1, ty, q1⟩ => ?_)
  obtain ⟨h1, h2⟩ := tyV_is I1 r1 ty
  refine ⟨T, id, pa, slot, hty, h1, h2, ?_⟩
  have hA := ha cpos pins s1 σ H1 _ I1 q1
  rw [hs] at hA ⊢
  refine Calls.callWith_builtin (by show (false || (backTo cpos (starEach es X.env)).any (·.1)) = false; rw [hplain] <;> rfl) (Calls.evalArgs_plain ?_)
  exact thn hA fun us s2 ⟨vs, H2, I2, r2, q2⟩ => hm pins s2 σ H2 x vs v us Q I2 r1 r2 q2
/- xs.append(e), list.index on a module's tuple .. are MtR facts of 06m -/
end
end L2

namespace L2
open PySem PySem.Spec PyProof.Rows

def MtM (X : Cx) (id : String) (r : V → List V → Hp → VK → Prop) : Prop :=
  ∀ (pins : List (Addr × Obj)) (s : Shared) (σ : St) (H : Hp) (x : V) (xs : List V) (v : Value) (us : List Value) (Q : VK), Inv X pins σ H s → RelV x v → Vals xs us → r x xs H Q →
    wpAny (model X.prog X.w) X.A (call (.builtin id) (v :: us)) (EP X pins σ Q) X.xe s

/-! ### lists of values -/
theorem Vals.one : ∀ {x : V} {us : List Value}, Vals [x] us → ∃ u, us = [u] ∧ RelV x u
  | _, _, .cons r .nil => ⟨_, rfl, r⟩
theorem Vals.two : ∀ {x y : V} {us : List Value}, Vals [x, y] us → ∃ u v, us = [u, v] ∧ RelV x u ∧ RelV y v
  | _, _, _, .cons r (.cons q .nil) => ⟨_, _, rfl, r, q⟩
theorem Vals.zero : ∀ {us : List Value}, Vals [] us → us = []
  | _, .nil => rfl
theorem Vals.dropLast {xs : List V} {us : List Value} (h : Vals xs us) : Vals xs.dropLast us.dropLast := by
  induction h with
  | nil => exact .nil
  | cons r t ih =>
    cases t with
    | nil => exact .nil
    | cons q t' => exact .cons r ih
theorem Vals.eraseIdx : ∀ {xs : List V} {us : List Value} (i : Nat), Vals xs us → Vals (xs.eraseIdx i) (us.eraseIdx i)
  | _, _, _, .nil => .nil
  | _, _, 0, .cons _ t => t
  | _, _, i + 1, .cons r t => .cons r (Vals.eraseIdx i t)
theorem Vals.reverse {xs : List V} {us : List Value} (h : Vals xs us) : Vals xs.reverse us.reverse := by
  induction h with
  | nil => exact .nil
  | cons r t ih => rw [List.reverse_cons, List.reverse_cons]; exact Vals.append ih (.cons r .nil)
theorem Vals.rep {xs : List V} {us : List Value} (h : Vals xs us) : ∀ k : Nat, Vals (List.replicate k xs).flatten (List.replicate k us).flatten
  | 0 => .nil
  | k + 1 => by
    rw [List.replicate_succ, List.replicate_succ, List.flatten_cons, List.flatten_cons]
    exact Vals.append h (Vals.rep h k)
theorem erase_last {α : Type} (l : List α) : l.eraseIdx (l.length - 1) = l.dropLast := by
  induction l with
  | nil => rfl
  | cons a r ih =>
    cases r with
    | nil => rfl
    | cons b r =>
      have e : (a :: b :: r).length - 1 = ((b :: r).length - 1) + 1 := by
        have h1 : (a :: b :: r).length = r.length + 2 := rfl
        have h2 : (b :: r).length = r.length + 1 := rfl
        omega
      rw [e, List.eraseIdx_cons_succ, ih]
      all_goals rfl
theorem len_erase {α : Type} : ∀ (l : List α) (i : Nat), (l.eraseIdx i).length ≤ l.length
  | [], _ => Nat.le_refl _
  | _ :: _, 0 => Nat.le_succ _
  | _ :: r, i + 1 => Nat.succ_le_succ (len_erase r i)
theorem foldl_rep (its : List Value) : ∀ (k : Nat) (acc : List Value),
    List.foldl (fun x1 x2 => x1 ++ x2) acc.toArray (List.replicate k its.toArray) = (acc ++ (List.replicate k its).flatten).toArray
  | 0, acc => by simp
  | k + 1, acc => by
    have e : acc.toArray ++ its.toArray = (acc ++ its).toArray := by simp
    have e2 : (acc ++ its) ++ (List.replicate k its).flatten = acc ++ (List.replicate (k + 1) its).flatten := by
      rw [List.replicate_succ, List.flatten_cons, List.append_assoc]
    rw [← e2, ← foldl_rep its k (acc ++ its), ← e, List.replicate_succ, List.foldl_cons]

section
variable {X : Cx} {pins : List (Addr × Obj)} {σ : St} {H : Hp} {s : Shared} {l b : Addr} {xs ys zs : List V}

/-! ### the two steps: a tracked list is rewritten, a new list is laid -/
theorem Inv.lset {its its' : List Value} {n : Nat} {f : Array Value → Array Value} {t' : Nat} (I : Inv X pins σ H s) (hH : H l = some (.lst xs))
    (e : s.heap.get? l = some { cls := .type "list", data := .seq its.toArray n }) (hf : f its.toArray = its'.toArray) (hv : Vals ys its') (hz : ys.length ≤ sizeLine) :
    Inv X pins σ (upd H l (.lst ys)) { s with heap := s.heap.update l (Obj.mapSeq f), toks := t' } := by
  have q := PySem.IsL.update e f
  rw [hf] at q
  refine I.write (x := l) (e := l) (by rw [hH]; exact trivial) (.inl rfl) (fun b' u hb hu => (Heap.get?_update_other s.heap (Obj.mapSeq f) (Ne.symm hb)).trans hu) ⟨_, q⟩ ?_
  exact ⟨hz, its', _, hv, q⟩
theorem Inv.lnew {its : List Value} {t' : Nat} (I : Inv X pins σ H s) (hv : Vals ys its) (hz : ys.length ≤ sizeLine) :
    Inv X pins σ (upd H s.heap.objs.size (.lst ys)) { s with heap := s.heap.push { cls := .type "list", data := .seq its.toArray }, toks := t' } :=
  I.laid (fun _ _ q => Heap.get?_push_of_some _ q) (Nat.le_refl _) ⟨hz, its, 0, hv, Heap.get?_push_size _ rfl⟩
theorem Inv.fresh (I : Inv X pins σ H s) : H s.heap.objs.size = none := I.hok.fresh (Nat.le_refl _)
theorem Inv.lstM (I : Inv X pins σ H s) (hH : H l = some (.lst xs)) : xs.length ≤ sizeLine ∧ ∃ (its : List Value) (n : Nat), Vals xs its ∧ xs.length = its.length ∧ s.heap.get? l = some { cls := .type "list", data := .seq its.toArray n } := by
  obtain ⟨z, its, n, r, e⟩ := I.hok l _ hH
  exact ⟨z, its, n, r, r.length, e⟩

theorem notLongL {n : Nat} (h : n ≤ sizeLine) : Builtin.List.listTooLong n = false := by
  unfold Builtin.List.listTooLong
  exact decide_eq_false (by omega)
end

section
variable {X : Cx}

/-! ### methods -/
def rAppend : V → List V → Hp → VK → Prop := fun x vs H Q => ∃ l xs y, x = .ref l ∧ vs = [y] ∧ H l = some (.lst xs) ∧ xs.length < sizeLine ∧ Q .non (upd H l (.lst (xs ++ [y])))
theorem mt_append : MtM X "list.append" rAppend := by
  intro pins s σ H x vs v us Q I rx rv h
  obtain ⟨l, xs, y, rfl, rfl, hH, hz, q⟩ := h
  cases rx
  obtain ⟨u, rfl, ru⟩ := rv.one
  obtain ⟨z, its, n, r, hl, e⟩ := I.lstM hH
  refine call_meets F.slot_list_append ⟨_, e, rfl⟩ F.entry_list_append (F.args_list_append_2 _ _) (PySem.list_append l its.toArray n u (by rw [List.size_toArray]; omega)) ⟨e, ?_⟩
  refine ⟨.non, _, I.lset (its' := its ++ [u]) hH e (by simp) (r.append (.cons ru .nil)) ?_, rfl, q⟩
  rw [List.length_append, List.length_singleton]
  omega

def rExtend : V → List V → Hp → VK → Prop := fun x vs H Q => ∃ l b xs zs, x = .ref l ∧ vs = [.ref b] ∧ H l = some (.lst xs) ∧ H b = some (.lst zs) ∧ xs.length + zs.length ≤ sizeLine ∧ Q .non (upd H l (.lst (xs ++ zs)))
theorem mt_extend : MtM X "list.extend" rExtend := by
  intro pins s σ H x vs v us Q I rx rv h
  obtain ⟨l, b, xs, zs, rfl, rfl, hH, hB, hz, q⟩ := h
  cases rx
  obtain ⟨u, rfl, ru⟩ := rv.one
  cases ru
  obtain ⟨z, its, n, r, hl, e⟩ := I.lstM hH
  obtain ⟨z2, its2, n2, r2, hl2, e2⟩ := I.lstM hB
  have hsz : its.toArray.size + its2.toArray.size ≤ sizeLine := by rw [List.size_toArray, List.size_toArray]; omega
  have hlong : ¬ (!its.toArray.isEmpty && Builtin.List.listTooLong (its.toArray.size + its2.toArray.size)) = true := by
    rw [notLongL hsz, Bool.and_false]
    exact Bool.false_ne_true
  refine call_meets F.slot_list_extend ⟨_, e, rfl⟩ F.entry_list_extend (F.args_list_extend_2 _ _)
    (AutoSeq1.list_extend_list_list_0 l its.toArray n b its2.toArray n2 hlong (by rw [List.size_toArray]; omega) (by omega)) ⟨e, e2, ?_⟩
  refine ⟨.non, _, I.lset (its' := its ++ its2) hH e (by simp) (r.append r2) ?_, rfl, q⟩
  rw [List.length_append]
  omega

def rPop : V → List V → Hp → VK → Prop := fun x vs H Q => ∃ l xs y, x = .ref l ∧ vs = [] ∧ H l = some (.lst xs) ∧ xs[xs.length - 1]? = some y ∧ Q y (upd H l (.lst xs.dropLast))
theorem mt_pop : MtM X "list.pop" rPop := by
  intro pins s σ H x vs v us Q I rx rv h
  obtain ⟨l, xs, y, rfl, rfl, hH, hy, q⟩ := h
  cases rx
  have hus := rv.zero
  subst hus
  obtain ⟨z, its, n, r, hl, e⟩ := I.lstM hH
  obtain ⟨u, hu, ru⟩ := r.get hy
  have hy' : its.toArray[its.toArray.size - 1]? = some u := by
    show its.toArray[its.length - 1]? = some u
    rw [← Array.getElem?_toList, ← hl]
    exact hu
  refine call_meets F.slot_list_pop ⟨_, e, rfl⟩ F.entry_list_pop (F.args_list_pop_1 _) (MeetsSeq.list_pop_last l its.toArray n u hy' (by rw [List.size_toArray]; omega)) ⟨e, ?_⟩
  refine ⟨y, _, I.lset (its' := its.dropLast) hH e ?_ r.dropLast ?_, ru, q⟩
  · show its.toArray.eraseIdxIfInBounds (its.toArray.size - 1) = its.dropLast.toArray
    rw [List.size_toArray, List.eraseIdxIfInBounds_toArray, erase_last]
  · rw [List.length_dropLast]
    omega

def rPopAt : V → List V → Hp → VK → Prop := fun x vs H Q => ∃ l xs i k y, x = .ref l ∧ vs = [.int i] ∧ H l = some (.lst xs) ∧ -(2 ^ 63) ≤ i ∧ i < 2 ^ 63 ∧ seqIndex? i xs.length = some k ∧ xs[k]? = some y ∧ Q y (upd H l (.lst (xs.eraseIdx k)))
theorem mt_popAt : MtM X "list.pop" rPopAt := by
  intro pins s σ H x vs v us Q I rx rv h
  obtain ⟨l, xs, i, k, y, rfl, rfl, hH, h1, h2, hk, hy, q⟩ := h
  cases rx
  obtain ⟨u, rfl, ru⟩ := rv.one
  obtain ⟨t, rfl⟩ := ru
  obtain ⟨z, its, n, r, hl, e⟩ := I.lstM hH
  obtain ⟨w, hw, rw'⟩ := r.get hy
  refine call_meets F.slot_list_pop ⟨_, e, rfl⟩ F.entry_list_pop (F.args_list_pop_2 _ _)
    (MeetsSeq.list_pop_at l its.toArray n i t k w (fitsIndex_both h1 h2) (by rw [List.size_toArray, ← hl]; exact hk) (by rw [← Array.getElem?_toList]; exact hw) (by rw [List.size_toArray]; omega)) ⟨e, ?_⟩
  refine ⟨y, _, I.lset (its' := its.eraseIdx k) hH e ?_ (r.eraseIdx k) ?_, rw', q⟩
  · show its.toArray.eraseIdxIfInBounds k = (its.eraseIdx k).toArray
    rw [List.eraseIdxIfInBounds_toArray]
  · have := len_erase xs k
    omega

def rReverse : V → List V → Hp → VK → Prop := fun x vs H Q => ∃ l xs, x = .ref l ∧ vs = [] ∧ H l = some (.lst xs) ∧ Q .non (upd H l (.lst xs.reverse))
theorem mt_reverse : MtM X "list.reverse" rReverse := by
  intro pins s σ H x vs v us Q I rx rv h
  obtain ⟨l, xs, rfl, rfl, hH, q⟩ := h
  cases rx
  have hus := rv.zero
  subst hus
  obtain ⟨z, its, n, r, hl, e⟩ := I.lstM hH
  refine call_meets F.slot_list_reverse ⟨_, e, rfl⟩ F.entry_list_reverse (F.args_list_reverse_1 _) (AutoSeq1.list_reverse_list_0 l its.toArray n (by rw [List.size_toArray]; omega)) ⟨e, ?_⟩
  refine ⟨.non, _, I.lset (its' := its.reverse) hH e (by simp) r.reverse ?_, rfl, q⟩
  rw [List.length_reverse]
  omega

def rClear : V → List V → Hp → VK → Prop := fun x vs H Q => ∃ l xs, x = .ref l ∧ vs = [] ∧ H l = some (.lst xs) ∧ Q .non (upd H l (.lst []))
theorem mt_clear : MtM X "list.clear" rClear := by
  intro pins s σ H x vs v us Q I rx rv h
  obtain ⟨l, xs, rfl, rfl, hH, q⟩ := h
  cases rx
  have hus := rv.zero
  subst hus
  obtain ⟨z, its, n, r, hl, e⟩ := I.lstM hH
  refine call_meets F.slot_list_clear ⟨_, e, rfl⟩ F.entry_list_clear (F.args_list_clear_1 _) (AutoSeq1.list_clear_list_0 l its.toArray n (by rw [List.size_toArray]; omega)) ⟨e, ?_⟩
  exact ⟨.non, _, I.lset (its' := []) (ys := []) hH e rfl .nil (Nat.zero_le _), rfl, q⟩

/-! ### list + list, list += list, list * int -/
def rCat : R2 := fun x y H Q => ∃ l b xs zs, x = .ref l ∧ y = .ref b ∧ H l = some (.lst xs) ∧ H b = some (.lst zs) ∧ xs.length + zs.length ≤ sizeLine ∧ ∀ p, H p = none → Q (.ref p) (upd H p (.lst (xs ++ zs)))
theorem op_cat : OpR X (binaryOp .Add) rCat := by
  intro pins s σ H x y v u Q I rx ry h
  obtain ⟨l, b, xs, zs, rfl, rfl, hH, hB, hz, q⟩ := h
  cases rx
  cases ry
  obtain ⟨z, its, n, r, hl, e⟩ := I.lstM hH
  obtain ⟨z2, its2, n2, r2, hl2, e2⟩ := I.lstM hB
  refine PySem.P.add_list e e2 ?_ (by rw [List.size_toArray, List.size_toArray]; omega)
  have ea : its.toArray ++ its2.toArray = (its ++ its2).toArray := by simp
  rw [ea]
  exact ⟨.ref _, _, I.lnew (t' := s.toks) (r.append r2) (by rw [List.length_append]; omega), rfl, q _ I.fresh⟩
/-- a list times an int (a negative one is nothing) -/
def rRep : R2 := fun x y H Q => ∃ l k xs, x = .ref l ∧ y = .int k ∧ H l = some (.lst xs) ∧ -(2 ^ 63) ≤ k ∧ k < 2 ^ 63 ∧ xs.length * k.toNat ≤ sizeLine ∧
  ∀ p, H p = none → Q (.ref p) (upd H p (.lst (List.replicate k.toNat xs).flatten))
theorem len_rep {α : Type} (xs : List α) (k : Nat) : (List.replicate k xs).flatten.length = k * xs.length := by
  induction k with
  | zero => simp
  | succ k ih => rw [List.replicate_succ, List.flatten_cons, List.length_append, ih, Nat.succ_mul, Nat.add_comm]
theorem op_rep : OpR X (binaryOp .Mult) rRep := by
  intro pins s σ H x y v u Q I rx ry h
  obtain ⟨l, k, xs, rfl, rfl, hH, h1, h2, hz, q⟩ := h
  cases rx
  obtain ⟨t, rfl⟩ := ry
  obtain ⟨z, its, n, r, hl, e⟩ := I.lstM hH
  have hlen : its.toArray.size * k.toNat ≤ sizeLine := by rw [List.size_toArray, ← hl]; exact hz
  have hcap : ¬ its.toArray.size * k.toNat > (2 ^ 63 - 1) / 8 := by
    have : (sizeLine : Nat) ≤ (2 ^ 63 - 1) / 8 := by decide
    omega
  have hfit : ¬ (!Builtin.List.listFitsIndex k) = true := by
    rw [fitsIndex_both h1 h2]
    exact Bool.false_ne_true
  have hlong : ¬ Builtin.List.listTooLong (its.toArray.size * k.toNat) = true := by
    rw [notLongL hlen]
    exact Bool.false_ne_true
  have hnew : List.foldl (fun x1 x2 => x1 ++ x2) #[] (List.replicate (if its.toArray.isEmpty = true then 0 else k.toNat) its.toArray) = (List.replicate k.toNat its).flatten.toArray := by
    have f0 : ∀ m : Nat, List.foldl (fun x1 x2 => x1 ++ x2) #[] (List.replicate m its.toArray) = (List.replicate m its).flatten.toArray := fun m => by
      have := foldl_rep its m []
      rw [List.nil_append] at this
      exact this
    rw [f0]
    cases its with
    | nil => simp
    | cons a r' => rw [if_neg (by simp)]
  refine wpAny_binaryOp_repeat_ref (T := "list") (U := "int") (by decide) ⟨_, e, rfl⟩ (fun s' => typeIs_int s' k t) noFill_list_mul F.fills_int_mul F.slot_int_rmul repeat_list F.slot_int_index.lookup
    (call_meets F.slot_int_rmul (typeIs_int s k t) F.entry_int_rmul (F.args_int_rmul_2 _ _) (int___rmul___int_list k t l its.toArray n)
      ⟨e, rfl, ⟨_, e, rfl⟩, call_meets F.slot_list_mul ⟨_, e, rfl⟩ F.entry_list_mul (F.args_list_mul_2 _ _) (AutoListH.list___mul___list_int_3 l its.toArray n k t hfit hcap hlong) ⟨e, ?_⟩⟩)
  rw [hnew]
  exact ⟨.ref _, _, I.lnew (t' := s.toks) (r.rep k.toNat) (by rw [len_rep, Nat.mul_comm]; exact hz), rfl, q _ I.fresh⟩

/-! ### del xs[i] -/
theorem del_list {pins : List (Addr × Obj)} {s : Shared} {σ : St} {H : Hp} {l : Addr} {xs : List V} {i : Int} {t : Tok} {k : Nat} {Q : Unit → Shared → Prop} (I : Inv X pins σ H s) (hH : H l = some (.lst xs))
    (h1 : -(2 ^ 63) ≤ i) (h2 : i < 2 ^ 63) (hk : seqIndex? i xs.length = some k) (h : ∀ s', Inv X pins σ (upd H l (.lst (xs.eraseIdx k))) s' → Q () s') :
    wpAny (model X.prog X.w) X.A (delItem (.ref l) (.int i t)) Q X.xe s := by
  obtain ⟨z, its, n, r, hl, e⟩ := I.lstM hH
  refine PySem.P.delItem_list (k := k) e (fitsIndex_both h1 h2) (by rw [List.size_toArray, ← hl]; exact hk) (h _ ?_) (by rw [List.size_toArray]; omega)
  refine I.lset (its' := its.eraseIdx k) (t' := s.toks) hH e ?_ (r.eraseIdx k) ?_
  · show its.toArray.eraseIdxIfInBounds k = (its.eraseIdx k).toArray
    rw [List.eraseIdxIfInBounds_toArray]
  · have := len_erase xs k
    omega
end

/-! ### xs[a:b] = ys -/
section
variable {prog : Program} {w : World} {A : Around} {E : Value → Shared → Prop} {s : Shared}
theorem splice_eq (its its2 : List Value) (a c : Nat) : its.toArray.extract 0 a ++ its2.toArray ++ its.toArray.extract c its.toArray.size = (its.take a ++ its2 ++ its.drop c).toArray := by
  apply Array.toList_inj.mp
  first
    | (simp
       exact List.take_of_length_le (by simp))
    | simp [List.take_of_length_le]
    | simp
theorem bounds_run {a c n : Nat} (hac : a ≤ c) (hc : c ≤ n) : sliceBounds (some (a : Int)) (some (c : Int)) none n = ((a : Int), (c : Int), 1) := by
  simp only [sliceBounds, Option.getD_none]
  have h1 : ¬ ((a : Int) < 0) := by omega
  have h2 : ¬ ((c : Int) < 0) := by omega
  simp only [h1, h2, if_false, show (1 : Int) > 0 by decide, if_true]
  congr 1
  · omega
  · congr 1; omega
set_option maxRecDepth 100000 in
/-- list.__setitem__ with a slice of step one and another list -/
theorem setItem_slice {l b sl : Addr} {items new : Array Value} {n n2 : Nat} {vl vu : Value} {a c : Nat} {Q : Unit → Shared → Prop}
    (e : s.heap.get? l = some { cls := .type "list", data := .seq items n }) (e2 : s.heap.get? b = some { cls := .type "list", data := .seq new n2 }) (hne : l ≠ b)
    (hs : s.heap.IsSliceOf sl vl vu .none) (pl : IsPart vl (some (a : Int))) (pu : IsPart vu (some (c : Int))) (hac : a ≤ c) (hc : c ≤ items.size)
    (hsz : items.size + new.size ≤ sizeLine) (h : Q () { s with heap := s.heap.update l (Obj.mapSeq fun xs => xs.extract 0 a ++ new ++ xs.extract c xs.size) }) :
    wpAny (model prog w) A (setItem (.ref l) (.ref sl) (.ref b)) Q E s := by
  have hl : s.heap.IsList l items := PySem.IsL.isList e
  have hb : s.heap.IsList b new := PySem.IsL.isList e2
  obtain ⟨os, hos, hcs, hds⟩ := id hs
  have hTs : s.TypeIs (.ref sl) "slice" := ⟨os, hos, hcs⟩
  have hstep : ¬ ((rawPart none == rawInt 0) = true) := Bool.false_ne_true
  have hsame : Builtin.List.listSameRef (.ref l) (.ref b) = false := by
    unfold Builtin.List.listSameRef
    exact beq_eq_false_iff_ne.mpr hne
  have hmax : (max (a : Int) (c : Int)).toNat = c := by omega
  have hz' : ((fun xs : Array Value => xs.extract 0 a ++ new ++ xs.extract c xs.size) items).size ≤ sizeLine + 1 := by
    simp only [Array.size_append, Array.size_extract]
    omega
  unfold setItem
  try with_reducible refine wpAny_holding ?_
  first | refine wpAny_bind (wpAny_pure ?_) | skip
  refine wpAny_bind (wpAny_sequenceKey hl.typeIs (by decide) ?_)
  refine wpAny_bind (wpAny_callSpecial?_slot (name := Str.ofString "__setitem__") hl.typeIs slot_list_setitem
    (wpAny_call_entry slot_list_setitem hl.typeIs entry_list_setitem ?_ (args_list_setitem _ _ _)))
  show wpAny _ _ (Builtin.List.listSubscript? (.ref sl) >>= _) _ _ s
  refine wpAny_bind ?_
  unfold Builtin.List.listSubscript?
  refine wpAny_bind (wpAny_specialOf hTs slice_no_index ?_)
  simp only [Option.isNone_none, if_true]
  refine wpAny_pure ?_
  show wpAny _ _ (typeOf (.ref sl) >>= _) _ _ s
  refine wpAny_bind (wpAny_typeOf hTs ?_)
  first
    | rw [if_neg (by decide)]
    | refine PySem.W.KFB.if_not (by decide) ?_
  rw [listSliceParts_eq]
  refine wpAny_bind (wpAny_bind (wpAny_field hos hds (x := .none) rfl (wpAny_bind (wpAny_listPart .none ?_))))
  rw [if_neg hstep]
  refine wpAny_bind (wpAny_field hos hds (x := vl) rfl (wpAny_bind (wpAny_listPart pl ?_)))
  refine wpAny_bind (wpAny_field hos hds (x := vu) rfl (wpAny_bind (wpAny_listPart pu (wpAny_pure ?_))))
  first
    | simp only [hsame, Bool.false_eq_true, if_false]
    | refine PySem.W.KFB.if_not hsame ?_
    | (dsimp only
       rw [if_neg (by rw [hsame]; exact Bool.false_ne_true)])
  refine wpAny_bind (m := Builtin.List.listAllItems (.ref b) "must assign iterable to extended slice") ?_
  unfold Builtin.List.listAllItems
  refine wpAny_bind (wpAny_typeOf hb.typeIs ?_)
  first
    | refine PySem.W.KFB.if_so (by decide) ?_
    | rw [if_pos (by decide)]
    | simp only [beq_self_eq_true, Bool.true_or, if_true]
  unfold Builtin.List.listItems
  refine wpAny_bind (wpAny_seqItems e2 rfl (wpAny_pure ?_))
  refine wpAny_bind (wpAny_bind (wpAny_seqItems e rfl (wpAny_pure ?_)))
  refine wpAny_bind (wpAny_of_eq ((sliceIndices_raw (some (a : Int)) (some (c : Int)) none items.size (by simp)).trans (congrArg (pure : Int × Int × Int → Sem (Int × Int × Int)) (bounds_run hac hc))) ?_)
  show wpAny _ _ (if ((1 : Int) == 1) = true then _ else _) _ _ s
  rw [if_pos (by decide)]
  refine wpAny_bind (wpAny_rule ?_)
  first
    | simp only [notLongL hsz, Bool.false_eq_true, if_false]
    | refine PySem.W.KFB.if_not (notLongL hsz) ?_
  first | refine wpAny_bind (wpAny_pure ?_) | skip
  show wpAny _ _ (updateSeq l (fun xs => xs.extract 0 ((a : Int)).toNat ++ new ++ xs.extract (max (a : Int) (c : Int)).toNat xs.size) >>= _) _ _ s
  rw [hmax, Int.toNat_natCast]
  refine wpAny_bind (wpAny_updateSeq (hz := Nat.le_trans (Nat.le_add_right _ _) hsz) (_hz' := hz') e rfl ?_)
  refine wpAny_bind (wpAny_letGo ?_)
  first
    | exact wpAny_bind (wpAny_pure (wpAny_pure ⟨.none, rfl, wpAny_pure h⟩))
    | exact wpAny_pure ⟨.none, rfl, wpAny_pure h⟩
end

section
variable {X : Cx}
/-- xs[a:c] = ys of another list, at the value level: sl is the slice object that was just made -/
theorem set_slice {pins : List (Addr × Obj)} {s : Shared} {σ : St} {H : Hp} {l b sl : Addr} {xs ys : List V} {a c : Int} {vl vu : Value} {Q : Unit → Shared → Prop} (I : Inv X pins σ H s)
    (hH : H l = some (.lst xs)) (hB : H b = some (.lst ys)) (hne : l ≠ b) (hs : s.heap.IsSliceOf sl vl vu .none) (ra : RelV (.int a) vl) (rc : RelV (.int c) vu) (h0 : 0 ≤ a) (hac : a ≤ c) (hc : c ≤ xs.length)
    (hz : xs.length + ys.length ≤ sizeLine) (h : ∀ s', Inv X pins σ (upd H l (.lst (xs.take a.toNat ++ ys ++ xs.drop c.toNat))) s' → Q () s') :
    wpAny (model X.prog X.w) X.A (setItem (.ref l) (.ref sl) (.ref b)) Q X.xe s := by
  obtain ⟨ta, rfl⟩ := ra
  obtain ⟨tc, rfl⟩ := rc
  obtain ⟨z, its, n, r, hl, e⟩ := I.lstM hH
  obtain ⟨z2, its2, n2, r2, hl2, e2⟩ := I.lstM hB
  obtain ⟨a', rfl⟩ := Int.eq_ofNat_of_zero_le h0
  obtain ⟨c', rfl⟩ := Int.eq_ofNat_of_zero_le (Int.le_trans h0 hac)
  simp only [Int.toNat_natCast] at h
  refine setItem_slice (a := a') (c := c') e e2 hne hs (.int _ _) (.int _ _) (by omega) (by rw [List.size_toArray]; omega) (by rw [List.size_toArray, List.size_toArray]; omega) (h _ ?_)
  refine I.lset (its' := its.take a' ++ its2 ++ its.drop c') (t' := s.toks) hH e ?_ (Vals.append (Vals.append (r.take _) r2) (r.drop _)) ?_
  · exact splice_eq its its2 a' c'
  · rw [List.length_append, List.length_append, List.length_take, List.length_drop]
    omega
end
end L2

namespace Att
open PySem PySem.W PySem.Calls PyProof.Rows

/-! ### the script -/
theorem ints_of_wellAll {P : Params} {h : Heap} : ∀ (ns : List Int) (vs : List Value), WellAll P h vs (ns.map WData.int) → IntsAre vs ns := by
  intro ns
  induction ns with
  | nil =>
    intro vs w
    rw [List.map_nil] at w
    cases w
    exact .nil
  | cons n ns ih =>
    intro vs w
    rw [List.map_cons] at w
    cases w with
    | cons a b =>
      cases a
      exact .cons _ _ (ih _ b)

theorem script_of {l : OpenLaw} {n : Nat} (hn : l.most = some n) {P : Params} {h : Heap} {args : List WData} {vals : List Value}
    (hpre : l.row.toRowW.claim.pre args = true) (hwl : WellAll P h vals args) :
    ∃ a vs ns, vals = [Value.ref a] ∧ args = [WData.list (ns.map WData.int)] ∧ h.get? a = some { cls := .type "list", data := .seq vs.toArray } ∧ IntsAre vs ns ∧ ns.length ≤ n := by
  have hsh : WShape.hasAll [] args [.list .int] = true := (pre_splitW hpre).1
  have hc : l.pre.holds [] { args := args } = true := (pre_splitW hpre).2
  obtain ⟨d, r, rfl, h1, h2⟩ := hasAllW_cons hsh
  obtain rfl := hasAllW_nil h2
  obtain ⟨xs, rfl, h3⟩ := hasW_list h1
  obtain ⟨ns, rfl⟩ := items_int h3
  have hlen : ns.length ≤ n := by
    unfold OpenLaw.pre at hc
    have h4 : (WTm.not (.lt (.lit (.int (n : Int))) (.len (.arg 0)))).holds [] { args := [.list (ns.map .int)] } = true := by
      have h4 := (holds_andW hc).1
      rw [hn] at h4
      exact h4
    have h5 := condW_of h4 (w_not (w_lt w_lit (w_len_list (w_arg rfl))))
    rw [List.length_map] at h5
    refine Nat.le_of_not_lt fun q => ?_
    have q' : (n : Int) < ((ns.length : Nat) : Int) := by omega
    first
      | (rw [decide_eq_true q'] at h5; exact absurd h5 (by decide))
      | (simp at h5; omega)
  cases hwl with
  | cons w1 w2 =>
    cases w2
    cases w1 with
    | list ho hall => exact ⟨_, _, ns, rfl, rfl, ho, ints_of_wellAll ns _ hall, hlen⟩

theorem post_true (l : OpenLaw) (args : List WData) : l.row.toRowW.claim.post args (.bool true) args = true :=
  postW_of (r := l.row.toRowW) (X := (true == true))
    (show WShape.has [] (.bool true) .bool = true by first | rfl | decide | simp [WShape.has, WShape.arms, WShape.armsAll])
    (show (WTm.eq .res (.lit (.bool true))).value [] { args := args, res := some (.bool true), after := args } = some (.bool (true == true)) from w_eq_bool (w_res rfl) w_lit) rfl

/-! ### the attachment: holds_open's last premise (the goal 'hc' behind k_head) from a wpAny of the law's body -/
theorem attach {l : OpenLaw} {n : Nat} {q : Program} {loose : List Str} {XP : (Str → Option Value) → Heap → Prop} {YP : World → Heap → Prop} {d : DefRec} {x : Str}
    (hn : l.most = some n) (hdf : d.params.defaults = [])
    (hbind : ∀ pm cd doc v : Value, bindArgs (docDef d.name d.params d.body d.scope pm cd doc) ⟨[v], []⟩ = pure [(x, v)])
    (hx : d.scope.names.lookup x = some .local ∨ d.scope.names.lookup x = some .cell)
    (hk : d.scope.kind = .function) (hco : d.scope.isCoroutine = false) (hgen : d.scope.isGenerator = false)
    (body : ∀ (w : World) (s₀ s₁ s : Shared) (mg mb : Str → Option Value) (fa : Addr) (o : Obj) (pm cd doc : Value) (a : Addr) (vs : List Value) (ns : List Int),
      Ground q loose [] XP w s₀ mg mb s₁.heap → YP w s₁.heap →
      s₁.heap.get? fa = some o → o.data = .func (docDef d.name d.params d.body d.scope pm cd doc) → s₁.heap.CodeRec cd d.name → mg d.name = some (.ref fa) →
      s₁.heap.get? a = some { cls := .type "list", data := .seq vs.toArray } → IntsAre vs ns → ns.length ≤ n →
      s.gens = #[] → s.os = s₁.os →
      Fr s₁.heap s₁.heap.objs.size s.heap (bindL (envOfC d.name d.scope s₁.heap.objs.size fa cd).kindOf [(x, .ref a)] fun _ => none) →
      Cl s₁.heap.objs.size (cellsFrom (s₁.heap.objs.size + 1) d.scope.names []) s.heap (bindC (envOfC d.name d.scope s₁.heap.objs.size fa cd).kindOf [(x, .ref a)] fun _ => none) →
      wpAny (model l.prog w) (callerA.deeper (envOfC d.name d.scope s₁.heap.objs.size fa cd)) (execs d.body (envOfC d.name d.scope s₁.heap.objs.size fa cd))
        (fun f s' => f = .ret (.bool true) ∧ OldK s₁.heap s'.heap ∧ s'.os = s₁.os ∧ AllBare s'.gens) (fun _ _ => False) s) :
    WalkO q loose XP YP l.row.toRowW d [] (fun f vs => PySem.call f vs) := by
  intro w s₀ s₁ mg mb G Y fa o pm cd doc dV kV ho hd hcd hD hmg hg args vals as hpre hlay hrd hwl hlo
  obtain rfl : dV = .none := Dflts.none hD hdf
  obtain rfl : kV = .none := Dflts.noKw hD
  obtain ⟨a, vs, ns, rfl, rfl, hobj, hints, hlen⟩ := script_of hn hpre hwl
  refine enter_call ?_
  refine call_cells_ret (o := o) (by rw [depth_caller]; decide) ho (fd_plain hd) G.T.nolimit hcd (hbind pm cd doc (.ref a)) (fun y hy => ?_) (fun h₁ tk F X => ?_) hco hgen hk
  · obtain rfl : y = (x, Value.ref a) := List.mem_singleton.mp hy
    rcases hx with e | e
    · exact .inl e
    · exact .inr ⟨e, cellsFrom_some _ _ _ (.inl e)⟩
  · refine wpAny_mono (body w s₀ s₁ { s₁ with heap := h₁, toks := tk } mg mb fa o pm cd doc a vs ns G Y ho (fd_plain hd) hcd hmg hobj hints hlen hg rfl F X) (fun f s' hq => ?_) (fun _ _ hq => hq)
    obtain ⟨rfl, h2, h3, h4⟩ := hq
    exact ⟨.inl ⟨.bool true, .bool true, [], rfl, fun _ => rfl, .bool true, post_true l _, fun _ => ⟨List.Pairwise.nil, fun _ hm => (nomatch hm)⟩⟩, h2, h3, h4⟩

/-- the same from a codeAny of the CALL (for a layer whose function contracts speak of calls) -/
theorem attach_call {l : OpenLaw} {n : Nat} {q : Program} {loose : List Str} {XP : (Str → Option Value) → Heap → Prop} {YP : World → Heap → Prop} {d : DefRec}
    (hn : l.most = some n) (hdf : d.params.defaults = [])
    (call : ∀ (w : World) (s₀ s₁ : Shared) (mg mb : Str → Option Value) (fa : Addr) (o : Obj) (pm cd doc : Value) (a : Addr) (vs : List Value) (ns : List Int),
      Ground q loose [] XP w s₀ mg mb s₁.heap → YP w s₁.heap →
      s₁.heap.get? fa = some o → o.data = .func (docDef d.name d.params d.body d.scope pm cd doc) → s₁.heap.CodeRec cd d.name → mg d.name = some (.ref fa) →
      s₁.heap.get? a = some { cls := .type "list", data := .seq vs.toArray } → IntsAre vs ns → ns.length ≤ n → s₁.gens = #[] →
      codeAny (model l.prog w) callerA (.call (.ref fa) ⟨[.ref a], []⟩) (fun r s' => r = .ok (.ret (.bool true)) ∧ OldK s₁.heap s'.heap ∧ s'.os = s₁.os ∧ AllBare s'.gens) s₁) :
    WalkO q loose XP YP l.row.toRowW d [] (fun f vs => PySem.call f vs) := by
  intro w s₀ s₁ mg mb G Y fa o pm cd doc dV kV ho hd hcd hD hmg hg args vals as hpre hlay hrd hwl hlo
  obtain rfl : dV = .none := Dflts.none hD hdf
  obtain rfl : kV = .none := Dflts.noKw hD
  obtain ⟨a, vs, ns, rfl, rfl, hobj, hints, hlen⟩ := script_of hn hpre hwl
  refine enter_call (codeAny_mono (call w s₀ s₁ mg mb fa o pm cd doc a vs ns G Y ho (fd_plain hd) hcd hmg hobj hints hlen hg) fun r s' hq => ?_)
  obtain ⟨rfl, h2, h3, h4⟩ := hq
  exact ⟨.inl ⟨.bool true, .bool true, [], rfl, fun _ => rfl, .bool true, post_true l _, fun _ => ⟨List.Pairwise.nil, fun _ hm => (nomatch hm)⟩⟩, h2, h3, h4⟩

/-- the same where the top left finished generators (o_head chose holds_openN): nothing may have changed at all and no generator may be left -/
theorem attachN {l : OpenLaw} {n : Nat} {q : Program} {loose : List Str} {XP : (Str → Option Value) → Heap → Prop} {YP : World → Heap → Prop} {d : DefRec} {x : Str}
    (hn : l.most = some n) (hdf : d.params.defaults = [])
    (hbind : ∀ pm cd doc v : Value, bindArgs (docDef d.name d.params d.body d.scope pm cd doc) ⟨[v], []⟩ = pure [(x, v)])
    (hx : d.scope.names.lookup x = some .local ∨ d.scope.names.lookup x = some .cell)
    (hk : d.scope.kind = .function) (hco : d.scope.isCoroutine = false) (hgen : d.scope.isGenerator = false)
    (body : ∀ (w : World) (s₀ s₁ s : Shared) (mg mb : Str → Option Value) (fa : Addr) (o : Obj) (pm cd doc : Value) (a : Addr) (vs : List Value) (ns : List Int),
      Ground q loose [] XP w s₀ mg mb s₁.heap → YP w s₁.heap →
      s₁.heap.get? fa = some o → o.data = .func (docDef d.name d.params d.body d.scope pm cd doc) → s₁.heap.CodeRec cd d.name → mg d.name = some (.ref fa) →
      s₁.heap.get? a = some { cls := .type "list", data := .seq vs.toArray } → IntsAre vs ns → ns.length ≤ n →
      s.gens = #[] → s.os = s₁.os →
      Fr s₁.heap s₁.heap.objs.size s.heap (bindL (envOfC d.name d.scope s₁.heap.objs.size fa cd).kindOf [(x, .ref a)] fun _ => none) →
      Cl s₁.heap.objs.size (cellsFrom (s₁.heap.objs.size + 1) d.scope.names []) s.heap (bindC (envOfC d.name d.scope s₁.heap.objs.size fa cd).kindOf [(x, .ref a)] fun _ => none) →
      wpAny (model l.prog w) (callerA.deeper (envOfC d.name d.scope s₁.heap.objs.size fa cd)) (execs d.body (envOfC d.name d.scope s₁.heap.objs.size fa cd))
        (fun f s' => f = .ret (.bool true) ∧ (∀ b o, s₁.heap.get? b = some o → s'.heap.get? b = some o) ∧ s'.os = s₁.os ∧ s'.gens = #[]) (fun _ _ => False) s) :
    WalkN q loose XP YP l.row.toRowW d [] (fun f vs => PySem.call f vs) := by
  intro w s₀ s₁ mg mb G Y fa o pm cd doc dV kV ho hd hcd hD hmg hg args vals as hpre hlay hrd hwl hlo
  obtain rfl : dV = .none := Dflts.none hD hdf
  obtain rfl : kV = .none := Dflts.noKw hD
  obtain ⟨a, vs, ns, rfl, rfl, hobj, hints, hlen⟩ := script_of hn hpre hwl
  refine enter_callW ?_
  refine call_cells_ret (o := o) (by rw [depth_caller]; decide) ho (fd_plain hd) G.T.nolimit hcd (hbind pm cd doc (.ref a)) (fun y hy => ?_) (fun h₁ tk F X => ?_) hco hgen hk
  · obtain rfl : y = (x, Value.ref a) := List.mem_singleton.mp hy
    rcases hx with e | e
    · exact .inl e
    · exact .inr ⟨e, cellsFrom_some _ _ _ (.inl e)⟩
  · refine wpAny_mono (body w s₀ s₁ { s₁ with heap := h₁, toks := tk } mg mb fa o pm cd doc a vs ns G Y ho (fd_plain hd) hcd hmg hobj hints hlen hg rfl F X) (fun f s' hq => ?_) (fun _ _ hq => hq)
    obtain ⟨rfl, h2, h3, h4⟩ := hq
    exact ⟨.inl ⟨.bool true, .bool true, [], rfl, fun _ => rfl, .bool true, post_true l _, fun _ => ⟨List.Pairwise.nil, fun _ hm => (nomatch hm)⟩⟩, h2, h3, h4⟩

/-! ### rules over ANY heap (no ledger) from facts about the written part K: the library's own take a ledger (News) for what they write -/
section
variable {prog : Program} {w : World} {A : Around} {E : Value → Shared → Prop} {s : Shared} {K : Frag}

/-- a def of the module, or a method (qual 'C.m'), entered: the frame is the next address; cells behind it -/
theorem call_fn {R : Result → Shared → Prop} {name qual : Str} {params : Arguments} {body : List Stmt} {scope : Scope} {dV kV doc pm cdv ct oc : Value} {an od : Option Addr} {osl : Array (Option Value)} {f : Addr} {args : Args} {binds : List (Str × Value)}
    (X : K.In s.heap) (hlim : s.heap.NoLimit) (ho : K.lookup f = some ⟨oc, od, .func (fnOf name qual params body scope dV kV doc pm an cdv ct), osl⟩) (hcd : codeIn K cdv qual = true) (hroom : A.depth < recursionLimit)
    (hbind : BindsTo s (fnOf name qual params body scope dV kV doc pm an cdv ct) args binds)
    (hkind : (binds.all fun y => scope.names.lookup y.1 == some .local || scope.names.lookup y.1 == some .cell) = true)
    (h : ∀ s₁, InCallC s s.heap.objs.size (bindL (envOfC qual scope s.heap.objs.size f cdv).kindOf binds fun _ => none) (cellsFrom (s.heap.objs.size + 1) scope.names [])
        (bindC (envOfC qual scope s.heap.objs.size f cdv).kindOf binds fun _ => none) s₁ →
      wpAny (model prog w) (A.deeper (envOfC qual scope s.heap.objs.size f cdv)) (execs body (envOfC qual scope s.heap.objs.size f cdv))
        (fun fl s' => R (.ok (.ret (match fl with | .ret v => v | _ => .none))) s')
        (fun e s' => wpAny (model prog w) (A.deeper (envOfC qual scope s.heap.objs.size f cdv)) (leaving (envOfC qual scope s.heap.objs.size f cdv) e) (fun _ s'' => R (.error e) s'') (fun e' s'' => R (.error e') s'') s') s₁)
    (hco : scope.isCoroutine = false) (hgen : scope.isGenerator = false) (hk : scope.kind = .function) : codeAny (model prog w) A (.call (.ref f) args) R s := by
  refine codeAny_call_function hroom (X _ _ ho) rfl hco hgen rfl (codeRec_of X hcd) (hbind _ _ _ _ ?_)
  refine wpAny_newFunctionEnv_cells hk (kindsX hkind _) fun env he s₁ x => ?_
  subst he
  exact ⟨hlim.keeps x.toInCall.keep, codeAny_func (h s₁ x)⟩

/-- C(..): dict at size, instance at size + 1, then __init__ -/
theorem make_obj {R : Result → Shared → Prop} {C fI : Addr} {rest : List Value} {kw : List (Str × Value)}
    (X : K.In s.heap) (hm : makesIn K C = true) (hi : findIn K (.ref C) "__init__" = some (some (.ref fI))) (hf : isFn K (.ref fI) = true)
    (h : codeAny (model prog w) (A.under (.builtin "type.__call__" ⟨.ref C :: rest, kw⟩)) (.call (.ref fI) ⟨.ref (s.heap.objs.size + 1) :: rest, kw⟩) (InitBack (s.heap.objs.size + 1) R)
      { s with heap := (s.heap.push emptyDict).push (instObj C s.heap.objs.size) }) : codeAny (model prog w) A (.call (.ref C) ⟨rest, kw⟩) R s := by
  obtain ⟨hh, g, d, t, os⟩ := s
  exact make_core (makes_of X hm) (looks_findIn X hi) (fun self => bind_fn X self (beq_iff_eq.mp hf)) (.inl rfl) h

/-- x.name where the instance's dict holds the name and the class does not -/
theorem get_field {x C : Addr} {ox : Obj} {es : List DictEntry} {n : Nat} {name : Str} {expr : Bool} {v : Value} {Q : Value → Shared → Prop}
    (X : K.In s.heap) (I : PySem.W.InstAt s.heap x ox C (some (dictOf es n))) (hg : plainGet K C name = true) (hh : hasDictIn K C = true) (ha : findIn K (.ref C) name = some none)
    (hl : getL name es = some (some v)) (hv : handedIn v = true) (h : Q v { s with toks := s.toks + 1 }) : wpAny (model prog w) A (getAttr (.ref x) name expr) Q E s :=
  get_value X I (plainGet_of hg).1 (findObj_own hh ha rfl hl) hv h

/-- x.m(..): the method found in the class -/
theorem get_method {x C f : Addr} {ox : Obj} {es : List DictEntry} {n : Nat} {name : Str} {pl : Sem Bool} {Q : Value × List Value → Shared → Prop}
    (X : K.In s.heap) (I : PySem.W.InstAt s.heap x ox C (some (dictOf es n))) (hg : plainGet K C name = true) (hf : findIn K (.ref C) name = some (some (.ref f))) (ht : isFn K (.ref f) = true)
    (hl : getL name es = some none) (h : Q (.ref f, [.ref x]) s) : wpAny (model prog w) A (getMethod (.ref x) name pl) Q E s :=
  method_fn X I (plainGet_of hg).1 (plainGet_of hg).2 hf (beq_iff_eq.mp ht) (by show (lookIn name (dictOf es n)).map _ = _; rw [lookIn_dict, hl]; rfl) h

/-! the whole heap as the ledger: makes every rule that writes through a ledger a rule over any heap -/
def noObjs (h : Heap) : Heap := { h with objs := #[] }
theorem noObjs_get (h : Heap) (b : Addr) : (noObjs h).get? b = none := by
  cases e : (noObjs h).get? b with
  | none => rfl
  | some o => exact absurd (Heap.lt_size e) (Nat.not_lt_zero _)
def ledger (h : Heap) (L d : Addr) : List (Addr × Obj) := (List.range h.objs.size).filterMap fun a => if a = L ∨ a = d then none else (h.get? a).map fun o => (a, o)
theorem mem_ledger {h : Heap} {L d a : Addr} {o : Obj} : (a, o) ∈ ledger h L d ↔ a ≠ L ∧ a ≠ d ∧ h.get? a = some o := by
  unfold ledger
  rw [List.mem_filterMap]
  constructor
  · rintro ⟨b, _, e⟩
    split at e
    · cases e
    · rename_i hb
      obtain ⟨o', ho, e'⟩ := Option.map_eq_some_iff.mp e
      cases e'
      exact ⟨fun q => hb (.inl q), fun q => hb (.inr q), ho⟩
  · rintro ⟨n1, n2, ho⟩
    refine ⟨a, List.mem_range.mpr (Heap.lt_size ho), ?_⟩
    rw [if_neg (show ¬ (a = L ∨ a = d) from fun q => q.elim n1 n2), ho] <;> rfl
theorem news_ledger {h : Heap} {L d : Addr} {od : Obj} (hne : d ≠ L) (ho : h.get? d = some od) : News (noObjs h) L h ([] ++ (d, od) :: ledger h L d) := by
  rintro ⟨a, o⟩ hp
  rcases List.mem_cons.mp hp with e | hp
  · cases e
    exact ⟨ho, hne, noObjs_get _ _⟩
  · obtain ⟨n1, n2, e⟩ := mem_ledger.mp hp
    exact ⟨e, n1, noObjs_get _ _⟩
theorem fr_all {h : Heap} {L : Addr} {m : Str → Option Value} (n : h.Ns L m) : Fr (noObjs h) L h m :=
  ⟨n, fun b o e => (by rw [noObjs_get] at e; cases e), Nat.zero_le _⟩
/-- Upd of the head entry (for append_K, setItem_K ..) -/
theorem upd_ledger {h : Heap} {L d : Addr} {o o' : Obj} : Upd d o o' ((d, o) :: ledger h L d) ((d, o') :: ledger h L d) :=
  .head fun ⟨_, _⟩ hp => (mem_ledger.mp hp).2.1

/-- x.name = v over any heap: L is any namespace of the heap (the frame's, say): its map stays, its object is not told; all else but the dict stays -/
theorem set_field {x C dx L : Addr} {ox : Obj} {m : Str → Option Value} {es es' : List DictEntry} {n n' : Nat} {name : Str} {v : Value} {Q : Unit → Shared → Prop}
    (X : K.In s.heap) (I : PySem.W.InstAt s.heap x ox C (some (dictOf es n))) (hd : ox.dict = some dx) (hL : s.heap.Ns L m) (hne : dx ≠ L)
    (hs : findIn K (.ref C) "__setattr__" = some (some (.builtin "object.__setattr__"))) (hp : plainOver K C = true) (ht : takerIn K C name = some none) (hh : hasDictIn K C = true) (hl : (getL name es).isSome = true)
    (e : (putL name (PyData.keyHash w.params name) (.str name (s.toks + 1)) v es, putN name es n) = (es', n')) (hz : es'.length ≤ 1000)
    (h : ∀ h' : Heap, h'.Ns L m → h'.get? dx = some (dictOf es' n') → (∀ b o, b ≠ dx → b ≠ L → s.heap.get? b = some o → h'.get? b = some o) → Q () { s with heap := h', toks := s.toks + 2 }) :
    wpAny (model prog w) A (setAttr (.ref x) name v) Q E s := by
  obtain ⟨e1, e2⟩ := Prod.mk.inj e
  have hdx : s.heap.get? dx = some (dictOf es n) := by
    have := I.dict
    rw [hd] at this
    exact this
  refine set_plain X I hs (osa_dict (s := { s with toks := s.toks + 1 }) (h₀ := noObjs s.heap) (L := L) (m := m) (od := dictOf es n) (od' := dictOf es' n') (es := es') (n := n') (pre := []) (post := ledger s.heap L dx)
    (fr_all hL) (news_ledger hne hdx) X I hd hp ht hh hl (fun _ q => nomatch q) (fun ⟨_, _⟩ q => (mem_ledger.mp q).2.1) (by rw [putName_dict, e1, e2]) rfl hz fun h' F' N' => ?_)
  exact h h' F'.ns (N'.get (List.Mem.head _)) fun b o n1 n2 ho => N'.get (List.Mem.tail _ (mem_ledger.mpr ⟨n2, n1, ho⟩))
end
end Att

namespace L2
open PySem PySem.Spec PyProof.Rows

theorem vals_ints : ∀ {vs : List Value} {ns : List Int}, IntsAre vs ns → Vals (ns.map V.int) vs
  | _, _, .nil => .nil
  | _, _, .cons n t h => .cons ⟨t, rfl⟩ (vals_ints h)

/-- nothing is tracked but the script, known to the object (or it is an object of the module) -/
def Only (H : Hp) : Prop := ∀ b, H b = none ∨ ∃ o xs, H b = some (.frz o (.lst xs))

/-- THE HEAD: the law's promise, at the heap behind the top. F, the promise of the law's def, may use that base is part of the heap (so K.In base, base.Ns mainGlobals mg stand in Mod) -/
theorem law_call {P : Program} {w : World} {K : PySem.W.Frag} {mg mb : Str → Option Value} {CX : CXT} {k : Nat} {fa a : Addr} {fd : FuncData} {x : Str} {sp : Sp} {s₁ : Shared} {vs : List Value} {ns : List Int}
    (KX : K.In s₁.heap) (hns : s₁.heap.Ns mainGlobals mg) (hb : s₁.heap.Ns builtinsNs mb) (hbb : ∀ x : Str, x ≠ "__name__" → mb x = bootBuiltins x) (hlim : s₁.heap.NoLimit) (hg : s₁.gens = #[])
    (ha : s₁.heap.get? a = some { cls := .type "list", data := .seq vs.toArray }) (hi : IntsAre vs ns) (hl : ns.length ≤ sizeLine) (hr : Room k callerA)
    (F : ∀ base : Heap, K.In base → base.Ns mainGlobals mg → FnOk P w K mg base CX k fa fd [x] sp) (hbind : ∀ (s : Shared) (u : Value), BindsTo s fd ⟨[u], []⟩ [(x, u)])
    (hsp : ∀ H : Hp, Only H → SqL K H a (ns.map V.int) → sp [.ref a] H (fun v _ => v = .bl true) fun _ _ _ => False)
    (hCX : ∀ H e s', CX [] H s₁ (fun _ _ _ => False) e s' → False) :
    codeAny (model P w) callerA (.call (.ref fa) ⟨[.ref a], []⟩) (fun r s' => r = .ok (.ret (.bool true)) ∧ OldK s₁.heap s'.heap ∧ s'.os = s₁.os ∧ AllBare s'.gens) s₁ := by
  have rv := vals_ints hi
  have lenV := hi.length
  -- from an abstract heap in which nothing but the script may be tracked
  have core : ∀ H : Hp, Only H → SqL K H a (ns.map V.int) → HOk P w H s₁.heap → (∀ b, H b ≠ none → b = a) → (H a ≠ none → K.lookup a = none) →
      codeAny (model P w) callerA (.call (.ref fa) ⟨[.ref a], []⟩) (fun r s' => r = .ok (.ret (.bool true)) ∧ OldK s₁.heap s'.heap ∧ s'.os = s₁.os ∧ AllBare s'.gens) s₁ := by
    intro H hO hS hok hA hK
    have base_of : ∀ {b : Addr} {o : Obj}, s₁.heap.get? b = some o → H b = none → (hidT s₁.heap H).get? b = some o := fun e n => hidT_get e n
    have noA : ∀ {b : Addr} {o : Obj} {es : Array DictEntry} {ep : Nat}, s₁.heap.get? b = some o → o.data = .dict es ep → H b = none := fun {b o es ep} e d => by
      cases q : H b with
      | none => rfl
      | some u =>
        have e' : b = a := hA b (by rw [q]; simp)
        subst e'
        rw [ha] at e; cases e
        have d' : Data.seq vs.toArray _ = Data.dict es ep := d
        cases d'
    have nsK : ∀ {b : Addr} {m : Str → Option Value}, s₁.heap.Ns b m → (hidT s₁.heap H).Ns b m := fun {b m} ⟨o, es, ep, e, d, r⟩ => ⟨o, es, ep, base_of e (noA e d), d, r⟩
    have hKb : K.In (hidT s₁.heap H) := fun b o e => base_of (KX b o e) (by
      cases q : H b with
      | none => rfl
      | some u =>
        have e' : b = a := hA b (by rw [q]; simp)
        subst e'
        rw [hK (by rw [q]; simp)] at e; cases e)
    have hM : Mod K mg (hidT s₁.heap H) := ⟨hKb, nsK hns, ⟨mb, nsK hb, hbb⟩, let ⟨mc, h1, h2⟩ := hlim; ⟨mc, nsK h1, h2⟩⟩
    have e0 : Env0 P w K mg (hidT s₁.heap H) callerA [] s₁ H := ⟨rfl, hM, fun b o e => of_hidT e, Nat.le_of_eq (hidT_size _ _), trivial, fun b hb => absurd (show b ∈ ([] : List Addr) from hb) (by simp), hok, .of_eq hg⟩
    refine codeAny_mono ((F _ hKb (nsK hns)).run callerA [] s₁ H ⟨[.ref a], []⟩ [.ref a] [.ref a] _ _ hr e0 (hbind s₁ (.ref a)) (.cons rfl .nil) (hsp H hO hS)) fun r s' h => ?_
    cases r with
    | error e => exact (hCX H e s' h).elim
    | ok fl =>
      cases fl with
      | next => exact False.elim h
      | brk => exact False.elim h
      | cont => exact False.elim h
      | ret u =>
        obtain ⟨v, H', os, bare, un, hok', r', q⟩ := h
        have q' : v = .bl true := q
        subst q'
        obtain rfl : u = Value.bool true := r'
        refine ⟨rfl, OldK.of_keep fun b o e => ?_, os, bare⟩
        cases q : H b with
        | none => exact un.keep b o e q (by intro z; exact absurd (show b ∈ ([] : List Addr) from z) (by simp)) (by simp)
        | some u =>
          rcases hO b with z | ⟨ob, xs, z⟩
          · rw [q] at z; cases z
          · have z2 := un.frzs b ob _ z
            obtain ⟨e1, _⟩ := hok b _ z
            obtain ⟨e2, _⟩ := hok' b _ z2
            rw [e] at e1; cases e1
            exact e2
  cases hk : K.lookup a with
  | some o =>
    -- the script is one of the module's own objects
    have e := KX a o hk
    rw [ha] at e
    cases e
    refine core (fun _ => none) (fun _ => .inl rfl) (.inr ⟨_, vs.toArray, _, hk, rfl, rfl, rfl, by rw [List.size_toArray, lenV]; exact hl, by simpa using rv⟩) (fun b u z => by have z' : (none : Option HO) = some u := z; cases z') (fun b z => absurd rfl z) fun z => absurd rfl z
  | none =>
    refine core (fun b => if b = a then some (.frz { cls := .type "list", data := .seq vs.toArray } (.lst (ns.map V.int))) else none) (fun b => ?_) (.inl (.inr ⟨{ cls := .type "list", data := .seq vs.toArray }, if_pos rfl⟩)) (fun b u z => ?_) (fun b z => ?_) fun _ => hk
    · by_cases hb : b = a
      · exact .inr ⟨_, _, if_pos hb⟩
      · exact .inl (if_neg hb)
    · by_cases hb : b = a
      · have z' := (if_pos hb).symm.trans z
        cases z'
        subst hb
        exact ⟨ha, by rw [List.length_map]; exact hl, vs, _, rv, ha⟩
      · have z' := (if_neg hb).symm.trans z
        cases z'
    · by_cases hb : b = a
      · exact hb
      · exact absurd (if_neg hb) z
end L2

namespace L2
open PySem PySem.Spec PyProof.Rows

abbrev KOf {K : PySem.W.Frag} {h : Heap} (_ : K.In h) : PySem.W.Frag := K

/-- the goal that k_head leaves (case hc), from the law's promise. F gives the function object fd (K's own) once, then the promise over every base -/
theorem walk_of {l : PySem.W.OpenLaw} {n k : Nat} {q : Program} {loose : List Str} {XP : (Str → Option Value) → Heap → Prop} {YP : World → Heap → Prop} {d : DefRec} {K : Params → PySem.W.Frag} {CX : World → CXT} {sp : World → Sp} {x : Str}
    (hn : l.most = some n) (hn2 : n ≤ sizeLine) (hdf : d.params.defaults = []) (hr : Room k callerA)
    (hY : ∀ (w : World) (h : Heap), YP w h → (K w.params).In h)
    (F : ∀ (w : World) (mg : Str → Option Value) (fa : Addr) (h : Heap), (K w.params).In h → h.Ns mainGlobals mg → mg d.name = some (.ref fa) →
      ∃ fd : FuncData, (∀ (s : Shared) (u : Value), BindsTo s fd ⟨[u], []⟩ [(x, u)]) ∧
        ∀ base : Heap, (K w.params).In base → base.Ns mainGlobals mg → FnOk l.prog w (K w.params) mg base (CX w) k fa fd [x] (sp w))
    (hsp : ∀ (w : World) (H : Hp) (a : Addr) (ns : List Int), ns.length ≤ n → Only H → SqL (K w.params) H a (ns.map V.int) → sp w [.ref a] H (fun v _ => v = .bl true) fun _ _ _ => False)
    (hCX : ∀ (w : World) (H : Hp) (s : Shared) (e : Value) (s' : Shared), CX w [] H s (fun _ _ _ => False) e s' → False) :
    PySem.W.WalkO q loose XP YP l.row.toRowW d [] (fun f vs => PySem.call f vs) := by
  refine Att.attach_call hn hdf fun w s₀ s₁ mg mb fa o pm cd doc a vs ns G Y ho hd hcd hmg hobj hints hlen hg => ?_
  have KX := hY w _ Y
  obtain ⟨fd, hb, hF⟩ := F w mg fa _ KX G.T.g hmg
  exact law_call KX G.T.g G.T.b G.T.builtins G.T.nolimit hg hobj hints (Nat.le_trans hlen hn2) hr hF hb (fun H hO hS => hsp w H a ns hlen hO hS) fun H e s' => hCX w H s₁ e s'
/-- the same where the promise hangs on the written part alone: (sp := My.sp_law), no hole under a binder -/
theorem walk_ofK {l : PySem.W.OpenLaw} {n k : Nat} {q : Program} {loose : List Str} {XP : (Str → Option Value) → Heap → Prop} {YP : World → Heap → Prop} {d : DefRec} {K : Params → PySem.W.Frag} {CX : CXT} {sp : PySem.W.Frag → Sp} {x : Str}
    (hn : l.most = some n) (hn2 : n ≤ sizeLine) (hdf : d.params.defaults = []) (hr : Room k callerA)
    (hY : ∀ (w : World) (h : Heap), YP w h → (K w.params).In h)
    (F : ∀ (w : World) (mg : Str → Option Value) (fa : Addr) (h : Heap), (K w.params).In h → h.Ns mainGlobals mg → mg d.name = some (.ref fa) →
      ∃ fd : FuncData, (∀ (s : Shared) (u : Value), BindsTo s fd ⟨[u], []⟩ [(x, u)]) ∧
        ∀ base : Heap, (K w.params).In base → base.Ns mainGlobals mg → FnOk l.prog w (K w.params) mg base CX k fa fd [x] (sp (K w.params)))
    (hsp : ∀ (K : PySem.W.Frag) (H : Hp) (a : Addr) (ns : List Int), ns.length ≤ n → Only H → SqL K H a (ns.map V.int) → sp K [.ref a] H (fun v _ => v = .bl true) fun _ _ _ => False)
    (hCX : ∀ (H : Hp) (s : Shared) (e : Value) (s' : Shared), CX [] H s (fun _ _ _ => False) e s' → False) :
    PySem.W.WalkO q loose XP YP l.row.toRowW d [] (fun f vs => PySem.call f vs) :=
  walk_of (K := K) (CX := fun _ => CX) (sp := fun w => sp (K w.params)) hn hn2 hdf hr hY F (fun w H a ns h1 h2 h3 => hsp (K w.params) H a ns h1 h2 h3) fun _ H s e s' => hCX H s e s'
end L2

/- THE LAST THEOREM (shape; LID, My.* are yours):
   My.Adr: a structure of the addresses that your layer names (classes, functions); My.Txt K t: a structure (Prop) of the equations over K;
   My.txt_mk : {K} {implicit addresses ..} (e1 : nsIn K mainGlobals "law" = some (some (.ref f))) (e2 : K.lookup f = some ⟨oc, od, .func (fnOf "law" "law" params body scope dV kV doc pm an cdv ct), sl⟩) (e3 : codeIn K cdv "law" = true) .. : ∃ t, My.Txt K t

set_option maxRecDepth 100000 in
set_option maxHeartbeats 0 in
theorem PySem.Challenge.cw_LID_holds : PySem.Challenge.rw_LID.Holds := by
  w_on; o_law; k_head; (case hw => w_witness2)
  k_fill
  refine L2.walk_of (l := PySem.Challenge.rw_LID) (n := 63) (k := 40) (x := "script") (CX := fun w => ..) (sp := fun _ => My.sp_law) rfl (by decide) rfl ⟨rfl, by decide, by decide⟩ (fun w h Y => PySem.W.kIn_of Y) ?F ?S ?C
  case F =>
    intro w mg fa h KX G hmg
    have T : ∃ t, My.Txt (L2.KOf KX) t := by
      dsimp only [L2.KOf]                          -- K must stand as «<heap const> w.params» for k_is
      refine' My.txt_mk ?e1 ?e2 ?e3 ..
      (case e1 => PySem.W.k_is)                    -- in the order: a name -> its address -> its object -> its parts
      (case e2 => PySem.W.k_is)
      ..
    obtain ⟨t, T⟩ := T
    have e0 := hmg.symm.trans (PySem.W.mg_of KX G T.law)
    cases e0                                       -- fa is the law's own address
    exact ⟨_, fun s u => .of_eq rfl, fun base kb nb => My.law_fn T kb nb⟩     -- if «.of_eq rfl» comes too early: refine' ⟨_, ?b, fun base kb nb => My.law_fn T kb nb⟩; exact fun s u => .of_eq rfl
  case S => exact fun w H a ns hl hO hS => ..
  case C => exact ..
(the tactic k_is has no namespace: write k_is) -/

/-! SHORT WORDS over the layer: a def of the text, its body, what a loop and a test want. -/
namespace L2
open PySem PySem.Spec PyProof.Rows

/-! ### the text by places -/
/-- the j-th statement of a class's body -/
def inClass (s : Stmt) (j : Nat) : Stmt := match s with
  | .ClassDef _ _ _ body _ _ _ _ _ _ _ => body.getD j (.Pass ⟨0, 0, 0, 0⟩)
  | _ => .Pass ⟨0, 0, 0, 0⟩
def defArgs (s : Stmt) : Arguments := match s with
  | .FunctionDef _ a _ _ _ _ _ _ _ _ => a
  | _ => { posonlyargs := [], args := [], vararg := none, kwonlyargs := [], kw_defaults := [], kwarg := none, defaults := [] }
def defBody (s : Stmt) : List Stmt := match s with
  | .FunctionDef _ _ b _ _ _ _ _ _ _ => b
  | _ => []
def defScope (s : Stmt) : Scope := match s with
  | .FunctionDef _ _ _ _ _ _ sc _ _ _ => sc
  | _ => { kind := .function, names := [], isGenerator := false, isCoroutine := false }

/-! ### no exception leaves a def -/
abbrev CX0 : CXT := fun _ _ _ _ _ _ => False
abbrev E0 : XK := fun _ _ _ => False
theorem pass0 {X : Cx} : Passes CX0 X E0 := fun _ _ _ _ _ _ _ h => h.elim

/-! ### a def (or method) of the text as it stands behind the top -/
structure Fun (K : PySem.W.Frag) (x qual : Str) (st : Stmt) (f : Addr) (fd : FuncData) : Prop where
  ex : ∃ (oc : Value) (od : Option Addr) (kV doc pm : Value) (an : Option Addr) (cdv ct : Value) (osl : Array (Option Value)),
    fd = PySem.W.fnOf x qual (defArgs st) (defBody st) (defScope st) .none kV doc pm an cdv ct ∧ K.lookup f = some ⟨oc, od, .func fd, osl⟩ ∧ PySem.W.codeIn K cdv qual = true
  kp : PySem.W.keepIn K (.ref f) = true
section
variable {P : Program} {w : World} {K : PySem.W.Frag} {mg : Str → Option Value} {base : Heap}
/-- THE RULE for a def: its body as a term of rules, and the reading of that term -/
theorem Fun.ok {x qual : Str} {st : Stmt} {f : Addr} {fd : FuncData} {N ps : List Str} {k : Nat} {sp : Sp} (F : Fun K x qual st f fd) (S : FnScope N ps (defScope st)) (len : ∀ vs H Q E, sp vs H Q E → vs.length = ps.length)
    (hbody : ∀ (cdv : Value) (A : Around) (outer : List Env) (s : Shared) (H : Hp) (vs : List V) (Q : VK) (E : XK), Room k (A.deeper (envOfC qual (defScope st) s.heap.objs.size f cdv)) → sp vs H Q E →
      ∃ t, PSs (cxOf CX0 P w K mg base N qual (defScope st) f cdv A outer s H E).nox (defBody st) t ∧ t { nx := fun _ H' => Q .non H', rt := Q } (start N vs) H) : FnOk P w K mg base CX0 (k + 1) f fd ps sp := by
  obtain ⟨oc, od, kV, doc, pm, an, cdv, ct, osl, rfl, lk, hcd⟩ := F.ex
  refine fn_of lk hcd S len fun A outer s H vs Q E hr hsp => ?_
  obtain ⟨t, h, q⟩ := hbody cdv A outer s H vs Q E hr hsp
  exact ⟨t, h.nox, q⟩
/-- how its arguments bind (no defaults): h is «fun _ _ _ _ _ _ us hl => match us, hl with | [_, _], _ => rfl», one _ a parameter -/
theorem Fun.binds {x qual : Str} {st : Stmt} {f : Addr} {fd : FuncData} {ps : List Str} (F : Fun K x qual st f fd)
    (h : ∀ (kV doc pm : Value) (an : Option Addr) (cdv ct : Value) (us : List Value), us.length = ps.length → bindArgs (PySem.W.fnOf x qual (defArgs st) (defBody st) (defScope st) .none kV doc pm an cdv ct) ⟨us, []⟩ = pure (ps.zip us)) : Binds K fd ps [] := by
  obtain ⟨oc, od, kV, doc, pm, an, cdv, ct, osl, rfl, lk, hcd⟩ := F.ex
  exact .all (h kV doc pm an cdv ct)
theorem fun_mk {x qual : Str} {st : Stmt} {f : Addr} {oc : Value} {od an : Option Addr} {osl : Array (Option Value)} {kV doc pm cdv ct : Value} (l : K.lookup f = some ⟨oc, od, .func (PySem.W.fnOf x qual (defArgs st) (defBody st) (defScope st) .none kV doc pm an cdv ct), osl⟩)
    (c : PySem.W.codeIn K cdv qual = true) (k : PySem.W.keepIn K (.ref f) = true) : Fun K x qual st f (PySem.W.fnOf x qual (defArgs st) (defBody st) (defScope st) .none kV doc pm an cdv ct) := ⟨⟨oc, od, kV, doc, pm, an, cdv, ct, osl, rfl, l, c⟩, k⟩
end
theorem hu_of {A : Around} {k : Nat} (hr : Room k A) : A.units + 1 < cLine := Nat.lt_of_le_of_lt (Nat.add_le_add_left (by decide : 1 ≤ 64) _) hr.units
theorem small1000 {n : Nat} (h : n ≤ 1000) : n < sizeLine := Nat.lt_of_le_of_lt h (by decide)

/-! ### expressions in short: the name that stands in the i-th slot -/
section
variable {X : Cx}
theorem pv (i : Nat) {x : Str} {pos : Pos} (hN : X.N[i]? = some x := by rfl) (hv : Vis X.env.scope x := by first | exact Or.inl rfl | exact Or.inr (Or.inl rfl) | exact Or.inr (Or.inr rfl)) (hd : (x == ("__debug__" : Str)) = false := by decide)
    (hcd : (x == ("__classdict__" : Str)) = false := by decide) : PE X (.Name x pos) (tVar i) := pe_var hN hv hd hcd
end

/-! ### tests -/
theorem iteF {A B : Prop} (h : B) : if false = true then A else B := by
  rw [if_neg Bool.false_ne_true]
  exact h
theorem iteT {A B : Prop} (h : A) : if true = true then A else B := by
  rw [if_pos rfl]
  exact h
theorem ite2 {c A B : Prop} [Decidable c] (h1 : c → A) (h2 : ¬ c → B) : if c then A else B := by
  by_cases h : c
  · rw [if_pos h]
    exact h1 h
  · rw [if_neg h]
    exact h2 h
theorem iteNS {c A B : Prop} [Decidable c] (hc : c) (h : B) : if (!decide c) = true then A else B := by
  rw [decide_eq_true hc]
  exact iteF h

/-! ### heaps -/
/-- all that was tracked is as it was -/
def Same (H H' : Hp) : Prop := ∀ b o, H b = some o → H' b = some o
theorem Same.refl (H : Hp) : Same H H := fun _ _ h => h
theorem Same.trans {H H1 H2 : Hp} (a : Same H H1) (b : Same H1 H2) : Same H H2 := fun c o h => b c o (a c o h)
theorem Same.free {H H' : Hp} (e : Same H H') {l : Addr} (h : H' l = Option.none) : H l = Option.none := by
  cases q : H l with
  | none => rfl
  | some o =>
    rw [e l o q] at h
    cases h
theorem Same.seq {K : PySem.W.Frag} {H H' : Hp} {a : Addr} {xs : List V} (e : Same H H') (h : SqL K H a xs) : SqL K H' a xs := by
  rcases h with (h | ⟨o, h⟩) | h
  · exact .inl (.inl (e _ _ h))
  · exact .inl (.inr ⟨o, e _ _ h⟩)
  · exact .inr h

end L2

set_option Elab.async false
set_option linter.all false
set_option maxRecDepth 100000
namespace L2
open PySem PySem.Spec PyProof.Rows

/-! ### comprehensions -/
section
variable {P : Program} {w : World} {A : Around} {R : Result → Shared → Prop} {s : Shared}
/-- the loop of a comprehension, the step ahead of the store with it -/
theorem comp_loop {elt tgt iter : Expr} {ifs : List Expr} {scope : Scope} {pos : Pos} {it acc : Value} {env : Env} (J : Nat → Shared → Prop)
    (turn : ∀ n s, J n s → wpAny (model P w) A (pyNext it) (fun r c₁ => match r with
      | none => R (.ok .next) c₁
      | some v => wpAny (model P w) A (letOwnedTupleGo tgt it v) (fun _ d₁ => wpAny (model P w) A (assign tgt env v) (fun _ c₂ =>
          wpAny (model P w) A (forIn ifs true fun c r => if r = true then do let ok ← isTrue c env (eval c env); pure (ForInStep.yield ok) else pure (ForInStep.yield r)) (fun ok c₃ =>
            if ok = true then wpAny (model P w) A (eval elt env) (fun x c₄ =>
              wpAny (model P w) A (call (.builtin "list.append") [acc, x]) (fun _ c₅ => ∃ m, m < n ∧ J m c₅) (notedBy (model P w) A env fun e s' => R (.error e) s') c₄) (notedBy (model P w) A env fun e s' => R (.error e) s') c₃
            else ∃ m, m < n ∧ J m c₃) (notedBy (model P w) A env fun e s' => R (.error e) s') c₂) (notedBy (model P w) A env fun e s' => R (.error e) s') d₁) (notedBy (model P w) A env fun e s' => R (.error e) s') c₁) (notedBy (model P w) A env fun e s' => R (.error e) s') s)
    (n : Nat) (hn : J n s) :
    codeAny (model P w) A (.compLoop (.ListComp elt [⟨tgt, iter, ifs, 0⟩] scope pos) 0 it acc env) R s := by
  refine codeAny_loop rfl J (fun n s hJ => ?_) n hn
  show wpAny _ A ((compTurn (.ListComp elt [⟨tgt, iter, ifs, 0⟩] scope pos) 0 it acc env).onRaise (fun x => do noteFrame x env; theTreesLotGoes x)) _ _ s
  refine wpAny_noted ?_
  rw [compTurn_list]
  refine wpAny_bind (wpAny_standAt (wpAny_bind (wpAny_mono (turn n s hJ) (fun r c₁ e₁ => ?_) fun _ _ z => z)))
  cases r with
  | none => exact wpAny_pure e₁
  | some v =>
    refine wpAny_bind (wpAny_mono e₁ (fun _ d₁ f₁ => ?_) fun _ _ z => z)
    refine wpAny_bind (wpAny_mono f₁ (fun _ c₂ e₂ => wpAny_bind (wpAny_mono e₂ (fun ok c₃ e₃ => ?_) fun _ _ z => z)) fun _ _ z => z)
    cases ok with
    | false => exact wpAny_pure ⟨rfl, e₃⟩
    | true =>
      exact wpAny_bind (wpAny_bind (wpAny_mono e₃ (fun x c₄ e₄ => wpAny_bind (wpAny_mono e₄ (fun _ c₅ e₅ => wpAny_pure (wpAny_pure ⟨rfl, e₅⟩)) fun _ _ z => z)) fun _ _ z => z))
end

/-- the cells that a block is given -/
def cloF (env : Env) : List (Str × NameKind) → List (Str × Addr) → List (Str × Addr)
  | [], acc => acc
  | (n, k) :: r, acc => if k = .free then cloF env r ((n, (env.cells.lookup n).getD 0) :: acc) else cloF env r acc
theorem closure_go {env : Env} : ∀ (names : List (Str × NameKind)) (acc : List (Str × Addr)), (∀ x ∈ names, x.2 = .free → ∃ c, env.cells.lookup x.1 = some c) →
    (forIn names acc (fun (x : Str × NameKind) (cs : List (Str × Addr)) => (if (x.2 == NameKind.free) = true then do let a ← cellOf env x.1; pure (ForInStep.yield ((x.1, a) :: cs)) else pure (ForInStep.yield cs) : Sem (ForInStep (List (Str × Addr))))) : Sem (List (Str × Addr))) = pure (cloF env names acc)
  | [], acc, _ => by simp [cloF]
  | (n, k) :: r, acc, h => by
    have ih := fun acc => closure_go (env := env) r acc fun x hx => h x (List.mem_cons_of_mem _ hx)
    rw [List.forIn_cons]
    by_cases hk : k = .free
    · subst hk
      obtain ⟨c, hc⟩ := h (n, .free) List.mem_cons_self rfl
      have hc' : env.cells.lookup n = some c := hc
      have e : cellOf env n = pure c := by unfold cellOf; rw [hc']
      simp only [cloF, if_true, hc', Option.getD_some, beq_self_eq_true, e, pure_bind]
      exact ih _
    · have hb : (k == NameKind.free) = false := by simpa using hk
      simp only [cloF, hk, if_false, hb, Bool.false_eq_true, pure_bind]
      exact ih _
theorem closure_eq {env : Env} {scope : Scope} (h : ∀ x ∈ scope.names, x.2 = .free → ∃ c, env.cells.lookup x.1 = some c) : closureFor scope env = pure (cloF env scope.names []) := by
  rw [← closure_go scope.names [] h]
  unfold closureFor
  simp only [bind_pure]
theorem cloF_lookup {env : Env} {y : Str} : ∀ (names : List (Str × NameKind)) (acc : List (Str × Addr)), (cloF env names acc).lookup y = if (y, NameKind.free) ∈ names then some ((env.cells.lookup y).getD 0) else acc.lookup y
  | [], acc => by simp [cloF]
  | (n, k) :: r, acc => by
    unfold cloF
    by_cases hk : k = .free
    · subst hk
      rw [if_pos rfl, cloF_lookup r]
      by_cases hy : y = n
      · subst hy
        simp [List.lookup_cons]
      · have hb : (y == n) = false := by simpa using hy
        simp [List.lookup_cons, hb, hy]
    · rw [if_neg hk, cloF_lookup r]
      have : ¬ ((y, NameKind.free) = (n, k)) := by
        intro e
        exact hk (Prod.mk.inj e).2.symm
      simp [this]

/-- what a block's scope is like: o the def's own scope, TN the targets' names, F the def's names that the block reads -/
structure CScope (o sc : Scope) (TN F : List Str) : Prop where
  okind : o.kind = .function
  kind : sc.kind = .function
  nocell : ∀ y ∈ sc.names, y.2 ≠ .cell
  names : ∀ y ∈ sc.names, y.2 = .local → sc.names.lookup y.1 = some .local
  fr : ∀ y ∈ sc.names, y.2 = .free → o.names.lookup y.1 = some .cell ∧ sc.names.lookup y.1 = some .free
  ff : ∀ y ∈ F, (y, NameKind.free) ∈ sc.names

theorem relabel_free {env : Env} {y : Str} (hk : env.scope.kind = .function) (hc : env.kindOf y = some .cell) : ∀ {names : List (Str × NameKind)}, names.lookup y = some .free →
    (names.map fun (n, k) => if (k == NameKind.free && env.scope.kind == .function && env.kindOf n == some .cell) then (n, NameKind.cell) else (n, k)).lookup y = some .cell
  | [], h => by simp at h
  | (n, k) :: r, h => by
    have ih := @relabel_free env y hk hc r
    show List.lookup y ((if (k == NameKind.free && env.scope.kind == .function && env.kindOf n == some .cell) = true then (n, NameKind.cell) else (n, k)) :: _) = _
    cases hx : y == n with
    | true =>
      rw [List.lookup_cons, hx] at h
      cases h
      have e : y = n := by simpa using hx
      subst e
      rw [if_pos (by simp [hk, hc])]
      simp [List.lookup_cons]
    | false =>
      rw [List.lookup_cons, hx] at h
      by_cases hc' : (k == NameKind.free && env.scope.kind == .function && env.kindOf n == some .cell) = true
      · rw [if_pos hc']; simp only [List.lookup_cons, hx]; exact ih h
      · rw [if_neg hc']; simp only [List.lookup_cons, hx]; exact ih h
theorem relabel_from {env : Env} {y : Str} : ∀ {names : List (Str × NameKind)}, (∀ z ∈ names, z.2 ≠ .cell) →
    ((names.map fun (n, k) => if (k == NameKind.free && env.scope.kind == .function && env.kindOf n == some .cell) then (n, NameKind.cell) else (n, k)).lookup y = some .cell ∨
     (names.map fun (n, k) => if (k == NameKind.free && env.scope.kind == .function && env.kindOf n == some .cell) then (n, NameKind.cell) else (n, k)).lookup y = some .free) → (y, NameKind.free) ∈ names
  | [], _, h => by simp at h
  | (n, k) :: r, hn, h => by
    have ih := @relabel_from env y r fun z hz => hn z (List.mem_cons_of_mem _ hz)
    have h' : List.lookup y ((if (k == NameKind.free && env.scope.kind == .function && env.kindOf n == some .cell) = true then (n, NameKind.cell) else (n, k)) :: (r.map fun (n, k) => if (k == NameKind.free && env.scope.kind == .function && env.kindOf n == some .cell) then (n, NameKind.cell) else (n, k))) = some .cell ∨
      List.lookup y ((if (k == NameKind.free && env.scope.kind == .function && env.kindOf n == some .cell) = true then (n, NameKind.cell) else (n, k)) :: (r.map fun (n, k) => if (k == NameKind.free && env.scope.kind == .function && env.kindOf n == some .cell) then (n, NameKind.cell) else (n, k))) = some .free := h
    clear h
    cases hx : y == n with
    | true =>
      have e : y = n := by simpa using hx
      subst e
      by_cases hc' : (k == NameKind.free && env.scope.kind == .function && env.kindOf y == some .cell) = true
      · have hk : k = .free := by
          have := (Bool.and_eq_true _ _ ▸ (Bool.and_eq_true _ _ ▸ hc').1).1
          simpa using this
        subst hk
        exact List.mem_cons_self
      · rw [if_neg hc'] at h'
        simp only [List.lookup_cons, beq_self_eq_true] at h'
        rcases h' with h' | h'
        · cases h'
          exact absurd rfl (hn _ List.mem_cons_self)
        · cases h'
          exact List.mem_cons_self
    | false =>
      by_cases hc' : (k == NameKind.free && env.scope.kind == .function && env.kindOf n == some .cell) = true
      · rw [if_pos hc'] at h'; simp only [List.lookup_cons, hx] at h'; exact List.mem_cons_of_mem _ (ih h')
      · rw [if_neg hc'] at h'; simp only [List.lookup_cons, hx] at h'; exact List.mem_cons_of_mem _ (ih h')

/-- the context of a comprehension's block -/
def cxC (X : Cx) (N : List Str) (sc : Scope) (cl : List (Str × Addr)) (C : Addr) (fp : List Addr) (s₃ : Shared) (H₃ : Hp) (xe : Value → Shared → Prop) : Cx :=
  { X with N := N, s₀ := s₃, H₀ := H₃, env := compEnvC sc cl C X.env, outer := X.stack, ex := fp, fn := fun _ => false, pn := [], xe := xe }
/-- the def's names that a block reads -/
def sub (ix : List Nat) (σ : St) : St := ix.map fun i => (σ[i]?).join

theorem inv_comp {X : Cx} {pins : List (Addr × Obj)} {σ : St} {H : Hp} {s : Shared} {sc : Scope} {TN F : List Str} {ix : List Nat} {fp : List Addr} {h4 : Heap} {tk : Nat} {m : Str → Option Value} {xe : Value → Shared → Prop}
    (S : CScope X.env.scope sc TN F) (hix : ix.map (fun i => X.N[i]?) = F.map some) (I : Inv X pins σ H s) (hf : ∀ b ∈ fp, FpOk X pins H b) (ho : ∀ b ∈ fp, ∃ o, s.heap.get? b = some o)
    (hk : ∀ b o, s.heap.get? b = some o → h4.get? b = some o) (hn : h4.Ns s.heap.objs.size m) :
    Inv (cxC X (TN ++ F) sc (cloF X.env sc.names []) s.heap.objs.size fp s H xe) [] (List.replicate TN.length none ++ sub ix σ) H { s with heap := h4, toks := tk } := by
  have cl : ∀ x c, (cloF X.env sc.names []).lookup x = some c → X.env.cells.lookup x = some c := fun x c e => by
    rw [cloF_lookup] at e
    by_cases hx : (x, NameKind.free) ∈ sc.names
    · rw [if_pos hx] at e
      obtain ⟨c', hc'⟩ := I.ok.has x (.inl (S.fr _ hx rfl).1)
      rw [hc'] at e ⊢
      exact e
    · rw [if_neg hx] at e
      cases e
  have cl' : ∀ x, (x, NameKind.free) ∈ sc.names → (cloF X.env sc.names []).lookup x = X.env.cells.lookup x := fun x hx => by
    rw [cloF_lookup, if_pos hx]
    obtain ⟨c', hc'⟩ := I.ok.has x (.inl (S.fr _ hx rfl).1)
    rw [hc']
    rfl
  have hlen : ix.length = F.length := by
    have := congrArg List.length hix
    simpa using this
  refine ⟨⟨I.ok.mod, S.kind, I.ok.glob, I.ok.blt, Nat.le_refl _, fun x y c h1 h2 => I.ok.inj x y c (cl x c h1) (cl y c h2), fun x hx => ?_, fun x c z => (nomatch z), I.ok.hd, I.ok.frames, .inl rfl, fun b hb => ⟨?_, fun x c e => (hf b hb).2.2.2.2.1 x c (cl x c e)⟩,
    I.bs, Nat.le_trans I.ok.bsz I.sz, fun b o e hb => ?_, fun b hb hfs => ?_, I.stack, I.stkFree⟩, rfl, I.bare, Un.kept hk, ⟨m, hn, fun i x v h1 h2 h3 => ?_⟩, fun x c e => ?_, I.hok.fresh (Nat.le_refl _), fun x c e => I.freeC x c (cl x c e), fun p hp => absurd (show p ∈ ([] : List (Addr × Obj)) from hp) (by simp), I.hok.kept hk, ?_⟩
  · have hx' : (x, NameKind.free) ∈ sc.names := relabel_from (env := X.env) S.nocell hx
    obtain ⟨c, hc⟩ := I.ok.has x (.inl (S.fr _ hx' rfl).1)
    exact ⟨c, (cl' x hx').trans hc⟩
  · obtain ⟨o, e⟩ := ho b hb
    exact Nat.ne_of_lt (Heap.lt_size e)
  · rcases (hf b hb).2.2.2.1 with z | z
    · exact I.ok.noex b o e z
    · exact absurd (Nat.lt_of_lt_of_le (Heap.lt_size e) (Nat.le_trans I.ok.bsz z)) (Nat.lt_irrefl _)
  · rcases List.mem_cons.mp (I.stkSub b hfs) with z | z
    · exact (hf b hb).2.1 z
    · exact (hf b hb).2.2.1 z
  · have hi : TN.length ≤ i := by
      apply Nat.le_of_not_lt
      intro hlt
      rw [List.getElem?_append_left (by simpa using hlt), List.getElem?_replicate] at h2
      split at h2 <;> cases h2
    rw [List.getElem?_append_right (by simpa using hi), List.length_replicate] at h2
    have h1' : F[i - TN.length]? = some x := by
      have : (TN ++ F)[i]? = some x := h1
      rw [List.getElem?_append_right hi] at this
      exact this
    have e3 := congrArg (fun l => l[i - TN.length]?) hix
    simp only [List.getElem?_map, h1', Option.map_some] at e3
    unfold sub at h2
    rw [List.getElem?_map] at h2
    cases ej : ix[i - TN.length]? with
    | none => rw [ej] at h2; cases h2
    | some k =>
      rw [ej] at h2 e3
      have h2' : (σ[k]?).join = some v := Option.some.inj h2
      have e3' : X.N[k]? = some x := Option.some.inj e3
      have hσ : σ[k]? = some (some v) := by
        cases e : σ[k]? with
        | none => rw [e] at h2'; cases h2'
        | some q =>
          rw [e] at h2'
          have : q = some v := h2'
          rw [this]
      have hfr := S.ff x (List.mem_of_getElem? h1')
      have hcell := (S.fr _ hfr rfl).1
      obtain ⟨m0, hn0, hl0⟩ := I.loc
      obtain ⟨u, r, l⟩ := hl0 k x v e3' hσ (.inr (.inl hcell))
      refine ⟨u, r, ?_⟩
      rcases l with ⟨l1, _⟩ | ⟨_, c, hc, o, ho', hd⟩
      · have l1' : X.env.scope.names.lookup x = some .local := l1
        rw [hcell] at l1'
        cases l1'
      · exact .inr ⟨.inl (relabel_free (env := X.env) S.okind hcell (S.fr _ hfr rfl).2), c, (cl' x hfr).trans hc, o, hk c o ho', hd⟩
  · obtain ⟨v, o, ho', hd⟩ := I.cell x c (cl x c e)
    exact ⟨v, o, hk c o ho', hd⟩
  · show _ = (TN ++ F).length
    rw [List.length_append, List.length_append, List.length_replicate]
    unfold sub
    rw [List.length_map, hlen]

/-- the tests of a comprehension -/
def PTs (X : Cx) (ifs : List Expr) (tc : TT) : Prop :=
  ∀ (pins : List (Addr × Obj)) (s : Shared) (σ : St) (H : Hp) (Q : Bool → Hp → Prop), Inv X pins σ H s → tc σ H Q →
    wpAny (model X.prog X.w) X.A (forIn ifs true fun c r => if r = true then do let ok ← isTrue c X.env (eval c X.env); pure (ForInStep.yield ok) else pure (ForInStep.yield r)) (TP X pins σ Q) X.xe s
def tAll : TT := fun _ H Q => Q true H
theorem pts_nil {X : Cx} : PTs X [] tAll := fun _ _ _ H _ I h => wpAny_tests_nil ⟨H, I, h⟩
theorem pts_one {X : Cx} {c : Expr} {tc : TT} (hc : PT X c tc) : PTs X [c] tc := fun pins s σ H Q I h => wpAny_tests_one (hc pins s σ H Q I h)

/-- how a block goes: W by the turn, a measure, the block's names, the items so far, the heap -/
def CGo (J : It) (D : Addr) (g : TG) (tc : TT) (te : TE) (Q : VK) (σ : St) (H : Hp) : Prop :=
  ∃ W : Nat → Nat → St → List V → Hp → Prop, (∃ m, W 0 m σ [] (upd H D (.lst []))) ∧ ∀ i m τ ys H, W i m τ ys H → H D = some (.lst ys) ∧
    ((J.stop i H ∧ Q (.ref D) H) ∨ (J.go i H ∧ ∀ v H', J.yld i H v H' → g v τ H' fun τ2 H2 => tc τ2 H2 fun b H3 =>
      if b = true then te τ2 H3 fun y H4 => H4 D = some (.lst ys) ∧ ys.length < sizeLine ∧ ∃ m', m' < m ∧ W (i + 1) m' τ2 (ys ++ [y]) (upd H4 D (.lst (ys ++ [y])))
      else ∃ m', m' < m ∧ W (i + 1) m' τ2 ys H3))
def tComp (wi : TI) (n : Nat) (ix : List Nat) (g : TG) (tc : TT) (te : TE) : TE := fun σ H Q => wi σ H fun J H1 => ∀ D, H1 D = none → CGo J D g tc te Q (List.replicate n none ++ sub ix σ) H1

theorem append_ok {X : Cx} {pins : List (Addr × Obj)} {σ : St} {H : Hp} {s : Shared} {D : Addr} {ys : List V} {y : V} {u : Value} {Q : Value → Shared → Prop} {E : Value → Shared → Prop} (I : Inv X pins σ H s) (hD : H D = some (.lst ys)) (hz : ys.length < sizeLine) (r : RelV y u)
    (h : ∀ s', Inv X pins σ (upd H D (.lst (ys ++ [y]))) s' → Q .none s') : wpAny (model X.prog X.w) X.A (call (.builtin "list.append") [.ref D, u]) Q E s := by
  obtain ⟨z, its, n, rr, hl, e⟩ := I.lstM hD
  refine call_meets F.slot_list_append ⟨_, e, rfl⟩ F.entry_list_append (F.args_list_append_2 _ _) (PySem.list_append D its.toArray n u (by rw [List.size_toArray]; omega)) ⟨e, ?_⟩
  refine h _ (I.lset (its' := its ++ [u]) hD e (by simp) (rr.append (.cons r .nil)) ?_)
  rw [List.length_append, List.length_singleton]
  omega

theorem comp_block {X : Cx} {pins : List (Addr × Obj)} {σ : St} {H : Hp} {s : Shared} {sc : Scope} {TN F : List Str} {ix : List Nat} {elt tg iter : Expr} {ifs : List Expr} {pos : Pos} {g : TG} {tc : TT} {te : TE} {J : It} {fp : List Addr} {it : Addr} {tn : Nat → Heap → Prop} {Q : VK}
    {RR : Value → Addr → Result → Shared → Prop} {E : Value → Shared → Prop}
    (S : CScope X.env.scope sc TN F) (hix : ix.map (fun i => X.N[i]?) = F.map some) (hc : X.calm = true) (I : Inv X pins σ H s) (T : Turn X.prog X.w X.K tg J fp it tn) (st : tn 0 s.heap) (hf : ∀ b ∈ fp, FpOk X pins H b)
    (hg : ∀ cl C fp s3 H3 xe, PG (cxC X (TN ++ F) sc cl C fp s3 H3 xe) tg g) (ht : ∀ cl C fp s3 H3 xe, PTs (cxC X (TN ++ F) sc cl C fp s3 H3 xe) ifs tc) (he : ∀ cl C fp s3 H3 xe, PE (cxC X (TN ++ F) sc cl C fp s3 H3 xe) elt te)
    (hW : ∀ D, H D = none → CGo J D g tc te Q (List.replicate TN.length none ++ sub ix σ) H)
    (fin : ∀ D C H' s', Inv X pins σ H' s' → (∃ m, s'.heap.Ns C m) → H' C = none → C ≠ X.env.locals → X.s₀.heap.objs.size ≤ C → (∀ x c, X.env.cells.lookup x = some c → c ≠ C) → (∀ p ∈ X.pn ++ pins, p.1 ≠ C) → Q (.ref D) H' → RR (.ref D) C (.ok .next) s') :
    wpAny (model X.prog X.w) X.A (newList []) (fun acc s₃ => wpAny (model X.prog X.w) X.A (newFunctionEnv sc X.env.globals (cloF X.env sc.names []) [] X.env.qual none .none (some X.env)) (fun cenv s₄ =>
      codeAny (model X.prog X.w) X.A (.compStart (.ListComp elt [⟨tg, iter, ifs, 0⟩] sc pos) 0 (.ref it) acc { cenv with scope := relabel sc X.env }) (RR acc cenv.locals) s₄) E s₃) E s := by
  have hfo : ∀ b ∈ fp, ∃ o, s.heap.get? b = some o := fun b hb => let ⟨o, e, _⟩ := T.obj 0 _ st b hb; ⟨o, e⟩
  refine wpAny_newObj_type ?_
  obtain ⟨W, ⟨m0, w0⟩, go⟩ := hW s.heap.objs.size I.fresh
  have I3 : Inv X pins σ (upd H s.heap.objs.size (.lst [])) { s with heap := s.heap.push { cls := .type "list", data := .seq ([] : List Value).toArray } } := I.lnew (its := []) (ys := []) (t' := s.toks) .nil (Nat.zero_le _)
  generalize hs3 : ({ s with heap := s.heap.push { cls := .type "list", data := .seq ([] : List Value).toArray } } : Shared) = s3 at I3
  have hk3 : ∀ b o, s.heap.get? b = some o → s3.heap.get? b = some o := fun b o e => by
    rw [← hs3]
    exact Heap.get?_push_of_some _ e
  have hf3 : ∀ b ∈ fp, FpOk X pins (upd H s.heap.objs.size (.lst [])) b := fun b hb => by
    obtain ⟨o, e⟩ := hfo b hb
    exact ⟨by rw [upd_ne (Nat.ne_of_lt (Heap.lt_size e))]; exact (hf b hb).1, (hf b hb).2⟩
  have st3 : tn 0 s3.heap := T.keep 0 _ _ st fun b hb o e => hk3 b o e
  show wpAny _ _ _ _ _ s3
  refine wpAny_newFunctionEnv S.nocell (by intro y hy; simp at hy) (fun h4 hn4 hsb => ?_) S.kind
  have hk4 : ∀ b o, s3.heap.get? b = some o → h4.get? b = some o := fun b o e => (hsb.2 b (Nat.ne_of_lt (Heap.lt_size e))).trans (Heap.get?_push_of_some _ e)
  generalize hR : RR (.ref s.heap.objs.size) s3.heap.objs.size = R
  have loop : ∀ s4 : Shared, s4 = { s3 with heap := h4, toks := s3.toks + ([] : List (Str × Value)).length } →
      codeAny (model X.prog X.w) X.A (.compLoop (.ListComp elt [⟨tg, iter, ifs, 0⟩] sc pos) 0 (.ref it) (.ref s.heap.objs.size) (compEnvC sc (cloF X.env sc.names []) s3.heap.objs.size X.env)) R s4 := by
    rintro s4 rfl
    let X' : Cx := cxC X (TN ++ F) sc (cloF X.env sc.names []) s3.heap.objs.size fp s3 (upd H s.heap.objs.size (.lst [])) (notedBy (model X.prog X.w) X.A (compEnvC sc (cloF X.env sc.names []) s3.heap.objs.size X.env) fun e s' => R (.error e) s')
    have I4 : Inv X' [] (List.replicate TN.length none ++ sub ix σ) (upd H s.heap.objs.size (.lst [])) { s3 with heap := h4, toks := s3.toks + ([] : List (Str × Value)).length } :=
      inv_comp S hix I3 hf3 (fun b hb => let ⟨o, e⟩ := hfo b hb; ⟨o, hk3 b o e⟩) hk4 hn4
    have fpx : ∀ {H' : Hp}, (∀ b ∈ fp, H' b = none) → ∀ b ∈ fp, FpOk X' [] H' b := fun {H'} hn b hb => by
      refine ⟨hn b hb, (I4.ok.exf b hb).1, fun z => I4.ok.exfs b hb z, .inl hb, fun x c e => (I4.ok.exf b hb).2 x c e, fun p hp => absurd (show p ∈ ([] : List (Addr × Obj)) from hp) (by simp)⟩
    refine comp_loop (fun n s' => ∃ i τ ys H', Inv X' [] τ H' s' ∧ tn i s'.heap ∧ (∀ b ∈ fp, H' b = none) ∧ W i n τ ys H') ?_ m0 ⟨0, _, [], _, I4, T.keep 0 _ _ st3 fun b hb o e => hk4 b o e, fun b hb => (hf3 b hb).1, w0⟩
    rintro n s5 ⟨i, τ, ys, H5, I5, st5, fr5, w5⟩
    obtain ⟨hD, hgo⟩ := go i n τ ys H5 w5
    rcases hgo with ⟨stop, q⟩ | ⟨hgo, step⟩
    · refine thn (T.done X' rfl rfl rfl hc i [] s5 τ H5 X'.xe I5 (fpx fr5) st5 stop) fun r s6 ⟨hr, I6⟩ => ?_
      subst hr
      show R (.ok .next) s6
      rw [← hR]
      have J6 : Inv X pins σ H5 s6 := I3.call' (ch := fp) I6.os I6.base I6.hok I6.bare fun b hb => ⟨(hf3 b hb).2.2.2.1, (hf3 b hb).2.1, (hf3 b hb).2.2.2.2.1, (hf3 b hb).2.2.2.2.2⟩
      refine fin s.heap.objs.size s3.heap.objs.size H5 s6 J6 (let ⟨m, hn, _⟩ := I6.loc; ⟨m, hn⟩) I6.free (Nat.ne_of_gt I3.lt) I3.sz (fun x c e z => ?_) (fun p hp z => ?_) q
      · obtain ⟨v, o, ho, _⟩ := I3.cell x c e
        exact absurd (Heap.lt_size ho) (by rw [z]; exact Nat.lt_irrefl _)
      · exact absurd (Heap.lt_size (I3.pin p hp).1) (by rw [z]; exact Nat.lt_irrefl _)
    · refine thn (T.item X' rfl rfl rfl hc i [] s5 τ H5 X'.xe I5 (fpx fr5) st5 hgo) fun r s6 ⟨u, hr, h6⟩ => ?_
      subst hr
      refine thn h6 fun _ s7 ⟨v, H7, I7, r7, y7, st7, fr7⟩ => ?_
      have I7' := I7.pinned (fpx fr7) (T.obj _ _ st7)
      refine thn (hg _ _ _ _ _ _ _ s7 τ H7 v u _ I7' r7 (step v H7 y7)) fun _ s8 ⟨τ8, H8, I8, q8⟩ => ?_
      refine thn (ht _ _ _ _ _ _ _ s8 τ8 H8 _ I8 q8) fun ok s9 ⟨H9, I9, q9⟩ => ?_
      have again : ∀ {ys' : List V} {H' : Hp} {s' : Shared}, Inv X' ([] ++ pinsAt fp s7.heap) τ8 H' s' → (∃ m', m' < n ∧ W (i + 1) m' τ8 ys' H') → ∃ m, m < n ∧ ∃ i τ ys H'', Inv X' [] τ H'' s' ∧ tn i s'.heap ∧ (∀ b ∈ fp, H'' b = none) ∧ W i m τ ys H'' := fun {ys' H' s'} I' ⟨m', hm, w'⟩ => by
        refine ⟨m', hm, i + 1, τ8, ys', H', I'.unpinned, T.keep _ _ _ st7 fun b hb o e => (I'.pin (b, o) (List.mem_append_right _ (List.mem_append_right _ (mem_pinsAt hb e)))).1, fun b hb => ?_, w'⟩
        obtain ⟨o, e, d⟩ := T.obj _ _ st7 b hb
        exact (I'.pin (b, o) (List.mem_append_right _ (List.mem_append_right _ (mem_pinsAt hb e)))).2.1
      cases ok with
      | false =>
        exact again I9 q9
      | true =>
        refine thn (he _ _ _ _ _ _ _ s9 τ8 H9 _ I9 q9) fun x s10 ⟨y, H10, I10, r10, hD10, hz10, q10⟩ => ?_
        exact append_ok (X := X') I10 hD10 hz10 r10 fun s11 I11 => again I11 q10
  subst hR
  exact codeAny_compStart_list (loop _ rfl) (T.self X.A 0 _ _ _ (T.keep 0 _ _ st3 fun b hb o e => hk4 b o e) (loop _ rfl))

section
variable {X : Cx} {sc : Scope} {TN F : List Str} {ix : List Nat} {elt tg iter : Expr} {ifs : List Expr} {pos : Pos} {g : TG} {tc : TT} {te : TE} {wi : TI}
theorem closure_of (S : CScope X.env.scope sc TN F) {pins : List (Addr × Obj)} {σ : St} {H : Hp} {s : Shared} (I : Inv X pins σ H s) : closureFor sc X.env = pure (cloF X.env sc.names []) :=
  closure_eq fun x hx hk => I.ok.has x.1 (.inl (S.fr x hx hk).1)
/-- [elt for tg in iter ..] -/
theorem pe_comp (S : CScope X.env.scope sc TN F) (hix : ix.map (fun i => X.N[i]?) = F.map some) (hc : X.calm = true) (hi : PI X tg iter wi)
    (hg : ∀ cl C fp s3 H3 xe, PG (cxC X (TN ++ F) sc cl C fp s3 H3 xe) tg g) (ht : ∀ cl C fp s3 H3 xe, PTs (cxC X (TN ++ F) sc cl C fp s3 H3 xe) ifs tc) (he : ∀ cl C fp s3 H3 xe, PE (cxC X (TN ++ F) sc cl C fp s3 H3 xe) elt te)
    (hs : ∀ x, foldedSetIterable iter X.env x = pure x := by intro _; rfl) : PE X (.ListComp elt [⟨tg, iter, ifs, 0⟩] sc pos) (tComp wi TN.length ix g tc te) := by
  intro pins s σ H Q I h
  rw [eval_ListComp]
  refine wpAny_comprehension_free (use := none) rfl hs (closure_of S I) S.kind S.names (thn (hi pins s σ H _ I h) fun v s1 h1 => thn h1 fun itv s2 h2 => ?_)
  obtain ⟨it, fp, tn, J, H2, e, I2, T, st2, f2, q2⟩ := h2
  subst e
  refine comp_block (RR := fun acc C => compPost (model X.prog X.w) X.A X.xe none (EP X pins σ Q) acc C) S hix hc I2 T st2 f2 hg ht he q2 fun D C H' s' I' hn hC1 hC2 hC3 hC4 hC5 q => ?_
  obtain ⟨m, hn⟩ := hn
  exact ⟨m, hn, fun h' hs' => ⟨.ref D, H', I'.turned (t' := s'.toks) (fun b o hb e => (hs'.2 b hb).trans e) hC1 hC2 (.inr hC3) hC4 hC5, rfl, q⟩⟩
/-- y = [elt for tg in iter ..], y a plain name of the def on the comprehension's own line -/
theorem ps_setC {i : Nat} {y : Str} {py spos : Pos} (hN : X.N.Nodup) (hiy : X.N[i]? = some y) (hy : X.env.scope.names.lookup y = some .local) (S : CScope X.env.scope sc TN F) (hix : ix.map (fun i => X.N[i]?) = F.map some) (hc : X.calm = true) (hi : PI X tg iter wi)
    (hg : ∀ cl C fp s3 H3 xe, PG (cxC X (TN ++ F) sc cl C fp s3 H3 xe) tg g) (ht : ∀ cl C fp s3 H3 xe, PTs (cxC X (TN ++ F) sc cl C fp s3 H3 xe) ifs tc) (he : ∀ cl C fp s3 H3 xe, PE (cxC X (TN ++ F) sc cl C fp s3 H3 xe) elt te)
    (hsw : swapsWith (.ListComp elt [⟨tg, iter, ifs, 0⟩] sc pos) (some (.Name y py)) spos.line X.env = pure true := by rfl)
    (hs : ∀ x, foldedSetIterable iter X.env x = pure x := by intro _; rfl) : PS X (.Assign [.Name y py] (.ListComp elt [⟨tg, iter, ifs, 0⟩] sc pos) spos) (tAsg (tComp wi TN.length ix g tc te) (gName i)) := by
  intro pins s σ H D I h
  rw [exec_Assign_Name_used _ _ _ _ hsw]; refine wpAny_bind (wpAny_standAt (wpAny_bind ?_))
  show wpAny _ X.A (do let _ ← comprehension (.ListComp elt [⟨tg, iter, ifs, 0⟩] sc pos) sc X.env _ (newList []) false (eval iter X.env) (some (assign (.Name y py) X.env))) _ _ s
  refine wpAny_bind (wpAny_mono (wpAny_comprehension_free (use := some (assign (.Name y py) X.env)) (Q := fun _ s' => SP X pins D .next s') rfl hs (closure_of S I) S.kind S.names
    (thn (hi pins s σ H _ I h) fun v s1 h1 => thn h1 fun itv s2 h2 => ?_)) (fun _ s' hq => wpAny_pure (wpAny_pure hq)) fun _ _ e => e)
  obtain ⟨it, fp, tn, J, H2, e, I2, T, st2, f2, q2⟩ := h2
  subst e
  refine comp_block (RR := fun acc C => compPost (model X.prog X.w) X.A X.xe (some (assign (.Name y py) X.env)) (fun _ s' => SP X pins D .next s') acc C) S hix hc I2 T st2 f2 hg ht he q2 fun Dl C H' s' I' hn hC1 hC2 hC3 hC4 hC5 q => ?_
  obtain ⟨m, hn⟩ := hn
  show wpAny _ X.A (assign (.Name y py) X.env (.ref Dl)) _ _ _
  refine wpAny_assign_Name (store_ok2 I' hN hiy (.inl hy) (show RelV (.ref Dl) (.ref Dl) from rfl) (fun s'' I'' ⟨a, hsb, ha⟩ => ?_) (.inr hy))
  have haC : C ≠ a := by
    rcases ha with z | z
    · rw [z]; exact hC2
    · exact fun z' => hC4 y a z z'.symm
  refine ⟨m, hn.sameBut hsb haC, fun h' hs' => ?_⟩
  exact ⟨_, H', I''.turned (t' := s''.toks) (fun b o hb e => (hs'.2 b hb).trans e) hC1 hC2 (.inr hC3) hC4 hC5, q⟩
end
end L2

set_option Elab.async false
set_option linter.all false
set_option maxRecDepth 100000
namespace L2
open PySem PySem.Spec PyProof.Rows
/-! ### readings that reckon -/
def seqAt (H : Hp) (p : Addr) : Option (List V) := match H p with
  | some (.lst xs) => some xs
  | some (.tup xs) => some xs
  | _ => none
def dAt (H : Hp) (x y : V) : Option V := match x, y with
  | .ref p, .int i => (seqAt H p).bind fun xs => atI xs i
  | _, _ => none
def rIxd : R2 := fun x y H Q => ∃ v, dAt H x y = some v ∧ Q v H
section
variable {X : Cx}
theorem ix_d : IxR X rIxd := by
  intro value slice pins s σ H x y v u Q I rx ry h hs
  refine ix_seq value slice pins s σ H x y v u Q I rx ry ?_ hs
  obtain ⟨z, e, q⟩ := h
  unfold dAt at e
  split at e
  case h_2 => cases e
  case h_1 p i =>
    unfold seqAt at e
    split at e
    case h_1 xs hp => exact .inl ⟨_, xs, _, z, rfl, rfl, SqL.of hp, e, q⟩
    case h_2 xs hp => exact .inr (.inl ⟨_, xs, _, z, rfl, rfl, SqT.of hp, e, q⟩)
    case h_3 => cases e
def dSet (H : Hp) (o i v : V) : Option Hp := match o, i with
  | .ref p, .int k => match H p with
    | some (.lst xs) => (ixN xs.length k).map fun j => upd H p (.lst (xs.set j v))
    | _ => none
  | _, _ => none
def rSetd : V → V → V → Hp → (Hp → Prop) → Prop := fun o i v H Q => ∃ H', dSet H o i v = some H' ∧ Q H'
theorem set_d : PSet X rSetd := by
  intro pins s σ H o i v ov iv u Q I ro ri rv h
  refine set_list pins s σ H o i v ov iv u Q I ro ri rv ?_
  obtain ⟨H', e, q⟩ := h
  unfold dSet at e
  split at e
  case h_2 => cases e
  case h_1 p k =>
    split at e
    case h_2 => cases e
    case h_1 xs hp =>
      cases ej : ixN xs.length k with
      | none => rw [ej] at e; cases e
      | some j =>
        rw [ej] at e
        cases e
        exact ⟨p, xs, k, j, rfl, rfl, hp, ej, q⟩
end
theorem dAt_nat {H : Hp} {p : Addr} {xs : List V} {j : Nat} {v : V} (h : seqAt H p = some xs) (e : xs[j]? = some v) : dAt H (.ref p) (.int (j : Int)) = some v := by
  show (seqAt H p).bind _ = _
  rw [h]
  exact atI_nat e
end L2
namespace L2
open PySem PySem.Spec PyProof.Rows
/-! ### steps of a reading -/
section
variable {σ : St} {H : Hp} {Q : VK} {D : Ends} {t u : TS} {te ta tb : TE} {tr : TA} {g : TG} {r : R2} {x y v : V} {c : TT} {QB : Bool → Hp → Prop} {QL : List V → Hp → Prop} {QG : St → Hp → Prop} {n : Nat}
theorem w_seq (h : t { D with nx := u D } σ H) : tSeq t u D σ H := h
theorem w_next (h : D.nx σ H) : tNext D σ H := h
theorem w_asg (h : te σ H fun x H1 => g x σ H1 D.nx) : tAsg te g D σ H := h
theorem w_gname {i : Nat} (h : QG (σ.set i (some v)) H) : gName i v σ H QG := h
theorem w_op (h : ta σ H fun x H1 => tb σ H1 fun y H2 => r x y H2 Q) : tOp r ta tb σ H Q := h
theorem w_var {i : Nat} (e : σ[i]? = some (some v)) (h : Q v H) : tVar i σ H Q := ⟨v, e, h⟩
theorem w_c (h : Q v H) : tC v σ H Q := h
theorem w_rI0 {k : Int → Int → V} {i j : Int} (h : Q (k i j) H) : rI0 k (.int i) (.int j) H Q := ⟨i, j, rfl, rfl, h⟩
theorem w_rI {C : Int → Int → Prop} {k : Int → Int → V} {i j : Int} (hc : C i j) (h : Q (k i j) H) : rI C k (.int i) (.int j) H Q := ⟨i, j, rfl, rfl, hc, h⟩
theorem w_ifs {b : TS} (h : c σ H fun b' H1 => if b' = true then t D σ H1 else b D σ H1) : tIfS c t b D σ H := h
theorem w_ife (h : c σ H fun b' H1 => if b' = true then ta σ H1 Q else tb σ H1 Q) : tIf c ta tb σ H Q := h
theorem w_test (h : te σ H fun x H' => ∃ k, x = .bl k ∧ QB k H') : tTest te σ H QB := h
theorem w_tb (h : te σ H fun x H' => ∃ k, x = .bl k ∧ QB k H') : tB te σ H QB := h
theorem w_bl {b : Bool} {P : Bool → Prop} (h : P b) : ∃ k, V.bl b = .bl k ∧ P k := ⟨b, rfl, h⟩
theorem w_not (h : c σ H fun b H1 => QB (!b) H1) : tNot c σ H QB := h
theorem w_ret (h : te σ H D.rt) : tRet te D σ H := h
theorem w_nil (h : QL [] H) : tNil σ H QL := h
theorem w_cons (h : te σ H fun x H1 => tr σ H1 fun xs H2 => QL (x :: xs) H2) : tCons te tr σ H QL := h
theorem w_lst (h : tr σ H fun xs H1 => xs.length ≤ sizeLine ∧ ∀ p, H1 p = none → Q (.ref p) (upd H1 p (.lst xs))) : tLst tr σ H Q := h
theorem w_tup (h : tr σ H fun xs H1 => xs.length ≤ sizeLine ∧ ∀ p, H1 p = none → Q (.ref p) (upd H1 p (.tup xs))) : tTup tr σ H Q := h
theorem w_cb {r : List V → Hp → VK → Prop} (h : tr σ H fun vs H1 => r vs H1 Q) : tCB r tr σ H Q := h
theorem w_call {sp : Sp} {dvs : List V} {E : XK} (h : tr σ H fun vs H1 => sp (vs ++ dvs) H1 Q E) : tCall sp dvs E tr σ H Q := h
theorem w_gsub {to ti : TE} {ts : TSet} (h : to σ H fun o H1 => ti σ H1 fun i H2 => ts o i v H2 fun H3 => QG σ H3) : gSub to ti ts v σ H QG := h
theorem w_ixL {p : Addr} {xs : List V} {i : Int} (hp : H p = some (.lst xs)) (e : atI xs i = some v) (h : Q v H) : rIxd (.ref p) (.int i) H Q := ⟨v, by simp only [dAt, seqAt, hp, Option.bind_some, e], h⟩
theorem w_ixT {p : Addr} {xs : List V} {i : Int} (hp : H p = some (.tup xs)) (e : atI xs i = some v) (h : Q v H) : rIxd (.ref p) (.int i) H Q := ⟨v, by simp only [dAt, seqAt, hp, Option.bind_some, e], h⟩
theorem w_set {p : Addr} {xs : List V} {i : Int} {j : Nat} {QH : Hp → Prop} (hp : H p = some (.lst xs)) (e : ixN xs.length i = some j) (h : QH (upd H p (.lst (xs.set j v)))) : rSetd (.ref p) (.int i) v H QH :=
  ⟨_, by simp only [dSet, hp, e, Option.map_some], h⟩
theorem w_retN (h : D.rt .non H) : tRetN D σ H := h
theorem w_and {c d : TT} (h : c σ H fun b H1 => if b = true then d σ H1 QB else QB false H1) : tAnd c d σ H QB := h
theorem w_or {c d : TT} (h : c σ H fun b H1 => if b = true then QB true H1 else d σ H1 QB) : tOr c d σ H QB := h
theorem iteD {p A B : Prop} [Decidable p] (h1 : p → A) (h2 : ¬ p → B) : if decide p = true then A else B := by
  by_cases h : p
  · rw [decide_eq_true h, if_pos rfl]
    exact h1 h
  · rw [decide_eq_false h, if_neg Bool.false_ne_true]
    exact h2 h
theorem iteDN {p A B : Prop} [Decidable p] (h1 : ¬ p → A) (h2 : p → B) : if (!decide p) = true then A else B := by
  by_cases h : p
  · rw [decide_eq_true h]
    exact iteF (h2 h)
  · rw [decide_eq_false h]
    exact iteT (h1 h)
end
end L2
namespace L2
open PySem PySem.Spec PyProof.Rows
/-- a def of the text that is there and keeps its promise -/
def Has (P : Program) (w : World) (K : PySem.W.Frag) (mg : Str → Option Value) (base : Heap) (k : Nat) (x : Str) (ps : List Str) (sp : Sp) : Prop :=
  ∃ f fd, FnOk P w K mg base CX0 k f fd ps sp ∧ mg x = some (.ref f) ∧ PySem.W.keepIn K (.ref f) = true ∧ Binds K fd ps []
theorem pe_fn {X : Cx} {k j : Nat} {x : Str} {ps : List Str} {sp : Sp} {e : Expr} {es : List Expr} {t : TA} {p pos : Pos} (h : Has X.prog X.w X.K X.mg X.base k x ps sp) (hr : Room j X.A) (hkj : k ≤ j) (ha : PA X (e :: es) t) (hg : Gl X x := by rfl)
    (hdb : (x == ("__debug__" : Str)) = false := by decide) (he : starEach (e :: es) X.env = (false, eval e X.env) :: starEach es X.env := by rfl) (hpl : (backTo pos (starEach es X.env)).any (·.1) = false := by rfl) :
    PE X (.Call (.Name x p) (e :: es) [] pos) (tCall sp [] E0 t) := by
  obtain ⟨f, fd, F, hm, hk, hb⟩ := h
  exact pe_call F (hr.mono hkj) hg hm hk hb .nil pass0 ha hdb he hpl
section
variable {lo : Int} {n : Nat} {D : Addr} {te : TE} {tc : TT} {Q : VK} {ρ : St} {H : Hp}
/-- a block over a range, one name -/
theorem cgo_range (Pv : Nat → List V → Hp → Prop) (h0 : Pv 0 [] (upd H D (.lst [])))
    (hs : ∀ i ys H', i < n → Pv i ys H' → H' D = some (.lst ys) → ∀ (R : V → Hp → Prop) (S : Hp → Prop), (∀ y H4, H4 D = some (.lst ys) → ys.length < sizeLine → Pv (i + 1) (ys ++ [y]) (upd H4 D (.lst (ys ++ [y]))) → R y H4) → (∀ H3, H3 D = some (.lst ys) → Pv (i + 1) ys H3 → S H3) →
      tc (some (.int (lo + i)) :: ρ) H' fun b H3 => if b = true then te (some (.int (lo + i)) :: ρ) H3 R else S H3)
    (hd : ∀ ys H', Pv n ys H' → H' D = some (.lst ys) → Q (.ref D) H') : CGo (Itr lo n) D (gName 0) tc te Q (none :: ρ) H := by
  refine ⟨fun i m τ ys H' => m = n - i ∧ i ≤ n ∧ (∃ tv, τ = tv :: ρ) ∧ Pv i ys H' ∧ H' D = some (.lst ys), ⟨n, by omega, Nat.zero_le _, ⟨_, rfl⟩, h0, upd_same⟩, ?_⟩
  rintro i m τ ys H' ⟨rfl, hi, ⟨tv, rfl⟩, hp, hD⟩
  refine ⟨hD, ?_⟩
  by_cases hlt : i < n
  · refine .inr ⟨hlt, ?_⟩
    rintro v H'' ⟨rfl, rfl⟩
    show tc (some (.int (lo + i)) :: ρ) _ _
    exact hs i ys _ hlt hp hD _ _ (fun y H4 a b c => ⟨a, b, n - (i + 1), by omega, rfl, hlt, ⟨_, rfl⟩, c, upd_same⟩) fun H3 a c => ⟨n - (i + 1), by omega, rfl, hlt, ⟨_, rfl⟩, c, a⟩
  · have e : i = n := by omega
    subst e
    exact .inl ⟨Nat.le_refl _, hd ys _ hp hD⟩
/-- a block over a tuple, one name -/
theorem cgo_tup {K : PySem.W.Frag} {a : Addr} {xs : List V} (Pv : Nat → List V → Hp → Prop) (h0 : Pv 0 [] (upd H D (.lst []))) (hl : ∀ i ys H', i ≤ xs.length → Pv i ys H' → SqT K H' a xs)
    (hs : ∀ i x ys H', xs[i]? = some x → Pv i ys H' → H' D = some (.lst ys) → ∀ (R : V → Hp → Prop) (S : Hp → Prop), (∀ y H4, H4 D = some (.lst ys) → ys.length < sizeLine → Pv (i + 1) (ys ++ [y]) (upd H4 D (.lst (ys ++ [y]))) → R y H4) → (∀ H3, H3 D = some (.lst ys) → Pv (i + 1) ys H3 → S H3) →
      tc (some x :: ρ) H' fun b H3 => if b = true then te (some x :: ρ) H3 R else S H3)
    (hd : ∀ ys H', Pv xs.length ys H' → H' D = some (.lst ys) → Q (.ref D) H') : CGo (Itt K a) D (gName 0) tc te Q (none :: ρ) H := by
  refine ⟨fun i m τ ys H' => m = xs.length - i ∧ i ≤ xs.length ∧ (∃ tv, τ = tv :: ρ) ∧ Pv i ys H' ∧ H' D = some (.lst ys), ⟨xs.length, by omega, Nat.zero_le _, ⟨_, rfl⟩, h0, upd_same⟩, ?_⟩
  rintro i m τ ys H' ⟨rfl, hi, ⟨tv, rfl⟩, hp, hD⟩
  refine ⟨hD, ?_⟩
  have sq := hl i ys H' hi hp
  by_cases hlt : i < xs.length
  · refine .inr ⟨⟨xs, xs[i], sq, by simp [hlt]⟩, ?_⟩
    rintro v H'' ⟨rfl, hv⟩
    have hv' := hv xs sq
    show tc (some v :: ρ) _ _
    exact hs i v ys _ hv' hp hD _ _ (fun y H4 a b c => ⟨a, b, xs.length - (i + 1), by omega, rfl, hlt, ⟨_, rfl⟩, c, upd_same⟩) fun H3 a c => ⟨xs.length - (i + 1), by omega, rfl, hlt, ⟨_, rfl⟩, c, a⟩
  · have e : i = xs.length := by omega
    subst e
    exact .inl ⟨⟨xs, sq, Nat.le_refl _⟩, hd ys _ hp hD⟩
end
theorem w_all {σ : St} {H : Hp} {Q : Bool → Hp → Prop} (h : Q true H) : tAll σ H Q := h
end L2
namespace L2
open PySem PySem.Spec PyProof.Rows
def relabelS (sc o : Scope) : Scope :=
  { sc with names := sc.names.map fun (n, k) => if (k == .free && o.kind == .function && o.names.lookup n == some .cell) then (n, .cell) else (n, k) }
instance {sc : Scope} {x : Str} : Decidable (Vis sc x) := by unfold Vis; infer_instance
/-- a block's scope, with all that its names want; G: the module's names that it reads -/
structure BScope (o sc : Scope) (TN F G : List Str) : Prop extends CScope o sc TN F where
  nd : (TN ++ F).Nodup
  vis : ∀ x ∈ TN ++ F, Vis (relabelS sc o) x
  loc : ∀ x ∈ TN, (relabelS sc o).names.lookup x = some .local
  gl : ∀ x ∈ G, (relabelS sc o).names.lookup x = some .globalImplicit
section
variable {X : Cx} {sc : Scope} {TN F G : List Str} {cl : List (Str × Addr)} {C : Addr} {fp : List Addr} {s3 : Shared} {H3 : Hp} {xe : Value → Shared → Prop} {x : Str} {pos : Pos}
theorem pvb (S : BScope X.env.scope sc TN F G) (i : Nat) (hN : (TN ++ F)[i]? = some x := by rfl) (hd : (x == ("__debug__" : Str)) = false := by decide) (hcd : (x == ("__classdict__" : Str)) = false := by decide) : PE (cxC X (TN ++ F) sc cl C fp s3 H3 xe) (.Name x pos) (tVar i) :=
  pe_var hN (S.vis x (List.mem_of_getElem? hN)) hd hcd
theorem pgb (S : BScope X.env.scope sc TN F G) (i : Nat) (hN : (TN ++ F)[i]? = some x := by rfl) (hT : TN[i]? = some x := by rfl) : PG (cxC X (TN ++ F) sc cl C fp s3 H3 xe) (.Name x pos) (gName i) :=
  pg_name S.nd hN (.inl (S.loc x (List.mem_of_getElem? hT))) (.inr (S.loc x (List.mem_of_getElem? hT)))
theorem BScope.g (S : BScope X.env.scope sc TN F G) (i : Nat) (hG : G[i]? = some x := by rfl) : Gl (cxC X (TN ++ F) sc cl C fp s3 H3 xe) x := S.gl x (List.mem_of_getElem? hG)
end
end L2
namespace L2
open PySem PySem.Spec PyProof.Rows
/-! ### rows of written constants -/
def constV : Expr → Option V
  | .Constant (.int n) _ _ => some (.int n)
  | .Constant (.str y) _ _ => some (.str y)
  | .Constant (.bool b) _ _ => some (.bl b)
  | .Constant .none _ _ => some .non
  | _ => none
def constsOf : List Expr → Option (List V)
  | [] => some []
  | e :: r => match constV e, constsOf r with
    | some v, some vs => some (v :: vs)
    | _, _ => none
def tVals (vs : List V) : TA := fun _ H Q => Q vs H
theorem pa_consts {X : Cx} : ∀ {es : List Expr} {vs : List V}, constsOf es = some vs → PA X es (tVals vs)
  | [], vs, h => by
    cases h
    exact pa_nil
  | e :: r, vs, h => by
    unfold constsOf at h
    split at h
    case h_2 => cases h
    case h_1 v vs' h1 h2 =>
      cases h
      have ih := pa_consts (X := X) h2
      have go : ∀ {te : TE}, PE X e te → (starEach (e :: r) X.env = (false, eval e X.env) :: starEach r X.env) → (∀ σ H Q, Q v H → te σ H Q) → PA X (e :: r) (tVals (v :: vs')) := fun {te} he hs hq => by
        have q := pa_cons he ih hs
        intro pos pins s σ H Q I hh
        exact q pos pins s σ H Q I (hq σ H _ hh)
      unfold constV at h1
      split at h1
      case h_1 => cases h1; exact go pe_int rfl fun _ _ _ h => h
      case h_2 => cases h1; exact go pe_str rfl fun _ _ _ h => h
      case h_3 => cases h1; exact go pe_bl rfl fun _ _ _ h => h
      case h_4 => cases h1; exact go pe_non rfl fun _ _ _ h => h
      case h_5 => cases h1
theorem pe_lstC {X : Cx} {es : List Expr} {pos : Pos} {vs : List V} (h : constsOf es = some vs) : PE X (.List es pos) (tLst (tVals vs)) := pe_lst (pa_consts h)
theorem w_vals {vs : List V} {σ : St} {H : Hp} {Q : List V → Hp → Prop} (h : Q vs H) : tVals vs σ H Q := h
end L2
namespace L2
open PySem PySem.Spec PyProof.Rows
instance {sc : Scope} {x : Str} : Decidable (Loc sc x) := by unfold Loc; infer_instance
/-- a def's names -/
structure Nm (N : List Str) (sc : Scope) : Prop where
  nd : N.Nodup
  loc : ∀ x ∈ N, Loc sc x
section
variable {X : Cx} {x : Str} {pos : Pos}
theorem Loc.vis {sc : Scope} (h : Loc sc x) : Vis sc x := h.elim .inl fun z => .inr (.inl z)
theorem pvd (M : Nm X.N X.env.scope) (i : Nat) (hN : X.N[i]? = some x := by rfl) (hd : (x == ("__debug__" : Str)) = false := by decide) (hcd : (x == ("__classdict__" : Str)) = false := by decide) : PE X (.Name x pos) (tVar i) :=
  pe_var hN (M.loc x (List.mem_of_getElem? hN)).vis hd hcd
theorem ps_setD {e : Expr} {te : TE} {pos' : Pos} (M : Nm X.N X.env.scope) (i : Nat) (he : PE X e te) (hi : X.N[i]? = some x := by rfl) (hs : swapsWith e (some (.Name x pos')) pos.line X.env = pure false := by rfl) (hf : X.fn x = true := by rfl) :
    PS X (.Assign [.Name x pos'] e pos) (tAsg te (gName i)) := ps_set M.nd hi (M.loc x (List.mem_of_getElem? hi)) he hs (.inl hf)
theorem pgd (M : Nm X.N X.env.scope) (i : Nat) (hi : X.N[i]? = some x := by rfl) (hf : X.fn x = true := by rfl) : PG X (.Name x pos) (gName i) := pg_name M.nd hi (M.loc x (List.mem_of_getElem? hi)) (.inl hf)
end
end L2
namespace L2
open PySem PySem.Spec PyProof.Rows
section
variable {X : Cx} {l rest : List Stmt} {st : Stmt} {t u : TS} {e e' : Expr} {te : TE}
theorem pss_c (hl : l = st :: rest) (h1 : PS X st t) (h2 : PSs X rest u) : PSs X l (tSeq t u) := by
  subst hl
  exact pss_cons h1 h2
theorem pss_1 (hl : l = [st]) (h1 : PS X st t) : PSs X l t := by
  subst hl
  exact pss_one h1
theorem pss_0 (hl : l = []) : PSs X l tNext := by
  subst hl
  exact pss_nil
theorem pe_as (h : e = e') (h1 : PE X e' te) : PE X e te := by
  subst h
  exact h1
theorem ps_as {st st' : Stmt} (h : st = st') (h1 : PS X st' t) : PS X st t := by
  subst h
  exact h1
end
end L2
namespace L2
open PySem PySem.Spec PyProof.Rows
section
variable {ta : TA} {tl : TE} {n : Nat} {ix : List Nat} {g : TG} {tc : TT} {te : TE} {σ : St} {H : Hp} {Q : VK}
theorem w_compR (h : ta σ H fun vs H1 => ∃ j : Int, vs = [.int j] ∧ -(2 ^ 62) ≤ j ∧ j < 2 ^ 62 ∧ ∀ D, H1 D = none → CGo (Itr 0 j.toNat) D g tc te Q (List.replicate n none ++ sub ix σ) H1) : tComp (iRng1 ta) n ix g tc te σ H Q := h
theorem w_compT {K : PySem.W.Frag} (h : tl σ H fun x H1 => ∃ a, x = .ref a ∧ (∃ xs, SqT K H1 a xs) ∧ ∀ D, H1 D = none → CGo (Itt K a) D g tc te Q (List.replicate n none ++ sub ix σ) H1) : tComp (iTup K tl) n ix g tc te σ H Q := h
end
end L2
namespace L2
open PySem PySem.Spec PyProof.Rows
/-- a loop's reading, the iterator J at hand -/
def ForJ (J : It) (g : TG) (tb : TS) (D : Ends) (σ : St) (H1 : Hp) : Prop := ∃ W : Nat → Nat → St → Hp → Prop, (∃ m, W 0 m σ H1) ∧ ∀ i m σ H, W i m σ H →
  (J.stop i H ∧ D.nx σ H) ∨ (J.go i H ∧ ∃ N : St → Hp → Prop, (∀ σ' H', N σ' H' → ∃ m', m' < m ∧ W (i + 1) m' σ' H') ∧ ∀ x H', J.yld i H x H' → g x σ H' fun σ2 H2 => tb { D with nx := N, ct := N, bk := D.nx } σ2 H2)
theorem w_forR {ta : TA} {g : TG} {tb : TS} {D : Ends} {σ : St} {H : Hp} (h : ta σ H fun vs H1 => ∃ j : Int, vs = [.int j] ∧ -(2 ^ 62) ≤ j ∧ j < 2 ^ 62 ∧ ForJ (Itr 0 j.toNat) g tb D σ H1) : tFor (iRng1 ta) g tb D σ H := h
theorem w_forT {K : PySem.W.Frag} {tl : TE} {g : TG} {tb : TS} {D : Ends} {σ : St} {H : Hp} (h : tl σ H fun x H1 => ∃ a, x = .ref a ∧ (∃ xs, SqT K H1 a xs) ∧ ForJ (Itt K a) g tb D σ H1) : tFor (iTup K tl) g tb D σ H := h
theorem w_forL {K : PySem.W.Frag} {tl : TE} {g : TG} {tb : TS} {D : Ends} {σ : St} {H : Hp} (h : tl σ H fun x H1 => ∃ a, x = .ref a ∧ (∃ xs, SqL K H1 a xs) ∧ ForJ (Itl K a) g tb D σ H1) : tFor (iList K tl) g tb D σ H := h
end L2
namespace L2
open PySem PySem.Spec PyProof.Rows
/-! ### arguments, without running them -/
def isStar : Expr → Bool
  | .Starred .. => true
  | _ => false
theorem star1 {e : Expr} {es : List Expr} {env : Env} (h : isStar e = false) : starEach (e :: es) env = (false, eval e env) :: starEach es env := by
  cases e <;> first | rfl | cases h
theorem star_any {env : Env} {pos : Pos} : ∀ {es : List Expr}, es.all (fun e => !isStar e) = true → (backTo pos (starEach es env)).any (·.1) = false
  | [], _ => rfl
  | e :: es, h => by
    rw [List.all_cons, Bool.and_eq_true] at h; rw [star1 (by simpa using h.1)]
    cases es with
    | nil => rfl
    | cons a r =>
      have ih := star_any (env := env) (pos := pos) (es := a :: r) h.2
      rw [star1 (by simpa using (by simpa using h.2 : isStar a = false ∧ _).1)] at ih ⊢
      exact ih
end L2
namespace L2
open PySem PySem.Spec PyProof.Rows
section
variable {X : Cx} {e a : Expr} {es : List Expr} {te : TE} {t ta : TA} {x : Str} {p pos : Pos} {tg : Expr} {id T : String} {r : List V → Hp → VK → Prop}
theorem pa_c (ha : PE X e te) (hr : PA X es t) (h : isStar e = false := by rfl) : PA X (e :: es) (tCons te t) := pa_cons ha hr (star1 h)
theorem pi_r1 (hm : X.mg "range" = none) (ha : PA X [a] ta) (hg : Gl X "range" := by rfl) (h : isStar a = false := by rfl) : PI X tg (.Call (.Name "range" p) [a] [] pos) (iRng1 ta) := pi_range1 hg hm ha (star1 h)
theorem pe_cB (hc : CallR X (.builtin id) r) (hm : X.mg x = none) (hv : bootBuiltins x = some (.builtin id)) (ha : PA X (e :: es) t) (hg : Gl X x := by rfl) (h : isStar e = false := by rfl) (h2 : es.all (fun e => !isStar e) = true := by rfl) (hn : x ≠ "__name__" := by decide) (hdb : (x == ("__debug__" : Str)) = false := by decide) :
    PE X (.Call (.Name x p) (e :: es) [] pos) (tCB r t) := pe_callB hc hg hm hv ha hn hdb (star1 h) (star_any h2)
theorem pe_cT (hc : CallR X (.type T) r) (hm : X.mg x = none) (hv : bootBuiltins x = some (.type T)) (ha : PA X (e :: es) t) (hg : Gl X x := by rfl) (h : isStar e = false := by rfl) (h2 : es.all (fun e => !isStar e) = true := by rfl) (hn : x ≠ "__name__" := by decide) (hdb : (x == ("__debug__" : Str)) = false := by decide) :
    PE X (.Call (.Name x p) (e :: es) [] pos) (tCB r t) := pe_callTy hc hg hm hv ha hn hdb (star1 h) (star_any h2)
theorem pe_f {k j : Nat} {ps : List Str} {sp : Sp} (h : Has X.prog X.w X.K X.mg X.base k x ps sp) (hr : Room j X.A) (hkj : k ≤ j) (ha : PA X (e :: es) t) (hg : Gl X x := by rfl) (h1 : isStar e = false := by rfl) (h2 : es.all (fun e => !isStar e) = true := by rfl)
    (hdb : (x == ("__debug__" : Str)) = false := by decide) : PE X (.Call (.Name x p) (e :: es) [] pos) (tCall sp [] E0 t) := pe_fn h hr hkj ha hg hdb (star1 h1) (star_any h2)
end
end L2
namespace L2
theorem pa_1 {X : Cx} {e : PySem.Expr} {te : TE} (ha : PE X e te) (h : isStar e = false := by rfl) : PA X [e] (tCons te tNil) := pa_c ha pa_nil h
theorem pa_2 {X : Cx} {e e' : PySem.Expr} {te te' : TE} (ha : PE X e te) (hb : PE X e' te') (h : isStar e = false := by rfl) (h' : isStar e' = false := by rfl) : PA X [e, e'] (tCons te (tCons te' tNil)) := pa_c ha (pa_1 hb h') h
end L2
namespace L2
open PySem PySem.Spec PyProof.Rows
theorem w_drop {te : TE} {D : Ends} {σ : St} {H : Hp} (h : te σ H fun _ H1 => D.nx σ H1) : tDrop te D σ H := h
theorem w_bm {K : PySem.W.Frag} {T : String} {r : V → List V → Hp → VK → Prop} {to : TE} {t : TA} {σ : St} {H : Hp} {Q : VK} (h : to σ H fun x H1 => tyV K T x H1 ∧ t σ H1 fun xs H2 => r x xs H2 Q) : tBM K T r to t σ H Q := h
end L2

set_option Elab.async false
set_option linter.all false
set_option maxRecDepth 100000
namespace L2
open PySem PySem.Spec PyProof.Rows
/-! ### data: what a value reads as -/
mutual
inductive RdV (H : Hp) : V → PyData → Prop
  | non : RdV H .non .none
  | bl (b : Bool) : RdV H (.bl b) (.bool b)
  | int (i : Int) : RdV H (.int i) (.int i)
  | str (x : Str) : RdV H (.str x) (.str x)
  | lst {p : Addr} {xs : List V} {ds : List PyData} : H p = some (.lst xs) → RdVs H xs ds → RdV H (.ref p) (.list ds)
  | tup {p : Addr} {xs : List V} {ds : List PyData} : H p = some (.tup xs) → RdVs H xs ds → RdV H (.ref p) (.tuple ds)
inductive RdVs (H : Hp) : List V → List PyData → Prop
  | nil : RdVs H [] []
  | cons {v : V} {d : PyData} {vs : List V} {ds : List PyData} : RdV H v d → RdVs H vs ds → RdVs H (v :: vs) (d :: ds)
end
section
variable {X : Cx} {pins : List (Addr × Obj)} {σ : St} {H : Hp} {s : Shared}
mutual
theorem RdV.reads (I : Inv X pins σ H s) {v : V} {d : PyData} : RdV H v d → ∀ {u : Value}, RelV v u → ∃ as, Reads s.heap u d as
  | .non, u, r => by
    cases r
    exact ⟨[], .none⟩
  | .bl b, u, r => by
    cases r
    exact ⟨[], .bool b⟩
  | .int i, u, r => by
    obtain ⟨t, rfl⟩ := r
    exact ⟨[], .int i t⟩
  | .str x, u, r => by
    obtain ⟨t, rfl⟩ := r
    exact ⟨[], .str x t⟩
  | .lst (p := p) hp h, u, r => by
    cases r
    obtain ⟨its, n, rv, e, z⟩ := I.lst hp
    obtain ⟨as, q⟩ := RdVs.reads I h rv
    exact ⟨p :: as, .list e rfl rfl (by simpa using q)⟩
  | .tup (p := p) hp h, u, r => by
    cases r
    obtain ⟨z, its, rv, o, e, c, n, d⟩ := I.hok p _ hp
    obtain ⟨as, q⟩ := RdVs.reads I h rv
    exact ⟨as, .tuple e c d (by simpa using q)⟩
theorem RdVs.reads (I : Inv X pins σ H s) {vs : List V} {ds : List PyData} : RdVs H vs ds → ∀ {us : List Value}, Vals vs us → ∃ as, ReadsAll s.heap us ds as
  | .nil, us, r => by
    cases r
    exact ⟨[], .nil⟩
  | .cons h hs, us, r => by
    cases r with
    | cons r1 r2 =>
      obtain ⟨as, q⟩ := RdV.reads I h r1
      obtain ⟨bs, q2⟩ := RdVs.reads I hs r2
      exact ⟨as ++ bs, .cons q q2⟩
end
end
theorem rdInts {H : Hp} : ∀ (ns : List Int), RdVs H (ns.map V.int) (ns.map PyData.int)
  | [] => .nil
  | n :: ns => .cons (.int n) (rdInts ns)
end L2
namespace L2
open PySem PySem.Spec PyProof.Rows
section
variable {X : Cx} {k : Nat}
def rEqD : R2 := fun x y H Q => ∃ dx dy, RdV H x dx ∧ RdV H y dy ∧ dx.canLay0 = true ∧ dy.canLay0 = true ∧ dx.depth ≤ 60 ∧ Q (.bl (PyData.eqv dx dy)) H
theorem op_eqD (hr : Room k X.A) : OpR X (compareOp .Eq) rEqD := by
  intro pins s σ H x y v u Q I rx ry h
  obtain ⟨dx, dy, hx, hy, cx, cy, hd, q⟩ := h
  obtain ⟨as, ra⟩ := hx.reads I rx
  obtain ⟨bs, rb⟩ := hy.reads I ry
  have := hr.units
  exact SeqAt.compareEq_reads ra rb cx cy (by omega) ⟨.bl _, H, I, rfl, q⟩
def rRepr : List V → Hp → VK → Prop := fun xs H Q => ∃ v d, xs = [v] ∧ RdV H v d ∧ d.showable = true ∧ d.hasDict = false ∧ d.depth ≤ 50 ∧ d.shown.length ≤ sizeLine ∧ Q (.str d.shown) H
theorem call_repr (hr : Room k X.A) : CallR X (.builtin "repr") rRepr := by
  intro pins s σ H xs us Q I r h
  obtain ⟨v, d, rfl, hv, h1, h2, h3, h4, q⟩ := h
  obtain ⟨u, rfl, ru⟩ := r.one
  have hu := hr.units
  cases hv with
  | non =>
    cases ru
    exact PySem.P.repr_of_none ⟨.str _, H, I.tok _, ⟨_, rfl⟩, q⟩
  | bl b =>
    cases ru
    exact PySem.P.repr_of_bool ⟨.str _, H, I.tok _, ⟨_, rfl⟩, q⟩
  | int i =>
    obtain ⟨t, rfl⟩ := ru
    exact PySem.P.repr_of_int (by simpa [PyData.showable] using h1) ⟨.str _, H, I.tok _, ⟨_, rfl⟩, q⟩
  | str x =>
    obtain ⟨t, rfl⟩ := ru
    exact PySem.P.repr_of_str ⟨.str _, H, I.tok _, ⟨_, rfl⟩, q⟩ h4
  | lst hp hs =>
    obtain ⟨as, ra⟩ := RdV.reads I (.lst hp hs) ru
    cases ru
    exact repr_of_reads' ra h1 (fun z => by rw [h2] at z; cases z) hr.gd (by omega) (fun _ _ e => e) (fun h' u tk hk => ⟨.str _, H, I.kept hk, ⟨_, rfl⟩, q⟩) h4
  | tup hp hs =>
    obtain ⟨as, ra⟩ := RdV.reads I (.tup hp hs) ru
    cases ru
    exact repr_of_reads' ra h1 (fun z => by rw [h2] at z; cases z) hr.gd (by omega) (fun _ _ e => e) (fun h' u tk hk => ⟨.str _, H, I.kept hk, ⟨_, rfl⟩, q⟩) h4
end
end L2
namespace L2
open PySem PySem.Spec PyProof.Rows
theorem eqv_ints : ∀ (ns ms : List Int), PyData.eqvAll (ns.map PyData.int) (ms.map PyData.int) = decide (ns = ms)
  | [], [] => by simp only [List.map_nil, PyData.eqvAll, decide_true]
  | [], m :: ms => by simp [PyData.eqvAll]
  | n :: ns, [] => by simp [PyData.eqvAll]
  | n :: ns, m :: ms => by
    simp only [List.map_cons, PyData.eqvAll, PyData.eqv, eqv_ints ns ms]
    by_cases h : n = m
    · subst h; simp
    · simp [h]
theorem lay_ints : ∀ (ns : List Int), PyData.canLayAll0 (ns.map PyData.int) = true
  | [] => rfl
  | n :: ns => by simp [PyData.canLayAll0, PyData.canLay0, lay_ints ns]
theorem depth_ints : ∀ (ns : List Int), PyData.depthAll (ns.map PyData.int) = 0
  | [] => rfl
  | n :: ns => by simp [PyData.depthAll, PyData.depth, depth_ints ns]
/-- two lists of ints -/
theorem w_eqL {H : Hp} {Q : VK} {p q : Addr} {ns ms : List Int} (hp : H p = some (.lst (ns.map V.int))) (hq : H q = some (.lst (ms.map V.int))) (h : Q (.bl (decide (ns = ms))) H) : rEqD (.ref p) (.ref q) H Q := by
  refine ⟨_, _, .lst hp (rdInts ns), .lst hq (rdInts ms), lay_ints ns, lay_ints ms, ?_, ?_⟩
  · show PyData.depthAll _ + 1 ≤ 60
    rw [depth_ints]
    decide
  · show Q (.bl (PyData.eqvAll _ _)) H
    rw [eqv_ints]
    exact h
end L2
namespace L2
open PySem PySem.Spec PyProof.Rows
section
variable {X : Cx}
theorem vals_of : ∀ {xs : List V} {us : List Value}, xs.length = us.length → (∀ (j : Nat) (x : V) (u : Value), xs[j]? = some x → us[j]? = some u → RelV x u) → Vals xs us
  | [], [], _, _ => .nil
  | [], v :: vs, h, _ => absurd h (by simp)
  | v :: vs, [], h, _ => absurd h (by simp)
  | x :: xs, u :: us, h, k => .cons (k 0 x u rfl rfl) (vals_of (by simpa using h) fun j y v e1 e2 => k (j + 1) y v (by simpa using e1) (by simpa using e2))
/-- range(n), as a thing of its own -/
def rRange : List V → Hp → VK → Prop := fun xs H Q => ∃ j : Int, xs = [.int j] ∧ ∀ r, H r = none → Q (.ref r) (upd H r (.rng 0 j))
theorem call_rangeV : CallR X (.type "range") rRange := by
  intro pins s σ H xs us Q I r h
  obtain ⟨j, rfl, q⟩ := h
  obtain ⟨u, rfl, ru⟩ := r.one
  obtain ⟨t, rfl⟩ := ru
  refine call_range_1 ⟨.ref _, _, I.laid (fun b o e => Heap.get?_push_of_some _ e) (Nat.le_refl _) ?_, rfl, q _ I.fresh⟩
  exact ⟨_, _, _, Heap.get?_push_size _ rfl⟩
def rListR : List V → Hp → VK → Prop := fun xs H Q => ∃ (p : Addr) (n : Nat), xs = [.ref p] ∧ H p = some (.rng 0 (n : Int)) ∧ n ≤ 1000 ∧ ∀ l, H l = none → Q (.ref l) (upd H l (.lst ((List.range n).map fun (i : Nat) => V.int (i : Int))))
theorem call_listRng (hc : X.calm = true) : CallR X (.type "list") rListR := by
  intro pins s σ H xs us Q I r h
  obtain ⟨p, n, rfl, hp, hn, q⟩ := h
  obtain ⟨u, rfl, ru⟩ := r.one
  cases ru
  obtain ⟨t, u, v, e⟩ := I.hok p _ hp
  refine call_list_range (n := n) (I.ok.hd hc) e (small_one (by omega) (by omega) (by omega) (by omega)) (by rw [rangeSize_one]; split <;> omega) (by omega) fun h' tk acc' c' hk hS hacc => ?_
  refine ⟨.ref _, _, I.laid (t' := tk) hk (Nat.le_refl _) ?_, rfl, q _ I.fresh⟩
  obtain ⟨hsz, hit⟩ := hacc
  refine ⟨by rw [List.length_map, List.length_range]; exact Nat.le_of_lt (small1000 hn), acc'.toList, c', vals_of (by simp [hsz]) fun j x u ex eu => ?_, hS⟩
  have hj : j < n := by
    have := (List.getElem?_eq_some_iff.mp ex).1
    simpa using this
  rw [List.getElem?_map, List.getElem?_range hj] at ex
  have ex' : V.int (j : Int) = x := Option.some.inj ex
  subst ex'
  obtain ⟨t, ht⟩ := hit j u (by simpa using eu)
  exact ⟨t, by rw [ht]; congr 1; omega⟩
end
end L2

set_option Elab.async false
set_option linter.all false
set_option maxRecDepth 100000
namespace L2
open PySem PySem.Spec PyProof.Rows
section
variable {X : Cx}
/-- the ints of a row of values -/
theorem ints_of : ∀ {ns : List Int} {us : List Value}, Vals (ns.map V.int) us → ∃ xs : List (Int × Tok), us = xs.map (fun q => Value.int q.1 q.2) ∧ xs.map (·.1) = ns
  | [], us, r => by
    cases r
    exact ⟨[], rfl, rfl⟩
  | n :: ns, us, r => by
    cases r with
    | cons r1 r2 =>
      obtain ⟨t, rfl⟩ := r1
      obtain ⟨xs, rfl, e⟩ := ints_of r2
      exact ⟨(n, t) :: xs, rfl, by simp [e]⟩
def rSum : List V → Hp → VK → Prop := fun xs H Q => ∃ (p : Addr) (ns : List Int), xs = [.ref p] ∧ H p = some (.lst (ns.map V.int)) ∧ Q (.int ns.sum) H
theorem call_sum (hc : X.calm = true) : CallR X (.builtin "sum") rSum := by
  intro pins s σ H xs us Q I r h
  obtain ⟨p, ns, rfl, hp, q⟩ := h
  obtain ⟨u, rfl, ru⟩ := r.one
  cases ru
  obtain ⟨its, n, rv, e, z⟩ := I.lst hp
  obtain ⟨ys, rfl, hy⟩ := ints_of rv
  have hl : s.heap.IsList p (intItems ys.toArray) := ⟨_, e, rfl, n, by simp [intItems]⟩
  refine sum_intListG (I.ok.hd hc) hl fun h' tk t' hk => ⟨.int ns.sum, H, I.kept hk, ⟨t', ?_⟩, q⟩
  congr 1
  have hlen : ys.length = ns.length := by rw [← hy, List.length_map]
  rw [preSum_eq]
  simp [hy, hlen]
end
end L2

set_option Elab.async false
set_option linter.all false
set_option maxRecDepth 100000
namespace L2
open PySem PySem.Spec PyProof.Rows
section
variable {prog : Program} {w : World} {A : Around} {E : Value → Shared → Prop} {s : Shared}
/-- the next of a tuple's iterator, as another iterator draws it -/
theorem nextT_item {j t : Addr} {i : Nat} {its : Array Value} {v : Value} {Q : Value → Shared → Prop} (J : s.heap.IsTupleIter j t i) (T : s.heap.IsTuple t its) (e : its[i]? = some v)
    (k : ∀ h', h'.IsTupleIter j t (i + 1) → Heap.SameBut j s.heap h' → Q v { s with heap := h' }) : wpAny (model prog w) A (Builtin.SmallTypes.nextOf (.ref j)) Q E s := by
  obtain ⟨o, ho, hc, hd⟩ := id J; obtain ⟨ot, hot, _, n, hdt⟩ := T
  unfold Builtin.SmallTypes.nextOf; refine wpAny_bind (wpAny_callSpecial?_slot (name := Str.ofString "__next__") J.typeIs F.slot_tuple_iterator_next (wpAny_call_entry F.slot_tuple_iterator_next J.typeIs F.entry_tuple_iterator_next ?_ (F.args_tuple_iterator_next_1 _)))
  show wpAny _ _ (field (.ref j) 0 >>= _) _ _ s; refine wpAny_bind (wpAny_field ho hd (x := .ref t) rfl ?_)
  show wpAny _ _ (if (Value.ref t == Value.none) = true then _ else _) _ _ s; rw [if_neg (show ¬ ((Value.ref t == Value.none) = true) from Bool.false_ne_true)]
  show wpAny _ _ (field (.ref j) 1 >>= _) _ _ s; refine wpAny_bind (wpAny_field ho hd (x := .int i 0) rfl ?_)
  show wpAny _ _ (seqItems? (.ref t) >>= _) _ _ s; refine wpAny_bind (wpAny_seqItems hot hdt ?_)
  simp only [Int.toNat_natCast, e]
  refine wpAny_bind (wpAny_setField ho hd (by simp) (wpAny_pure ⟨v, rfl, wpAny_pure (k _ ?_ (Heap.SameBut.update ..))⟩))
  exact ⟨_, Heap.get?_update_self _ ho (Obj.isFreed_of_fields (Obj.data_mapFields hd _)), (Obj.cls_mapFields ..).trans hc, by rw [Obj.data_mapFields hd]; simp [rawInt]⟩
theorem nextT_end {j t : Addr} {i : Nat} {its : Array Value} {Q : Value → Shared → Prop} (hh : A.handled = none) (J : s.heap.IsTupleIter j t i) (T : s.heap.IsTuple t its) (e : its[i]? = none)
    (k : ∀ h' x, Heap.ExtBut j s.heap h' → (∃ o, h'.get? x = some o ∧ o.cls = .type "StopIteration") → E (.ref x) { s with heap := h' }) : wpAny (model prog w) A (Builtin.SmallTypes.nextOf (.ref j)) Q E s := by
  obtain ⟨o, ho, hc, hd⟩ := id J; obtain ⟨ot, hot, _, n, hdt⟩ := T
  unfold Builtin.SmallTypes.nextOf; refine wpAny_bind (wpAny_callSpecial?_slot (name := Str.ofString "__next__") J.typeIs F.slot_tuple_iterator_next (wpAny_call_entry F.slot_tuple_iterator_next J.typeIs F.entry_tuple_iterator_next ?_ (F.args_tuple_iterator_next_1 _)))
  show wpAny _ _ (field (.ref j) 0 >>= _) _ _ s; refine wpAny_bind (wpAny_field ho hd (x := .ref t) rfl ?_)
  show wpAny _ _ (if (Value.ref t == Value.none) = true then _ else _) _ _ s; rw [if_neg (show ¬ ((Value.ref t == Value.none) = true) from Bool.false_ne_true)]
  show wpAny _ _ (field (.ref j) 1 >>= _) _ _ s; refine wpAny_bind (wpAny_field ho hd (x := .int i 0) rfl ?_)
  show wpAny _ _ (seqItems? (.ref t) >>= _) _ _ s; refine wpAny_bind (wpAny_seqItems hot hdt ?_)
  simp only [Int.toNat_natCast, e]; refine wpAny_bind (wpAny_rule (wpAny_bind (wpAny_setField ho hd (by simp) ?_)))
  show wpAny _ _ (newExc (.type "StopIteration") [] >>= _) _ _ _; refine wpAny_bind ?_; simp only [newExc, newTuple]
  refine wpAny_bind (wpAny_newObj_type ?_ (by size_fits)); refine wpAny_bind (m := firstArgMember _ _) (wpAny_of_eq (a := Value.none) (by first | rfl | (simp only [firstArgMember]; rfl)) ?_)
  refine wpAny_newObj_type ?_ (by size_fits); simp only [raiseNew]; refine wpAny_bind (wpAny_handled ?_)
  (first | rw [show A.in1.handled = none from hh] | rw [hh]); refine wpAny_bind (wpAny_pure (wpAny_throw ?_)); exact k _ _ (((Heap.SameBut.update ..).extBut.push _).push _) ⟨_, Heap.get?_push_size _ rfl, rfl⟩
/-- a tuple, drawn from -/
theorem draws_tup (hh : A.handled = none) (j t : Addr) (ne : t ≠ j) (its : Array Value) : Draws prog w A j [j, t] its.size (fun i v => its[i]? = some v) (fun i h => h.IsTupleIter j t i ∧ h.IsTuple t its) where
  live := fun _ _ q => let ⟨o, e, _⟩ := q.1; ⟨o, e⟩
  frame := fun _ _ _ q hk => ⟨q.1.at fun o e => hk j (by simp) o e, let ⟨o, e, r⟩ := q.2; ⟨o, hk t (by simp) o e, r⟩⟩
  item := fun i s Q E hi q k => nextT_item q.1 q.2 (v := its[i]) (by simp [hi]) fun h' J' sb => k _ h' s.toks (by simp [hi]) ⟨J', let ⟨o, e, r⟩ := q.2; ⟨o, sb.extBut t o ne e, r⟩⟩ sb
  done := fun s Q E q k => nextT_end hh q.1 q.2 (by simp) k
end
end L2

set_option Elab.async false
set_option linter.all false
set_option maxRecDepth 100000
namespace L2
open PySem PySem.Spec PyProof.Rows
abbrev enuH (h : Heap) (t : Addr) : Heap := h.push { cls := .type "tuple_iterator", data := .fields #[.ref t, .int 0 0] }
abbrev enuH2 (h : Heap) (t : Addr) : Heap := (enuH h t).push { cls := .type "enumerate", data := .fields #[.none, .bool false, .ref h.objs.size, rawInt 0, .none, .none] }
/-- enumerate(t), t a tuple -/
theorem enu_new (t : Addr) (its : Array Value) : Meets (Builtin.«enumerate.__new__» ⟨[.type "enumerate", .ref t], []⟩) (fun _ R s => s.heap.IsTuple t its ∧ R (.ok (.ret (.ref (enuH s.heap t).objs.size))) { s with heap := enuH2 s.heap t }) :=
  .of_wp fun prog w A R s h => by
    obtain ⟨hp, g, d, tk, os⟩ := s; obtain ⟨hT, h⟩ := h
    have hsub := sub_enumerate; obtain ⟨o, ho, hc, n, hd⟩ := id hT
    have hT' : Heap.IsTuple (Shared.heap ⟨hp, g, d, tk, os⟩) t its := hT
    obtain ⟨c, dct, dt, sl⟩ := o
    replace hc : c = .type "tuple" := hc
    replace hd : dt = .seq its n := hd
    subst hc hd
    wp_walk using AutoSeq1.wpAny_loadPart' ho
    refine wpAny_stack_any fun st => wpAny_pure ?_; split
    · rename_i cl _ _ _ _ _; cases (cl == Value.type "enumerate")
      · wp_walk using AutoSeq1.wpAny_loadPart' ho, wpAny_pyIter_tuple hT'; exact ⟨_, rfl, h⟩
      · wp_walk using AutoSeq1.wpAny_loadPart' ho, wpAny_pyIter_tuple hT'; exact ⟨_, rfl, h⟩
    · wp_walk using AutoSeq1.wpAny_loadPart' ho, wpAny_pyIter_tuple hT'; exact ⟨_, rfl, h⟩
section
variable {prog : Program} {w : World} {A : Around} {E : Value → Shared → Prop} {s : Shared}
theorem call_enu {t : Addr} {its : Array Value} {Q : Value → Shared → Prop} (hT : s.heap.IsTuple t its)
    (k : ∀ h', IsEnum h' (s.heap.objs.size + 1) s.heap.objs.size 0 .none → h'.IsTupleIter s.heap.objs.size t 0 → (∀ b o, s.heap.get? b = some o → h'.get? b = some o) → Q (.ref (s.heap.objs.size + 1)) { s with heap := h' }) :
    wpAny (model prog w) A (call (.type "enumerate") [.ref t]) Q E s := by
  refine callType_new F.called_enumerate (by decide) (F.typeCall_enumerate_1 _) (F.newCall_enumerate_1 _) (fun obj => F.args_object_init_2 obj _) F.entry_enumerate_new (enu_new t its) ⟨hT, ?_⟩
  have z1 : (enuH s.heap t).objs.size = s.heap.objs.size + 1 := Heap.size_push ..
  have he := Heap.get?_push_size (enuH s.heap t) (o := { cls := .type "enumerate", data := .fields #[.none, .bool false, .ref s.heap.objs.size, rawInt 0, .none, .none] }) rfl
  show _ ∧ _
  rw [z1] at he ⊢
  exact ⟨⟨_, he, rfl⟩, k _ he ⟨_, Heap.get?_push_of_some _ (Heap.get?_push_size _ rfl), rfl, rfl⟩ fun b o x => Heap.get?_push_of_some _ (Heap.get?_push_of_some _ x)⟩
end
end L2
namespace L2
open PySem PySem.Spec PyProof.Rows
section
variable {X : Cx} {pins : List (Addr × Obj)} {σ : St} {H : Hp} {s : Shared}
/-- records of ours have turned, and a new tuple is laid -/
theorem Inv.turnNew {h' : Heap} {tk : Nat} {ch : List Addr} {T : Addr} {xs : List V} {vals : List Value} (I : Inv X pins σ H s) (hf : ∀ b ∈ ch, FpOk X pins H b) (k : ∀ b o, b ∉ ch → s.heap.get? b = some o → h'.get? b = some o) (ht : ∀ b ∈ ch, ∃ o, h'.get? b = some o)
    (hT : s.heap.objs.size ≤ T) (r : Vals xs vals) (hz : xs.length ≤ sizeLine) (hv : h'.IsTuple T vals.toArray) : Inv X pins σ (upd H T (.tup xs)) { s with heap := h', toks := tk } := by
  have hn : H T = none := I.hok.fresh hT
  have nT : ∀ b o, s.heap.get? b = some o → b ≠ T := fun b o e z => absurd (Nat.lt_of_lt_of_le (Heap.lt_size e) (z ▸ hT)) (Nat.lt_irrefl _)
  have nc : ∀ b u, H b = some u → b ∉ ch := fun b u e z => by rw [(hf b z).1] at e; cases e
  refine I.step (g' := s.gens) (d' := s.drawn) (ch := ch) (fun b hb => ⟨(hf b hb).2.2.2.1, (hf b hb).2.1, (hf b hb).2.2.2.2.1, (hf b hb).2.2.2.2.2⟩) (fun b o _ _ hc e _ => k b o hc e) (fun b o _ _ hc e _ => ⟨o.slots, k b o hc e⟩)
    (fun b o _ e n => by rw [upd_ne (nT b o e)]; exact n) (fun b o hc e => ⟨o, k b o hc e⟩) (fun b ys e => by rw [upd_ne (ne_of_none e hn)]; exact e) (fun b o u e => by rw [upd_ne (ne_of_none e hn)]; exact e)
    (fun b ps e => ⟨#[], by rw [upd_ne (ne_of_none e hn), e]; simp⟩) (fun m hm => ?_) (fun b u e => ?_) I.bare
  · obtain ⟨o, es, ep, ho, q⟩ := hm
    exact ⟨o, es, ep, k _ o (fun z => (hf _ z).2.1 rfl) ho, q⟩
  · by_cases hb : b = T
    · subst hb
      rw [upd_same] at e
      cases e
      exact ⟨hz, vals, r, hv⟩
    · rw [upd_ne hb] at e
      refine (I.hok b u e).stay (fun c v hc q => k c v ?_ q) (fun c q => by rw [upd_ne (ne_of_none q hn)]; exact q) fun c ys q => by rw [upd_ne (ne_of_none q hn)]; exact q
      rcases hc with z | z
      · rw [z]; exact nc b u e
      · exact nc c _ z
/-- records of ours have turned -/
theorem Inv.turnOnly {h' : Heap} {tk : Nat} {ch : List Addr} (I : Inv X pins σ H s) (hf : ∀ b ∈ ch, FpOk X pins H b) (k : ∀ b o, b ∉ ch → s.heap.get? b = some o → h'.get? b = some o) : Inv X pins σ H { s with heap := h', toks := tk } := by
  have nc : ∀ b u, H b = some u → b ∉ ch := fun b u e z => by rw [(hf b z).1] at e; cases e
  refine I.step (g' := s.gens) (d' := s.drawn) (ch := ch) (fun b hb => ⟨(hf b hb).2.2.2.1, (hf b hb).2.1, (hf b hb).2.2.2.2.1, (hf b hb).2.2.2.2.2⟩) (fun b o _ _ hc e _ => k b o hc e) (fun b o _ _ hc e _ => ⟨o.slots, k b o hc e⟩)
    (fun b o _ e n => n) (fun b o hc e => ⟨o, k b o hc e⟩) (fun b ys e => e) (fun b o u e => e) (fun b ps e => ⟨#[], by rw [e]; simp⟩) (fun m hm => ?_) (fun b u e => ?_) I.bare
  · obtain ⟨o, es, ep, ho, q⟩ := hm
    exact ⟨o, es, ep, k _ o (fun z => (hf _ z).2.1 rfl) ho, q⟩
  · refine (I.hok b u e).stay (fun c v hc q => k c v ?_ q) (fun c q => q) fun c ys q => q
    rcases hc with z | z
    · rw [z]; exact nc b u e
    · exact nc c _ z
end
/-- enumerate over the tuple at a -/
def Ite (K : PySem.W.Frag) (a : Addr) : It :=
  ⟨fun i H => ∃ xs x, SqT K H a xs ∧ xs[i]? = some x, fun i H v H' => ∃ p x, v = .ref p ∧ H p = none ∧ H' = upd H p (.tup [.int (i : Int), x]) ∧ ∀ xs, SqT K H a xs → xs[i]? = some x, fun i H => ∃ xs, SqT K H a xs ∧ xs.length = i⟩
theorem turn_enu {P : Program} {w : World} {K : PySem.W.Frag} {es : List Expr} {kt : Nat} {pt : Pos} (a e it : Addr) (hei : e ≠ it) (hai : a ≠ it) (hae : a ≠ e) :
    Turn P w K (.Tuple es kt pt) (Ite K a) [e, it] e (fun i h => (∃ old, IsEnum h e it i old) ∧ h.IsTupleIter it a i) where
  mem := by simp
  obj := fun i h st b hb => by
    obtain ⟨⟨old, he⟩, o, eo, c, d⟩ := st
    rcases List.mem_cons.mp hb with rfl | hq
    · exact ⟨_, he, fun v z => by have z' : Data.fields _ = Data.cell v := z; cases z'⟩
    · rw [List.mem_singleton.mp hq]; exact ⟨o, eo, fun v z => by rw [d] at z; cases z⟩
  keep := fun i h h' st k => ⟨let ⟨old, he⟩ := st.1; ⟨old, k e (by simp) _ he⟩, st.2.at fun o x => k it (by simp) o x⟩
  item := by
    intro X hP hw hK hc i pins s σ H E I hf st hg
    subst hP hw hK
    obtain ⟨xs, x, hq, hx⟩ := hg
    obtain ⟨its, rv, p, hz⟩ := I.tuple hq
    obtain ⟨u, hu, ru⟩ := rv.get hx
    have W := WalksT.enumerateD (draws_tup (prog := X.prog) (w := X.w) (A := X.A.in1) (I.ok.hd hc) it a hai its.toArray) e hei (by simp [hei, Ne.symm hae]) (by simp)
    have hi : i < its.toArray.size := by
      have := (List.getElem?_eq_some_iff.mp hu).1
      simpa using this
    refine W.item i s _ E hi ⟨st.1, st.2, p⟩ fun T vals h' tk hP hsz hT hM hk => ⟨.ref T, rfl, ?_⟩
    obtain ⟨t, x', hx', rfl⟩ := hP
    have ex : x' = u := by
      have : its[i]? = some x' := by simpa using hx'
      rw [this] at hu
      exact Option.some.inj hu
    subst ex
    refine W.go es kt pt i T { s with heap := h', toks := tk } _ E hM fun h'' hst hk2 => ?_
    obtain ⟨⟨old2, he2⟩, hit2, _⟩ := hst
    have hTw := W.apart i T h' hM
    obtain ⟨oT, eT, cT⟩ := hT
    have I2 : Inv X pins σ (upd H T (.tup [.int (i : Int), x])) { s with heap := h'', toks := tk } := I.turnNew (ch := [e, it]) hf (fun b o hb q => hk2 b o hb (hk b o hb q)) (fun b hb => by
      rcases List.mem_cons.mp hb with rfl | hq
      · exact ⟨_, he2⟩
      · rw [List.mem_singleton.mp hq]; obtain ⟨o, eo, _⟩ := hit2; exact ⟨o, eo⟩) hsz (vals := [.int i t, x']) (.cons ⟨t, rfl⟩ (.cons ru .nil)) (by show 2 ≤ sizeLine; decide) ⟨oT, hk2 T oT hTw eT, cT⟩
    refine ⟨.ref T, _, I2, rfl, ⟨T, x, rfl, I.hok.fresh hsz, rfl, fun ys hy => by rw [I.tuple_inj hy hq]; exact hx⟩, ⟨⟨old2, he2⟩, hit2⟩, fun b hb => ?_⟩
    rw [upd_ne (fun z => hTw (by rw [← z]; exact hb))]
    exact (hf b hb).1
  done := by
    intro X hP hw hK hc i pins s σ H E I hf st hg
    subst hP hw hK
    obtain ⟨xs, hq, hx⟩ := hg
    obtain ⟨its, rv, p, hz⟩ := I.tuple hq
    have hl := rv.length
    have W := WalksT.enumerateD (draws_tup (prog := X.prog) (w := X.w) (A := X.A.in1) (I.ok.hd hc) it a hai its.toArray) e hei (by simp [hei, Ne.symm hae]) (by simp)
    have ei : i = its.toArray.size := by rw [List.size_toArray]; omega
    subst ei
    exact W.done s _ E ⟨st.1, st.2, p⟩ fun h' tk hk => ⟨rfl, I.turnOnly hf hk⟩
  self := fun _ _ s _ _ st h => by
    obtain ⟨⟨old, he⟩, _⟩ := st
    exact wpAny_pyIter_enum he h

section
variable {X : Cx} {es : List Expr} {kt : Nat} {pt : Pos}
def iEnu (K : PySem.W.Frag) (ta : TA) : TI := fun σ H R => ta σ H fun vs H1 => ∃ a, vs = [.ref a] ∧ (∃ xs, SqT K H1 a xs) ∧ R (Ite K a) H1
/-- for a, b in enumerate(t), t a tuple -/
theorem pi_enu {e : Expr} {ta : TA} {p pos : Pos} (hm : X.mg "enumerate" = none) (ha : PA X [e] ta) (hg : Gl X "enumerate" := by rfl) (h : isStar e = false := by rfl) : PI X (.Tuple es kt pt) (.Call (.Name "enumerate" p) [e] [] pos) (iEnu X.K ta) := by
  intro pins s σ H R I hh
  refine Call_ (ld_blt I hg hm boot_enumerate (PyProof.Rows.callWith_type1 (thn (ha pos pins s σ H _ I hh) fun us s1 ⟨vs, H1, I1, r1, q1⟩ => ?_) (star1 h) rfl))
  obtain ⟨a, rfl, ⟨xs, hq⟩, q⟩ := q1
  obtain ⟨u, rfl, ru⟩ := r1.one
  cases ru
  obtain ⟨its, rv, pl, hz⟩ := I1.tuple hq
  have hlt : a < s1.heap.objs.size := by
    obtain ⟨o, eo, _⟩ := pl
    exact Heap.lt_size eo
  refine call_enu (its := its.toArray) pl fun h' he hi hk => wpAny_pyIter_enum he ?_
  refine ⟨_, [s1.heap.objs.size + 1, s1.heap.objs.size], _, _, H1, rfl, I1.kept (t' := s1.toks) hk, turn_enu a (s1.heap.objs.size + 1) s1.heap.objs.size (Nat.succ_ne_self _) (Nat.ne_of_lt hlt) (Nat.ne_of_lt (Nat.lt_of_lt_of_le hlt (Nat.le_succ _))), ⟨⟨_, he⟩, hi⟩, fun b hb => ?_, q⟩
  have hb' : s1.heap.objs.size ≤ b := by
    rcases List.mem_cons.mp hb with z | z
    · rw [z]; exact Nat.le_succ _
    · rw [List.mem_singleton.mp z]
      exact Nat.le_refl _
  exact I1.fpOk hb' (I1.hok.fresh hb')
end
end L2

set_option Elab.async false
set_option linter.all false
set_option maxRecDepth 100000
namespace L2
open PySem PySem.Spec PyProof.Rows
section
variable {prog : Program} {w : World} {A : Around} {E : Value → Shared → Prop} {s : Shared}
theorem tupX {h h' : Heap} {t a : Addr} {its : Array Value} (T : h.IsTuple t its) (x : Heap.ExtBut a h h') (n : t ≠ a) : h'.IsTuple t its := let ⟨o, e, r⟩ := T; ⟨o, x t o n e, r⟩
theorem tupJ {h h' : Heap} {j t a : Addr} {i : Nat} (J : h.IsTupleIter j t i) (x : Heap.ExtBut a h h') (n : j ≠ a) : h'.IsTupleIter j t i := J.at fun o e => x j o n e
/-- a zip of two tuples yields -/
theorem zipT_item {z TI TO i1 i2 l1 l2 : Addr} {k1 k2 : Nat} {xs ys : Array Value} {x y a b : Value} {Q : Value → Shared → Prop} (D : ZipApart z TI TO i1 i2 l1 l2) (hz : IsZip s.heap z TI TO .none) (hTI : IsPair s.heap TI (.ref i1) (.ref i2)) (hTO : IsPair s.heap TO a b)
    (h1 : s.heap.IsTupleIter i1 l1 k1) (h2 : s.heap.IsTupleIter i2 l2 k2) (hl1 : s.heap.IsTuple l1 xs) (hl2 : s.heap.IsTuple l2 ys) (hx : xs[k1]? = some x) (hy : ys[k2]? = some y)
    (hQ : ∀ h', IsZip h' z TI TO (rawInt s.heap.objs.size) → IsPair h' TO x y → h'.IsTupleIter i1 l1 (k1 + 1) → h'.IsTupleIter i2 l2 (k2 + 1) → IsPair h' s.heap.objs.size x y →
      (∀ d o, d ≠ z → d ≠ TO → d ≠ i1 → d ≠ i2 → s.heap.get? d = some o → h'.get? d = some o) → Q (.ref s.heap.objs.size) { s with heap := h' }) :
    wpAny (model prog w) A (Builtin.«zip.__next__» ⟨[.ref z], []⟩) (fun f s' => ∃ v, f = .done (.ret v) ∧ Q v s') E s := by
  show wpAny _ _ (field (.ref z) 2 >>= _) _ _ _; refine wpAny_bind (wpAny_field hz rfl (x := .bool false) rfl ?_)
  show wpAny _ _ (field (.ref z) 3 >>= _) _ _ _; refine wpAny_bind (wpAny_field hz rfl (x := .ref TI) rfl ?_)
  refine wpAny_bind (wpAny_seqItems hTI rfl ?_); show wpAny _ _ (Builtin.SmallTypes.ownedTupleIsFree (.ref z) >>= _) _ _ _
  refine wpAny_bind ?_; unfold Builtin.SmallTypes.ownedTupleIsFree
  refine wpAny_bind (wpAny_field hz rfl (x := .none) rfl (wpAny_pure ?_)); simp only [if_true]
  refine wpAny_bind (wpAny_rule ?_); refine wpAny_bind (wpAny_field hz rfl (x := .ref TO) rfl ?_)
  refine wpAny_bind (wpAny_setField_rec hz (by simp) fun g1 zz1 s1 => ?_); replace zz1 : IsZip g1 z TI TO .ellipsis := zz1
  refine wpAny_bind ?_; simp only [List.zipIdx_cons, List.zipIdx_nil, List.forIn_cons, List.forIn_nil]
  refine wpAny_bind (wpAny_bind (wpAny_onRaise ?_)); show wpAny _ _ (Builtin.SmallTypes.nextOf (.ref i1) >>= _) _ _ _
  refine wpAny_bind (nextT_item (tupJ h1 s1.extBut D.i1z) (tupX hl1 s1.extBut D.l1z) hx fun g2 j2 s2 => wpAny_pure ?_)
  have o2 : IsPair g2 TO a b := s2.extBut _ _ D.TOi1 (s1.extBut _ _ D.TOz hTO)
  refine wpAny_bind (wpAny_seqItems o2 rfl ?_); refine wpAny_bind (wpAny_updateSeq_pair o2 fun g3 o3 s3 => ?_); replace o3 : IsPair g3 TO x b := o3
  refine wpAny_bind (wpAny_letGo (wpAny_pure ?_)); refine wpAny_bind (wpAny_bind (wpAny_onRaise ?_)); show wpAny _ _ (Builtin.SmallTypes.nextOf (.ref i2) >>= _) _ _ _
  refine wpAny_bind (nextT_item (tupJ (tupJ (tupJ h2 s1.extBut D.i2z) s2.extBut D.i12.symm) s3.extBut D.TOi2.symm) (tupX (tupX (tupX hl2 s1.extBut D.l2z) s2.extBut D.l2i1) s3.extBut D.l2TO) hy fun g4 j4 s4 => wpAny_pure ?_)
  have o4 : IsPair g4 TO x b := s4.extBut _ _ D.TOi2 o3
  refine wpAny_bind (wpAny_seqItems o4 rfl ?_); refine wpAny_bind (wpAny_updateSeq_pair o4 fun g5 o5 s5 => ?_); replace o5 : IsPair g5 TO x y := o5
  refine wpAny_bind (wpAny_letGo (wpAny_pure (wpAny_pure ?_))); refine wpAny_bind (wpAny_seqItems o5 rfl ?_); refine wpAny_bind (wpAny_newTuple ?_)
  have sz : g5.objs.size = s.heap.objs.size := by rw [s5.1, s4.1, s3.1, s2.1, s1.1]
  have z5 : IsZip g5 z TI TO .ellipsis := s5.extBut _ _ D.TOz.symm (s4.extBut _ _ D.i2z.symm (s3.extBut _ _ D.TOz.symm (s2.extBut _ _ D.i1z.symm zz1)))
  have k5 : ∀ c o, c ≠ z → c ≠ TO → c ≠ i1 → c ≠ i2 → s.heap.get? c = some o → g5.get? c = some o := fun c o c1 c2 c3 c4 q => s5.extBut _ _ c2 (s4.extBut _ _ c4 (s3.extBut _ _ c2 (s2.extBut _ _ c3 (s1.extBut _ _ c1 q))))
  have a5 : g5.IsTupleIter i1 l1 (k1 + 1) := tupJ (tupJ (tupJ j2 s3.extBut D.TOi1.symm) s4.extBut D.i12) s5.extBut D.TOi1.symm
  have b5 : g5.IsTupleIter i2 l2 (k2 + 1) := tupJ j4 s5.extBut D.TOi2.symm
  have zlt : z < g5.objs.size := Heap.lt_size z5
  show wpAny _ _ (Builtin.SmallTypes.ownedTupleHandOut (.ref z) (.ref g5.objs.size) >>= _) _ _ _; refine wpAny_bind ?_; unfold Builtin.SmallTypes.ownedTupleHandOut
  have z6 : IsZip (g5.push { cls := .type "tuple", data := .seq #[x, y] }) z TI TO .ellipsis := Heap.get?_push_of_some _ z5
  refine wpAny_bind (wpAny_setField_rec z6 (by simp) fun g7 z7 s7 => ?_); replace z7 : IsZip g7 z TI TO (rawInt g5.objs.size) := z7
  refine wpAny_setField_rec z7 (by simp) fun g8 z8 s8 => ?_; replace z8 : IsZip g8 z TI TO (rawInt g5.objs.size) := z8
  have up : ∀ c o, c ≠ z → g5.get? c = some o → g8.get? c = some o := fun c o c1 q => s8.extBut _ _ c1 (s7.extBut _ _ c1 (Heap.get?_push_of_some _ q))
  have t8 : IsPair g8 g5.objs.size x y := s8.extBut _ _ (Nat.ne_of_gt zlt) (s7.extBut _ _ (Nat.ne_of_gt zlt) (Heap.get?_push_size _ rfl))
  rw [sz] at z8 t8; refine wpAny_pure ⟨_, rfl, ?_⟩; show Q (.ref g5.objs.size) _; rw [sz]
  exact hQ g8 z8 (up _ _ D.TOz o5) (a5.at fun o q => up _ o D.i1z q) (b5.at fun o q => up _ o D.i2z q) t8 fun c o c1 c2 c3 c4 q => up c o c1 (k5 c o c1 c2 c3 c4 q)
/-- .. and ends -/
theorem zipT_end {z TI TO i1 i2 l1 l2 : Addr} {k1 k2 : Nat} {xs ys : Array Value} {a b : Value} {Q : Fin → Shared → Prop} (hh : A.handled = none) (D : ZipApart z TI TO i1 i2 l1 l2) (hz : IsZip s.heap z TI TO .none) (hTI : IsPair s.heap TI (.ref i1) (.ref i2)) (hTO : IsPair s.heap TO a b)
    (h1 : s.heap.IsTupleIter i1 l1 k1) (h2 : s.heap.IsTupleIter i2 l2 k2) (hl1 : s.heap.IsTuple l1 xs) (hl2 : s.heap.IsTuple l2 ys) (hend : xs[k1]? = none ∨ ys[k2]? = none)
    (hE : ∀ h' e, (∀ d o, d ≠ z → d ≠ TO → d ≠ i1 → d ≠ i2 → s.heap.get? d = some o → h'.get? d = some o) → (∃ o, h'.get? e = some o ∧ o.cls = .type "StopIteration") → E (.ref e) { s with heap := h' }) : wpAny (model prog w) A (Builtin.«zip.__next__» ⟨[.ref z], []⟩) Q E s := by
  show wpAny _ _ (field (.ref z) 2 >>= _) _ _ _; refine wpAny_bind (wpAny_field hz rfl (x := .bool false) rfl ?_)
  show wpAny _ _ (field (.ref z) 3 >>= _) _ _ _; refine wpAny_bind (wpAny_field hz rfl (x := .ref TI) rfl ?_)
  refine wpAny_bind (wpAny_seqItems hTI rfl ?_); show wpAny _ _ (Builtin.SmallTypes.ownedTupleIsFree (.ref z) >>= _) _ _ _
  refine wpAny_bind ?_; unfold Builtin.SmallTypes.ownedTupleIsFree
  refine wpAny_bind (wpAny_field hz rfl (x := .none) rfl (wpAny_pure ?_)); simp only [if_true]
  refine wpAny_bind (wpAny_rule ?_); refine wpAny_bind (wpAny_field hz rfl (x := .ref TO) rfl ?_)
  refine wpAny_bind (wpAny_setField_rec hz (by simp) fun g1 zz1 s1 => ?_); replace zz1 : IsZip g1 z TI TO .ellipsis := zz1
  refine wpAny_bind ?_; simp only [List.zipIdx_cons, List.zipIdx_nil, List.forIn_cons, List.forIn_nil]
  refine wpAny_bind (wpAny_bind (wpAny_onRaise ?_)); show wpAny _ _ (Builtin.SmallTypes.nextOf (.ref i1) >>= _) _ _ _
  cases hx : xs[k1]? with
  | none =>
    refine wpAny_bind (nextT_end hh (tupJ h1 s1.extBut D.i1z) (tupX hl1 s1.extBut D.l1z) hx fun g2 e s2 he => ?_)
    obtain ⟨oe, hoe, hce⟩ := he; have z2 : IsZip g2 z TI TO .ellipsis := s2 _ _ D.i1z.symm zz1
    have ez : e ≠ z := fun q => by subst q; rw [z2] at hoe; cases hoe; simp at hce
    refine wpAny_setField_rec z2 (by simp) fun g3 _ s3 => hE g3 e (fun c o c1 _ c3 _ q => s3.extBut _ _ c1 (s2 _ _ c3 (s1.extBut _ _ c1 q))) ⟨oe, s3.extBut _ _ ez hoe, hce⟩
  | some x =>
    have hy : ys[k2]? = none := by rcases hend with q | q; rw [hx] at q; cases q; exact q
    refine wpAny_bind (nextT_item (tupJ h1 s1.extBut D.i1z) (tupX hl1 s1.extBut D.l1z) hx fun g2 j2 s2 => wpAny_pure ?_)
    have o2 : IsPair g2 TO a b := s2.extBut _ _ D.TOi1 (s1.extBut _ _ D.TOz hTO)
    refine wpAny_bind (wpAny_seqItems o2 rfl ?_); refine wpAny_bind (wpAny_updateSeq_pair o2 fun g3 o3 s3 => ?_); refine wpAny_bind (wpAny_letGo (wpAny_pure ?_))
    refine wpAny_bind (wpAny_bind (wpAny_onRaise ?_)); show wpAny _ _ (Builtin.SmallTypes.nextOf (.ref i2) >>= _) _ _ _
    refine wpAny_bind (nextT_end hh (tupJ (tupJ (tupJ h2 s1.extBut D.i2z) s2.extBut D.i12.symm) s3.extBut D.TOi2.symm) (tupX (tupX (tupX hl2 s1.extBut D.l2z) s2.extBut D.l2i1) s3.extBut D.l2TO) hy fun g4 e s4 he => ?_)
    obtain ⟨oe, hoe, hce⟩ := he; have z4 : IsZip g4 z TI TO .ellipsis := s4 _ _ D.i2z.symm (s3.extBut _ _ D.TOz.symm (s2.extBut _ _ D.i1z.symm zz1))
    have ez : e ≠ z := fun q => by subst q; rw [z4] at hoe; cases hoe; simp at hce
    refine wpAny_setField_rec z4 (by simp) fun g5 _ s5 => hE g5 e (fun c o c1 c2 c3 c4 q => s5.extBut _ _ c1 (s4 _ _ c4 (s3.extBut _ _ c2 (s2.extBut _ _ c3 (s1.extBut _ _ c1 q))))) ⟨oe, s5.extBut _ _ ez hoe, hce⟩
end
end L2
namespace L2
open PySem PySem.Spec PyProof.Rows
abbrev zpH1 (h : Heap) (a : Addr) : Heap := h.push { cls := .type "tuple_iterator", data := .fields #[.ref a, .int 0 0] }
abbrev zpH2 (h : Heap) (a b : Addr) : Heap := (zpH1 h a).push { cls := .type "tuple_iterator", data := .fields #[.ref b, .int 0 0] }
abbrev zpH3 (h : Heap) (a b : Addr) : Heap := (zpH2 h a b).push { cls := .type "tuple", data := .seq #[.ref h.objs.size, .ref (zpH1 h a).objs.size] }
abbrev zpH4 (h : Heap) (a b : Addr) : Heap := (zpH3 h a b).push { cls := .type "tuple", data := .seq #[.none, .none] }
abbrev zpH5 (h : Heap) (a b : Addr) : Heap := (zpH4 h a b).push { cls := .type "zip", data := .fields #[.none, .bool false, .bool false, .ref (zpH2 h a b).objs.size, .ref (zpH3 h a b).objs.size] }
/-- zip(a, b), both tuples -/
theorem zp_new (a b : Addr) (xs ys : Array Value) : Meets (Builtin.«zip.__new__» ⟨[.type "zip", .ref a, .ref b], []⟩) (fun _ R s => s.heap.IsTuple a xs ∧ s.heap.IsTuple b ys ∧ R (.ok (.ret (.ref (zpH4 s.heap a b).objs.size))) { s with heap := zpH5 s.heap a b }) :=
  .of_wp fun prog w A R s h => by
    obtain ⟨hp, g, d, tk, os⟩ := s; obtain ⟨hA, hB, h⟩ := h; have hsub := sub_zip
    have tA : Heap.IsTuple (Shared.heap ⟨hp, g, d, tk, os⟩) a xs := hA
    have tB : Heap.IsTuple (Shared.heap ⟨hp.push { cls := .type "tuple_iterator", data := .fields #[.ref a, .int 0 0] }, g, d, tk, os⟩) b ys := let ⟨o, e, r⟩ := hB; ⟨o, Heap.get?_push_of_some _ e, r⟩
    wp_walk using wpAny_pyIter_tuple tA, wpAny_pyIter_tuple tB
    exact ⟨_, rfl, h⟩
section
variable {prog : Program} {w : World} {A : Around} {E : Value → Shared → Prop} {s : Shared}
theorem call_zp {a b : Addr} {xs ys : Array Value} {Q : Value → Shared → Prop} (hA : s.heap.IsTuple a xs) (hB : s.heap.IsTuple b ys)
    (k : ∀ h', IsZip h' (s.heap.objs.size + 4) (s.heap.objs.size + 2) (s.heap.objs.size + 3) .none → IsPair h' (s.heap.objs.size + 2) (.ref s.heap.objs.size) (.ref (s.heap.objs.size + 1)) → IsPair h' (s.heap.objs.size + 3) .none .none →
      h'.IsTupleIter s.heap.objs.size a 0 → h'.IsTupleIter (s.heap.objs.size + 1) b 0 → (∀ c o, s.heap.get? c = some o → h'.get? c = some o) → Q (.ref (s.heap.objs.size + 4)) { s with heap := h' }) :
    wpAny (model prog w) A (call (.type "zip") [.ref a, .ref b]) Q E s := by
  refine callType_new F.called_zip (by decide) (F.typeCall_zip_2 _ _) (F.newCall_zip_2 _ _) (fun obj => F.args_object_init_3 obj _ _) F.entry_zip_new (zp_new a b xs ys) ⟨hA, hB, ?_⟩
  have z1 : (zpH1 s.heap a).objs.size = s.heap.objs.size + 1 := Heap.size_push ..
  have z2 : (zpH2 s.heap a b).objs.size = s.heap.objs.size + 2 := by rw [Heap.size_push, z1]
  have z3 : (zpH3 s.heap a b).objs.size = s.heap.objs.size + 3 := by rw [Heap.size_push, z2]
  have z4 : (zpH4 s.heap a b).objs.size = s.heap.objs.size + 4 := by rw [Heap.size_push, z3]
  have g5 : (zpH5 s.heap a b).get? (zpH4 s.heap a b).objs.size = some _ := Heap.get?_push_size _ rfl
  have g4 : (zpH5 s.heap a b).get? (zpH3 s.heap a b).objs.size = some _ := Heap.get?_push_of_some _ (Heap.get?_push_size _ rfl)
  have g3 : (zpH5 s.heap a b).get? (zpH2 s.heap a b).objs.size = some _ := Heap.get?_push_of_some _ (Heap.get?_push_of_some _ (Heap.get?_push_size _ rfl))
  have g2 : (zpH5 s.heap a b).get? (zpH1 s.heap a).objs.size = some _ := Heap.get?_push_of_some _ (Heap.get?_push_of_some _ (Heap.get?_push_of_some _ (Heap.get?_push_size _ rfl)))
  have g1 : (zpH5 s.heap a b).get? s.heap.objs.size = some _ := Heap.get?_push_of_some _ (Heap.get?_push_of_some _ (Heap.get?_push_of_some _ (Heap.get?_push_of_some _ (Heap.get?_push_size _ rfl))))
  show _ ∧ _
  rw [z2, z3, z4] at g5; rw [z1, z2] at g3; rw [z3] at g4; rw [z1] at g2
  have kk : ∀ c o, s.heap.get? c = some o → (zpH5 s.heap a b).get? c = some o := fun c o q => Heap.get?_push_of_some _ (Heap.get?_push_of_some _ (Heap.get?_push_of_some _ (Heap.get?_push_of_some _ (Heap.get?_push_of_some _ q))))
  rw [z4]
  exact ⟨⟨_, g5, rfl⟩, k _ g5 g3 g4 ⟨_, g1, rfl, rfl⟩ ⟨_, g2, rfl, rfl⟩ kk⟩
end
end L2

set_option Elab.async false
set_option linter.all false
set_option maxRecDepth 100000
namespace L2
open PySem PySem.Spec PyProof.Rows
/-- zip over the tuples at a and b -/
def Itz (K : PySem.W.Frag) (a b : Addr) : It :=
  ⟨fun i H => ∃ xs ys x y, SqT K H a xs ∧ SqT K H b ys ∧ xs[i]? = some x ∧ ys[i]? = some y, fun i H v H' => ∃ p x y, v = .ref p ∧ H p = none ∧ H' = upd H p (.tup [x, y]) ∧ (∀ xs, SqT K H a xs → xs[i]? = some x) ∧ ∀ ys, SqT K H b ys → ys[i]? = some y,
    fun i H => ∃ xs ys, SqT K H a xs ∧ SqT K H b ys ∧ (xs.length ≤ i ∨ ys.length ≤ i)⟩
theorem turn_zp {P : Program} {w : World} {K : PySem.W.Frag} {es : List Expr} {kt : Nat} {pt : Pos} (a b z TI TO i1 i2 : Addr) (D : ZipApart z TI TO i1 i2 a b) :
    Turn P w K (.Tuple es kt pt) (Itz K a b) [z, TI, TO, i1, i2] z (fun i h => IsZip h z TI TO .none ∧ IsPair h TI (.ref i1) (.ref i2) ∧ (∃ u v, IsPair h TO u v) ∧ h.IsTupleIter i1 a i ∧ h.IsTupleIter i2 b i) where
  mem := by simp
  obj := fun i h st q hq => by
    obtain ⟨hz, hI, ⟨u, v, hO⟩, ⟨o1, e1, c1, d1⟩, ⟨o2, e2, c2, d2⟩⟩ := st
    simp only [List.mem_cons, List.not_mem_nil, or_false] at hq
    rcases hq with rfl | rfl | rfl | rfl | rfl
    · exact ⟨_, hz, fun v y => by have y' : Data.fields _ = Data.cell v := y; cases y'⟩
    · exact ⟨_, hI, fun v y => by have y' : Data.seq _ _ = Data.cell v := y; cases y'⟩
    · exact ⟨_, hO, fun v y => by have y' : Data.seq _ _ = Data.cell v := y; cases y'⟩
    · exact ⟨o1, e1, fun v y => by rw [d1] at y; cases y⟩
    · exact ⟨o2, e2, fun v y => by rw [d2] at y; cases y⟩
  keep := fun i h h' st k => ⟨k z (by simp) _ st.1, k TI (by simp) _ st.2.1, let ⟨u, v, q⟩ := st.2.2.1; ⟨u, v, k TO (by simp) _ q⟩, st.2.2.2.1.at fun o x => k i1 (by simp) o x, st.2.2.2.2.at fun o x => k i2 (by simp) o x⟩
  item := by
    intro X hP hw hK hc i pins s σ H E I hf st hg
    subst hP hw hK
    obtain ⟨xs, ys, x, y, hqa, hqb, hx, hy⟩ := hg
    obtain ⟨ia, rva, pa, za⟩ := I.tuple hqa
    obtain ⟨ib, rvb, pb, zb⟩ := I.tuple hqb
    obtain ⟨u, hu, ru⟩ := rva.get hx
    obtain ⟨v, hv, rv⟩ := rvb.get hy
    obtain ⟨hz, hI, ⟨ou, ov, hO⟩, h1, h2⟩ := st
    have hT : s.TypeIs (.ref z) "zip" := ⟨_, hz, rfl⟩; unfold pyNext
    refine wpAny_bind (wpAny_attempt (wpAny_callSpecial?_slot (name := Str.ofString "__next__") hT F.slot_zip_next (wpAny_call_entry F.slot_zip_next hT F.entry_zip_next
      (zipT_item D hz hI hO h1 h2 pa pb (x := u) (y := v) (by simpa using hu) (by simpa using hv) fun h' z' o' a' b' t' k' => wpAny_pure ?_) (F.args_zip_next_1 _))))
    refine ⟨_, rfl, wpAny_letOwnedTupleGo_zip z' fun h'' z'' sb => ?_⟩
    have nz : s.heap.objs.size ≠ z := Nat.ne_of_gt (Heap.lt_size hz)
    have nTO : s.heap.objs.size ≠ TO := Nat.ne_of_gt (Heap.lt_size hO)
    have nTI : s.heap.objs.size ≠ TI := Nat.ne_of_gt (Heap.lt_size hI)
    have n1 : s.heap.objs.size ≠ i1 := by obtain ⟨o, e, _⟩ := h1; exact Nat.ne_of_gt (Heap.lt_size e)
    have n2 : s.heap.objs.size ≠ i2 := by obtain ⟨o, e, _⟩ := h2; exact Nat.ne_of_gt (Heap.lt_size e)
    have up : ∀ q o, q ≠ z → h'.get? q = some o → h''.get? q = some o := fun q o hq e => (sb.2 q hq).trans e
    have hI'' : IsPair h'' TI (.ref i1) (.ref i2) := up _ _ D.TIz (k' TI _ D.TIz D.TITO D.TIi1 D.TIi2 hI)
    have I2 : Inv X pins σ (upd H s.heap.objs.size (.tup [x, y])) { s with heap := h'', toks := s.toks } := I.turnNew (ch := [z, TI, TO, i1, i2]) hf (fun q o hq e => by
      simp only [List.mem_cons, List.not_mem_nil, or_false, not_or] at hq
      exact up q o hq.1 (k' q o hq.1 hq.2.2.1 hq.2.2.2.1 hq.2.2.2.2 e)) (fun q hq => by
      simp only [List.mem_cons, List.not_mem_nil, or_false] at hq
      rcases hq with rfl | rfl | rfl | rfl | rfl
      · exact ⟨_, z''⟩
      · exact ⟨_, hI''⟩
      · exact ⟨_, up _ _ D.TOz o'⟩
      · obtain ⟨o, e, _⟩ := a'; exact ⟨o, up _ o D.i1z e⟩
      · obtain ⟨o, e, _⟩ := b'; exact ⟨o, up _ o D.i2z e⟩) (Nat.le_refl _) (vals := [u, v]) (.cons ru (.cons rv .nil)) (by show 2 ≤ sizeLine; decide) ⟨_, up _ _ nz t', rfl, _, rfl⟩
    refine ⟨.ref s.heap.objs.size, _, I2, rfl, ⟨_, x, y, rfl, I.fresh, rfl, fun zs hzs => by rw [I.tuple_inj hzs hqa]; exact hx, fun zs hzs => by rw [I.tuple_inj hzs hqb]; exact hy⟩,
      ⟨z'', hI'', ⟨_, _, up _ _ D.TOz o'⟩, a'.at fun o e => up _ o D.i1z e, b'.at fun o e => up _ o D.i2z e⟩, fun q hq => ?_⟩
    have hq0 := (hf q hq).1
    simp only [List.mem_cons, List.not_mem_nil, or_false] at hq
    rw [upd_ne]
    · exact hq0
    · rcases hq with rfl | rfl | rfl | rfl | rfl
      · exact Ne.symm nz
      · exact Ne.symm nTI
      · exact Ne.symm nTO
      · exact Ne.symm n1
      · exact Ne.symm n2
  done := by
    intro X hP hw hK hc i pins s σ H E I hf st hg
    subst hP hw hK
    obtain ⟨xs, ys, hqa, hqb, hx⟩ := hg
    obtain ⟨ia, rva, pa, za⟩ := I.tuple hqa
    obtain ⟨ib, rvb, pb, zb⟩ := I.tuple hqb
    obtain ⟨hz, hI, ⟨ou, ov, hO⟩, h1, h2⟩ := st
    have la := rva.length
    have lb := rvb.length
    have hT : s.TypeIs (.ref z) "zip" := ⟨_, hz, rfl⟩; unfold pyNext
    refine wpAny_bind (wpAny_attempt (wpAny_callSpecial?_slot (name := Str.ofString "__next__") hT F.slot_zip_next (wpAny_call_entry F.slot_zip_next hT F.entry_zip_next
      (zipT_end (I.ok.hd hc) D hz hI hO h1 h2 pa pb (hx.elim (fun q => .inl (by simp; omega)) fun q => .inr (by simp; omega)) fun h' e k' he => ?_) (F.args_zip_next_1 _))))
    obtain ⟨o, ho, hcl⟩ := he
    refine wpAny_bind (wpAny_isInstance (T := "StopIteration") (b := true) ⟨o, ho, hcl⟩ isSubtype_stop ?_)
    refine wpAny_pure ⟨rfl, I.turnOnly (tk := s.toks) hf fun q o hq e => ?_⟩
    simp only [List.mem_cons, List.not_mem_nil, or_false, not_or] at hq
    exact k' q o hq.1 hq.2.2.1 hq.2.2.2.1 hq.2.2.2.2 e
  self := fun _ _ s _ _ st h => wpAny_pyIter_zip st.1 h
section
variable {X : Cx} {es : List Expr} {kt : Nat} {pt : Pos}
def iZp (K : PySem.W.Frag) (ta : TA) : TI := fun σ H R => ta σ H fun vs H1 => ∃ a b, vs = [.ref a, .ref b] ∧ (∃ xs, SqT K H1 a xs) ∧ (∃ ys, SqT K H1 b ys) ∧ R (Itz K a b) H1
/-- for x, y in zip(a, b), both tuples -/
theorem pi_zp {e e' : Expr} {ta : TA} {p pos : Pos} (hm : X.mg "zip" = none) (ha : PA X [e, e'] ta) (hg : Gl X "zip" := by rfl) (h : isStar e = false := by rfl) (h' : isStar e' = false := by rfl) : PI X (.Tuple es kt pt) (.Call (.Name "zip" p) [e, e'] [] pos) (iZp X.K ta) := by
  intro pins s σ H R I hh
  refine Call_ (ld_blt I hg hm boot_zip (PyProof.Rows.callWith_type1 (thn (ha pos pins s σ H _ I hh) fun us s1 ⟨vs, H1, I1, r1, q1⟩ => ?_) (star1 h) (star_any (by simp [h']))))
  obtain ⟨a, b, rfl, ⟨xs, hqa⟩, ⟨ys, hqb⟩, q⟩ := q1
  cases r1 with
  | cons ru r2 =>
    cases r2 with
    | cons rv r3 =>
      cases r3
      cases ru
      cases rv
      obtain ⟨ia, rva, pa, za⟩ := I1.tuple hqa
      obtain ⟨ib, rvb, pb, zb⟩ := I1.tuple hqb
      have la : a < s1.heap.objs.size := by obtain ⟨o, e, _⟩ := pa; exact Heap.lt_size e
      have lb : b < s1.heap.objs.size := by obtain ⟨o, e, _⟩ := pb; exact Heap.lt_size e
      refine call_zp (xs := ia.toArray) (ys := ib.toArray) pa pb fun g hz hI hO j1 j2 hk => wpAny_pyIter_zip hz ?_
      refine ⟨_, [s1.heap.objs.size + 4, s1.heap.objs.size + 2, s1.heap.objs.size + 3, s1.heap.objs.size, s1.heap.objs.size + 1], _, _, H1, rfl, I1.kept (t' := s1.toks) hk, turn_zp a b _ _ _ _ _ (zipApart_new la lb), ⟨hz, hI, ⟨_, _, hO⟩, j1, j2⟩, fun q hq => ?_, by assumption⟩
      have hq' : s1.heap.objs.size ≤ q := by
        simp only [List.mem_cons, List.not_mem_nil, or_false] at hq
        rcases hq with z | z | z | z | z <;> rw [z] <;> first | exact Nat.le_refl _ | exact Nat.le_add_right _ _
      exact I1.fpOk hq' (I1.hok.fresh hq')
end
end L2

set_option Elab.async false
set_option linter.all false
set_option maxRecDepth 100000
namespace L2
open PySem PySem.Spec PyProof.Rows
section
variable {X : Cx}
/-- tuple(xs), xs a list: a tuple that is known as an object (so that its methods may be called) -/
def rTupF (K : PySem.W.Frag) : List V → Hp → VK → Prop := fun xs H Q => ∃ p ys, xs = [.ref p] ∧ SqL K H p ys ∧ ∀ l o, H l = none → o.dict = none → o.cls = .type "tuple" → Q (.ref l) (upd H l (.frz o (.tup ys)))
theorem call_tupleF : CallR X (.type "tuple") (rTupF X.K) := by
  intro pins s σ H xs us Q I r h
  obtain ⟨p, ys, rfl, hq, q⟩ := h
  obtain ⟨u, rfl, rx⟩ := r.one
  cases rx
  obtain ⟨its, r', pl, hz⟩ := I.list hq
  have hlen := r'.length
  refine call_tuple_list pl.isList (fun h' kp => ?_) (by simp only [List.size_toArray] <;> omega)
  have I1 : Inv X pins σ H { s with heap := h' } := I.kept (t' := s.toks) kp
  have g : (h'.push { cls := .type "tuple", data := .seq its.toArray }).get? h'.objs.size = some { cls := .type "tuple", data := .seq its.toArray } := Heap.get?_push_size _ rfl
  have I2 : Inv X pins σ (upd H h'.objs.size (.frz { cls := .type "tuple", data := .seq its.toArray } (.tup ys))) { s with heap := h'.push { cls := .type "tuple", data := .seq its.toArray } } :=
    I1.laid (t' := s.toks) (fun b o e => Heap.get?_push_of_some _ e) (Nat.le_refl _) ⟨g, hz, its, r', ⟨_, g, rfl, _, rfl⟩⟩
  exact ⟨.ref h'.objs.size, _, I2, rfl, q _ _ (I1.hok.fresh (Nat.le_refl _)) rfl rfl⟩
end
section
variable {prog : Program} {w : World} {A : Around} {E : Value → Shared → Prop} {s : Shared}
theorem tup_index {l : Addr} {o : Obj} {items : Array Value} {n : Nat} {x : Value} {e : Nat → Bool} {j : Nat} {Q : Value → Shared → Prop} (ho : s.heap.get? l = some o) (hd : o.data = .seq items n) (hj : j < items.size) (hit : e j = true) (hno : ∀ m, m < j → e m = false)
    (he : ∀ i (hi : i < items.size), SeqAt.EqAt A s items[i] x (e i)) (h : Q (.int j s.toks) { s with toks := s.toks + 1 }) :
    wpAny (model prog w) A (Builtin.«tuple.index» ⟨[.ref l, x], []⟩) (fun f s' => ∃ v, f = .done (.ret v) ∧ Q v s') E s := by
  unfold Builtin.«tuple.index»
  refine wpAny_bind (wpAny_of_eq (a := (Value.ref l, [x])) rfl ?_)
  dsimp only
  unfold PySem.Builtin.Tuple.tupleItemsOf
  refine wpAny_bind (wpAny_bind (wpAny_seqItems ho hd (wpAny_pure ?_)))
  refine wpAny_bind (wpAny_pure (wpAny_bind (wpAny_pure ?_))); refine wpAny_bind ?_; rw [Std.Legacy.Range.forIn_eq_forIn_range']
  simp only [Std.Legacy.Range.size, Nat.sub_zero, Nat.add_sub_cancel, Nat.div_one, Nat.min_self]
  have go : ∀ (k i : Nat), i + k = j → wpAny (model prog w) A
      (forIn (List.range' i (items.size - i)) ((none : Option PySem.Fin), ()) fun (i : Nat) _ => match items[i]? with
        | some y => do
          let b ← eqBool y x
          if b = true then do
            let rr ← retInt (i : Int)
            pure (ForInStep.done (some rr, ()))
          else pure (ForInStep.yield (none, ()))
        | _ => pure (ForInStep.yield (none, ())))
      (fun a s' => a.1 = some (.done (.ret (.int j s.toks))) ∧ s' = { s with toks := s.toks + 1 }) E s := by
    intro k
    induction k with
    | zero =>
      intro i hi
      have e : i = j := by omega
      subst e
      rw [show items.size - i = (items.size - (i + 1)) + 1 by omega, List.range'_succ, List.forIn_cons]
      simp only [Array.getElem?_eq_getElem hj]
      refine wpAny_bind (wpAny_bind (he _ hj prog w _ _ ?_))
      rw [hit]
      simp only [if_true]
      exact wpAny_bind (wpAny_bind (wpAny_mkInt (wpAny_pure (wpAny_pure (wpAny_pure ⟨rfl, rfl⟩)))))
    | succ k ih =>
      intro i hi
      have hlt : i < items.size := Nat.lt_of_le_of_lt (by omega : i ≤ j) hj
      rw [show items.size - i = (items.size - (i + 1)) + 1 by omega, List.range'_succ, List.forIn_cons]
      simp only [Array.getElem?_eq_getElem hlt]; refine wpAny_bind (wpAny_bind (he _ hlt prog w _ _ ?_))
      rw [hno i (by omega)]
      simp only [Bool.false_eq_true, if_false]; exact wpAny_pure (ih (i + 1) (by omega))
  refine wpAny_mono (go j 0 (by omega)) (fun a s' ⟨h1, h2⟩ => ?_) fun _ _ z => z
  subst h2
  rw [h1]
  exact wpAny_pure ⟨_, rfl, h⟩
end

/-- a tuple that is known as an object -/
def TupF (H : Hp) (l : Addr) (ys : List V) : Prop := ∃ o, H l = some (.frz o (.tup ys)) ∧ o.dict = none ∧ o.cls = .type "tuple"
theorem TupF.sq {K : PySem.W.Frag} {H : Hp} {l : Addr} {ys : List V} (t : TupF H l ys) : SqT K H l ys := let ⟨o, e, _⟩ := t; .inl (.inr ⟨o, e⟩)
section
variable {X : Cx} {o e : Expr} {to : TE} {ta : TA} {apos cpos : Pos}
/-- t.index(e), t a known tuple of flat items: the first place where it stands -/
def tIndex (to : TE) (ta : TA) : TE := fun σ H Q => to σ H fun x H1 => (∃ l ys, x = .ref l ∧ TupF H1 l ys) ∧ ta σ H1 fun vs H2 => ∃ (l : Addr) (ys : List V) (v : V) (k : Nat) (hk : k < ys.length), vs = [v] ∧ x = .ref l ∧ TupF H2 l ys ∧ flatV v = true ∧ (∀ y ∈ ys, flatV y = true) ∧
  eqV ys[k] v = true ∧ (∀ i (hi : i < ys.length), i < k → eqV ys[i] v = false) ∧ Q (.int (k : Int)) H2
theorem pe_index (ho : PE X o to) (ha : PA X [e] ta) (hbase : attributeBase o "index" X.env (eval o X.env) = eval o X.env := by rfl)
    (hfew : ((backTo cpos (starEach [e] X.env)).all (fun x => !x.1) && (backToKw cpos (keywordEach [] X.env)).all (fun x => x.1.isSome) && decide ([e].length + ([] : List Keyword).length + (if ([] : List Keyword).isEmpty then 0 else 1) < 30)) = true := by rfl)
    (hline : (apos.endLine == cpos.line) = true := by rfl) (hst : isStar e = false := by rfl) : PE X (.Call (.Attribute o "index" apos) [e] [] cpos) (tIndex to ta) := by
  intro pins s σ H Q I h
  refine wpAny_Call_method_late hbase hfew hline rfl (thn (ho pins s σ H _ I h) fun v s1 ⟨x, H1, I1, r1, ⟨l, ys, ex, ob, e1, hd, hc⟩, q1⟩ => ?_)
  subst ex
  obtain rfl : v = Value.ref l := r1
  obtain ⟨g1, _⟩ := I1.hok l _ e1
  refine ⟨"tuple", "tuple.index", PySem.F.plainAttrs_tuple, PySem.F.slot_tuple_index, PySem.F.type_tuple_index, ⟨ob, g1, hc⟩, fun a ea => ?_, ?_⟩
  · cases ea
    exact ⟨ob, g1, hd⟩
  have hA := ha cpos pins s1 σ H1 _ I1 q1
  rw [star1 hst] at hA ⊢
  refine Calls.callWith_builtin (by rfl) (Calls.evalArgs_plain ?_)
  refine thn hA fun us s2 ⟨vs, H2, I2, r2, q2⟩ => ?_
  obtain ⟨l', zs, v, k, hk, rfl, el, ⟨ob2, e2, hd2, hc2⟩, fv, fz, hit, hno, q⟩ := q2
  cases el
  obtain ⟨u, rfl, ru⟩ := r2.one
  obtain ⟨g2, z2, its, rv, ot, et, ct, n, dt⟩ := I2.hok l _ e2
  have hl := rv.length
  have eqs : ∀ i (h1 : i < zs.length) (h2 : i < its.length), RelV zs[i] its[i] := fun i h1 h2 => by
    obtain ⟨w', ew, rw'⟩ := rv.get (show zs[i]? = some zs[i] by simp [h1])
    rw [List.getElem?_eq_getElem h2] at ew
    rw [Option.some.inj ew]
    exact rw'
  have hT : s2.TypeIs (.ref l) "tuple" := ⟨ot, et, ct⟩
  refine wpAny_call_entry PySem.F.slot_tuple_index hT PySem.F.entry_tuple_index (tup_index (e := fun i => eqV (zs.getD i .non) v) (j := k) et dt (by simp; omega) ?_ (fun i hi => ?_) (fun i hi => ?_) ⟨.int k, H2, I2.tok _, ⟨_, rfl⟩, q⟩) (PySem.F.args_tuple_index_2 _ _)
  · show eqV (zs.getD k .non) v = true
    rw [List.getD_eq_getElem?_getD, List.getElem?_eq_getElem hk]
    exact hit
  · show eqV (zs.getD i .non) v = false
    rw [List.getD_eq_getElem?_getD, List.getElem?_eq_getElem (show i < zs.length by omega)]
    exact hno i (by omega) hi
  · have hi2 : i < its.length := by simpa using hi
    have hi1 : i < zs.length := by omega
    have q := eqAt_V (A := X.A.in1) (s := s2) (eqs i hi1 hi2) ru (fz _ (List.getElem_mem hi1)) fv
    show SeqAt.EqAt _ _ its.toArray[i] u (eqV (zs.getD i .non) v)
    rw [List.getD_eq_getElem?_getD, List.getElem?_eq_getElem hi1]
    simpa using q
end
end L2

set_option Elab.async false
set_option linter.all false
set_option maxRecDepth 100000
namespace L2
open PySem PySem.Spec PyProof.Rows
section
variable {D : Addr} {te : TE} {tc : TT} {Q : VK} {ρ : St} {H : Hp}
/-- a block over zip of two tuples of one length, two names -/
theorem cgo_zip {K : PySem.W.Frag} {a b : Addr} {xs zs : List V} (hlen : xs.length = zs.length) (Pv : Nat → List V → Hp → Prop) (h0 : Pv 0 [] (upd H D (.lst []))) (hl : ∀ i ys H', i ≤ xs.length → Pv i ys H' → SqT K H' a xs ∧ SqT K H' b zs)
    (hs : ∀ i x z ys H' p, xs[i]? = some x → zs[i]? = some z → Pv i ys H' → H' D = some (.lst ys) → H' p = none → ∀ (R : V → Hp → Prop) (S : Hp → Prop), (∀ y H4, H4 D = some (.lst ys) → ys.length < sizeLine → Pv (i + 1) (ys ++ [y]) (upd H4 D (.lst (ys ++ [y]))) → R y H4) → (∀ H3, H3 D = some (.lst ys) → Pv (i + 1) ys H3 → S H3) →
      tc (some x :: some z :: ρ) (upd H' p (.tup [x, z])) fun b H3 => if b = true then te (some x :: some z :: ρ) H3 R else S H3)
    (hd : ∀ ys H', Pv xs.length ys H' → H' D = some (.lst ys) → Q (.ref D) H') : CGo (Itz K a b) D (gTup K 2 (gCons (gName 0) (gCons (gName 1) gNil))) tc te Q (none :: none :: ρ) H := by
  refine ⟨fun i m τ ys H' => m = xs.length - i ∧ i ≤ xs.length ∧ (∃ tv tw, τ = tv :: tw :: ρ) ∧ Pv i ys H' ∧ H' D = some (.lst ys), ⟨xs.length, by omega, Nat.zero_le _, ⟨_, _, rfl⟩, h0, upd_same⟩, ?_⟩
  rintro i m τ ys H' ⟨rfl, hi, ⟨tv, tw, rfl⟩, hp, hD⟩
  refine ⟨hD, ?_⟩
  obtain ⟨sq, sq'⟩ := hl i ys H' hi hp
  by_cases hlt : i < xs.length
  · have hlt' : i < zs.length := by omega
    refine .inr ⟨⟨xs, zs, xs[i], zs[i], sq, sq', by simp [hlt], by simp [hlt']⟩, ?_⟩
    rintro v H'' ⟨p, x, z, rfl, hpn, rfl, hx, hz⟩
    have hx' := hx xs sq
    have hz' := hz zs sq'
    refine ⟨p, [x, z], rfl, SqT.of upd_same, rfl, x, [z], rfl, z, [], rfl, rfl, ?_⟩
    exact hs i x z ys _ p hx' hz' hp hD hpn _ _ (fun y H4 a b c => ⟨a, b, xs.length - (i + 1), by omega, rfl, hlt, ⟨_, _, rfl⟩, c, upd_same⟩) fun H3 a c => ⟨xs.length - (i + 1), by omega, rfl, hlt, ⟨_, _, rfl⟩, c, a⟩
  · have e : i = xs.length := by omega
    subst e
    exact .inl ⟨⟨xs, zs, sq, sq', .inl (Nat.le_refl _)⟩, hd ys _ hp hD⟩
end
section
variable {ta : TA} {tl : TE} {n : Nat} {ix : List Nat} {g : TG} {tc : TT} {te : TE} {σ : St} {H : Hp} {Q : VK}
theorem w_compZ {K : PySem.W.Frag} (h : ta σ H fun vs H1 => ∃ a b, vs = [.ref a, .ref b] ∧ (∃ xs, SqT K H1 a xs) ∧ (∃ ys, SqT K H1 b ys) ∧ ∀ D, H1 D = none → CGo (Itz K a b) D g tc te Q (List.replicate n none ++ sub ix σ) H1) : tComp (iZp K ta) n ix g tc te σ H Q := h
theorem w_compL {K : PySem.W.Frag} (h : tl σ H fun x H1 => ∃ a, x = .ref a ∧ (∃ xs, SqL K H1 a xs) ∧ ∀ D, H1 D = none → CGo (Itl K a) D g tc te Q (List.replicate n none ++ sub ix σ) H1) : tComp (iList K tl) n ix g tc te σ H Q := h
end
section
variable {X : Cx}
/-- isinstance(x, T), T a type of the language -/
def rIsI (K : PySem.W.Frag) : List V → Hp → VK → Prop := fun xs H Q => ∃ v n t b, xs = [v, .ty n] ∧ TyOf K H v t ∧ PySem.W.kitOne K t (.type n) = some b ∧ Q (.bl b) H
theorem call_isI : CallR X (.builtin "isinstance") (rIsI X.K) := by
  intro pins s σ H xs us Q I r h
  obtain ⟨v, n, t, b, rfl, ty, e, q⟩ := h
  cases r with
  | cons r1 r2 =>
    obtain ⟨u, rfl, ru⟩ := Vals.one r2
    cases ru
    exact isinst_ok I r1 ty e fun tk => ⟨.bl b, H, I.kept (t' := tk) fun _ _ e => e, rfl, q⟩
theorem kit_ii (K : PySem.W.Frag) : PySem.W.kitOne K (.type "int") (.type "int") = some true := by rfl
theorem kit_ib (K : PySem.W.Frag) : PySem.W.kitOne K (.type "int") (.type "bool") = some false := by rfl
theorem kit_bb (K : PySem.W.Frag) : PySem.W.kitOne K (.type "bool") (.type "bool") = some true := by rfl
theorem kit_bi (K : PySem.W.Frag) : PySem.W.kitOne K (.type "bool") (.type "int") = some true := by rfl
theorem kit_tt (K : PySem.W.Frag) : PySem.W.kitOne K (.type "tuple") (.type "tuple") = some true := by rfl
end
section
variable {σ : St} {H : Hp} {Q : VK} {te ta tb tc : TE} {r r' : R2} {tl th : TO}
theorem w_chain (h : ta σ H fun x H1 => tb σ H1 fun y H2 => r x y H2 fun z H3 => ∃ k, z = .bl k ∧ (if k = true then tc σ H3 fun w' H4 => r' y w' H4 Q else Q (.bl false) H3)) : tChain r r' ta tb tc σ H Q := h
theorem w_sl {r : V → Option Int → Option Int → Hp → VK → Prop} (h : te σ H fun x H1 => tl σ H1 fun l H2 => th σ H2 fun u H3 => r x l u H3 Q) : tSl r te tl th σ H Q := h
theorem w_nopart {QO : Option Int → Hp → Prop} (h : QO none H) : tNoPart σ H QO := h
theorem w_part {QO : Option Int → Hp → Prop} (h : te σ H fun x H1 => ∃ i, x = .int i ∧ QO (some i) H1) : tPart te σ H QO := h
end
theorem pgb_tup {X : Cx} {sc : Scope} {N : List Str} {cl : List (Str × Addr)} {C : Addr} {fp : List Addr} {s3 : Shared} {H3 : Hp} {xe : Value → Shared → Prop} {es : List Expr} {k n : Nat} {pos : Pos} {t : TGs} (hc : X.calm = true) (h : PGs (cxC X N sc cl C fp s3 H3 xe) es t)
    (hn : (assignEach es (cxC X N sc cl C fp s3 H3 xe).env).length = n := by rfl) (hst : (assignEach es (cxC X N sc cl C fp s3 H3 xe).env).findIdx? (·.1) = none := by rfl) : PG (cxC X N sc cl C fp s3 H3 xe) (.Tuple es k pos) (gTup X.K n t) := pg_tup (X := cxC X N sc cl C fp s3 H3 xe) hc h hn hst
theorem seq_post {t u : TS} {D : Ends} {σ : St} {H : Hp} (Post : St → Hp → Prop) (h2 : ∀ σ' H', Post σ' H' → u D σ' H') (h1 : (∀ σ' H', Post σ' H' → u D σ' H') → t { D with nx := u D } σ H) : tSeq t u D σ H := h1 h2
end L2

set_option Elab.async false
set_option linter.all false
set_option maxRecDepth 100000
namespace L2
open PySem PySem.Spec PyProof.Rows
/-! ### displays of constants, numbers below nought too -/
def constW : Expr → Option V
  | .Constant (.int n) _ _ => some (.int n)
  | .Constant (.str y) _ _ => some (.str y)
  | .UnaryOp .USub (.Constant (.int n) _ _) _ => some (.int (-n))
  | _ => none
def constsW : List Expr → Option (List V)
  | [] => some []
  | e :: r => match constW e, constsW r with
    | some v, some vs => some (v :: vs)
    | _, _ => none
theorem pa_constsW {X : Cx} : ∀ {es : List Expr} {vs : List V}, constsW es = some vs → PA X es (tVals vs)
  | [], vs, h => by
    cases h
    exact pa_nil
  | e :: r, vs, h => by
    unfold constsW at h
    split at h
    case h_2 => cases h
    case h_1 v vs' h1 h2 =>
      cases h
      have ih := pa_constsW (X := X) h2
      have go : ∀ {te : TE}, PE X e te → (starEach (e :: r) X.env = (false, eval e X.env) :: starEach r X.env) → (∀ σ H Q, Q v H → te σ H Q) → PA X (e :: r) (tVals (v :: vs')) := fun {te} he hs hq => by
        have q := pa_cons he ih hs
        intro pos pins s σ H Q I hh
        exact q pos pins s σ H Q I (hq σ H _ hh)
      unfold constW at h1
      split at h1
      case h_1 => cases h1; exact go pe_int rfl fun _ _ _ h => h
      case h_2 => cases h1; exact go pe_str rfl fun _ _ _ h => h
      case h_3 => cases h1; exact go (pe_un un_neg pe_int) rfl fun _ _ _ h => ⟨_, rfl, h⟩
      case h_4 => cases h1
theorem pe_lstW {X : Cx} {es : List Expr} {pos : Pos} {vs : List V} (h : constsW es = some vs) : PE X (.List es pos) (tLst (tVals vs)) := pe_lst (pa_constsW h)
theorem pe_tupW {X : Cx} {es : List Expr} {k : Nat} {pos : Pos} {vs : List V} (h : constsW es = some vs) : PE X (.Tuple es k pos) (tTup (tVals vs)) := pe_tup (pa_constsW h)
theorem w_unI {σ : St} {H : Hp} {Q : VK} {g : Int → V} {ta : TE} (h : ta σ H fun x H1 => ∃ i, x = .int i ∧ Q (g i) H1) : tUn (rU g) ta σ H Q := h
end L2
namespace G2
open PySem L2
theorem md {i j : Int} (h : 0 < j) : 0 ≤ i % j ∧ i % j < j := ⟨Int.emod_nonneg _ (Int.ne_of_gt h), Int.emod_lt_of_pos _ h⟩
theorem mulL {i j : Int} (h1 : -4000000000 < i) (h2 : i < 4000000000) : CMul i j := .inl ⟨by omega, by omega⟩
theorem mulR {i j : Int} (h1 : -4000000000 < j) (h2 : j < 4000000000) : CMul i j := .inr ⟨by omega, by omega⟩
theorem ofI {r : Int} (h : 0 ≤ r) : ∃ n : Nat, r = (n : Int) := ⟨r.toNat, by omega⟩
/-- tuples stay, and what is known as an object -/
structure TK (H H' : Hp) : Prop where
  t : ∀ q xs, H q = some (.tup xs) → H' q = some (.tup xs)
  f : ∀ q o u, H q = some (.frz o u) → H' q = some (.frz o u)
section
variable {p l : Addr} {H H' H'' : Hp} {o : HO}
theorem TK.refl : TK H H := ⟨fun _ _ e => e, fun _ _ _ e => e⟩
theorem TK.trans (a : TK H H') (b : TK H' H'') : TK H H'' := ⟨fun q xs e => b.t q xs (a.t q xs e), fun q o u e => b.f q o u (a.f q o u e)⟩
theorem TK.new (h : H l = none) : TK H (upd H l o) := ⟨fun q xs e => by rw [upd_ne (ne_of_none e h)]; exact e, fun q ob u e => by rw [upd_ne (ne_of_none e h)]; exact e⟩
theorem TK.lst {ys : List V} (h : H l = some (.lst ys)) : TK H (upd H l o) := ⟨fun q xs e => by rw [upd_ne (ne_of e h (by intro z; cases z))]; exact e, fun q ob u e => by rw [upd_ne (ne_of e h (by intro z; cases z))]; exact e⟩
theorem TK.same (k : Same H H') : TK H H' := ⟨fun _ _ e => k _ _ e, fun _ _ _ e => k _ _ e⟩
end
theorem _root_.L2.Same.new {H H' : Hp} {l : Addr} {o : HO} (k : Same H H') (h : H' l = none) : Same H (upd H' l o) := fun b u e => by
  rw [upd_ne (ne_of_none (k b u e) h)]
  exact k b u e
theorem _root_.L2.Same.put {H H' : Hp} {l : Addr} {o : HO} (k : Same H H') (h : H l = none) : Same H (upd H' l o) := fun b u e => by
  rw [upd_ne (ne_of_none e h)]
  exact k b u e
/-- the script, known as an object -/
def SqF (K : PySem.W.Frag) (H : Hp) (a : Addr) (xs : List V) : Prop :=
  (∃ o, H a = some (.frz o (.lst xs))) ∨ ∃ (o : Obj) (its : Array Value) (n : Nat), K.lookup a = some o ∧ o.cls = .type "list" ∧ o.dict = none ∧ o.data = .seq its n ∧ its.size ≤ sizeLine ∧ Vals xs its.toList
theorem SqF.sq {K : PySem.W.Frag} {H : Hp} {a : Addr} {xs : List V} : SqF K H a xs → SqL K H a xs
  | .inl ⟨o, e⟩ => .inl (.inr ⟨o, e⟩)
  | .inr h => .inr h
theorem SqF.of {K : PySem.W.Frag} {H : Hp} {a : Addr} {xs : List V} (O : Only H) : SqL K H a xs → SqF K H a xs
  | .inl (.inl e) => by
    rcases O a with z | ⟨o, ys, z⟩
    · rw [e] at z; cases z
    · rw [e] at z; cases z
  | .inl (.inr h) => .inl h
  | .inr h => .inr h
theorem SqF.tk {K : PySem.W.Frag} {H H' : Hp} {a : Addr} {xs : List V} (k : TK H H') : SqF K H a xs → SqF K H' a xs
  | .inl ⟨o, e⟩ => .inl ⟨o, k.f _ _ _ e⟩
  | .inr h => .inr h
/-! ### a tape of draws -/
structure Tp (H : Hp) (p l : Addr) (ns : List Int) : Prop where
  ex : ∃ c e : Int, H p = some (.lst [.ref l, .int c, .int e])
  hl : H l = some (.lst (ns.map V.int))
  ne : p ≠ l
section
variable {p l a : Addr} {H H' : Hp} {o : HO} {ns : List Int}
theorem Tp.draw (t : Tp H p l ns) {c e : Int} : Tp (upd H p (.lst [.ref l, .int c, .int e])) p l ns := ⟨⟨c, e, upd_same⟩, by rw [upd_ne (Ne.symm t.ne)]; exact t.hl, t.ne⟩
theorem Tp.np (t : Tp H p l ns) (h : H a = none) : p ≠ a := let ⟨_, _, e⟩ := t.ex; ne_of_none e h
theorem Tp.nl (t : Tp H p l ns) (h : H a = none) : l ≠ a := ne_of_none t.hl h
theorem Tp.new (t : Tp H p l ns) (h : H a = none) : Tp (upd H a o) p l ns := by
  obtain ⟨c, e, hp⟩ := t.ex
  exact ⟨⟨c, e, by rw [upd_ne (ne_of_none hp h)]; exact hp⟩, by rw [upd_ne (ne_of_none t.hl h)]; exact t.hl, t.ne⟩
theorem Tp.put (t : Tp H p l ns) (h1 : p ≠ a) (h2 : l ≠ a) : Tp (upd H a o) p l ns := by
  obtain ⟨c, e, hp⟩ := t.ex
  exact ⟨⟨c, e, by rw [upd_ne h1]; exact hp⟩, by rw [upd_ne h2]; exact t.hl, t.ne⟩
theorem Tp.same (t : Tp H p l ns) (k : Same H H') : Tp H' p l ns := by
  obtain ⟨c, e, hp⟩ := t.ex
  exact ⟨⟨c, e, k _ _ hp⟩, k _ _ t.hl, t.ne⟩
theorem Tp.tk (t : Tp H p l ns) : TK H (upd H p o) := let ⟨_, _, e⟩ := t.ex; TK.lst e
end
/-! ### texts -/
theorem log_small {n : Nat} (h : n < 1000000000000000) : n.log2 < 1920 := by
  by_cases h0 : n = 0
  · subst h0
    decide
  · exact (Nat.log2_lt h0).mpr (Nat.lt_of_lt_of_le h (by decide +kernel))
def Sm (i : Int) : Prop := -1000000000000000 < i ∧ i < 1000000000000000
theorem show_ints : ∀ (ns : List Int), (∀ n ∈ ns, Sm n) → PyData.showableAll (ns.map PyData.int) = true
  | [], _ => rfl
  | n :: ns, h => by
    obtain ⟨h0, h1⟩ := h n List.mem_cons_self
    have hs : n.natAbs.log2 < 1920 := log_small (by omega)
    simp only [List.map_cons, PyData.showableAll, PyData.showable, decide_eq_true hs, show_ints ns fun m hm => h m (List.mem_cons_of_mem _ hm), Bool.and_self]
theorem nodict_ints : ∀ (ns : List Int), PyData.hasDictAll (ns.map PyData.int) = false
  | [] => rfl
  | n :: ns => by simp only [List.map_cons, PyData.hasDictAll, PyData.hasDict, nodict_ints ns, Bool.or_self]
theorem len_int {n : Int} (h : Sm n) : (PyData.shown (.int n)).length ≤ 16 := by
  obtain ⟨h0, h1⟩ := h
  have := int_text_length_le10 (a := n) (k := 15) (by decide) (by omega)
  show (Str.ofString (toString n)).length ≤ 16
  rw [ofString_length]
  exact this
theorem len_ints : ∀ (ns : List Int), (∀ n ∈ ns, Sm n) → ((PyData.shownAll (ns.map PyData.int)).map (·.length)).sum ≤ 16 * ns.length ∧ (PyData.shownAll (ns.map PyData.int)).length = ns.length
  | [], _ => ⟨Nat.le_refl _, rfl⟩
  | n :: ns, h => by
    obtain ⟨i1, i2⟩ := len_ints ns fun m hm => h m (List.mem_cons_of_mem _ hm)
    have e := len_int (h n List.mem_cons_self)
    simp only [List.map_cons, PyData.shownAll, List.sum_cons, List.length_cons]
    exact ⟨by omega, by omega⟩
theorem len_tup (ds : List PyData) : (PyData.shown (.tuple ds)).length ≤ ((PyData.shownAll ds).map (·.length)).sum + 2 * (PyData.shownAll ds).length + 3 := tupleText_len_le _
/-- a thing that may be shown: at most n signs, at most h within one another -/
structure Shw (d : PyData) (n h : Nat) : Prop where
  s : d.showable = true
  nd : d.hasDict = false
  p : d.depth ≤ h
  l : d.shown.length ≤ n
theorem Shw.up {d : PyData} {n h m i : Nat} (x : Shw d n h) (h1 : n ≤ m) (h2 : h ≤ i) : Shw d m i := ⟨x.s, x.nd, Nat.le_trans x.p h2, Nat.le_trans x.l h1⟩
theorem Shw.int {i : Int} (h : Sm i) : Shw (.int i) 16 0 := ⟨by
  obtain ⟨h0, h1⟩ := h
  have hs : i.natAbs.log2 < 1920 := log_small (by omega)
  simp only [PyData.showable, decide_eq_true hs], rfl, Nat.zero_le _, len_int h⟩
theorem Shw.ints {ns : List Int} (h : ∀ n ∈ ns, Sm n) : Shw (.tuple (ns.map PyData.int)) (18 * ns.length + 3) 1 := ⟨by
    simp only [PyData.showable]
    exact show_ints ns h, by
    simp only [PyData.hasDict]
    exact nodict_ints ns, by
    show PyData.depthAll _ + 1 ≤ 1
    rw [depth_ints]
    decide, by
    have h1 := len_tup (ns.map PyData.int)
    obtain ⟨h2, h3⟩ := len_ints ns h
    omega⟩
theorem Shw.two {a b : PyData} {m n h : Nat} (ha : Shw a m h) (hb : Shw b n h) : Shw (.tuple [a, b]) (m + n + 7) (h + 1) := ⟨by
    simp only [PyData.showable, PyData.showableAll, ha.s, hb.s, Bool.and_self], by
    simp only [PyData.hasDict, PyData.hasDictAll, ha.nd, hb.nd, Bool.or_self], by
    show PyData.depthAll [a, b] + 1 ≤ h + 1
    have := ha.p
    have := hb.p
    simp only [PyData.depthAll]
    omega, by
    have h1 := len_tup [a, b]
    have := ha.l
    have := hb.l
    simp only [PyData.shownAll, List.map_cons, List.map_nil, List.sum_cons, List.sum_nil, List.length_cons, List.length_nil] at h1
    omega⟩
theorem Shw.three {a b c : PyData} {m n k h : Nat} (ha : Shw a m h) (hb : Shw b n h) (hc : Shw c k h) : Shw (.tuple [a, b, c]) (m + n + k + 9) (h + 1) := ⟨by
    simp only [PyData.showable, PyData.showableAll, ha.s, hb.s, hc.s, Bool.and_self], by
    simp only [PyData.hasDict, PyData.hasDictAll, ha.nd, hb.nd, hc.nd, Bool.or_self], by
    show PyData.depthAll [a, b, c] + 1 ≤ h + 1
    have := ha.p
    have := hb.p
    have := hc.p
    simp only [PyData.depthAll]
    omega, by
    have h1 := len_tup [a, b, c]
    have := ha.l
    have := hb.l
    have := hc.l
    simp only [PyData.shownAll, List.map_cons, List.map_nil, List.sum_cons, List.sum_nil, List.length_cons, List.length_nil] at h1
    omega⟩
theorem w_shw {H : Hp} {Q : VK} {v : V} {d : PyData} {n h : Nat} (r : RdV H v d) (x : Shw d n h) (hn : n ≤ 100000) (hh : h ≤ 50) (q : Q (.str d.shown) H) : rRepr [v] H Q :=
  ⟨v, d, rfl, r, x.s, x.nd, Nat.le_trans x.p hh, Nat.le_trans x.l (Nat.le_trans hn (by decide : 100000 ≤ sizeLine)), q⟩
/-- each of the ones times its other, added -/
def dot : List Int → List Int → Int
  | x :: xs, y :: ys => x * y + dot xs ys
  | _, _ => 0
theorem dot_nil {ys : List Int} : dot [] ys = 0 := by
  simp [dot]
/-- the two may be multiplied, item by item -/
def MulOk (xs ys : List Int) : Prop := ∀ (i : Nat) (x y : Int), xs[i]? = some x → ys[i]? = some y → CMul x y
end G2

set_option Elab.async false
set_option linter.all false
set_option maxRecDepth 100000
namespace L2
open PySem PySem.Spec PyProof.Rows
/-! ### products of great numbers -/
theorem w_gtup {K : PySem.W.Frag} {n : Nat} {t : TGs} {σ : St} {H : Hp} {Q : St → Hp → Prop} {a : Addr} {xs : List V} (h : H a = some (.tup xs)) (hn : xs.length = n) (q : t xs σ H Q) : gTup K n t (.ref a) σ H Q := ⟨a, xs, rfl, SqT.of h, hn, q⟩
theorem op_mulB {X : Cx} : OpR X (binaryOp .Mult) (rI IntMulOk fun i j => .int (i * j)) := opI fun _ _ _ _ _ _ _ hc q => mul_int q hc
end L2
namespace G2
open PySem L2
/-- at most ninety figures -/
def Bg (i : Int) : Prop := i.natAbs < 10 ^ 90
theorem Bg.bits {i : Int} (h : Bg i) : Builtin.Int.intBits i ≤ 300 := by
  unfold Bg at h
  unfold Builtin.Int.intBits
  by_cases h0 : i = 0
  · subst h0
    decide
  · have e : (i == 0) = false := by simpa using h0
    rw [e]
    have := (Nat.log2_lt (n := i.natAbs) (k := 299) (by omega)).mpr (Nat.lt_of_lt_of_le h (by decide +kernel))
    show i.natAbs.log2 + 1 ≤ 300
    omega
theorem mulB {i j : Int} (h : Bg i) (h' : Bg j) : IntMulOk i j := PySem.IntMulOk.of_le h.bits h'.bits (by decide)
section
variable {D : Addr} {te : TE} {tc : TT} {Q : VK} {ρ : St} {H : Hp} {K : PySem.W.Frag} {a b : Addr}
/-- numbers out of two tuples, item by item -/
theorem zip_map {xs ys : List Int} (g : Int → Int → Int) (ha : H a = some (.tup (xs.map V.int))) (hb : H b = some (.tup (ys.map V.int))) (hlen : xs.length = ys.length) (hn : xs.length ≤ 1000)
    (step : ∀ (i : Nat) (x y : Int) (H' : Hp), xs[i]? = some x → ys[i]? = some y → Same H H' → ∀ R : V → Hp → Prop, (∀ H'', Same H' H'' → R (.int (g x y)) H'') → te (some (.int x) :: some (.int y) :: ρ) H' R)
    (q : ∀ H', Same H H' → H' D = some (.lst ((List.zipWith g xs ys).map V.int)) → Q (.ref D) H') (hD : H D = none) : CGo (Itz K a b) D (gTup K 2 (gCons (gName 0) (gCons (gName 1) gNil))) tAll te Q (none :: none :: ρ) H := by
  refine cgo_zip (xs := xs.map V.int) (zs := ys.map V.int) (by simp [hlen]) (fun i zs H' => zs = ((List.zipWith g xs ys).take i).map V.int ∧ Same H H') ⟨rfl, Same.new (Same.refl H) hD⟩ (fun i zs H' _ ⟨_, k'⟩ => ⟨SqT.of (k' _ _ ha), SqT.of (k' _ _ hb)⟩) ?_ ?_
  · rintro i x z zs H' p hx hz ⟨rfl, K'⟩ hDz hp R S kR _
    have hi1 : i < xs.length := by
      have := (List.getElem?_eq_some_iff.mp hx).1
      simpa using this
    have hi2 : i < ys.length := by omega
    have ex : x = .int xs[i] := by
      rw [List.getElem?_map, List.getElem?_eq_getElem hi1] at hx
      exact (Option.some.inj hx).symm
    have ez : z = .int ys[i] := by
      rw [List.getElem?_map, List.getElem?_eq_getElem hi2] at hz
      exact (Option.some.inj hz).symm
    subst ex ez
    refine w_all ?_
    refine iteT ?_
    have hD' : upd H' p (.tup [.int xs[i], .int ys[i]]) D = some (.lst (((List.zipWith g xs ys).take i).map V.int)) := by rw [upd_ne (ne_of_none hDz hp)]; exact hDz
    refine step i _ _ _ (by simp [hi1]) (by simp [hi2]) (K'.new hp) R fun H'' K'' => ?_
    refine kR _ _ (K'' _ _ hD') (by rw [List.length_map, List.length_take]; exact small1000 (by omega)) ⟨?_, ((K'.new hp).trans K'').put hD⟩
    have hz' : (List.zipWith g xs ys)[i]? = some (g xs[i] ys[i]) := by simp [List.getElem?_zipWith, hi1, hi2]
    rw [List.take_add_one, List.map_append, hz']
    rfl
  · rintro zs H' ⟨rfl, K'⟩ hDz
    refine q H' K' ?_
    rw [hDz, List.take_of_length_le]
    simp
    omega
/-- numbers out of one tuple -/
theorem tup_map {xs : List Int} (g : Int → Int) (ha : H a = some (.tup (xs.map V.int))) (hn : xs.length ≤ 1000)
    (step : ∀ (i : Nat) (x : Int) (H' : Hp), xs[i]? = some x → Same H H' → ∀ R : V → Hp → Prop, (∀ H'', Same H' H'' → R (.int (g x)) H'') → te (some (.int x) :: ρ) H' R)
    (q : ∀ H', Same H H' → H' D = some (.lst ((xs.map g).map V.int)) → Q (.ref D) H') (hD : H D = none) : CGo (Itt K a) D (gName 0) tAll te Q (none :: ρ) H := by
  refine cgo_tup (xs := xs.map V.int) (fun i zs H' => zs = ((xs.map g).take i).map V.int ∧ Same H H') ⟨rfl, Same.new (Same.refl H) hD⟩ (fun i zs H' _ ⟨_, k'⟩ => SqT.of (k' _ _ ha)) ?_ ?_
  · rintro i x zs H' hx ⟨rfl, K'⟩ hDz R S kR _
    have hi1 : i < xs.length := by
      have := (List.getElem?_eq_some_iff.mp hx).1
      simpa using this
    have ex : x = .int xs[i] := by
      rw [List.getElem?_map, List.getElem?_eq_getElem hi1] at hx
      exact (Option.some.inj hx).symm
    subst ex
    refine w_all ?_
    refine iteT ?_
    refine step i _ _ (by simp [hi1]) K' R fun H'' K'' => ?_
    refine kR _ _ (K'' _ _ hDz) (by rw [List.length_map, List.length_take]; exact small1000 (by omega)) ⟨?_, (K'.trans K'').put hD⟩
    rw [List.take_add_one, List.map_append]
    simp [hi1]
  · rintro zs H' ⟨rfl, K'⟩ hDz
    refine q H' K' ?_
    rw [hDz, List.take_of_length_le]
    simp
/-- numbers by place -/
theorem rng_map {n : Nat} (g : Nat → Int) (hn : n ≤ 1000)
    (step : ∀ (i : Nat) (H' : Hp), i < n → Same H H' → ∀ R : V → Hp → Prop, (∀ H'', Same H' H'' → R (.int (g i)) H'') → te (some (.int (i : Int)) :: ρ) H' R)
    (q : ∀ H', Same H H' → H' D = some (.lst (((List.range n).map g).map V.int)) → Q (.ref D) H') (hD : H D = none) : CGo (Itr 0 n) D (gName 0) tAll te Q (none :: ρ) H := by
  refine cgo_range (fun i zs H' => zs = ((List.range i).map g).map V.int ∧ Same H H') ⟨rfl, Same.new (Same.refl H) hD⟩ ?_ ?_
  · rintro i zs H' hi ⟨rfl, K'⟩ hDz R S kR _
    rw [Int.zero_add]
    refine w_all ?_
    refine iteT ?_
    refine step i _ hi K' R fun H'' K'' => ?_
    refine kR _ _ (K'' _ _ hDz) (by rw [List.length_map, List.length_map, List.length_range]; exact small1000 (by omega)) ⟨?_, (K'.trans K'').put hD⟩
    rw [List.range_succ, List.map_append, List.map_append]
    rfl
  · rintro zs H' ⟨rfl, K'⟩ hDz
    exact q H' K' hDz
/-- things by place, made one behind the other: J what holds of the heap, whatever stands in the new list -/
theorem rng_gen {n : Nat} (J : Hp → Prop) (Pe : V → Hp → Prop) (hn : n ≤ 1000) (h0 : J (upd H D (.lst []))) (jD : ∀ H' ys zs, J H' → H' D = some (.lst ys) → J (upd H' D (.lst zs))) (pD : ∀ y H' ys zs, Pe y H' → J H' → H' D = some (.lst ys) → Pe y (upd H' D (.lst zs)))
    (step : ∀ (i : Nat) (H' : Hp) (ys : List V), i < n → J H' → H' D = some (.lst ys) → ∀ R : V → Hp → Prop, (∀ y H'', Pe y H'' → J H'' → H'' D = some (.lst ys) → (∀ z, Pe z H' → Pe z H'') → R y H'') → te (some (.int (i : Int)) :: ρ) H' R)
    (q : ∀ ys H', ys.length = n → (∀ y ∈ ys, Pe y H') → J H' → H' D = some (.lst ys) → Q (.ref D) H') : CGo (Itr 0 n) D (gName 0) tAll te Q (none :: ρ) H := by
  refine cgo_range (fun i zs H' => zs.length = i ∧ (∀ y ∈ zs, Pe y H') ∧ J H') ⟨rfl, (fun y h => by cases h), h0⟩ ?_ ?_
  · rintro i zs H' hi ⟨hl, hp, hJ⟩ hDz R S kR _
    rw [Int.zero_add]
    refine w_all ?_
    refine iteT ?_
    refine step i H' zs hi hJ hDz R fun y H'' hy hJ' hD' hk => ?_
    refine kR _ _ hD' (small1000 (by omega)) ⟨by simp [hl], fun z hz => ?_, jD _ _ _ hJ' hD'⟩
    rcases List.mem_append.mp hz with old | new
    · exact pD _ _ _ _ (hk z (hp z old)) hJ' hD'
    · rw [List.mem_singleton.mp new]
      exact pD _ _ _ _ hy hJ' hD'
  · rintro zs H' ⟨hl, hp, hJ⟩ hDz
    exact q zs H' hl hp hJ hDz
end
theorem dot_zip : ∀ (xs ys : List Int), (List.zipWith (fun x y => x * y) xs ys).sum = dot xs ys
  | [], ys => by simp [dot]
  | x :: xs, [] => by simp [dot]
  | x :: xs, y :: ys => by
    show (x * y :: List.zipWith (fun x y => x * y) xs ys).sum = x * y + dot xs ys
    rw [List.sum_cons, dot_zip xs ys]
/-! ### texts of great numbers -/
theorem Bg.log {i : Int} (h : Bg i) : i.natAbs.log2 < 1920 := by
  unfold Bg at h
  by_cases h0 : i.natAbs = 0
  · rw [h0]
    decide
  · exact (Nat.log2_lt h0).mpr (Nat.lt_of_lt_of_le h (by decide +kernel))
theorem Bg.len {n : Int} (h : Bg n) : (PyData.shown (.int n)).length ≤ 91 := by
  have := int_text_length_le10 (a := n) (k := 90) (by decide) h
  show (Str.ofString (toString n)).length ≤ 91
  rw [ofString_length]
  exact this
theorem show_intsB : ∀ (ns : List Int), (∀ n ∈ ns, Bg n) → PyData.showableAll (ns.map PyData.int) = true
  | [], _ => rfl
  | n :: ns, h => by
    simp only [List.map_cons, PyData.showableAll, PyData.showable, decide_eq_true (h n List.mem_cons_self).log, show_intsB ns fun m hm => h m (List.mem_cons_of_mem _ hm), Bool.and_self]
theorem len_intsB : ∀ (ns : List Int), (∀ n ∈ ns, Bg n) → ((PyData.shownAll (ns.map PyData.int)).map (·.length)).sum ≤ 91 * ns.length ∧ (PyData.shownAll (ns.map PyData.int)).length = ns.length
  | [], _ => ⟨Nat.le_refl _, rfl⟩
  | n :: ns, h => by
    obtain ⟨i1, i2⟩ := len_intsB ns fun m hm => h m (List.mem_cons_of_mem _ hm)
    have e := (h n List.mem_cons_self).len
    simp only [List.map_cons, PyData.shownAll, List.sum_cons, List.length_cons]
    exact ⟨by omega, by omega⟩
theorem Shw.big {i : Int} (h : Bg i) : Shw (.int i) 91 0 := ⟨by simp only [PyData.showable, decide_eq_true h.log], rfl, Nat.zero_le _, h.len⟩
theorem Shw.bigs {ns : List Int} (h : ∀ n ∈ ns, Bg n) : Shw (.tuple (ns.map PyData.int)) (93 * ns.length + 3) 1 := ⟨by
    simp only [PyData.showable]
    exact show_intsB ns h, by
    simp only [PyData.hasDict]
    exact nodict_ints ns, by
    show PyData.depthAll _ + 1 ≤ 1
    rw [depth_ints]
    decide, by
    have h1 := len_tup (ns.map PyData.int)
    obtain ⟨h2, h3⟩ := len_intsB ns h
    omega⟩
/-- pairs of a tuple: what is made of each, J what holds of the heap -/
theorem prs_map {α : Type} {as : List Addr} {xs : List α} (u v : α → Int) (g : α → Int) {D : Addr} {te : TE} {Q : VK} {ρ : St} {H : Hp} {K : PySem.W.Frag} {a : Addr} (ha : H a = some (.tup (as.map V.ref))) (hl : as.length = xs.length) (hn : xs.length ≤ 1000)
    (hx : ∀ (i : Nat) (q : Addr) (x : α), as[i]? = some q → xs[i]? = some x → H q = some (.tup [.int (u x), .int (v x)]))
    (step : ∀ (i : Nat) (x : α) (H' : Hp), xs[i]? = some x → Same H H' → ∀ R : V → Hp → Prop, (∀ H'', Same H' H'' → R (.int (g x)) H'') → te (some (.int (u x)) :: some (.int (v x)) :: ρ) H' R)
    (q : ∀ H', Same H H' → H' D = some (.lst ((xs.map g).map V.int)) → Q (.ref D) H') (hD : H D = none) : CGo (Itt K a) D (gTup K 2 (gCons (gName 0) (gCons (gName 1) gNil))) tAll te Q (none :: none :: ρ) H := by
  refine ⟨fun i m τ ys H' => m = xs.length - i ∧ i ≤ xs.length ∧ (∃ tv tw, τ = tv :: tw :: ρ) ∧ ys = ((xs.map g).take i).map V.int ∧ Same H H' ∧ H' D = some (.lst ys), ⟨xs.length, by omega, Nat.zero_le _, ⟨_, _, rfl⟩, rfl, Same.new (Same.refl H) hD, upd_same⟩, ?_⟩
  rintro i m τ ys H' ⟨rfl, hi, ⟨tv, tw, rfl⟩, rfl, K', hDz⟩
  refine ⟨hDz, ?_⟩
  have sq : SqT K H' a (as.map V.ref) := SqT.of (K' _ _ ha)
  by_cases hlt : i < xs.length
  · have hlt' : i < as.length := by omega
    refine .inr ⟨⟨_, .ref as[i], sq, by simp [hlt']⟩, ?_⟩
    rintro w' H'' ⟨rfl, hw⟩
    have hw' := hw _ sq
    rw [List.getElem?_map, List.getElem?_eq_getElem hlt'] at hw'
    cases hw'
    refine ⟨as[i], _, rfl, SqT.of (K' _ _ (hx i as[i] xs[i] (by simp [hlt']) (by simp [hlt]))), rfl, _, _, rfl, _, _, rfl, rfl, ?_⟩
    refine w_all ?_
    refine iteT ?_
    refine step i xs[i] _ (by simp [hlt]) K' _ fun H3 K3 => ⟨K3 _ _ hDz, by rw [List.length_map, List.length_take]; exact small1000 (by omega), xs.length - (i + 1), by omega, rfl, hlt, ⟨_, _, rfl⟩, ?_, (K'.trans K3).put hD, upd_same⟩
    rw [List.take_add_one, List.map_append]
    simp [hlt]
  · have e : i = xs.length := by omega
    subst e
    refine .inl ⟨⟨_, sq, by simp [hl]⟩, q H' K' ?_⟩
    rw [hDz, List.take_of_length_le]
    simp
/-! ### lists and tuples compared -/
section
variable {X : Cx} {k : Nat}
def rNeD : R2 := fun x y H Q => ∃ dx dy, RdV H x dx ∧ RdV H y dy ∧ dx.canLay0 = true ∧ dy.canLay0 = true ∧ dx.depth ≤ 60 ∧ Q (.bl (!PyData.eqv dx dy)) H
theorem op_neD (hr : Room k X.A) : OpR X (compareOp .NotEq) rNeD := by
  intro pins s σ H x y v u Q I rx ry h
  obtain ⟨dx, dy, hx, hy, cx, cy, hd, q⟩ := h
  obtain ⟨as, ra⟩ := hx.reads I rx
  obtain ⟨bs, rb⟩ := hy.reads I ry
  have := hr.units
  exact SeqAt.compareNe_reads ra rb cx cy (by omega) ⟨.bl _, H, I, rfl, q⟩
end
theorem eqvAll_ints : ∀ ns : List Int, PyData.eqvAll (ns.map PyData.int) (ns.map PyData.int) = true
  | [] => by simp [PyData.eqvAll]
  | n :: ns => by simp [PyData.eqvAll, PyData.eqv, eqvAll_ints ns]
theorem layAll_ints : ∀ ns : List Int, PyData.canLayAll0 (ns.map PyData.int) = true
  | [] => rfl
  | n :: ns => by simp [PyData.canLayAll0, PyData.canLay0, layAll_ints ns]
/-! ### forms -/
structure Fm where
  ins : List Int
  sts : List Int
  plus : Int
def FmAt (H : Hp) (q : Addr) (f : Fm) : Prop := ∃ a b, H q = some (.tup [.ref a, .ref b, .int f.plus]) ∧ H a = some (.tup (f.ins.map V.int)) ∧ H b = some (.tup (f.sts.map V.int))
theorem FmAt.same {H H' : Hp} {q : Addr} {f : Fm} (k : Same H H') : FmAt H q f → FmAt H' q f
  | ⟨a, b, h1, h2, h3⟩ => ⟨a, b, k _ _ h1, k _ _ h2, k _ _ h3⟩
theorem FmAt.tk {H H' : Hp} {q : Addr} {f : Fm} (k : TK H H') : FmAt H q f → FmAt H' q f
  | ⟨a, b, h1, h2, h3⟩ => ⟨a, b, k.t _ _ h1, k.t _ _ h2, k.t _ _ h3⟩
def addF (f g : Fm) : Fm := ⟨List.zipWith (fun x y => x + y) f.ins g.ins, List.zipWith (fun x y => x + y) f.sts g.sts, f.plus + g.plus⟩
def oftF (t : Int) (f : Fm) : Fm := ⟨f.ins.map fun x => t * x, f.sts.map fun x => t * x, t * f.plus⟩
def moreF (n : Int) (f : Fm) : Fm := ⟨f.ins, f.sts, f.plus + n⟩
def fmV (f : Fm) (am st : List Int) : Int := dot f.ins am + dot f.sts st + f.plus
/-- its kind, and a bound of its numbers -/
structure FmOk (n m : Nat) (B : Int) (f : Fm) : Prop where
  li : f.ins.length = n
  ls : f.sts.length = m
  bi : ∀ x ∈ f.ins, -B ≤ x ∧ x ≤ B
  bs : ∀ x ∈ f.sts, -B ≤ x ∧ x ≤ B
  bp : -B ≤ f.plus ∧ f.plus ≤ B
def fmD (f : Fm) : PyData := .tuple [.tuple (f.ins.map .int), .tuple (f.sts.map .int), .int f.plus]
theorem fm_rd {H : Hp} {q : Addr} {f : Fm} : FmAt H q f → RdV H (.ref q) (fmD f)
  | ⟨_, _, hq, ha, hb⟩ => .tup hq (.cons (.tup ha (rdInts _)) (.cons (.tup hb (rdInts _)) (.cons (.int _) .nil)))
theorem Bg.of {x B : Int} (hB : B < 10 ^ 90) (h : -B ≤ x ∧ x ≤ B) : Bg x := by
  unfold Bg
  omega
theorem fm_shw {n m : Nat} {B : Int} {f : Fm} (h : FmOk n m B f) (hB : B < 10 ^ 90) (hn : n ≤ 10) (hm : m ≤ 10) : Shw (fmD f) 2100 2 := by
  have e1 := Shw.bigs (ns := f.ins) fun x hx => Bg.of hB (h.bi x hx)
  have e2 := Shw.bigs (ns := f.sts) fun x hx => Bg.of hB (h.bs x hx)
  have e3 := (Shw.big (Bg.of hB h.bp)).up (Nat.le_refl _) (Nat.zero_le 1)
  have := h.li
  have := h.ls
  exact (e1.three e2 e3).up (by omega) (Nat.le_refl _)
end G2

set_option Elab.async false
set_option linter.all false
set_option maxRecDepth 100000
namespace L2
open PySem PySem.Spec PyProof.Rows
/-- enumerate over the list at a -/
def Itel (K : PySem.W.Frag) (a : Addr) : It :=
  ⟨fun i H => ∃ xs x, SqL K H a xs ∧ xs[i]? = some x, fun i H v H' => ∃ p x, v = .ref p ∧ H p = none ∧ H' = upd H p (.tup [.int (i : Int), x]) ∧ ∀ xs, SqL K H a xs → xs[i]? = some x, fun i H => ∃ xs, SqL K H a xs ∧ xs.length = i⟩
theorem turn_enl {P : Program} {w : World} {K : PySem.W.Frag} {es : List Expr} {kt : Nat} {pt : Pos} (a e it : Addr) (hei : e ≠ it) (hai : a ≠ it) (hae : a ≠ e) :
    Turn P w K (.Tuple es kt pt) (Itel K a) [e, it] e (fun i h => (∃ old, IsEnum h e it i old) ∧ h.IsListIter it a i) where
  mem := by simp
  obj := fun i h st b hb => by
    obtain ⟨⟨old, he⟩, o, eo, c, d⟩ := st
    rcases List.mem_cons.mp hb with rfl | hq
    · exact ⟨_, he, fun v z => by have z' : Data.fields _ = Data.cell v := z; cases z'⟩
    · rw [List.mem_singleton.mp hq]; exact ⟨o, eo, fun v z => by rw [d] at z; cases z⟩
  keep := fun i h h' st k => ⟨let ⟨old, he⟩ := st.1; ⟨old, k e (by simp) _ he⟩, st.2.at fun o x => k it (by simp) o x⟩
  item := by
    intro X hP hw hK hc i pins s σ H E I hf st hg
    subst hP hw hK
    obtain ⟨xs, x, hq, hx⟩ := hg
    obtain ⟨its, rv, p, hz⟩ := I.list hq
    obtain ⟨u, hu, ru⟩ := rv.get hx
    have W := WalksT.enumerateD (Draws.list (prog := X.prog) (w := X.w) (A := X.A.in1) (I.ok.hd hc) it a hai its.toArray) e hei (by simp [hei, Ne.symm hae]) (by simp)
    have hi : i < its.toArray.size := by
      have := (List.getElem?_eq_some_iff.mp hu).1
      simpa using this
    refine W.item i s _ E hi ⟨st.1, st.2, p.isList⟩ fun T vals h' tk hP hsz hT hM hk => ⟨.ref T, rfl, ?_⟩
    obtain ⟨t, x', hx', rfl⟩ := hP
    have ex : x' = u := by
      have : its[i]? = some x' := by simpa using hx'
      rw [this] at hu
      exact Option.some.inj hu
    subst ex
    refine W.go es kt pt i T { s with heap := h', toks := tk } _ E hM fun h'' hst hk2 => ?_
    obtain ⟨⟨old2, he2⟩, hit2, _⟩ := hst
    have hTw := W.apart i T h' hM
    obtain ⟨oT, eT, cT⟩ := hT
    have I2 : Inv X pins σ (upd H T (.tup [.int (i : Int), x])) { s with heap := h'', toks := tk } := I.turnNew (ch := [e, it]) hf (fun b o hb q => hk2 b o hb (hk b o hb q)) (fun b hb => by
      rcases List.mem_cons.mp hb with rfl | hq
      · exact ⟨_, he2⟩
      · rw [List.mem_singleton.mp hq]; obtain ⟨o, eo, _⟩ := hit2; exact ⟨o, eo⟩) hsz (vals := [.int i t, x']) (.cons ⟨t, rfl⟩ (.cons ru .nil)) (by show 2 ≤ sizeLine; decide) ⟨oT, hk2 T oT hTw eT, cT⟩
    refine ⟨.ref T, _, I2, rfl, ⟨T, x, rfl, I.hok.fresh hsz, rfl, fun ys hy => by rw [I.list_inj hy hq]; exact hx⟩, ⟨⟨old2, he2⟩, hit2⟩, fun b hb => ?_⟩
    rw [upd_ne (fun z => hTw (by rw [← z]; exact hb))]
    exact (hf b hb).1
  done := by
    intro X hP hw hK hc i pins s σ H E I hf st hg
    subst hP hw hK
    obtain ⟨xs, hq, hx⟩ := hg
    obtain ⟨its, rv, p, hz⟩ := I.list hq
    have hl := rv.length
    have W := WalksT.enumerateD (Draws.list (prog := X.prog) (w := X.w) (A := X.A.in1) (I.ok.hd hc) it a hai its.toArray) e hei (by simp [hei, Ne.symm hae]) (by simp)
    have ei : i = its.toArray.size := by rw [List.size_toArray]; omega
    subst ei
    exact W.done s _ E ⟨st.1, st.2, p.isList⟩ fun h' tk hk => ⟨rfl, I.turnOnly hf hk⟩
  self := fun _ _ s _ _ st h => by
    obtain ⟨⟨old, he⟩, _⟩ := st
    exact wpAny_pyIter_enum he h

section
variable {X : Cx} {es : List Expr} {kt : Nat} {pt : Pos}
def iEnl (K : PySem.W.Frag) (ta : TA) : TI := fun σ H R => ta σ H fun vs H1 => ∃ a, vs = [.ref a] ∧ (∃ xs, SqL K H1 a xs) ∧ R (Itel K a) H1
/-- for a, b in enumerate(t), t a list -/
theorem pi_enl {e : Expr} {ta : TA} {p pos : Pos} (hm : X.mg "enumerate" = none) (ha : PA X [e] ta) (hg : Gl X "enumerate" := by rfl) (h : isStar e = false := by rfl) : PI X (.Tuple es kt pt) (.Call (.Name "enumerate" p) [e] [] pos) (iEnl X.K ta) := by
  intro pins s σ H R I hh
  refine Call_ (ld_blt I hg hm boot_enumerate (PyProof.Rows.callWith_type1 (thn (ha pos pins s σ H _ I hh) fun us s1 ⟨vs, H1, I1, r1, q1⟩ => ?_) (star1 h) rfl))
  obtain ⟨a, rfl, ⟨xs, hq⟩, q⟩ := q1
  obtain ⟨u, rfl, ru⟩ := r1.one
  cases ru
  obtain ⟨its, rv, pl, hz⟩ := I1.list hq
  have hlt : a < s1.heap.objs.size := by
    obtain ⟨o, _, eo, _⟩ := pl
    exact Heap.lt_size eo
  refine call_enumerate_list (items := its.toArray) pl.isList fun h' he hi _ hk => wpAny_pyIter_enum he ?_
  refine ⟨_, [s1.heap.objs.size + 1, s1.heap.objs.size], _, _, H1, rfl, I1.kept (t' := s1.toks) hk, turn_enl a (s1.heap.objs.size + 1) s1.heap.objs.size (Nat.succ_ne_self _) (Nat.ne_of_lt hlt) (Nat.ne_of_lt (Nat.lt_of_lt_of_le hlt (Nat.le_succ _))), ⟨⟨_, he⟩, hi⟩, fun b hb => ?_, q⟩
  have hb' : s1.heap.objs.size ≤ b := by
    rcases List.mem_cons.mp hb with z | z
    · rw [z]; exact Nat.le_succ _
    · rw [List.mem_singleton.mp z]
      exact Nat.le_refl _
  exact I1.fpOk hb' (I1.hok.fresh hb')
end
end L2

set_option Elab.async false
set_option linter.all false
set_option maxRecDepth 100000
namespace L2
open PySem PySem.Spec PyProof.Rows
def isI (i : Int) : Value → Bool
  | .int a _ => a == i
  | _ => false
theorem erase_idx (i : Int) : ∀ xs : List Int, i ∈ xs → ∃ k, ∃ hk : k < xs.length, xs[k] = i ∧ (∀ m (hm : m < xs.length), m < k → xs[m] ≠ i) ∧ xs.eraseIdx k = xs.erase i
  | [], h => by cases h
  | x :: xs, h => by
    by_cases e : x = i
    · subst e
      exact ⟨0, by simp, rfl, fun m hm z => absurd z (Nat.not_lt_zero _), by simp⟩
    · have h' : i ∈ xs := by
        rcases List.mem_cons.mp h with z | z
        · exact absurd z.symm e
        · exact z
      obtain ⟨k, hk, e1, e2, e3⟩ := erase_idx i xs h'
      refine ⟨k + 1, by simp; omega, by simpa using e1, fun m hm z => ?_, ?_⟩
      · cases m with
        | zero => exact e
        | succ m => exact e2 m (by simp at hm; omega) (by omega)
      · rw [List.eraseIdx_cons_succ, e3, List.erase_cons_tail (by simpa using e)]
theorem map_erase (k : Nat) (xs : List Int) : (xs.map V.int).eraseIdx k = (xs.eraseIdx k).map V.int := by
  induction xs generalizing k with
  | nil => rfl
  | cons x xs ih => cases k with
    | zero => rfl
    | succ k => simp [ih]
section
variable {X : Cx}
/-- xs.remove(i), xs a list of ints -/
def rRem : V → List V → Hp → VK → Prop := fun x vs H Q => ∃ (l : Addr) (xs : List Int) (i : Int), x = .ref l ∧ vs = [.int i] ∧ H l = some (.lst (xs.map V.int)) ∧ i ∈ xs ∧ Q .non (upd H l (.lst ((xs.erase i).map V.int)))
theorem mt_remove : MtM X "list.remove" rRem := by
  intro pins s σ H x vs v us Q I rx rv h
  obtain ⟨l, xs, i, rfl, rfl, hH, hi, q⟩ := h
  cases rx
  obtain ⟨u, rfl, ru⟩ := rv.one
  obtain ⟨t, rfl⟩ := ru
  obtain ⟨z, its, n, r, hl, e⟩ := I.lstM hH
  obtain ⟨k, hk, e1, e2, e3⟩ := erase_idx i xs hi
  have hl' : xs.length = its.length := by simpa using hl
  have at' : ∀ m (hm : m < its.length), ∃ tt, its[m] = .int (xs[m]'(by omega)) tt := fun m hm => by
    obtain ⟨w', ew, rw'⟩ := r.get (show (xs.map V.int)[m]? = some (V.int (xs[m]'(by omega))) by simp [show m < xs.length by omega])
    rw [List.getElem?_eq_getElem hm] at ew
    rw [Option.some.inj ew]
    exact rw'
  refine call_meets F.slot_list_remove ⟨_, e, rfl⟩ F.entry_list_remove (F.args_list_remove_2 _ _)
    (MeetsSeq.list_remove l its.toArray n (.int i t) (isI i) (fun y hy => ?_) k (by rw [List.size_toArray]; omega) ?_ (fun m hm hmk => ?_) (by rw [List.size_toArray]; omega)) ⟨e, ?_⟩
  · obtain ⟨m, hm, rfl⟩ := Array.mem_iff_getElem.mp hy
    rw [List.size_toArray] at hm
    obtain ⟨tt, ee⟩ := at' m hm
    rw [List.getElem_toArray, ee]
    exact MeetsSeq.EqGives.int _ i tt t
  · obtain ⟨tt, ee⟩ := at' k (by omega)
    rw [List.getElem_toArray, ee]
    simp [isI, e1]
  · rw [List.size_toArray] at hm
    obtain ⟨tt, ee⟩ := at' m hm
    rw [List.getElem_toArray, ee]
    simpa [isI] using e2 m (by omega) hmk
  · refine ⟨.non, _, I.lset (its' := its.eraseIdx k) hH e ?_ (r.eraseIdx k) ?_, rfl, ?_⟩
    · show its.toArray.eraseIdxIfInBounds k = (its.eraseIdx k).toArray
      rw [List.eraseIdxIfInBounds_toArray]
    · have := len_erase (xs.map V.int) k
      omega
    · rw [map_erase, e3]
      exact q

/-- x is not True, x a bool -/
theorem op_notT : OpR X (compareOp .IsNot) (fun x y H Q => ∃ c, x = .bl c ∧ y = .bl true ∧ Q (.bl (!c)) H) := by
  intro pins s σ H x y v u Q I rx ry h
  obtain ⟨c, rfl, rfl, q⟩ := h
  cases rx
  cases ry
  refine wpAny_isNot_plain (by cases c <;> rfl) (fin_bl I q ?_)
  cases c <;> rfl
end
theorem w_forEl {K : PySem.W.Frag} {ta : TA} {g : TG} {tb : TS} {D : Ends} {σ : St} {H : Hp} (h : ta σ H fun vs H1 => ∃ a, vs = [.ref a] ∧ (∃ xs, SqL K H1 a xs) ∧ ForJ (Itel K a) g tb D σ H1) : tFor (iEnl K ta) g tb D σ H := h
theorem for_enl {K : PySem.W.Frag} {a : Addr} {xs : List V} {g : TG} {tb : TS} {D : Ends} {σ : St} {H : Hp} (Pv : Nat → St → Hp → Prop) (h0 : Pv 0 σ H) (hl : ∀ i σ H, Pv i σ H → SqL K H a xs)
    (hs : ∀ (i : Nat) (x : V) σ H p, xs[i]? = some x → Pv i σ H → H p = none → g (.ref p) σ (upd H p (.tup [.int (i : Int), x])) fun σ2 H2 => tb { D with nx := Pv (i + 1), ct := Pv (i + 1), bk := D.nx } σ2 H2) (hd : ∀ σ H, Pv xs.length σ H → D.nx σ H) :
    ForJ (Itel K a) g tb D σ H := by
  refine ⟨fun i m σ H => m = xs.length - i ∧ i ≤ xs.length ∧ Pv i σ H, ⟨xs.length, by simp, Nat.zero_le _, h0⟩, ?_⟩
  rintro i m σ H ⟨rfl, hi, p⟩
  have qa := hl i σ H p
  by_cases hlt : i < xs.length
  · refine .inr ⟨⟨xs, xs[i], qa, by simp [hlt]⟩, Pv (i + 1), fun σ' H' p' => ⟨xs.length - (i + 1), by omega, rfl, hlt, p'⟩, fun v H' yv => ?_⟩
    obtain ⟨q, x, rfl, hq, rfl, ex⟩ := yv
    exact hs i x σ H q (ex xs qa) p hq
  · have e : i = xs.length := by omega
    subst e
    exact .inl ⟨⟨xs, qa, rfl⟩, hd σ H p⟩
/-- a block over a list, one name -/
theorem cgo_list {D : Addr} {tc : TT} {te : TE} {Q : VK} {ρ : St} {H : Hp} {K : PySem.W.Frag} {a : Addr} {xs : List V} (Pv : Nat → List V → Hp → Prop) (h0 : Pv 0 [] (upd H D (.lst []))) (hl : ∀ i ys H', i ≤ xs.length → Pv i ys H' → SqL K H' a xs)
    (hs : ∀ i x ys H', xs[i]? = some x → Pv i ys H' → H' D = some (.lst ys) → ∀ (R : V → Hp → Prop) (S : Hp → Prop), (∀ y H4, H4 D = some (.lst ys) → ys.length < sizeLine → Pv (i + 1) (ys ++ [y]) (upd H4 D (.lst (ys ++ [y]))) → R y H4) → (∀ H3, H3 D = some (.lst ys) → Pv (i + 1) ys H3 → S H3) →
      tc (some x :: ρ) H' fun b H3 => if b = true then te (some x :: ρ) H3 R else S H3)
    (hd : ∀ ys H', Pv xs.length ys H' → H' D = some (.lst ys) → Q (.ref D) H') : CGo (Itl K a) D (gName 0) tc te Q (none :: ρ) H := by
  refine ⟨fun i m τ ys H' => m = xs.length - i ∧ i ≤ xs.length ∧ (∃ tv, τ = tv :: ρ) ∧ Pv i ys H' ∧ H' D = some (.lst ys), ⟨xs.length, by omega, Nat.zero_le _, ⟨_, rfl⟩, h0, upd_same⟩, ?_⟩
  rintro i m τ ys H' ⟨rfl, hi, ⟨tv, rfl⟩, hp, hD⟩
  refine ⟨hD, ?_⟩
  have sq := hl i ys H' hi hp
  by_cases hlt : i < xs.length
  · refine .inr ⟨⟨xs, xs[i], sq, by simp [hlt]⟩, ?_⟩
    rintro v H'' ⟨rfl, hv⟩
    have hv' := hv xs sq
    show tc (some v :: ρ) _ _
    exact hs i v ys _ hv' hp hD _ _ (fun y H4 a b c => ⟨a, b, xs.length - (i + 1), by omega, rfl, hlt, ⟨_, rfl⟩, c, upd_same⟩) fun H3 a c => ⟨xs.length - (i + 1), by omega, rfl, hlt, ⟨_, rfl⟩, c, a⟩
  · have e : i = xs.length := by omega
    subst e
    exact .inl ⟨⟨xs, sq, Nat.le_refl _⟩, hd ys _ hp hD⟩
end L2

set_option Elab.async false
set_option linter.all false
set_option maxRecDepth 100000
namespace L2
open PySem PySem.Spec PyProof.Rows
/-! ### comprehensions whose own names are read by one within them -/
structure NScope (o sc : Scope) (TN F : List Str) : Prop where
  okind : o.kind = .function
  kind : sc.kind = .function
  names : ∀ y ∈ sc.names, y.2 = .local → sc.names.lookup y.1 = some .local
  clN : ∀ y ∈ sc.names, y.2 = .cell → sc.names.lookup y.1 = some .cell
  fr : ∀ y ∈ sc.names, y.2 = .free → o.names.lookup y.1 = some .cell ∧ sc.names.lookup y.1 = some .free
  ff : ∀ y ∈ F, (y, NameKind.free) ∈ sc.names
theorem cellsFrom_app : ∀ (names : List (Str × NameKind)) (n : Nat) (acc : List (Str × Addr)), cellsFrom n names acc = cellsFrom n names [] ++ acc
  | [], n, acc => by simp [cellsFrom]
  | (x, k) :: r, n, acc => by
    unfold cellsFrom
    split
    · rw [cellsFrom_app r (n + 1) ((x, n) :: acc), cellsFrom_app r (n + 1) [(x, n)]]
      simp
    · exact cellsFrom_app r n acc
theorem cellsFrom_name : ∀ (names : List (Str × NameKind)) (n : Nat) (acc : List (Str × Addr)) (x : Str) (c : Addr), (x, c) ∈ cellsFrom n names acc → (x, NameKind.cell) ∈ names ∨ (x, c) ∈ acc
  | [], n, acc, x, c, h => .inr h
  | (y, k) :: r, n, acc, x, c, h => by
    unfold cellsFrom at h
    split at h
    · rename_i hk
      have hk' : k = .cell := by simpa using hk
      subst hk'
      rcases cellsFrom_name r (n + 1) ((y, n) :: acc) x c h with z | z
      · exact .inl (List.mem_cons_of_mem _ z)
      · rcases List.mem_cons.mp z with e | z
        · cases e
          exact .inl List.mem_cons_self
        · exact .inr z
    · rcases cellsFrom_name r n acc x c h with z | z
      · exact .inl (List.mem_cons_of_mem _ z)
      · exact .inr z
/-- the cells of a block: its own, then those that it is given -/
def ownC (n : Nat) (sc : Scope) : List (Str × Addr) := cellsFrom (n + 1) sc.names []
def allC (env : Env) (n : Nat) (sc : Scope) : List (Str × Addr) := ownC n sc ++ cloF env sc.names []
theorem look_app {α : Type} {x : Str} {c : α} : ∀ {l r : List (Str × α)}, (l ++ r).lookup x = some c → l.lookup x = some c ∨ (l.lookup x = none ∧ r.lookup x = some c)
  | [], r, h => .inr ⟨rfl, h⟩
  | (y, d) :: l, r, h => by
    rw [List.cons_append, List.lookup_cons] at h
    rw [List.lookup_cons]
    cases e : x == y with
    | true => rw [e] at h; exact .inl h
    | false => rw [e] at h; exact look_app h
theorem look_l {α : Type} {x : Str} {c : α} : ∀ {l r : List (Str × α)}, l.lookup x = some c → (l ++ r).lookup x = some c
  | [], r, h => by cases h
  | (y, d) :: l, r, h => by
    rw [List.lookup_cons] at h
    rw [List.cons_append, List.lookup_cons]
    cases e : x == y with
    | true => rw [e] at h; exact h
    | false => rw [e] at h; exact look_l h
theorem look_r {α : Type} {x : Str} : ∀ {l r : List (Str × α)}, l.lookup x = none → (l ++ r).lookup x = r.lookup x
  | [], r, h => rfl
  | (y, d) :: l, r, h => by
    rw [List.lookup_cons] at h
    rw [List.cons_append, List.lookup_cons]
    cases e : x == y with
    | true => rw [e] at h; cases h
    | false => rw [e] at h; exact look_r h
theorem NScope.own {o sc : Scope} {TN F : List Str} (S : NScope o sc TN F) {n : Nat} {x : Str} {c : Addr} (h : (ownC n sc).lookup x = some c) : sc.names.lookup x = some .cell := by
  rcases cellsFrom_name sc.names (n + 1) [] x c (PySem.mem_of_lookup h) with z | z
  · exact S.clN _ z rfl
  · cases z
theorem NScope.notown {o sc : Scope} {TN F : List Str} (S : NScope o sc TN F) {n : Nat} {x : Str} (h : (x, NameKind.free) ∈ sc.names) : (ownC n sc).lookup x = none := by
  cases e : (ownC n sc).lookup x with
  | none => rfl
  | some c =>
    have h1 := S.own e
    rw [(S.fr _ h rfl).2] at h1
    cases h1
theorem relabel_from2 {env : Env} {y : Str} : ∀ {names : List (Str × NameKind)},
    ((names.map fun (n, k) => if (k == NameKind.free && env.scope.kind == .function && env.kindOf n == some .cell) then (n, NameKind.cell) else (n, k)).lookup y = some .cell ∨
     (names.map fun (n, k) => if (k == NameKind.free && env.scope.kind == .function && env.kindOf n == some .cell) then (n, NameKind.cell) else (n, k)).lookup y = some .free) → (y, NameKind.free) ∈ names ∨ (y, NameKind.cell) ∈ names
  | [], h => by simp at h
  | (n, k) :: r, h => by
    have ih := @relabel_from2 env y r
    have h' : List.lookup y ((if (k == NameKind.free && env.scope.kind == .function && env.kindOf n == some .cell) = true then (n, NameKind.cell) else (n, k)) :: (r.map fun (n, k) => if (k == NameKind.free && env.scope.kind == .function && env.kindOf n == some .cell) then (n, NameKind.cell) else (n, k))) = some .cell ∨
      List.lookup y ((if (k == NameKind.free && env.scope.kind == .function && env.kindOf n == some .cell) = true then (n, NameKind.cell) else (n, k)) :: (r.map fun (n, k) => if (k == NameKind.free && env.scope.kind == .function && env.kindOf n == some .cell) then (n, NameKind.cell) else (n, k))) = some .free := h
    clear h
    have more : ((y, NameKind.free) ∈ r ∨ (y, NameKind.cell) ∈ r) → (y, NameKind.free) ∈ (n, k) :: r ∨ (y, NameKind.cell) ∈ (n, k) :: r := fun z => z.elim (fun z => .inl (List.mem_cons_of_mem _ z)) fun z => .inr (List.mem_cons_of_mem _ z)
    cases hx : y == n with
    | true =>
      have e : y = n := by simpa using hx
      subst e
      by_cases hc' : (k == NameKind.free && env.scope.kind == .function && env.kindOf y == some .cell) = true
      · have hk : k = .free := by
          have := (Bool.and_eq_true _ _ ▸ (Bool.and_eq_true _ _ ▸ hc').1).1
          simpa using this
        subst hk
        exact .inl List.mem_cons_self
      · rw [if_neg hc'] at h'
        simp only [List.lookup_cons, beq_self_eq_true] at h'
        rcases h' with h' | h'
        · cases h'
          exact .inr List.mem_cons_self
        · cases h'
          exact .inl List.mem_cons_self
    | false =>
      by_cases hc' : (k == NameKind.free && env.scope.kind == .function && env.kindOf n == some .cell) = true
      · rw [if_pos hc'] at h'; simp only [List.lookup_cons, hx] at h'; exact more (ih h')
      · rw [if_neg hc'] at h'; simp only [List.lookup_cons, hx] at h'; exact more (ih h')
/-- the block's frame and its cells are laid -/
theorem newEnv_cells {M : Model} {A : Around} {E : Value → Shared → Prop} {s : Shared} {scope : Scope} {globals : Addr} {cl : List (Str × Addr)} {qual : Str} {env : Env} {Q : Env → Shared → Prop}
    (hQ : ∀ h', h'.Ns s.heap.objs.size (fun _ => none) → (∀ b o, s.heap.get? b = some o → h'.get? b = some o) → (∀ x c, (ownC s.heap.objs.size scope).lookup x = some c → h'.IsCell c none ∧ s.heap.objs.size < c) → ((ownC s.heap.objs.size scope).Pairwise fun x y => x.2 ≠ y.2) →
      Q { scope := scope, locals := s.heap.objs.size, globals := globals, cells := ownC s.heap.objs.size scope ++ cl, qual := qual, func := none, code := env.code, frame := env.frame, builtins := env.builtins } { s with heap := h' }) :
    wpAny M A (newFunctionEnv scope globals cl [] qual none .none (some env)) Q E s := by
  simp only [newFunctionEnv, Option.isSome_some, if_true]
  refine wpAny_bind (wpAny_alloc ?_)
  refine wpAny_bind (wpAny_layCells _ (fun name kind cells => by cases hkc : kind == NameKind.cell <;> simp [hkc]) _ _ _ _ ?_)
  have ok := cellsFrom_ok scope.names (s.heap.push { cls := .type "dict", data := .dict #[] }) (s.heap.objs.size + 1) [] ⟨fun _ _ hm => (nomatch hm), List.Pairwise.nil⟩ (by rw [Heap.size_push]; exact Nat.le_refl _)
  rw [Heap.size_push] at ok
  rw [show ({ s with heap := s.heap.push { cls := .type "dict", data := .dict #[] } } : Shared).heap.objs.size = s.heap.objs.size + 1 from Heap.size_push ..]
  rw [cellsFrom_app]
  refine wpAny_bind ?_
  rw [List.forIn_nil]
  refine wpAny_pure (wpAny_pure ?_)
  exact hQ _ ((Heap.Ns.new s.heap (.type "dict")).keeps (pushCells_keeps _ _)) (fun b o e => pushCells_keeps _ _ b o (Heap.get?_push_of_some _ e)) (fun x c hc => ⟨(ok.empty x c (PySem.mem_of_lookup hc)).1, (ok.empty x c (PySem.mem_of_lookup hc)).2⟩) ok.apart
/-- the context of such a block -/
def cxN (X : Cx) (N : List Str) (sc : Scope) (cl : List (Str × Addr)) (C : Addr) (fp : List Addr) (s₃ : Shared) (H₃ : Hp) (xe : Value → Shared → Prop) : Cx :=
  { X with N := N, s₀ := s₃, H₀ := H₃, env := compEnvC sc cl C X.env, outer := X.stack, ex := fp, fn := fun y => sc.names.lookup y == some .cell, pn := [], xe := xe }

theorem inv_compN {X : Cx} {pins : List (Addr × Obj)} {σ : St} {H : Hp} {s : Shared} {sc : Scope} {TN F : List Str} {ix : List Nat} {fp : List Addr} {h4 : Heap} {tk : Nat} {m : Str → Option Value} {xe : Value → Shared → Prop}
    (S : NScope X.env.scope sc TN F) (hix : ix.map (fun i => X.N[i]?) = F.map some) (I : Inv X pins σ H s) (hf : ∀ b ∈ fp, FpOk X pins H b) (ho : ∀ b ∈ fp, ∃ o, s.heap.get? b = some o)
    (hk : ∀ b o, s.heap.get? b = some o → h4.get? b = some o) (hn : h4.Ns s.heap.objs.size m) (hcl : ∀ x c, (ownC s.heap.objs.size sc).lookup x = some c → h4.IsCell c none ∧ s.heap.objs.size < c) (hap : (ownC s.heap.objs.size sc).Pairwise fun x y => x.2 ≠ y.2) :
    Inv (cxN X (TN ++ F) sc (allC X.env s.heap.objs.size sc) s.heap.objs.size fp s H xe) [] (List.replicate TN.length none ++ sub ix σ) H { s with heap := h4, toks := tk } := by
  have cl0 : ∀ x c, (cloF X.env sc.names []).lookup x = some c → X.env.cells.lookup x = some c := fun x c e => by
    rw [cloF_lookup] at e
    by_cases hx : (x, NameKind.free) ∈ sc.names
    · rw [if_pos hx] at e
      obtain ⟨c', hc'⟩ := I.ok.has x (.inl (S.fr _ hx rfl).1)
      rw [hc'] at e ⊢
      exact e
    · rw [if_neg hx] at e
      cases e
  have cl : ∀ x c, (allC X.env s.heap.objs.size sc).lookup x = some c → (ownC s.heap.objs.size sc).lookup x = some c ∨ X.env.cells.lookup x = some c := fun x c e => by
    rcases look_app e with z | ⟨_, z⟩
    · exact .inl z
    · exact .inr (cl0 x c z)
  have old : ∀ x c, X.env.cells.lookup x = some c → c < s.heap.objs.size := fun x c e => by
    obtain ⟨v, o, ho', _⟩ := I.cell x c e
    exact Heap.lt_size ho'
  have cl' : ∀ x, (x, NameKind.free) ∈ sc.names → (allC X.env s.heap.objs.size sc).lookup x = X.env.cells.lookup x := fun x hx => by
    unfold allC
    rw [look_r (S.notown hx), cloF_lookup, if_pos hx]
    obtain ⟨c', hc'⟩ := I.ok.has x (.inl (S.fr _ hx rfl).1)
    rw [hc']
    rfl
  have hlen : ix.length = F.length := by
    have := congrArg List.length hix
    simpa using this
  refine ⟨⟨I.ok.mod, S.kind, I.ok.glob, I.ok.blt, Nat.le_refl _, fun x y c h1 h2 => ?_, fun x hx => ?_, fun x c z h => ?_, I.ok.hd, I.ok.frames, .inl rfl, fun b hb => ⟨?_, fun x c e => ?_⟩,
    I.bs, Nat.le_trans I.ok.bsz I.sz, fun b o e hb => ?_, fun b hb hfs => ?_, I.stack, I.stkFree⟩, rfl, I.bare, Un.kept hk, ⟨m, hn, fun i x v h1 h2 h3 => ?_⟩, fun x c e => ?_, I.hok.fresh (Nat.le_refl _), fun x c e => ?_, fun p hp => absurd (show p ∈ ([] : List (Addr × Obj)) from hp) (by simp), I.hok.kept hk, ?_⟩
  · rcases cl x c h1 with a | a <;> rcases cl y c h2 with b | b
    · exact name_of_addr hap (PySem.mem_of_lookup a) (PySem.mem_of_lookup b)
    · exact absurd (old y c b) (Nat.not_lt.mpr (Nat.le_of_lt (hcl x c a).2))
    · exact absurd (old x c a) (Nat.not_lt.mpr (Nat.le_of_lt (hcl y c b).2))
    · exact I.ok.inj x y c a b
  · rcases relabel_from2 (env := X.env) hx with hx' | hx'
    · obtain ⟨c, hc⟩ := I.ok.has x (.inl (S.fr _ hx' rfl).1)
      exact ⟨c, (cl' x hx').trans hc⟩
    · obtain ⟨c, hc⟩ := cell_has (n := s.heap.objs.size + 1) (S.clN _ hx' rfl)
      exact ⟨c, look_l hc⟩
  · have z' : sc.names.lookup x = some .cell := by simpa [cxN] using z
    obtain ⟨c', hc⟩ := cell_has (n := s.heap.objs.size + 1) z'
    have hc' : (allC X.env s.heap.objs.size sc).lookup x = some c' := look_l hc
    have h' : (allC X.env s.heap.objs.size sc).lookup x = some c := h
    have ec : c' = c := Option.some.inj (hc'.symm.trans h')
    rw [← ec]
    exact Nat.le_of_lt (hcl x c' hc).2
  · obtain ⟨o, e⟩ := ho b hb
    exact Nat.ne_of_lt (Heap.lt_size e)
  · rcases cl x c e with z | z
    · obtain ⟨o, eb⟩ := ho b hb
      exact fun w => absurd (Heap.lt_size eb) (by rw [← w]; exact Nat.not_lt.mpr (Nat.le_of_lt (hcl x c z).2))
    · exact (hf b hb).2.2.2.2.1 x c z
  · rcases (hf b hb).2.2.2.1 with z | z
    · exact I.ok.noex b o e z
    · exact absurd (Nat.lt_of_lt_of_le (Heap.lt_size e) (Nat.le_trans I.ok.bsz z)) (Nat.lt_irrefl _)
  · rcases List.mem_cons.mp (I.stkSub b hfs) with z | z
    · exact (hf b hb).2.1 z
    · exact (hf b hb).2.2.1 z
  · have hi : TN.length ≤ i := by
      apply Nat.le_of_not_lt
      intro hlt
      rw [List.getElem?_append_left (by simpa using hlt), List.getElem?_replicate] at h2
      split at h2 <;> cases h2
    rw [List.getElem?_append_right (by simpa using hi), List.length_replicate] at h2
    have h1' : F[i - TN.length]? = some x := by
      have : (TN ++ F)[i]? = some x := h1
      rw [List.getElem?_append_right hi] at this
      exact this
    have e3 := congrArg (fun l => l[i - TN.length]?) hix
    simp only [List.getElem?_map, h1', Option.map_some] at e3
    unfold sub at h2
    rw [List.getElem?_map] at h2
    cases ej : ix[i - TN.length]? with
    | none => rw [ej] at h2; cases h2
    | some k =>
      rw [ej] at h2 e3
      have h2' : (σ[k]?).join = some v := Option.some.inj h2
      have e3' : X.N[k]? = some x := Option.some.inj e3
      have hσ : σ[k]? = some (some v) := by
        cases e : σ[k]? with
        | none => rw [e] at h2'; cases h2'
        | some q =>
          rw [e] at h2'
          have : q = some v := h2'
          rw [this]
      have hfr := S.ff x (List.mem_of_getElem? h1')
      have hcell := (S.fr _ hfr rfl).1
      obtain ⟨m0, hn0, hl0⟩ := I.loc
      obtain ⟨u, r, l⟩ := hl0 k x v e3' hσ (.inr (.inl hcell))
      refine ⟨u, r, ?_⟩
      rcases l with ⟨l1, _⟩ | ⟨_, c, hc, o, ho', hd⟩
      · have l1' : X.env.scope.names.lookup x = some .local := l1
        rw [hcell] at l1'
        cases l1'
      · exact .inr ⟨.inl (relabel_free (env := X.env) S.okind hcell (S.fr _ hfr rfl).2), c, (cl' x hfr).trans hc, o, hk c o ho', hd⟩
  · rcases cl x c e with z | z
    · exact ⟨_, (hcl x c z).1⟩
    · obtain ⟨v, o, ho', hd⟩ := I.cell x c z
      exact ⟨v, o, hk c o ho', hd⟩
  · rcases cl x c e with z | z
    · exact I.hok.fresh (Nat.le_of_lt (hcl x c z).2)
    · exact I.freeC x c z
  · show _ = (TN ++ F).length
    rw [List.length_append, List.length_append, List.length_replicate]
    unfold sub
    rw [List.length_map, hlen]

theorem comp_blockN {X : Cx} {pins : List (Addr × Obj)} {σ : St} {H : Hp} {s : Shared} {sc : Scope} {TN F : List Str} {ix : List Nat} {elt tg iter : Expr} {ifs : List Expr} {pos : Pos} {g : TG} {tc : TT} {te : TE} {J : It} {fp : List Addr} {it : Addr} {tn : Nat → Heap → Prop} {Q : VK}
    {RR : Value → Addr → Result → Shared → Prop} {E : Value → Shared → Prop}
    (S : NScope X.env.scope sc TN F) (hix : ix.map (fun i => X.N[i]?) = F.map some) (hc : X.calm = true) (I : Inv X pins σ H s) (T : Turn X.prog X.w X.K tg J fp it tn) (st : tn 0 s.heap) (hf : ∀ b ∈ fp, FpOk X pins H b)
    (hg : ∀ cl C fp s3 H3 xe, PG (cxN X (TN ++ F) sc cl C fp s3 H3 xe) tg g) (ht : ∀ cl C fp s3 H3 xe, PTs (cxN X (TN ++ F) sc cl C fp s3 H3 xe) ifs tc) (he : ∀ cl C fp s3 H3 xe, PE (cxN X (TN ++ F) sc cl C fp s3 H3 xe) elt te)
    (hW : ∀ D, H D = none → CGo J D g tc te Q (List.replicate TN.length none ++ sub ix σ) H)
    (fin : ∀ D C H' s', Inv X pins σ H' s' → (∃ m, s'.heap.Ns C m) → H' C = none → C ≠ X.env.locals → X.s₀.heap.objs.size ≤ C → (∀ x c, X.env.cells.lookup x = some c → c ≠ C) → (∀ p ∈ X.pn ++ pins, p.1 ≠ C) → Q (.ref D) H' → RR (.ref D) C (.ok .next) s') :
    wpAny (model X.prog X.w) X.A (newList []) (fun acc s₃ => wpAny (model X.prog X.w) X.A (newFunctionEnv sc X.env.globals (cloF X.env sc.names []) [] X.env.qual none .none (some X.env)) (fun cenv s₄ =>
      codeAny (model X.prog X.w) X.A (.compStart (.ListComp elt [⟨tg, iter, ifs, 0⟩] sc pos) 0 (.ref it) acc { cenv with scope := relabel sc X.env }) (RR acc cenv.locals) s₄) E s₃) E s := by
  have hfo : ∀ b ∈ fp, ∃ o, s.heap.get? b = some o := fun b hb => let ⟨o, e, _⟩ := T.obj 0 _ st b hb; ⟨o, e⟩
  refine wpAny_newObj_type ?_
  obtain ⟨W, ⟨m0, w0⟩, go⟩ := hW s.heap.objs.size I.fresh
  have I3 : Inv X pins σ (upd H s.heap.objs.size (.lst [])) { s with heap := s.heap.push { cls := .type "list", data := .seq ([] : List Value).toArray } } := I.lnew (its := []) (ys := []) (t' := s.toks) .nil (Nat.zero_le _)
  generalize hs3 : ({ s with heap := s.heap.push { cls := .type "list", data := .seq ([] : List Value).toArray } } : Shared) = s3 at I3
  have hk3 : ∀ b o, s.heap.get? b = some o → s3.heap.get? b = some o := fun b o e => by
    rw [← hs3]
    exact Heap.get?_push_of_some _ e
  have hf3 : ∀ b ∈ fp, FpOk X pins (upd H s.heap.objs.size (.lst [])) b := fun b hb => by
    obtain ⟨o, e⟩ := hfo b hb
    exact ⟨by rw [upd_ne (Nat.ne_of_lt (Heap.lt_size e))]; exact (hf b hb).1, (hf b hb).2⟩
  have st3 : tn 0 s3.heap := T.keep 0 _ _ st fun b hb o e => hk3 b o e
  show wpAny _ _ _ _ _ s3
  refine newEnv_cells (fun h4 hn4 hk4 hcl4 hap4 => ?_)
  generalize hR : RR (.ref s.heap.objs.size) s3.heap.objs.size = R
  have loop : ∀ s4 : Shared, s4 = { s3 with heap := h4 } →
      codeAny (model X.prog X.w) X.A (.compLoop (.ListComp elt [⟨tg, iter, ifs, 0⟩] sc pos) 0 (.ref it) (.ref s.heap.objs.size) (compEnvC sc (allC X.env s3.heap.objs.size sc) s3.heap.objs.size X.env)) R s4 := by
    rintro s4 rfl
    let X' : Cx := cxN X (TN ++ F) sc (allC X.env s3.heap.objs.size sc) s3.heap.objs.size fp s3 (upd H s.heap.objs.size (.lst [])) (notedBy (model X.prog X.w) X.A (compEnvC sc (allC X.env s3.heap.objs.size sc) s3.heap.objs.size X.env) fun e s' => R (.error e) s')
    have I4 : Inv X' [] (List.replicate TN.length none ++ sub ix σ) (upd H s.heap.objs.size (.lst [])) { s3 with heap := h4 } :=
      inv_compN S hix I3 hf3 (fun b hb => let ⟨o, e⟩ := hfo b hb; ⟨o, hk3 b o e⟩) hk4 hn4 hcl4 hap4
    have fpx : ∀ {H' : Hp}, (∀ b ∈ fp, H' b = none) → ∀ b ∈ fp, FpOk X' [] H' b := fun {H'} hn b hb => by
      refine ⟨hn b hb, (I4.ok.exf b hb).1, fun z => I4.ok.exfs b hb z, .inl hb, fun x c e => (I4.ok.exf b hb).2 x c e, fun p hp => absurd (show p ∈ ([] : List (Addr × Obj)) from hp) (by simp)⟩
    refine comp_loop (fun n s' => ∃ i τ ys H', Inv X' [] τ H' s' ∧ tn i s'.heap ∧ (∀ b ∈ fp, H' b = none) ∧ W i n τ ys H') ?_ m0 ⟨0, _, [], _, I4, T.keep 0 _ _ st3 fun b hb o e => hk4 b o e, fun b hb => (hf3 b hb).1, w0⟩
    rintro n s5 ⟨i, τ, ys, H5, I5, st5, fr5, w5⟩
    obtain ⟨hD, hgo⟩ := go i n τ ys H5 w5
    rcases hgo with ⟨stop, q⟩ | ⟨hgo, step⟩
    · refine thn (T.done X' rfl rfl rfl hc i [] s5 τ H5 X'.xe I5 (fpx fr5) st5 stop) fun r s6 ⟨hr, I6⟩ => ?_
      subst hr
      show R (.ok .next) s6
      rw [← hR]
      have J6 : Inv X pins σ H5 s6 := I3.call' (ch := fp) I6.os I6.base I6.hok I6.bare fun b hb => ⟨(hf3 b hb).2.2.2.1, (hf3 b hb).2.1, (hf3 b hb).2.2.2.2.1, (hf3 b hb).2.2.2.2.2⟩
      refine fin s.heap.objs.size s3.heap.objs.size H5 s6 J6 (let ⟨m, hn, _⟩ := I6.loc; ⟨m, hn⟩) I6.free (Nat.ne_of_gt I3.lt) I3.sz (fun x c e z => ?_) (fun p hp z => ?_) q
      · obtain ⟨v, o, ho, _⟩ := I3.cell x c e
        exact absurd (Heap.lt_size ho) (by rw [z]; exact Nat.lt_irrefl _)
      · exact absurd (Heap.lt_size (I3.pin p hp).1) (by rw [z]; exact Nat.lt_irrefl _)
    · refine thn (T.item X' rfl rfl rfl hc i [] s5 τ H5 X'.xe I5 (fpx fr5) st5 hgo) fun r s6 ⟨u, hr, h6⟩ => ?_
      subst hr
      refine thn h6 fun _ s7 ⟨v, H7, I7, r7, y7, st7, fr7⟩ => ?_
      have I7' := I7.pinned (fpx fr7) (T.obj _ _ st7)
      refine thn (hg _ _ _ _ _ _ _ s7 τ H7 v u _ I7' r7 (step v H7 y7)) fun _ s8 ⟨τ8, H8, I8, q8⟩ => ?_
      refine thn (ht _ _ _ _ _ _ _ s8 τ8 H8 _ I8 q8) fun ok s9 ⟨H9, I9, q9⟩ => ?_
      have again : ∀ {ys' : List V} {H' : Hp} {s' : Shared}, Inv X' ([] ++ pinsAt fp s7.heap) τ8 H' s' → (∃ m', m' < n ∧ W (i + 1) m' τ8 ys' H') → ∃ m, m < n ∧ ∃ i τ ys H'', Inv X' [] τ H'' s' ∧ tn i s'.heap ∧ (∀ b ∈ fp, H'' b = none) ∧ W i m τ ys H'' := fun {ys' H' s'} I' ⟨m', hm, w'⟩ => by
        refine ⟨m', hm, i + 1, τ8, ys', H', I'.unpinned, T.keep _ _ _ st7 fun b hb o e => (I'.pin (b, o) (List.mem_append_right _ (List.mem_append_right _ (mem_pinsAt hb e)))).1, fun b hb => ?_, w'⟩
        obtain ⟨o, e, d⟩ := T.obj _ _ st7 b hb
        exact (I'.pin (b, o) (List.mem_append_right _ (List.mem_append_right _ (mem_pinsAt hb e)))).2.1
      cases ok with
      | false =>
        exact again I9 q9
      | true =>
        refine thn (he _ _ _ _ _ _ _ s9 τ8 H9 _ I9 q9) fun x s10 ⟨y, H10, I10, r10, hD10, hz10, q10⟩ => ?_
        exact append_ok (X := X') I10 hD10 hz10 r10 fun s11 I11 => again I11 q10
  subst hR
  exact codeAny_compStart_list (loop _ rfl) (T.self X.A 0 _ _ _ (T.keep 0 _ _ st3 fun b hb o e => hk4 b o e) (loop _ rfl))

section
variable {X : Cx} {sc : Scope} {TN F : List Str} {ix : List Nat} {elt tg iter : Expr} {ifs : List Expr} {pos : Pos} {g : TG} {tc : TT} {te : TE} {wi : TI}
theorem closure_ofN (S : NScope X.env.scope sc TN F) {pins : List (Addr × Obj)} {σ : St} {H : Hp} {s : Shared} (I : Inv X pins σ H s) : closureFor sc X.env = pure (cloF X.env sc.names []) :=
  closure_eq fun x hx hk => I.ok.has x.1 (.inl (S.fr x hx hk).1)
/-- [elt for tg in iter ..] -/
theorem pe_compN (S : NScope X.env.scope sc TN F) (hix : ix.map (fun i => X.N[i]?) = F.map some) (hc : X.calm = true) (hi : PI X tg iter wi)
    (hg : ∀ cl C fp s3 H3 xe, PG (cxN X (TN ++ F) sc cl C fp s3 H3 xe) tg g) (ht : ∀ cl C fp s3 H3 xe, PTs (cxN X (TN ++ F) sc cl C fp s3 H3 xe) ifs tc) (he : ∀ cl C fp s3 H3 xe, PE (cxN X (TN ++ F) sc cl C fp s3 H3 xe) elt te)
    (hs : ∀ x, foldedSetIterable iter X.env x = pure x := by intro _; rfl) : PE X (.ListComp elt [⟨tg, iter, ifs, 0⟩] sc pos) (tComp wi TN.length ix g tc te) := by
  intro pins s σ H Q I h
  rw [eval_ListComp]
  refine wpAny_comprehension_free (use := none) rfl hs (closure_ofN S I) S.kind S.names (thn (hi pins s σ H _ I h) fun v s1 h1 => thn h1 fun itv s2 h2 => ?_)
  obtain ⟨it, fp, tn, J, H2, e, I2, T, st2, f2, q2⟩ := h2
  subst e
  refine comp_blockN (RR := fun acc C => compPost (model X.prog X.w) X.A X.xe none (EP X pins σ Q) acc C) S hix hc I2 T st2 f2 hg ht he q2 fun D C H' s' I' hn hC1 hC2 hC3 hC4 hC5 q => ?_
  obtain ⟨m, hn⟩ := hn
  exact ⟨m, hn, fun h' hs' => ⟨.ref D, H', I'.turned (t' := s'.toks) (fun b o hb e => (hs'.2 b hb).trans e) hC1 hC2 (.inr hC3) hC4 hC5, rfl, q⟩⟩
/-- y = [elt for tg in iter ..], y a plain name of the def on the comprehension's own line -/
theorem ps_setCN {i : Nat} {y : Str} {py spos : Pos} (hN : X.N.Nodup) (hiy : X.N[i]? = some y) (hy : X.env.scope.names.lookup y = some .local) (S : NScope X.env.scope sc TN F) (hix : ix.map (fun i => X.N[i]?) = F.map some) (hc : X.calm = true) (hi : PI X tg iter wi)
    (hg : ∀ cl C fp s3 H3 xe, PG (cxN X (TN ++ F) sc cl C fp s3 H3 xe) tg g) (ht : ∀ cl C fp s3 H3 xe, PTs (cxN X (TN ++ F) sc cl C fp s3 H3 xe) ifs tc) (he : ∀ cl C fp s3 H3 xe, PE (cxN X (TN ++ F) sc cl C fp s3 H3 xe) elt te)
    (hsw : swapsWith (.ListComp elt [⟨tg, iter, ifs, 0⟩] sc pos) (some (.Name y py)) spos.line X.env = pure true := by rfl)
    (hs : ∀ x, foldedSetIterable iter X.env x = pure x := by intro _; rfl) : PS X (.Assign [.Name y py] (.ListComp elt [⟨tg, iter, ifs, 0⟩] sc pos) spos) (tAsg (tComp wi TN.length ix g tc te) (gName i)) := by
  intro pins s σ H D I h
  rw [exec_Assign_Name_used _ _ _ _ hsw]; refine wpAny_bind (wpAny_standAt (wpAny_bind ?_))
  show wpAny _ X.A (do let _ ← comprehension (.ListComp elt [⟨tg, iter, ifs, 0⟩] sc pos) sc X.env _ (newList []) false (eval iter X.env) (some (assign (.Name y py) X.env))) _ _ s
  refine wpAny_bind (wpAny_mono (wpAny_comprehension_free (use := some (assign (.Name y py) X.env)) (Q := fun _ s' => SP X pins D .next s') rfl hs (closure_ofN S I) S.kind S.names
    (thn (hi pins s σ H _ I h) fun v s1 h1 => thn h1 fun itv s2 h2 => ?_)) (fun _ s' hq => wpAny_pure (wpAny_pure hq)) fun _ _ e => e)
  obtain ⟨it, fp, tn, J, H2, e, I2, T, st2, f2, q2⟩ := h2
  subst e
  refine comp_blockN (RR := fun acc C => compPost (model X.prog X.w) X.A X.xe (some (assign (.Name y py) X.env)) (fun _ s' => SP X pins D .next s') acc C) S hix hc I2 T st2 f2 hg ht he q2 fun Dl C H' s' I' hn hC1 hC2 hC3 hC4 hC5 q => ?_
  obtain ⟨m, hn⟩ := hn
  show wpAny _ X.A (assign (.Name y py) X.env (.ref Dl)) _ _ _
  refine wpAny_assign_Name (store_ok2 I' hN hiy (.inl hy) (show RelV (.ref Dl) (.ref Dl) from rfl) (fun s'' I'' ⟨a, hsb, ha⟩ => ?_) (.inr hy))
  have haC : C ≠ a := by
    rcases ha with z | z
    · rw [z]; exact hC2
    · exact fun z' => hC4 y a z z'.symm
  refine ⟨m, hn.sameBut hsb haC, fun h' hs' => ?_⟩
  exact ⟨_, H', I''.turned (t' := s''.toks) (fun b o hb e => (hs'.2 b hb).trans e) hC1 hC2 (.inr hC3) hC4 hC5, q⟩
end
/-- such a block's names -/
structure NBScope (o sc : Scope) (TN F G : List Str) : Prop extends NScope o sc TN F where
  nd : (TN ++ F).Nodup
  vis : ∀ x ∈ TN ++ F, Vis (relabelS sc o) x
  loc : ∀ x ∈ TN, (relabelS sc o).names.lookup x = some .local ∨ ((relabelS sc o).names.lookup x = some .cell ∧ sc.names.lookup x = some .cell)
  gl : ∀ x ∈ G, (relabelS sc o).names.lookup x = some .globalImplicit
section
variable {X : Cx} {sc : Scope} {TN F G : List Str} {cl : List (Str × Addr)} {C : Addr} {fp : List Addr} {s3 : Shared} {H3 : Hp} {xe : Value → Shared → Prop} {x : Str} {pos : Pos}
theorem pvbN (S : NBScope X.env.scope sc TN F G) (i : Nat) (hN : (TN ++ F)[i]? = some x := by rfl) (hd : (x == ("__debug__" : Str)) = false := by decide) (hcd : (x == ("__classdict__" : Str)) = false := by decide) : PE (cxN X (TN ++ F) sc cl C fp s3 H3 xe) (.Name x pos) (tVar i) :=
  pe_var hN (S.vis x (List.mem_of_getElem? hN)) hd hcd
theorem pgbN (S : NBScope X.env.scope sc TN F G) (i : Nat) (hN : (TN ++ F)[i]? = some x := by rfl) (hT : TN[i]? = some x := by rfl) : PG (cxN X (TN ++ F) sc cl C fp s3 H3 xe) (.Name x pos) (gName i) := by
  rcases S.loc x (List.mem_of_getElem? hT) with z | ⟨z, z'⟩
  · exact pg_name S.nd hN (.inl z) (.inr z)
  · exact pg_name S.nd hN (.inr z) (.inl (by show (sc.names.lookup x == some .cell) = true; rw [z']; rfl))
theorem pgb_tupN {N : List Str} {es : List Expr} {k n : Nat} {t : TGs} (hc : X.calm = true) (h : PGs (cxN X N sc cl C fp s3 H3 xe) es t)
    (hn : (assignEach es (cxN X N sc cl C fp s3 H3 xe).env).length = n := by rfl) (hst : (assignEach es (cxN X N sc cl C fp s3 H3 xe).env).findIdx? (·.1) = none := by rfl) : PG (cxN X N sc cl C fp s3 H3 xe) (.Tuple es k pos) (gTup X.K n t) := pg_tup (X := cxN X N sc cl C fp s3 H3 xe) hc h hn hst
theorem NBScope.g (S : NBScope X.env.scope sc TN F G) (i : Nat) (hG : G[i]? = some x := by rfl) : Gl (cxN X (TN ++ F) sc cl C fp s3 H3 xe) x := S.gl x (List.mem_of_getElem? hG)
end
end L2

set_option Elab.async false
set_option linter.all false
set_option maxRecDepth 100000
namespace PySem
open Sem (wp)
open Builtin
open AutoSeq1 (wpAny_loadPart')
theorem noFill_tuple_mul : fillsNumberSlot (.type "tuple") "mul" = pure false :=
  fillsNumberSlot_seq (id := "tuple.__mul__") (r := some (.builtin "tuple.__rmul__")) F.slot_tuple_mul.lookup (by decide +kernel) F.slot_tuple_rmul.lookup (by decide +kernel)
theorem repeat_tuple : seqRepeat? (.type "tuple") = pure (some (.builtin "tuple.__mul__")) := by
  unfold seqRepeat?
  rw [seqSlot_of (T := "tuple") (name := "__mul__") (id := "tuple.__mul__") F.slot_tuple_mul.lookup (by decide +kernel), seqSlot_of (T := "tuple") (name := "__rmul__") (id := "tuple.__rmul__") F.slot_tuple_rmul.lookup (by decide +kernel)]
  rfl
theorem rmulW (a : Int) (t : Tok) (l : Addr) (items : Array Value) (n : Nat) (dd : Option Addr) (sl : Array (Option Value)) :
    Meets (Builtin.«int.__rmul__» ⟨[.int a t, .ref l], []⟩) (fun _ R s => s.heap.get? l = some { cls := .type "tuple", dict := dd, data := .seq items n, slots := sl } ∧ R (.ok (.ret Value.notImplemented)) s) :=
  .of_wp fun prog w A R s h => by obtain ⟨hp, g, d, tk, os⟩ := s; obtain ⟨hl, h⟩ := h; wp_walk; exact ⟨_, rfl, h⟩
theorem tuple_mulW1 (l : Addr) (items : Array Value) (n : Nat) (dd : Option Addr) (sl : Array (Option Value)) (u : Tok) :
    Meets (Builtin.«tuple.__mul__» ⟨[.ref l, .int 1 u], []⟩) (fun _ R s => s.heap.get? l = some { cls := .type "tuple", dict := dd, data := .seq items n, slots := sl } ∧ R (.ok (.ret (.ref l))) s) :=
  .of_wp fun prog w A R s h => by
    obtain ⟨hp, g, d, tk, os⟩ := s; obtain ⟨hl, h⟩ := h
    have f1 := AutoSeq1.idx_int
    wp_walk using wpAny_loadPart' hl
    exact ⟨_, rfl, h⟩
theorem tuple_mulW2 (l : Addr) (items : Array Value) (n : Nat) (dd : Option Addr) (sl : Array (Option Value)) (x : Int) (u : Tok) (c1 : (decide (x < -2 ^ 63) || decide (x ≥ 2 ^ 63)) = false) (c2 : (items.isEmpty || x == 1) = false) (c3 : (decide (x ≤ 0) || items.isEmpty) = false) (c4 : ¬ (items.size : Int) * x > (2 ^ 63 - 1) / 8) (c5 : Tuple.tupleTooMany ((items.size : Int) * x) = false) (hz : (List.foldl (fun x1 x2 => x1 ++ x2) #[] (List.replicate x.toNat items)).size ≤ sizeLine) :
    Meets (Builtin.«tuple.__mul__» ⟨[.ref l, .int x u], []⟩) (fun _ R s => s.heap.get? l = some { cls := .type "tuple", dict := dd, data := .seq items n, slots := sl } ∧ R (.ok (.ret (Value.ref s.heap.objs.size))) { s with heap := s.heap.push { cls := Value.type "tuple", data := Data.seq (List.foldl (fun x1 x2 => x1 ++ x2) #[] (List.replicate x.toNat items)) }, toks := s.toks }) :=
  .of_wp fun prog w A R s h => by
    obtain ⟨hp, g, d, tk, os⟩ := s; obtain ⟨hl, h⟩ := h
    have f1 := AutoSeq1.idx_int
    wp_walk using wpAny_loadPart' hl
    refine wpAny_ite_false (decide_eq_false (by rw [c1]; exact Bool.false_ne_true)) ?_
    wp_walk using wpAny_loadPart' hl
    refine wpAny_ite_false (decide_eq_false c4) ?_
    wp_walk using wpAny_loadPart' hl
    exact ⟨_, rfl, h⟩
end PySem
namespace L2
open PySem PySem.Spec PyProof.Rows
section
variable {X : Cx}
/-- a tuple times an int above 0; once: the tuple itself -/
def rRepT : R2 := fun x y H Q => ∃ a k xs, x = .ref a ∧ y = .int k ∧ H a = some (.tup xs) ∧ xs ≠ [] ∧ 0 < k ∧ k ≤ 1000 ∧ xs.length * k.toNat ≤ 1000 ∧ (k = 1 → Q (.ref a) H) ∧
  (k ≠ 1 → ∀ p, H p = none → Q (.ref p) (upd H p (.tup (List.replicate k.toNat xs).flatten)))
theorem op_repT : OpR X (binaryOp .Mult) rRepT := by
  intro pins s σ H x y v u Q I rx ry h
  obtain ⟨a, k, xs, rfl, rfl, hH, hne, h0, h1, hz, q1, q2⟩ := h
  cases rx
  obtain ⟨t, rfl⟩ := ry
  obtain ⟨z, its, rv, ⟨cls, dd, data, sl⟩, e, c, n, d⟩ := I.hok a _ hH
  simp only at c d
  subst c d
  have hl : xs.length = its.length := rv.length
  have hits : its ≠ [] := fun z => hne (rv.nil_iff.mp z)
  by_cases hk : k = 1
  · subst hk
    refine wpAny_binaryOp_repeat_ref (T := "tuple") (U := "int") (by decide) ⟨_, e, rfl⟩ (fun s' => typeIs_int s' 1 t) noFill_tuple_mul F.fills_int_mul F.slot_int_rmul repeat_tuple F.slot_int_index.lookup
      (call_meets F.slot_int_rmul (typeIs_int s 1 t) F.entry_int_rmul (F.args_int_rmul_2 _ _) (rmulW 1 t a its.toArray n dd sl)
        ⟨e, rfl, ⟨_, e, rfl⟩, call_meets F.slot_tuple_mul ⟨_, e, rfl⟩ F.entry_tuple_mul (F.args_tuple_mul_2 _ _) (tuple_mulW1 a its.toArray n dd sl t) ⟨e, ?_⟩⟩)
    exact ⟨.ref a, H, I, rfl, q1 rfl⟩
  · have hnew : List.foldl (fun x1 x2 => x1 ++ x2) #[] (List.replicate k.toNat its.toArray) = (List.replicate k.toNat its).flatten.toArray := by
      have := foldl_rep its k.toNat []
      rw [List.nil_append] at this
      exact this
    have hsz : its.length * k.toNat ≤ 1000 := by rw [← hl]; exact hz
    have h10 : (1000 : Nat) ≤ sizeLine := by decide
    have hmul : ((its.toArray.size : Nat) : Int) * k ≤ 1000 := by
      rw [List.size_toArray]
      have : ((its.length : Nat) : Int) * k = ((its.length * k.toNat : Nat) : Int) := by
        rw [Int.natCast_mul, Int.toNat_of_nonneg (by omega)]
      omega
    have hlen : (List.replicate k.toNat its).flatten.length ≤ sizeLine := by
      rw [len_rep, Nat.mul_comm]
      omega
    refine wpAny_binaryOp_repeat_ref (T := "tuple") (U := "int") (by decide) ⟨_, e, rfl⟩ (fun s' => typeIs_int s' k t) noFill_tuple_mul F.fills_int_mul F.slot_int_rmul repeat_tuple F.slot_int_index.lookup
      (call_meets F.slot_int_rmul (typeIs_int s k t) F.entry_int_rmul (F.args_int_rmul_2 _ _) (rmulW k t a its.toArray n dd sl)
        ⟨e, rfl, ⟨_, e, rfl⟩, call_meets F.slot_tuple_mul ⟨_, e, rfl⟩ F.entry_tuple_mul (F.args_tuple_mul_2 _ _) (tuple_mulW2 a its.toArray n dd sl k t ?_ ?_ ?_ ?_ ?_ ?_) ⟨e, ?_⟩⟩)
    · have a1 : ¬ k < -2 ^ 63 := by omega
      have a2 : ¬ k ≥ 2 ^ 63 := by omega
      rw [decide_eq_false a1, decide_eq_false a2]
      rfl
    · simp [hits, hk]
    · have a1 : ¬ k ≤ 0 := by omega
      simp [hits, a1]
    · omega
    · show decide (_ > (sizeLine : Int)) = false
      refine decide_eq_false ?_
      have : ((1000 : Nat) : Int) ≤ (sizeLine : Int) := Int.ofNat_le.mpr h10
      omega
    · rw [hnew, List.size_toArray]
      exact hlen
    · rw [hnew]
      refine ⟨.ref s.heap.objs.size, _, I.laid (t' := s.toks) (o := .tup (List.replicate k.toNat xs).flatten) (fun b ob q => Heap.get?_push_of_some _ q) (Nat.le_refl _) ?_, rfl, q2 hk _ (I.hok.fresh (Nat.le_refl _))⟩
      exact ⟨by rw [len_rep, hl, ← len_rep]; exact hlen, _, rv.rep k.toNat, IsTup.new _ _⟩
theorem iteNF {c A B : Prop} [Decidable c] (hc : ¬ c) (h : A) : if (!decide c) = true then A else B := by
  rw [decide_eq_false hc]
  exact h
theorem iteNB {c A B : Prop} [Decidable c] (h1 : ¬ c → A) (h2 : c → B) : if (!decide c) = true then A else B := by
  by_cases hc : c
  · rw [decide_eq_true hc]
    exact h2 hc
  · rw [decide_eq_false hc]
    exact h1 hc
theorem rep_one (m : Nat) (c : Int) : (List.replicate m [V.int c]).flatten = (List.replicate m c).map V.int := by
  induction m with
  | zero => rfl
  | succ m ih => rw [List.replicate_succ, List.flatten_cons, ih, List.replicate_succ]; rfl
/-- (c,) * m -/
theorem w_repT {H : Hp} {Q : VK} {z : Addr} {m : Nat} {c : Int} (e : H z = some (.tup [.int c])) (m0 : 0 < m) (hm : m ≤ 1000) (k : ∀ q H', Same H H' → H' q = some (.tup ((List.replicate m c).map V.int)) → Q (.ref q) H') : rRepT (.ref z) (.int (m : Int)) H Q := by
  refine ⟨z, _, _, rfl, rfl, e, by simp, by omega, by omega, by rw [Int.toNat_natCast]; simp; omega, fun h1 => ?_, fun _ p hp => ?_⟩
  · have : m = 1 := by omega
    subst this
    exact k z H (Same.refl H) e
  · rw [Int.toNat_natCast, rep_one]
    refine k p _ (fun b o eb => ?_) upd_same
    rw [upd_ne (ne_of_none eb hp)]
    exact eb
end
end L2

set_option Elab.async false
set_option linter.all false
set_option maxRecDepth 100000
namespace HT
open PySem PyProof.Rows
section
variable {prog : Program} {w : World} {A : Around} {E : Value → Shared → Prop} {s : Shared}
/-- t[a:b], the whole: t itself -/
theorem getItem_tuple_all {t sl : Addr} {items : Array Value} {vl vu : Value} {lo hi : Option Int} {Q : Value → Shared → Prop} (ht : IsTup s.heap t items) (hs : s.heap.IsSliceOf sl vl vu .none) (pl : IsPart vl lo) (pu : IsPart vu hi)
    (hw : sIx items.size 0 lo = 0 ∧ sIx items.size items.size hi = items.size) (h : Q (.ref t) s) : wpAny (model prog w) A (getItem (.ref t) (.ref sl)) Q E s := by
  obtain ⟨os, hos, hcs, hds⟩ := id hs
  have hTs : s.TypeIs (.ref sl) "slice" := ⟨os, hos, hcs⟩
  unfold getItem
  try with_reducible refine wpAny_holding ?_
  first | refine wpAny_bind (wpAny_pure ?_) | skip
  refine wpAny_bind (wpAny_sequenceKey ht.typeIs (by decide) ?_)
  refine wpAny_bind (wpAny_callSpecial?_slot (name := Str.ofString "__getitem__") ht.typeIs PyProof.Rows.slot_tuple_getitem
    (wpAny_call_entry PyProof.Rows.slot_tuple_getitem ht.typeIs entry_tuple_getitem ?_ (args_tuple_getitem _ _)))
  show wpAny _ _ (Builtin.Tuple.tupleItemsOf (.ref t) >>= _) _ _ s
  refine wpAny_bind (tupleItemsOf_ ht ?_)
  refine wpAny_bind (wpAny_typeOf hTs ?_)
  rw [if_pos (by decide)]
  refine wpAny_bind (sliceApplied_gen hs pl pu ?_)
  have hyes : (((sIx items.size 0 lo : Nat) : Int) == 0 && (1 : Int) == 1 && (sIx items.size items.size hi - sIx items.size 0 lo) == items.size) = true := by
    rw [hw.1, hw.2]
    simp
  show wpAny _ _ (if (((sIx items.size 0 lo : Nat) : Int) == 0 && (1 : Int) == 1 && (sIx items.size items.size hi - sIx items.size 0 lo) == items.size) = true then _ else _) _ _ s
  rw [if_pos hyes]
  refine wpAny_bind (m := Builtin.Tuple.tupleIsExact _) ?_
  unfold Builtin.Tuple.tupleIsExact
  refine wpAny_bind (wpAny_typeOf ht.typeIs (wpAny_pure ?_))
  rw [if_pos (by decide)]
  refine wpAny_bind (wpAny_rule ?_)
  first
    | exact wpAny_pure ⟨_, rfl, wpAny_pure h⟩
    | exact wpAny_bind (wpAny_pure (wpAny_pure ⟨_, rfl, wpAny_pure h⟩))
    | exact wpAny_bind (wpAny_pure ⟨_, rfl, wpAny_pure h⟩)
end
end HT
namespace L2
open PySem PySem.Spec PyProof.Rows
section
variable {X : Cx}
/-- t[a:b], whatever it is -/
def rSlG : V → Option Int → Option Int → Hp → VK → Prop := fun x lo hi H Q => ∃ a xs, x = .ref a ∧ H a = some (.tup xs) ∧ ∀ q H', Same H H' → H' q = some (.tup (cutV xs lo hi)) → Q (.ref q) H'
theorem sl_tupG : SlR X rSlG := by
  intro pins s σ H x v vl vu lo hi sl Q I rx hs pl pu h
  obtain ⟨a, xs, rfl, hH, q⟩ := h
  by_cases hw : HT.sIx xs.length 0 lo = 0 ∧ HT.sIx xs.length xs.length hi = xs.length
  · cases rx
    obtain ⟨its, r, ht, hz⟩ := I.tuple (SqT.of hH)
    have hlen : its.toArray.size = xs.length := by rw [List.size_toArray]; exact r.length.symm
    refine ⟨"tuple", _, PyProof.Rows.slot_tuple_getitem.lookup, ht.typeIs, ?_⟩
    refine HT.getItem_tuple_all ht hs pl pu (by rw [hlen]; exact hw) ?_
    refine ⟨.ref a, H, I, rfl, q a H (Same.refl H) ?_⟩
    have e : cutV xs lo hi = xs := by
      unfold cutV
      rw [hw.1, hw.2, List.drop_zero, Nat.sub_zero, List.take_length]
    rw [e]
    exact hH
  · exact sl_tup pins s σ H _ v vl vu lo hi sl Q I rx hs pl pu ⟨a, xs, rfl, SqT.of hH, hw, fun p hp => q p _ (Same.new (Same.refl H) hp) upd_same⟩
/-- t + u, whatever they are -/
def rCatG : R2 := fun x y H Q => ∃ a b xs ys, x = .ref a ∧ y = .ref b ∧ H a = some (.tup xs) ∧ H b = some (.tup ys) ∧ xs.length + ys.length ≤ 1000 ∧ ∀ q H', Same H H' → H' q = some (.tup (xs ++ ys)) → Q (.ref q) H'
theorem op_catG : OpR X (binaryOp .Add) rCatG := by
  intro pins s σ H x y v u Q I rx ry h
  obtain ⟨a, b, xs, ys, rfl, rfl, ha, hb, hz, q⟩ := h
  have hz' : xs.length + ys.length ≤ sizeLine := Nat.le_trans hz (by decide)
  by_cases hx : xs = []
  · cases rx
    cases ry
    obtain ⟨its, r1, p1, _⟩ := I.tuple (SqT.of ha)
    obtain ⟨its2, r2, p2, _⟩ := I.tuple (SqT.of hb)
    obtain ⟨⟨cls, dd, data, sl⟩, ho, hc, n, hd⟩ := id p1
    obtain ⟨⟨cls2, dd2, data2, sl2⟩, ho2, hc2, n2, hd2⟩ := id p2
    simp only at hc hd hc2 hd2
    subst hc hd hc2 hd2
    have hv : its = [] := r1.nil_iff.mpr hx
    refine concat_meets ⟨_, ho, rfl⟩ ⟨_, ho2, rfl⟩ noFill_tuple_add seq_tuple_add PySem.F.slot_tuple_add PySem.F.entry_tuple_add (PySem.F.args_tuple_add_2 _ _)
      (tuple_addW0 a b its.toArray its2.toArray n n2 dd dd2 sl sl2 (by simp [hv])) ⟨ho, ho2, ?_⟩
    refine ⟨.ref b, H, I, rfl, q b H (Same.refl H) ?_⟩
    rw [hx, List.nil_append]
    exact hb
  · refine op_catT pins s σ H _ _ v u Q I rx ry ⟨a, b, xs, ys, rfl, rfl, SqT.of ha, SqT.of hb, hx, hz', fun e => ?_, fun _ p hp => q p _ (Same.new (Same.refl H) hp) upd_same⟩
    refine q a H (Same.refl H) ?_
    rw [e, List.append_nil]
    exact ha
end
end L2
namespace PySem
open Sem (wp)
open Builtin
open AutoSeq1 (wpAny_loadPart')
theorem tuple_mulW0 (l : Addr) (items : Array Value) (n : Nat) (dd : Option Addr) (sl : Array (Option Value)) (u : Tok) (c2 : (items.isEmpty || (0 : Int) == 1) = false) :
    Meets (Builtin.«tuple.__mul__» ⟨[.ref l, .int 0 u], []⟩) (fun _ R s => s.heap.get? l = some { cls := .type "tuple", dict := dd, data := .seq items n, slots := sl } ∧ R (.ok (.ret (Value.ref s.heap.objs.size))) { s with heap := s.heap.push { cls := Value.type "tuple", data := Data.seq #[] }, toks := s.toks }) :=
  .of_wp fun prog w A R s h => by
    obtain ⟨hp, g, d, tk, os⟩ := s; obtain ⟨hl, h⟩ := h
    have f1 := AutoSeq1.idx_int
    wp_walk using wpAny_loadPart' hl
    first
      | exact ⟨_, rfl, h⟩
      | (refine wpAny_ite_false (decide_eq_false (by rw [c2]; exact Bool.false_ne_true)) ?_
         wp_walk using wpAny_loadPart' hl
         exact ⟨_, rfl, h⟩)
end PySem
namespace L2
open PySem PySem.Spec PyProof.Rows
section
variable {X : Cx}
/-- (v,) times 0 or 1 -/
def rRepB : R2 := fun x y H Q => ∃ a k v, x = .ref a ∧ y = .int k ∧ H a = some (.tup [v]) ∧ (k = 0 ∨ k = 1) ∧ (k = 1 → Q (.ref a) H) ∧ (k = 0 → ∀ p, H p = none → Q (.ref p) (upd H p (.tup [])))
theorem op_repB : OpR X (binaryOp .Mult) rRepB := by
  intro pins s σ H x y v u Q I rx ry h
  obtain ⟨a, k, v0, rfl, rfl, hH, hk, q1, q0⟩ := h
  rcases hk with rfl | rfl
  · cases rx
    obtain ⟨t, rfl⟩ := ry
    obtain ⟨z, its, rv, ⟨cls, dd, data, sl⟩, e, c, n, d⟩ := I.hok a _ hH
    simp only at c d
    subst c d
    have hits : its ≠ [] := fun z => by have := rv.nil_iff.mp z; cases this
    refine wpAny_binaryOp_repeat_ref (T := "tuple") (U := "int") (by decide) ⟨_, e, rfl⟩ (fun s' => typeIs_int s' 0 t) noFill_tuple_mul F.fills_int_mul F.slot_int_rmul repeat_tuple F.slot_int_index.lookup
      (call_meets F.slot_int_rmul (typeIs_int s 0 t) F.entry_int_rmul (F.args_int_rmul_2 _ _) (rmulW 0 t a its.toArray n dd sl)
        ⟨e, rfl, ⟨_, e, rfl⟩, call_meets F.slot_tuple_mul ⟨_, e, rfl⟩ F.entry_tuple_mul (F.args_tuple_mul_2 _ _) (tuple_mulW0 a its.toArray n dd sl t (by simp [hits])) ⟨e, ?_⟩⟩)
    refine ⟨.ref s.heap.objs.size, _, I.laid (t' := s.toks) (o := .tup []) (fun b ob q => Heap.get?_push_of_some _ q) (Nat.le_refl _) ?_, rfl, q0 rfl _ (I.hok.fresh (Nat.le_refl _))⟩
    exact ⟨Nat.zero_le _, [], .nil, IsTup.new _ _⟩
  · exact op_repT pins s σ H _ _ v u Q I rx ry ⟨a, 1, [v0], rfl, rfl, hH, by simp, by decide, by decide, by simp, fun _ => q1 rfl, fun h => absurd rfl h⟩
end
end L2

set_option Elab.async false
set_option linter.all false
set_option maxRecDepth 100000
namespace L2
open PySem PySem.Spec PyProof.Rows
theorem Same.none {H H' : Hp} {a : Addr} (k : Same H H') (h : H' a = .none) : H a = .none := by
  cases e : H a with
  | none => rfl
  | some o => rw [k _ _ e] at h; cases h
section
variable {X : Cx}
/-- (v,) times n, n from 0 on -/
def rRepG : R2 := fun x y H Q => ∃ (a : Addr) (k : Nat) (v : V), x = .ref a ∧ y = .int (k : Int) ∧ H a = some (.tup [v]) ∧ k ≤ 1000 ∧ ∀ q H', Same H H' → H' q = some (.tup (List.replicate k v)) → Q (.ref q) H'
theorem flat_rep {α : Type} (k : Nat) (v : α) : (List.replicate k [v]).flatten = List.replicate k v := by
  induction k with
  | zero => rfl
  | succ k ih => rw [List.replicate_succ, List.flatten_cons, ih, List.replicate_succ]; rfl
theorem op_repG : OpR X (binaryOp .Mult) rRepG := by
  intro pins s σ H x y v u Q I rx ry h
  obtain ⟨a, k, v0, rfl, rfl, hH, hk, q⟩ := h
  by_cases h0 : k = 0
  · subst h0
    exact op_repB pins s σ H _ _ v u Q I rx ry ⟨a, _, v0, rfl, rfl, hH, .inl rfl, fun z => absurd z (by decide), fun _ p hp => q p _ (Same.new (Same.refl H) hp) upd_same⟩
  · refine op_repT pins s σ H _ _ v u Q I rx ry ⟨a, _, [v0], rfl, rfl, hH, by simp, by omega, by omega, by rw [Int.toNat_natCast]; simp; omega, fun h1 => ?_, fun _ p hp => ?_⟩
    · have : k = 1 := by omega
      subst this
      exact q a H (Same.refl H) hH
    · rw [Int.toNat_natCast, flat_rep]
      exact q p _ (Same.new (Same.refl H) hp) upd_same
/-- len of a tuple, in a block too -/
def rLnT : List V → Hp → VK → Prop := fun xs H Q => ∃ (p : Addr) (ys : List V), xs = [.ref p] ∧ H p = some (.tup ys) ∧ Q (.int ys.length) H
theorem call_lnT : CallR X (.builtin "len") rLnT := fun pins s σ H xs us Q I r h => call_len_seq pins s σ H xs us Q I r (let ⟨p, ys, e, hp, q⟩ := h; ⟨p, ys, e, .inr (SqT.of hp), q⟩)
def rLnL : List V → Hp → VK → Prop := fun xs H Q => ∃ (p : Addr) (ys : List V), xs = [.ref p] ∧ H p = some (.lst ys) ∧ Q (.int ys.length) H
theorem call_lnL : CallR X (.builtin "len") rLnL := fun pins s σ H xs us Q I r h => call_len_seq pins s σ H xs us Q I r (let ⟨p, ys, e, hp, q⟩ := h; ⟨p, ys, e, .inl (SqL.of hp), q⟩)
/-- tuple of a list, in a block too -/
def rTupL : List V → Hp → VK → Prop := fun xs H Q => ∃ (p : Addr) (ys : List V), xs = [.ref p] ∧ H p = some (.lst ys) ∧ ∀ q H', Same H H' → H' q = some (.tup ys) → Q (.ref q) H'
theorem call_tupL : CallR X (.type "tuple") rTupL := fun pins s σ H xs us Q I r h => call_tuple_of pins s σ H xs us Q I r (let ⟨p, ys, e, hp, q⟩ := h; ⟨p, ys, e, .inl ⟨SqL.of hp, fun l hl => q l _ (Same.new (Same.refl H) hl) upd_same⟩⟩)
end
end L2
namespace G2
open PySem L2
/-! ### rows of forms -/
def Fms (H : Hp) : List Addr → List Fm → Prop
  | [], [] => True
  | q :: qs, f :: fs => FmAt H q f ∧ Fms H qs fs
  | _, _ => False
theorem Fms.tk {H H' : Hp} (k : TK H H') : ∀ {qs : List Addr} {fs : List Fm}, Fms H qs fs → Fms H' qs fs
  | [], [], _ => trivial
  | q :: qs, f :: fs, h => ⟨h.1.tk k, Fms.tk k h.2⟩
  | [], _ :: _, h => h.elim
  | _ :: _, [], h => h.elim
theorem Fms.len {H : Hp} : ∀ {qs : List Addr} {fs : List Fm}, Fms H qs fs → qs.length = fs.length
  | [], [], _ => rfl
  | q :: qs, f :: fs, h => by rw [List.length_cons, List.length_cons, Fms.len h.2]
  | [], _ :: _, h => h.elim
  | _ :: _, [], h => h.elim
theorem Fms.app {H : Hp} {ps : List Addr} {gs : List Fm} (h' : Fms H ps gs) : ∀ {qs : List Addr} {fs : List Fm}, Fms H qs fs → Fms H (qs ++ ps) (fs ++ gs)
  | [], [], _ => h'
  | q :: qs, f :: fs, h => ⟨h.1, Fms.app h' h.2⟩
  | [], _ :: _, h => h.elim
  | _ :: _, [], h => h.elim
theorem Fms.rd {H : Hp} : ∀ {qs : List Addr} {fs : List Fm}, Fms H qs fs → RdVs H (qs.map V.ref) (fs.map fmD)
  | [], [], _ => .nil
  | q :: qs, f :: fs, h => .cons (fm_rd h.1) (Fms.rd h.2)
  | [], _ :: _, h => h.elim
  | _ :: _, [], h => h.elim
theorem Fms.one {H : Hp} {q : Addr} {f : Fm} (h : FmAt H q f) : Fms H [q] [f] := ⟨h, trivial⟩
theorem Fms.two {H : Hp} {q r : Addr} {f g : Fm} (h : FmAt H q f) (h' : FmAt H r g) : Fms H [q, r] [f, g] := ⟨h, h', trivial⟩
/-! ### what may be shown -/
theorem all_shw {n h : Nat} : ∀ ds : List PyData, (∀ d ∈ ds, Shw d n h) → PyData.showableAll ds = true ∧ PyData.hasDictAll ds = false ∧ PyData.depthAll ds ≤ h ∧ ((PyData.shownAll ds).map (·.length)).sum ≤ n * ds.length ∧ (PyData.shownAll ds).length = ds.length
  | [], _ => ⟨rfl, rfl, Nat.zero_le _, Nat.zero_le _, rfl⟩
  | d :: ds, k => by
    obtain ⟨h1, h2, h3, h4, h5⟩ := all_shw ds fun x hx => k x (List.mem_cons_of_mem _ hx)
    have e := k d List.mem_cons_self
    have e3 := e.p
    have e4 := e.l
    refine ⟨?_, ?_, ?_, ?_, ?_⟩
    · simp only [PyData.showableAll, e.s, h1, Bool.and_self]
    · simp only [PyData.hasDictAll, e.nd, h2, Bool.or_self]
    · simp only [PyData.depthAll]
      omega
    · simp only [PyData.shownAll, List.map_cons, List.sum_cons, List.length_cons, Nat.mul_succ]
      omega
    · simp only [PyData.shownAll, List.length_cons, h5]
theorem Shw.tups {n h : Nat} {ds : List PyData} (k : ∀ d ∈ ds, Shw d n h) : Shw (.tuple ds) ((n + 2) * ds.length + 3) (h + 1) := by
  obtain ⟨h1, h2, h3, h4, h5⟩ := all_shw ds k
  refine ⟨by simp only [PyData.showable]; exact h1, by simp only [PyData.hasDict]; exact h2, ?_, ?_⟩
  · show PyData.depthAll _ + 1 ≤ h + 1
    omega
  · have := len_tup ds
    rw [Nat.add_mul]
    omega
theorem Shw.lsts {n h : Nat} {ds : List PyData} (k : ∀ d ∈ ds, Shw d n h) : Shw (.list ds) ((n + 2) * ds.length + 3) (h + 1) := by
  obtain ⟨h1, h2, h3, h4, h5⟩ := all_shw ds k
  refine ⟨by simp only [PyData.showable]; exact h1, by simp only [PyData.hasDict]; exact h2, ?_, ?_⟩
  · show PyData.depthAll _ + 1 ≤ h + 1
    omega
  · have e : (PyData.shown (.list ds)).length ≤ ((PyData.shownAll ds).map (·.length)).sum + 2 * (PyData.shownAll ds).length + 3 := listText_len_le _
    rw [Nat.add_mul]
    omega
/-- a value reads as one thing, as long as tuples stay; it may be shown -/
def Rs (H : Hp) (v : V) (n h : Nat) : Prop := ∃ d, (∀ H', TK H H' → RdV H' v d) ∧ Shw d n h
theorem Rs.up {H : Hp} {v : V} {n h m i : Nat} (r : Rs H v n h) (h1 : n ≤ m) (h2 : h ≤ i) : Rs H v m i := let ⟨d, a, b⟩ := r; ⟨d, a, b.up h1 h2⟩
theorem Rs.big {H : Hp} {i : Int} (h : Bg i) : Rs H (.int i) 91 0 := ⟨_, fun _ _ => .int i, Shw.big h⟩
theorem Rs.int {H : Hp} {i : Int} (h : Sm i) : Rs H (.int i) 16 0 := ⟨_, fun _ _ => .int i, Shw.int h⟩
theorem Rs.all {H : Hp} {n h : Nat} : ∀ {vs : List V}, (∀ v ∈ vs, Rs H v n h) → ∃ ds : List PyData, ds.length = vs.length ∧ (∀ H', TK H H' → RdVs H' vs ds) ∧ ∀ d ∈ ds, Shw d n h
  | [], _ => ⟨[], rfl, fun _ _ => .nil, fun d hd => by cases hd⟩
  | v :: vs, k => by
    obtain ⟨ds, h1, h2, h3⟩ := Rs.all fun x hx => k x (List.mem_cons_of_mem _ hx)
    obtain ⟨d, a, b⟩ := k v List.mem_cons_self
    refine ⟨d :: ds, by rw [List.length_cons, List.length_cons, h1], fun H' t => .cons (a H' t) (h2 H' t), fun x hx => ?_⟩
    rcases List.mem_cons.mp hx with rfl | hx
    · exact b
    · exact h3 x hx
theorem Rs.tup {H : Hp} {n h : Nat} {p : Addr} {vs : List V} (e : H p = some (.tup vs)) (k : ∀ v ∈ vs, Rs H v n h) : Rs H (.ref p) ((n + 2) * vs.length + 3) (h + 1) := by
  obtain ⟨ds, h1, h2, h3⟩ := Rs.all k
  refine ⟨.tuple ds, fun H' t => .tup (t.t _ _ e) (h2 H' t), ?_⟩
  rw [← h1]
  exact Shw.tups h3
theorem Rs.tk {H H' : Hp} {v : V} {n h : Nat} (t : TK H H') (r : Rs H v n h) : Rs H' v n h := let ⟨d, a, b⟩ := r; ⟨d, fun H2 t2 => a H2 (t.trans t2), b⟩
section
variable {D : Addr} {te : TE} {tc : TT} {Q : VK} {ρ : St} {H : Hp} {K : PySem.W.Frag} {a b : Addr}
/-- forms by place -/
theorem rng_fms {n : Nat} (g : Nat → Fm) (hn : n ≤ 1000)
    (step : ∀ (i : Nat) (H' : Hp), i < n → Same H H' → ∀ R : V → Hp → Prop, (∀ q H'', Same H' H'' → FmAt H'' q (g i) → R (.ref q) H'') → te (some (.int (i : Int)) :: ρ) H' R)
    (q : ∀ qs H', Same H H' → Fms H' qs ((List.range n).map g) → H' D = some (.lst (qs.map V.ref)) → Q (.ref D) H') (hD : H D = none) : CGo (Itr 0 n) D (gName 0) tAll te Q (none :: ρ) H := by
  refine cgo_range (fun i zs H' => ∃ qs : List Addr, zs = qs.map V.ref ∧ Fms H' qs ((List.range i).map g) ∧ Same H H') ⟨[], rfl, trivial, Same.new (Same.refl H) hD⟩ ?_ ?_
  · rintro i zs H' hi ⟨qs, rfl, hf, K'⟩ hDz R S kR _
    rw [Int.zero_add]
    refine w_all ?_
    refine iteT ?_
    refine step i _ hi K' R fun r H'' K'' hr => ?_
    have t2 : TK H'' (upd H'' D (.lst (qs.map V.ref ++ [.ref r]))) := TK.lst (K'' _ _ hDz)
    refine kR _ _ (K'' _ _ hDz) ?_ ⟨qs ++ [r], by rw [List.map_append]; rfl, ?_, (K'.trans K'').put hD⟩
    · have := hf.len
      rw [List.length_map, List.length_range] at this
      rw [List.length_map]
      exact small1000 (by omega)
    · rw [List.range_succ, List.map_append]
      exact Fms.app (Fms.one (hr.tk t2)) (hf.tk ((TK.same K'').trans t2))
  · rintro zs H' ⟨qs, rfl, hf, K'⟩ hDz
    exact q qs H' K' hf hDz
/-- numbers out of one tuple of anything -/
theorem tup_mapA {xs : List V} (g : V → Int) (ha : H a = some (.tup xs)) (hn : xs.length ≤ 1000)
    (step : ∀ (i : Nat) (x : V) (H' : Hp), xs[i]? = some x → Same H H' → ∀ R : V → Hp → Prop, (∀ H'', Same H' H'' → R (.int (g x)) H'') → te (some x :: ρ) H' R)
    (q : ∀ H', Same H H' → H' D = some (.lst ((xs.map g).map V.int)) → Q (.ref D) H') (hD : H D = none) : CGo (Itt K a) D (gName 0) tAll te Q (none :: ρ) H := by
  refine cgo_tup (xs := xs) (fun i zs H' => zs = ((xs.map g).take i).map V.int ∧ Same H H') ⟨rfl, Same.new (Same.refl H) hD⟩ (fun i zs H' _ ⟨_, k'⟩ => SqT.of (k' _ _ ha)) ?_ ?_
  · rintro i x zs H' hx ⟨rfl, K'⟩ hDz R S kR _
    have hi1 : i < xs.length := (List.getElem?_eq_some_iff.mp hx).1
    have ex : x = xs[i] := by
      rw [List.getElem?_eq_getElem hi1] at hx
      exact (Option.some.inj hx).symm
    refine w_all ?_
    refine iteT ?_
    refine step i _ _ hx K' R fun H'' K'' => ?_
    refine kR _ _ (K'' _ _ hDz) (by rw [List.length_map, List.length_take]; exact small1000 (by omega)) ⟨?_, (K'.trans K'').put hD⟩
    rw [List.take_add_one, List.map_append]
    simp [hi1, ex]
  · rintro zs H' ⟨rfl, K'⟩ hDz
    refine q H' K' ?_
    rw [hDz, List.take_of_length_le]
    simp
/-- numbers out of a list of numbers -/
theorem lst_map {xs : List Int} (g : Int → Int) (ha : H a = some (.lst (xs.map V.int))) (hn : xs.length ≤ 1000)
    (step : ∀ (i : Nat) (x : Int) (H' : Hp), xs[i]? = some x → Same H H' → ∀ R : V → Hp → Prop, (∀ H'', Same H' H'' → R (.int (g x)) H'') → te (some (.int x) :: ρ) H' R)
    (q : ∀ H', Same H H' → H' D = some (.lst ((xs.map g).map V.int)) → Q (.ref D) H') (hD : H D = none) : CGo (Itl K a) D (gName 0) tAll te Q (none :: ρ) H := by
  refine cgo_list (xs := xs.map V.int) (fun i zs H' => zs = ((xs.map g).take i).map V.int ∧ Same H H') ⟨rfl, Same.new (Same.refl H) hD⟩ (fun i zs H' _ ⟨_, k'⟩ => SqL.of (k' _ _ ha)) ?_ ?_
  · rintro i x zs H' hx ⟨rfl, K'⟩ hDz R S kR _
    have hi1 : i < xs.length := by
      have := (List.getElem?_eq_some_iff.mp hx).1
      simpa using this
    have ex : x = .int xs[i] := by
      rw [List.getElem?_map, List.getElem?_eq_getElem hi1] at hx
      exact (Option.some.inj hx).symm
    subst ex
    refine w_all ?_
    refine iteT ?_
    refine step i _ _ (by simp [hi1]) K' R fun H'' K'' => ?_
    refine kR _ _ (K'' _ _ hDz) (by rw [List.length_map, List.length_take]; exact small1000 (by omega)) ⟨?_, (K'.trans K'').put hD⟩
    rw [List.take_add_one, List.map_append]
    simp [hi1]
  · rintro zs H' ⟨rfl, K'⟩ hDz
    refine q H' K' ?_
    rw [hDz, List.take_of_length_le]
    simp
end
end G2

set_option Elab.async false
set_option linter.all false
set_option maxRecDepth 100000
namespace L2
open PySem PySem.Spec PyProof.Rows

/-! ### lists of pairs as tables -/
section
variable {κ : Type} [DecidableEq κ]
def valV (kvs : List (κ × V)) (k : κ) : Option V := (kvs.find? fun kv => decide (kv.1 = k)).map (·.2)
/-- in its place, or at the end -/
def putK (kvs : List (κ × V)) (k : κ) (v : V) : List (κ × V) :=
  if (kvs.any fun kv => decide (kv.1 = k)) = true then kvs.map (fun kv => if kv.1 = k then (kv.1, v) else kv) else kvs ++ [(k, v)]
def dropK (kvs : List (κ × V)) (k : κ) : List (κ × V) := kvs.filter fun kv => decide (kv.1 ≠ k)

theorem valV_nil {k : κ} : valV ([] : List (κ × V)) k = none := rfl
theorem valV_pos {p : κ × V} {r : List (κ × V)} {k : κ} (e : p.1 = k) : valV (p :: r) k = some p.2 := by simp [valV, List.find?_cons, e]
theorem valV_neg {p : κ × V} {r : List (κ × V)} {k : κ} (e : ¬ p.1 = k) : valV (p :: r) k = valV r k := by simp [valV, List.find?_cons, e]
theorem valV_any (k : κ) : ∀ kvs : List (κ × V), (kvs.any fun kv => decide (kv.1 = k)) = (valV kvs k).isSome
  | [] => rfl
  | p :: r => by
    rw [List.any_cons]
    by_cases e : p.1 = k
    · simp only [valV_pos e, decide_eq_true e, Bool.true_or, Option.isSome_some]
    · rw [valV_neg e, decide_eq_false e, Bool.false_or]; exact valV_any k r
theorem valV_map (k j : κ) (y : V) : ∀ kvs : List (κ × V), valV (kvs.map fun kv => if kv.1 = k then (kv.1, y) else kv) j = (valV kvs j).map fun x => if j = k then y else x
  | [] => rfl
  | p :: r => by
    have ih := valV_map k j y r
    rw [List.map_cons]
    by_cases h : p.1 = k
    · rw [if_pos h]
      by_cases e : p.1 = j
      · rw [valV_pos (p := (p.1, y)) e, valV_pos e, Option.map_some, if_pos (e.symm.trans h)]
      · rw [valV_neg (p := (p.1, y)) e, valV_neg e, ih]
    · rw [if_neg h]
      by_cases e : p.1 = j
      · rw [valV_pos (p := p) e, valV_pos e, Option.map_some, if_neg (fun z => h (e.trans z))]
      · rw [valV_neg (p := p) e, valV_neg e, ih]
theorem valV_snoc (k j : κ) (y : V) : ∀ kvs : List (κ × V), valV kvs k = none → valV (kvs ++ [(k, y)]) j = if j = k then some y else valV kvs j
  | [], _ => by
    by_cases e : k = j
    · rw [if_pos e.symm]; exact valV_pos (p := (k, y)) e
    · rw [if_neg (fun z => e z.symm)]; exact valV_neg (p := (k, y)) e
  | p :: r, hn => by
    rw [List.cons_append]
    have hk : ¬ p.1 = k := fun z => by rw [valV_pos z] at hn; cases hn
    rw [valV_neg hk] at hn
    have ih := valV_snoc k j y r hn
    by_cases e : p.1 = j
    · rw [valV_pos e, valV_pos e, if_neg (fun z => hk (e.trans z))]
    · rw [valV_neg e, valV_neg e, ih]
theorem valV_put (kvs : List (κ × V)) (k j : κ) (y : V) : valV (putK kvs k y) j = if j = k then some y else valV kvs j := by
  unfold putK
  by_cases a : (kvs.any fun kv => decide (kv.1 = k)) = true
  · rw [if_pos a, valV_map]
    rw [valV_any] at a
    by_cases e : j = k
    · obtain ⟨x, hx⟩ := Option.isSome_iff_exists.mp a
      rw [if_pos e, e, hx, Option.map_some, if_pos rfl]
    · rw [if_neg e]
      cases valV kvs j with
      | none => rfl
      | some x => rw [Option.map_some, if_neg e]
  · rw [if_neg a]
    refine valV_snoc k j y kvs ?_
    rw [valV_any] at a
    cases q : valV kvs k with
    | none => rfl
    | some x => rw [q] at a; exact (a rfl).elim
theorem length_putK (kvs : List (κ × V)) (k : κ) (v : V) : (putK kvs k v).length ≤ kvs.length + 1 := by
  unfold putK
  split
  · rw [List.length_map]; omega
  · rw [List.length_append, List.length_cons, List.length_nil]; omega
theorem putK_new {kvs : List (κ × V)} {k : κ} (v : V) (h : valV kvs k = none) : putK kvs k v = kvs ++ [(k, v)] := by
  unfold putK
  rw [valV_any, h]
  exact if_neg (by decide)

theorem RelO.isSome_eq {o : Option V} {u : Option Value} (r : RelO o u) : o.isSome = u.isSome := by
  cases o with
  | none => cases u with
    | none => rfl
    | some _ => exact (show False from r).elim
  | some _ => cases u with
    | none => exact (show False from r).elim
    | some _ => rfl
theorem RelO.getD {o : Option V} {u : Option Value} {d : V} {d' : Value} (r : RelO o u) (rd : RelV d d') : RelV (o.getD d) (u.getD d') := by
  cases o with
  | none => cases u with
    | none => exact rd
    | some _ => exact (show False from r).elim
  | some _ => cases u with
    | none => exact (show False from r).elim
    | some _ => exact r

/-- raw tables of the same keys -/
theorem KV.val {kvs : List (κ × V)} {vs : List (κ × Value)} (r : KV kvs vs) (k : κ) : RelO (valV kvs k) (valueAt vs k) := by
  unfold KV at r
  induction r with
  | nil => exact True.intro
  | @cons p q ps qs h t ih =>
    obtain ⟨h1, h2⟩ := h
    by_cases e : p.1 = k
    · have e' : q.1 = k := h1.symm.trans e
      have b : valueAt (q :: qs) k = some q.2 := by simp [valueAt, List.find?_cons, e']
      rw [valV_pos e, b]; exact h2
    · have e' : ¬ q.1 = k := fun z => e (h1.trans z)
      have b : valueAt (q :: qs) k = valueAt qs k := by simp [valueAt, List.find?_cons, e']
      rw [valV_neg e, b]; exact ih
theorem KV.any {kvs : List (κ × V)} {vs : List (κ × Value)} (r : KV kvs vs) (k : κ) : (kvs.any fun kv => decide (kv.1 = k)) = vs.any fun kv => decide (kv.1 = k) := by
  unfold KV at r
  induction r with
  | nil => rfl
  | cons h t ih => rw [List.any_cons, List.any_cons, ih, h.1]
theorem KV.repl {kvs : List (κ × V)} {vs : List (κ × Value)} (r : KV kvs vs) (k : κ) {y : V} {u : Value} (ry : RelV y u) :
    KV (kvs.map fun kv => if kv.1 = k then (kv.1, y) else kv) (vs.map fun kv => if kv.1 = k then (kv.1, u) else kv) := by
  unfold KV at r ⊢
  induction r with
  | nil => exact .nil
  | @cons p q ps qs h t ih =>
    rw [List.map_cons, List.map_cons]
    refine .cons ?_ ih
    obtain ⟨h1, h2⟩ := h
    by_cases e : p.1 = k
    · rw [if_pos e, if_pos (h1.symm.trans e)]; exact ⟨h1, ry⟩
    · rw [if_neg e, if_neg (fun z => e (h1.trans z))]; exact ⟨h1, h2⟩
theorem KV.put {kvs : List (κ × V)} {vs : List (κ × Value)} (r : KV kvs vs) (k : κ) {y : V} {u : Value} (ry : RelV y u) : KV (putK kvs k y) (stored vs k u) := by
  unfold putK stored
  rw [r.any k]
  by_cases e : (vs.any fun kv => decide (kv.1 = k)) = true
  · rw [if_pos e, if_pos e]; exact r.repl k ry
  · rw [if_neg e, if_neg e]; exact Paired.snoc r ⟨rfl, ry⟩
theorem KV.drop {kvs : List (κ × V)} {vs : List (κ × Value)} (r : KV kvs vs) (k : κ) : KV (dropK kvs k) (without vs k) := by
  unfold KV at r ⊢
  unfold dropK without
  induction r with
  | nil => exact .nil
  | @cons p q ps qs h t ih =>
    obtain ⟨h1, h2⟩ := h
    rw [List.filter_cons, List.filter_cons]
    by_cases e : p.1 = k
    · have a : ¬ decide (p.1 ≠ k) = true := by simp [e]
      have b : ¬ decide (q.1 ≠ k) = true := by simp [h1.symm.trans e]
      rw [if_neg a, if_neg b]; exact ih
    · have e' : ¬ q.1 = k := fun z => e (h1.trans z)
      have a : decide (p.1 ≠ k) = true := by simp [e]
      have b : decide (q.1 ≠ k) = true := by simp [e']
      rw [if_pos a, if_pos b]; exact .cons ⟨h1, h2⟩ ih
theorem KV.keys {kvs : List (κ × V)} {vs : List (κ × Value)} (r : KV kvs vs) : kvs.map (·.1) = vs.map (·.1) := by
  unfold KV at r
  induction r with
  | nil => rfl
  | cons h t ih => rw [List.map_cons, List.map_cons, ih, h.1]
theorem KV.length {kvs : List (κ × V)} {vs : List (κ × Value)} (r : KV kvs vs) : kvs.length = vs.length := Paired.length r
theorem dropK_le (kvs : List (κ × V)) (k : κ) : (dropK kvs k).length ≤ kvs.length := List.length_filter_le _ _
end


/-! ### a tracked dict, its keys ints and texts or tuples of these -/
theorem kV_is {P : Program} {w : World} {k : Key} {u : Value} (r : RelV (kV k) u) : (mixKind P w).is k u = true := by
  cases k with
  | inl i => obtain ⟨t, e⟩ := (show ∃ t, u = Value.int i t from r); subst e; exact mixKind_int P w i t
  | inr x => obtain ⟨t, e⟩ := (show ∃ t, u = Value.str x t from r); subst e; exact mixKind_str P w x t
theorem kV_inj {a b : Key} (e : kV a = kV b) : a = b := by
  cases a with
  | inl i => cases b with
    | inl j => have e' : V.int i = V.int j := e; injection e' with e'; rw [e']
    | inr y => exact nomatch (show V.int i = V.str y from e)
  | inr x => cases b with
    | inl j => exact nomatch (show V.str x = V.int j from e)
    | inr y => have e' : V.str x = V.str y := e; injection e' with e'; rw [e']
theorem kVs_inj : ∀ {a b : List Key}, a.map kV = b.map kV → a = b
  | [], [], _ => rfl
  | [], _ :: _, e => by simp at e
  | _ :: _, [], e => by simp at e
  | x :: xs, y :: ys, e => by
    rw [List.map_cons, List.map_cons] at e
    injection e with e1 e2
    rw [kV_inj e1, kVs_inj e2]
theorem items_are {P : Program} {w : World} : ∀ {ks : List Key} {us : List Value}, Vals (ks.map kV) us → ItemsAre (mixKind P w) ks us
  | [], _, r => by rw [List.map_nil] at r; cases r; exact .nil
  | k :: ks, _, r => by
    rw [List.map_cons] at r
    cases r with
    | cons h t => exact .cons (kV_is h) (items_are t)

/-- raw entries of a dict with tuple keys -/
abbrev KT (H : Hp) : List (List Key × V) → List (List Key × Addr × Value) → Prop := Paired fun p q => p.1 = q.1 ∧ H q.2.1 = some (.tup (p.1.map kV)) ∧ RelV p.2 q.2.2
theorem KT.val {H : Hp} {kvs : List (List Key × V)} {xs : List (List Key × Addr × Value)} (r : KT H kvs xs) (k : List Key) : RelO (valV kvs k) ((atKey xs k).map (·.2)) := by
  induction r with
  | nil => exact True.intro
  | @cons p q ps qs h t ih =>
    obtain ⟨h1, _, h2⟩ := h
    by_cases e : p.1 = k
    · have e' : q.1 = k := h1.symm.trans e
      have b : atKey (q :: qs) k = some q.2 := by simp [atKey, List.find?_cons, e']
      rw [valV_pos e, b]; exact h2
    · have e' : ¬ q.1 = k := fun z => e (h1.trans z)
      have b : atKey (q :: qs) k = atKey qs k := by simp [atKey, List.find?_cons, e']
      rw [valV_neg e, b]; exact ih
theorem KT.repl {H : Hp} {kvs : List (List Key × V)} {xs : List (List Key × Addr × Value)} (r : KT H kvs xs) (k : List Key) {y : V} {u : Value} (ry : RelV y u) :
    KT H (kvs.map fun kv => if kv.1 = k then (kv.1, y) else kv) (xs.map (putAt k u)) := by
  induction r with
  | nil => exact .nil
  | @cons p q ps qs h t ih =>
    rw [List.map_cons, List.map_cons]
    refine .cons ?_ ih
    obtain ⟨h1, h2, h3⟩ := h
    unfold putAt
    by_cases e : p.1 = k
    · rw [if_pos e, if_pos (h1.symm.trans e)]; exact ⟨h1, h2, ry⟩
    · rw [if_neg e, if_neg (fun z => e (h1.trans z))]; exact ⟨h1, h2, h3⟩
theorem KT.put {H : Hp} {kvs : List (List Key × V)} {xs : List (List Key × Addr × Value)} (r : KT H kvs xs) (k : List Key) {b : Addr} {y : V} {u : Value} (hb : H b = some (.tup (k.map kV))) (ry : RelV y u) :
    KT H (putK kvs k y) (storedH xs k b u) := by
  have e : (kvs.any fun kv => decide (kv.1 = k)) = (atKey xs k).isSome := by
    rw [valV_any, (r.val k).isSome_eq, Option.isSome_map]
  unfold putK storedH
  rw [e]
  by_cases q : (atKey xs k).isSome = true
  · rw [if_pos q, if_pos q]; exact r.repl k ry
  · rw [if_neg q, if_neg q]; exact Paired.snoc r ⟨rfl, hb, ry⟩
theorem KT.keeps {H H' : Hp} {kvs : List (List Key × V)} {xs : List (List Key × Addr × Value)} (r : KT H kvs xs) (ht : ∀ b ys, H b = some (.tup ys) → H' b = some (.tup ys)) : KT H' kvs xs :=
  Paired.mapP r fun _ _ z => ⟨z.1, ht _ _ z.2.1, z.2.2⟩

section
variable {P : Program} {w : World} {H : Hp} {h : Heap} {a : Addr}
theorem rd_of {u : HO} (ok : HOk P w H h) (e : Rd H a u) : ObjOk P w H h a u := e.ok ok
theorem dk_rd {kvs : List (Key × V)} (ok : HOk P w H h) (e : Rd H a (.dK kvs)) : kvs.length ≤ sizeLine ∧ (a == sysModules) = false ∧ ∃ vs, KV kvs vs ∧ h.DictOf (mixKind P w) a vs :=
  show ObjOk P w H h a (.dK kvs) from rd_of ok e
theorem dk_of {kvs : List (Key × V)} (ok : HOk P w H h) (e : H a = some (.dK kvs)) : kvs.length ≤ sizeLine ∧ (a == sysModules) = false ∧ ∃ vs, KV kvs vs ∧ h.DictOf (mixKind P w) a vs := dk_rd ok (.inl e)
/-- a tracked tuple of ints and texts is a key -/
theorem key_of {ks : List Key} (ok : HOk P w H h) (e : H a = some (.tup (ks.map kV))) : (tupleKind (mixKind P w)).is h ks a := by
  obtain ⟨_, its, r, o, h1, h2, n, h3⟩ := (show ObjOk P w H h a (.tup (ks.map kV)) from ok a _ e)
  exact ⟨o, its.toArray, n, h1, h2, h3, by simpa using items_are r⟩
theorem dt_rd {kvs : List (List Key × V)} (ok : HOk P w H h) (e : Rd H a (.dT kvs)) : kvs.length ≤ sizeLine ∧ (a == sysModules) = false ∧
    ∃ xs, KT H kvs xs ∧ h.DictOfH (tupleKind (mixKind P w)) a xs := by
  obtain ⟨z, y, xs, r, o, es, ep, h1, h2, h3, h4, h5⟩ := (show ObjOk P w H h a (.dT kvs) from rd_of ok e)
  refine ⟨z, y, xs, r, o, es, ep, h1, h2, h3, h4, fun x hx => ?_, h5⟩
  have all : ∀ {l : List (List Key × V)} {m : List (List Key × Addr × Value)}, KT H l m → ∀ x ∈ m, (tupleKind (mixKind P w)).is h x.1 x.2.1 := by
    intro l m q
    induction q with
    | nil => intro x hx; exact nomatch hx
    | @cons p q ps qs hq t ih =>
      intro x hx
      rcases List.mem_cons.mp hx with e | hx
      · subst e
        exact key_of ok (by rw [← hq.1]; exact hq.2.1)
      · exact ih x hx
  exact all r x hx
theorem dt_of {kvs : List (List Key × V)} (ok : HOk P w H h) (e : H a = some (.dT kvs)) : kvs.length ≤ sizeLine ∧ (a == sysModules) = false ∧
    ∃ xs, KT H kvs xs ∧ h.DictOfH (tupleKind (mixKind P w)) a xs := dt_rd ok (.inl e)
end

/-- what the dict at a holds at the key y -/
def DGet (H : Hp) (a : Addr) (y : V) (r : Option V) : Prop :=
  (∃ kvs k, Rd H a (.dK kvs) ∧ y = kV k ∧ r = valV kvs k) ∨ ∃ kvs k b, Rd H a (.dT kvs) ∧ y = .ref b ∧ H b = some (.tup (k.map kV)) ∧ r = valV kvs k
/-- the heap behind a[y] = v -/
def DPut (H : Hp) (a : Addr) (y v : V) (H' : Hp) : Prop :=
  (∃ kvs k, H a = some (.dK kvs) ∧ y = kV k ∧ kvs.length < sizeLine ∧ H' = upd H a (.dK (putK kvs k v))) ∨
  ∃ kvs k b, H a = some (.dT kvs) ∧ y = .ref b ∧ H b = some (.tup (k.map kV)) ∧ kvs.length < sizeLine ∧ H' = upd H a (.dT (putK kvs k v))
theorem DGet.k {H : Hp} {a : Addr} {kvs : List (Key × V)} {k : Key} (e : H a = some (.dK kvs)) : DGet H a (kV k) (valV kvs k) := .inl ⟨kvs, k, .inl e, rfl, rfl⟩
theorem DGet.t {H : Hp} {a b : Addr} {kvs : List (List Key × V)} {k : List Key} (e : H a = some (.dT kvs)) (eb : H b = some (.tup (k.map kV))) : DGet H a (.ref b) (valV kvs k) := .inr ⟨kvs, k, b, .inl e, rfl, eb, rfl⟩
theorem DPut.k {H : Hp} {a : Addr} {kvs : List (Key × V)} {k : Key} {v : V} (e : H a = some (.dK kvs)) (hl : kvs.length < sizeLine) : DPut H a (kV k) v (upd H a (.dK (putK kvs k v))) := .inl ⟨kvs, k, e, rfl, hl, rfl⟩
theorem DPut.t {H : Hp} {a b : Addr} {kvs : List (List Key × V)} {k : List Key} {v : V} (e : H a = some (.dT kvs)) (eb : H b = some (.tup (k.map kV))) (hl : kvs.length < sizeLine) :
    DPut H a (.ref b) v (upd H a (.dT (putK kvs k v))) := .inr ⟨kvs, k, b, e, rfl, eb, hl, rfl⟩


section
variable {X : Cx} {pins : List (Addr × Obj)} {σ : St} {H : Hp} {s : Shared} {a : Addr} {y v : V} {u r : Value} {o : Option V} {A : Around} {E : Value → Shared → Prop}

theorem Inv.big (I : Inv X pins σ H s) : sysModules < s.heap.objs.size := by
  have h : mainGlobals < s.heap.objs.size := (I.mod.glob.keeps I.bk).lt
  exact Nat.lt_trans (by decide) h

/-- d[y], there -/
theorem d_getItem {Q : Value → Shared → Prop} (hu : A.units + 1 < cLine) (I : Inv X pins σ H s) (g : DGet H a y (some v)) (ry : RelV y u) (h : ∀ w' s', Inv X pins σ H s' → RelV v w' → Q w' s') :
    wpAny (model X.prog X.w) A (getItem (.ref a) u) Q E s := by
  rcases g with ⟨kvs, k, e, ey, l⟩ | ⟨kvs, k, b, e, ey, eb, l⟩
  · subst ey
    obtain ⟨z, hd, vs, rel, dd⟩ := dk_rd I.hok e
    obtain ⟨w', hw, rw'⟩ := RelO.some_of (v := v) (o := valueAt vs k) (by rw [l]; exact rel.val k)
    exact wpAny_getItem_of (kV_is ry) dd.mapOf hw (h w' _ (I.tok _) rw')
  · subst ey
    cases (show u = Value.ref b from ry)
    obtain ⟨z, hd, xs, rel, dd⟩ := dt_rd I.hok e
    obtain ⟨w', hw, rw'⟩ := RelO.some_of (v := v) (o := (atKey xs k).map (·.2)) (by rw [l]; exact rel.val k)
    obtain ⟨p, hp, hp2⟩ := Option.map_eq_some_iff.mp hw
    refine wpAny_getItem_heap (tupleKind_room_in1 hu) (key_of I.hok eb) dd hp ?_
    rw [hp2]
    exact h w' _ (I.tok _) rw'
/-- y in d -/
theorem d_in {Q : Value → Shared → Prop} (hu : A.units + 1 < cLine) (I : Inv X pins σ H s) (g : DGet H a y o) (ry : RelV y u) (h : ∀ s', Inv X pins σ H s' → Q (.bool o.isSome) s') :
    wpAny (model X.prog X.w) A (compareOp .In u (.ref a)) Q E s := by
  rcases g with ⟨kvs, k, e, ey, l⟩ | ⟨kvs, k, b, e, ey, eb, l⟩
  · subst ey
    obtain ⟨z, hd, vs, rel, dd⟩ := dk_rd I.hok e
    refine wpAny_in_of (kV_is ry) hd dd.mapOf ?_
    rw [← (rel.val k).isSome_eq, ← l]
    exact h _ (I.tok _)
  · subst ey
    cases (show u = Value.ref b from ry)
    obtain ⟨z, hd, xs, rel, dd⟩ := dt_rd I.hok e
    refine wpAny_in_heap (tupleKind_room_in1 hu) (key_of I.hok eb) hd dd ?_
    have q := (rel.val k).isSome_eq
    rw [Option.isSome_map] at q
    rw [← q, ← l]
    exact h _ (I.tok _)
theorem d_notIn {Q : Value → Shared → Prop} (hu : A.units + 1 < cLine) (I : Inv X pins σ H s) (g : DGet H a y o) (ry : RelV y u) (h : ∀ s', Inv X pins σ H s' → Q (.bool (!o.isSome)) s') :
    wpAny (model X.prog X.w) A (compareOp .NotIn u (.ref a)) Q E s := by
  rcases g with ⟨kvs, k, e, ey, l⟩ | ⟨kvs, k, b, e, ey, eb, l⟩
  · subst ey
    obtain ⟨z, hd, vs, rel, dd⟩ := dk_rd I.hok e
    refine wpAny_notIn_of (kV_is ry) hd dd.mapOf ?_
    rw [← (rel.val k).isSome_eq, ← l]
    exact h _ (I.tok _)
  · subst ey
    cases (show u = Value.ref b from ry)
    obtain ⟨z, hd, xs, rel, dd⟩ := dt_rd I.hok e
    refine wpAny_notIn_heap (tupleKind_room_in1 hu) (key_of I.hok eb) hd dd ?_
    have q := (rel.val k).isSome_eq
    rw [Option.isSome_map] at q
    rw [← q, ← l]
    exact h _ (I.tok _)
/-- a dict's object is replaced -/
theorem d_write {h' : Heap} {t' : Nat} {ob : HO} (I : Inv X pins σ H s) (mu : Mut (H a)) (hs : Heap.SameBut a s.heap h') (he : ∃ q, h'.get? a = some q) (new : ObjOk X.prog X.w (upd H a ob) h' a ob) :
    Inv X pins σ (upd H a ob) { s with heap := h', toks := t' } :=
  I.write (x := a) (e := a) mu (.inl rfl) (fun b q hb z => (hs.2 b hb).trans z) he new
theorem dk_new {P : Program} {w : World} {H' : Hp} {h' : Heap} {kvs : List (Key × V)} {vs : List (Key × Value)} (z : kvs.length ≤ sizeLine) (hd : (a == sysModules) = false) (rel : KV kvs vs) (dd : h'.DictOf (mixKind P w) a vs) :
    ObjOk P w H' h' a (.dK kvs) := ⟨z, hd, vs, rel, dd⟩
/-- d[y] = v -/
theorem d_setItem {H' : Hp} {Q : Unit → Shared → Prop} (hu : A.units + 1 < cLine) (I : Inv X pins σ H s) (g : DPut H a y v H') (ry : RelV y u) (rv : RelV v r) (h : ∀ s', Inv X pins σ H' s' → Q () s') :
    wpAny (model X.prog X.w) A (setItem (.ref a) u r) Q E s := by
  rcases g with ⟨kvs, k, e, ey, l, eH⟩ | ⟨kvs, k, b, e, ey, eb, l, eH⟩
  · subst ey eH
    obtain ⟨z, hd, vs, rel, dd⟩ := dk_of I.hok e
    have hz : vs.length ≤ sizeLine := by rw [← rel.length]; exact z
    have hl : (putK kvs k v).length ≤ sizeLine := by have := length_putK kvs k v; omega
    refine wpAny_setItem_pairs (hsz := hz) (kV_is ry) dd fun h' dd' hs => h _ ?_
    have he : ∃ q, h'.get? a = some q := let ⟨q, _, _, hq, _⟩ := dd'; ⟨q, hq⟩
    exact d_write I (by rw [e]; exact True.intro) hs he (dk_new hl hd (rel.put k rv) dd')
  · subst ey eH
    cases (show u = Value.ref b from ry)
    obtain ⟨z, hd, xs, rel, dd⟩ := dt_of I.hok e
    have hz : xs.length ≤ sizeLine := by rw [← Paired.length rel]; exact z
    have hl : (putK kvs k v).length ≤ sizeLine := by have := length_putK kvs k v; omega
    refine wpAny_setItem_heap (hsz := hz) (tupleKind_room_in1 hu) (key_of I.hok eb) dd fun h' dd' hs => h _ ?_
    obtain ⟨q, es, ep, hq, h2, h3, h4, _, h5⟩ := dd'
    refine d_write I (by rw [e]; exact True.intro) hs ⟨q, hq⟩ ⟨hl, hd, _, (rel.put k eb rv).keeps fun c ys ec => ?_, q, es, ep, hq, h2, h3, h4, h5⟩
    rw [upd_ne (ne_of ec e (fun z => nomatch z))]
    exact ec
end

section
variable {X : Cx} {pins : List (Addr × Obj)} {σ : St} {H : Hp} {s : Shared} {a : Addr} {kvs : List (Key × V)} {k : Key} {u : Value} {A : Around} {E : Value → Shared → Prop}
/-- del d[k] -/
theorem d_delItem {Q : Unit → Shared → Prop} (I : Inv X pins σ H s) (e : H a = some (.dK kvs)) (ry : RelV (kV k) u) (l : (valV kvs k).isSome = true) (h : ∀ s', Inv X pins σ (upd H a (.dK (dropK kvs k))) s' → Q () s') :
    wpAny (model X.prog X.w) A (delItem (.ref a) u) Q E s := by
  obtain ⟨z, hd, vs, rel, dd⟩ := dk_of I.hok e
  refine wpAny_delItem_slot dd.typeIs (by decide) PySem.F.slot_dict_delitem
    (call_meetsIn PySem.F.slot_dict_delitem dd.typeIs PySem.F.entry_dict_delitem (PySem.F.args_dict_delitem_2 _ _) (meets_dict_delitem_pairs (mixKind X.prog X.w) a (kV_is ry)) ⟨vs, dd, by rw [← rel.length]; exact z, by rw [← (rel.val k).isSome_eq]; exact l, fun h' dd' hs => h _ ?_⟩)
  have he : ∃ q, h'.get? a = some q := let ⟨q, _, _, hq, _⟩ := dd'; ⟨q, hq⟩
  exact d_write I (by rw [e]; exact True.intro) hs he (dk_new (Nat.le_trans (dropK_le kvs k) z) hd (rel.drop k) dd')
/-- d.pop(k[, x]), there -/
theorem d_pop {v : V} {more : List Value} {Q : Value → Shared → Prop} (I : Inv X pins σ H s) (e : H a = some (.dK kvs)) (ry : RelV (kV k) u) (l : valV kvs k = some v) (hm : more = [] ∨ ∃ x, more = [x])
    (h : ∀ w' s', Inv X pins σ (upd H a (.dK (dropK kvs k))) s' → RelV v w' → Q w' s') : wpAny (model X.prog X.w) A (call (.builtin "dict.pop") (.ref a :: u :: more)) Q E s := by
  obtain ⟨z, hd, vs, rel, dd⟩ := dk_of I.hok e
  obtain ⟨w', hw, rw'⟩ := RelO.some_of (v := v) (o := valueAt vs k) (by rw [← l]; exact rel.val k)
  have hp : (keyPart u).isSome = true := by
    cases k with
    | inl i => obtain ⟨t, q⟩ := (show ∃ t, u = Value.int i t from ry); subst q; rfl
    | inr x => obtain ⟨t, q⟩ := (show ∃ t, u = Value.str x t from ry); subst q; rfl
  have ha : argsOk "dict.pop" ⟨.ref a :: u :: more, []⟩ := by
    rcases hm with q | ⟨x, q⟩
    · subst q; exact PySem.F.args_dict_pop_2 _ _
    · subst q; exact PySem.F.args_dict_pop_3 _ _ _
  refine call_meetsIn PySem.F.slot_dict_pop dd.typeIs PySem.F.entry_dict_pop ha (meets_dict_pop_there (mixKind X.prog X.w) a (kV_is ry) more hm hp)
    ⟨vs, w', dd, by rw [← rel.length]; exact z, hw, fun h' dd' hs => h w' _ ?_ rw'⟩
  have he : ∃ q, h'.get? a = some q := let ⟨q, _, _, hq, _⟩ := dd'; ⟨q, hq⟩
  exact d_write I (by rw [e]; exact True.intro) hs he (dk_new (Nat.le_trans (dropK_le kvs k) z) hd (rel.drop k) dd')
/-- d.pop(k, x), not there -/
theorem d_popD {r : Value} {Q : Value → Shared → Prop} (I : Inv X pins σ H s) (e : H a = some (.dK kvs)) (ry : RelV (kV k) u) (l : valV kvs k = none) (h : ∀ s', Inv X pins σ H s' → Q r s') :
    wpAny (model X.prog X.w) A (call (.builtin "dict.pop") [.ref a, u, r]) Q E s := by
  obtain ⟨z, hd, vs, rel, dd⟩ := dk_of I.hok e
  have hn : valueAt vs k = none := RelO.none_of (by rw [← l]; exact rel.val k)
  have hp : (keyPart u).isSome = true := by
    cases k with
    | inl i => obtain ⟨t, q⟩ := (show ∃ t, u = Value.int i t from ry); subst q; rfl
    | inr x => obtain ⟨t, q⟩ := (show ∃ t, u = Value.str x t from ry); subst q; rfl
  exact call_meetsIn PySem.F.slot_dict_pop dd.typeIs PySem.F.entry_dict_pop (PySem.F.args_dict_pop_3 _ _ _) (meets_dict_pop_default (mixKind X.prog X.w) a (kV_is ry) hd hp r) ⟨vs, dd, hn, h _ (I.tok _)⟩
/-- d.clear() -/
theorem d_clear {Q : Value → Shared → Prop} (I : Inv X pins σ H s) (e : H a = some (.dK kvs)) (h : ∀ s', Inv X pins σ (upd H a (.dK [])) s' → Q .none s') : wpAny (model X.prog X.w) A (call (.builtin "dict.clear") [.ref a]) Q E s := by
  obtain ⟨z, hd, vs, rel, dd⟩ := dk_of I.hok e
  refine call_meetsIn PySem.F.slot_dict_clear dd.typeIs PySem.F.entry_dict_clear (PySem.F.args_dict_clear_1 _) (meets_dict_clear (mixKind X.prog X.w) a) ⟨vs, dd, by rw [← rel.length]; exact z, fun h' dd' hs => h _ ?_⟩
  have he : ∃ q, h'.get? a = some q := let ⟨q, _, _, hq, _⟩ := dd'; ⟨q, hq⟩
  exact d_write (t' := s.toks) I (by rw [e]; exact True.intro) hs he (dk_new (Nat.zero_le _) hd .nil dd')
/-- len(d) -/
theorem d_len {Q : Value → Shared → Prop} (I : Inv X pins σ H s) (e : Rd H a (.dK kvs)) (h : ∀ t s', Inv X pins σ H s' → Q (.int kvs.length t) s') : wpAny (model X.prog X.w) A (call (.builtin "len") [.ref a]) Q E s := by
  obtain ⟨z, hd, vs, rel, dd⟩ := dk_rd I.hok e
  refine call_len_dict hd dd (by rw [← rel.length]; rw [sizeLine_eq] at z; omega) ?_
  rw [← rel.length]
  exact h _ _ (I.tok _)
/-- if d -/
theorem d_truth {Q : Bool → Shared → Prop} (I : Inv X pins σ H s) (e : Rd H a (.dK kvs)) (h : ∀ s', Inv X pins σ H s' → Q (!kvs.isEmpty) s') : wpAny (model X.prog X.w) A (truthy (.ref a)) Q E s := by
  obtain ⟨z, hd, vs, rel, dd⟩ := dk_rd I.hok e
  refine wpAny_truthy_dict hd dd (by rw [← rel.length]; rw [sizeLine_eq] at z; omega) ?_
  have q : kvs.isEmpty = vs.isEmpty := by cases rel <;> rfl
  rw [← q]
  exact h _ (I.tok _)
end


/-! ### readings and rules -/
/-- the element of a subscription, not a slice -/
def NoSl (i : Expr) : Prop := ∀ ov iv, subscripted i false ov iv = operate [ov, iv] (getItem ov iv)
theorem subD_of {prog : Program} {w : World} {A : Around} {E : Value → Shared → Prop} {s : Shared} {env : Env} {value slice : Expr} {pos : Pos} {T id : String} {Q : Value → Shared → Prop}
    (hl : typeLookup (.type T) "__getitem__" = pure (some (.builtin id))) (hs : NoSl slice)
    (h : wpAny (model prog w) A (eval value env) (fun o s₁ => wpAny (model prog w) A (eval slice env) (fun i s₂ => s₂.TypeIs o T ∧ wpAny (model prog w) A (getItem o i) Q E s₂) E s₁) E s) :
    wpAny (model prog w) A (eval (.Subscript value slice pos) env) Q E s := by
  refine Subscript_ (wpAny_mono h (fun o s₁ h₁ => wpAny_mono h₁ (fun i s₂ h₂ => ?_) fun _ _ x => x) fun _ _ x => x)
  obtain ⟨hT, h₂⟩ := h₂
  unfold subscriptTail
  refine wpAny_bind ?_
  rw [getitemInPython_of_ne hT.not_modules]
  refine wpAny_bind (wpAny_specialOf hT hl ?_)
  have fin : wpAny (model prog w) A (subscripted slice false o i) (fun r s₃ => wpAny (model prog w) A (letTemporaryGo value o r >>= fun _ => pure r) Q E s₃) E s₂ := by
    rw [hs o i]
    exact wpAny_operating (wpAny_mono h₂ (fun r s₃ h₃ => wpAny_bind (wpAny_letTemporaryGo (wpAny_pure h₃))) fun _ _ x => x)
  first
    | exact wpAny_pure (wpAny_bind fin)
    | exact wpAny_bind (wpAny_pure (wpAny_bind fin))
    | exact wpAny_bind fin

theorem dict_typeIs {X : Cx} {pins : List (Addr × Obj)} {σ : St} {H : Hp} {s : Shared} {a : Addr} {y : V} {o : Option V} (I : Inv X pins σ H s) (g : DGet H a y o) : s.TypeIs (.ref a) "dict" := by
  rcases g with ⟨kvs, k, e, _, _⟩ | ⟨kvs, k, b, e, _, _, _⟩
  · obtain ⟨_, _, vs, _, dd⟩ := dk_rd I.hok e
    exact dd.typeIs
  · obtain ⟨_, _, xs, _, dd⟩ := dt_rd I.hok e
    exact dd.typeIs
theorem dict_noDict {X : Cx} {pins : List (Addr × Obj)} {σ : St} {H : Hp} {s : Shared} {a : Addr} {y : V} {o : Option V} (I : Inv X pins σ H s) (g : DGet H a y o) :
    ∀ b, Value.ref a = .ref b → ∃ ob, s.heap.get? b = some ob ∧ ob.dict = none := fun b q => by
  cases q
  rcases g with ⟨kvs, k, e, _, _⟩ | ⟨kvs, k, b, e, _, _, _⟩
  · obtain ⟨_, _, vs, _, ob, _, _, h1, h2, _⟩ := dk_rd I.hok e
    exact ⟨ob, h1, h2.2.1⟩
  · obtain ⟨_, _, xs, _, ob, _, _, h1, h2, _⟩ := dt_rd I.hok e
    exact ⟨ob, h1, h2.2.1⟩

/-- d[y] -/
def tDGet (td ty : TE) : TE := fun σ H Q => td σ H fun x H1 => ty σ H1 fun y H2 => ∃ a v, x = .ref a ∧ DGet H2 a y (some v) ∧ Q v H2
/-- y in d, y not in d -/
def tDIn (ty td : TE) : TE := fun σ H Q => ty σ H fun y H1 => td σ H1 fun x H2 => ∃ a o, x = .ref a ∧ DGet H2 a y o ∧ Q (.bl o.isSome) H2
def tDNotIn (ty td : TE) : TE := fun σ H Q => ty σ H fun y H1 => td σ H1 fun x H2 => ∃ a o, x = .ref a ∧ DGet H2 a y o ∧ Q (.bl (!o.isSome)) H2
/-- d[y] = v -/
def sDPut (td ty tv : TE) : TS := fun D σ H => tv σ H fun v H1 => td σ H1 fun x H2 => ty σ H2 fun y H3 => ∃ a H4, x = .ref a ∧ DPut H3 a y v H4 ∧ D.nx σ H4
/-- d[y] op= v -/
def sDAug (td ty tv : TE) (rd : V → V → Hp → VK → Prop) : TS := fun D σ H => td σ H fun x H1 => ty σ H1 fun y H2 => ∃ a v, x = .ref a ∧ DGet H2 a y (some v) ∧
  tv σ H2 fun y2 H3 => rd v y2 H3 fun z H4 => ∃ H5, DPut H4 a y z H5 ∧ D.nx σ H5
/-- del d[y] -/
def sDDel (td ty : TE) : TS := fun D σ H => td σ H fun x H1 => ty σ H1 fun y H2 => ∃ a kvs k, x = .ref a ∧ H2 a = some (.dK kvs) ∧ y = kV k ∧ (valV kvs k).isSome = true ∧ D.nx σ (upd H2 a (.dK (dropK kvs k)))

section
variable {X : Cx} {o i e value : Expr} {pos pos' tpos : Pos} {td ty tv : TE}
theorem pe_dget (hu : X.A.units + 1 < cLine) (ho : PE X o td) (hi : PE X i ty) (hs : NoSl i) : PE X (.Subscript o i pos) (tDGet td ty) := by
  intro pins s σ H Q I h
  refine subD_of PySem.F.slot_dict_getitem.lookup hs (thn (ho pins s σ H _ I h) fun u s1 ⟨x, H1, I1, rx, q1⟩ => thn (hi pins s1 σ H1 _ I1 q1) fun iv s2 ⟨y, H2, I2, ry, a, v, ex, g, q2⟩ => ?_)
  subst ex
  obtain rfl : u = Value.ref a := rx
  exact ⟨dict_typeIs I2 g, d_getItem hu I2 g ry fun w' s3 I3 rw' => ⟨v, H2, I3, rw', q2⟩⟩
theorem pc_din (hu : X.A.units + 1 < cLine) (hi : PE X i ty) (ho : PE X o td) : PC X .In i o (tDIn ty td) := by
  intro pins s σ H Q I h
  refine thn (hi pins s σ H _ I h) fun iv s1 ⟨y, H1, I1, ry, q1⟩ => thn (ho pins s1 σ H1 _ I1 q1) fun u s2 ⟨x, H2, I2, rx, a, ov, ex, g, q2⟩ => ?_
  subst ex
  obtain rfl : u = Value.ref a := rx
  exact d_in hu I2 g ry fun s3 I3 => ⟨.bl ov.isSome, H2, I3, rfl, q2⟩
theorem pc_dnotin (hu : X.A.units + 1 < cLine) (hi : PE X i ty) (ho : PE X o td) : PC X .NotIn i o (tDNotIn ty td) := by
  intro pins s σ H Q I h
  refine thn (hi pins s σ H _ I h) fun iv s1 ⟨y, H1, I1, ry, q1⟩ => thn (ho pins s1 σ H1 _ I1 q1) fun u s2 ⟨x, H2, I2, rx, a, ov, ex, g, q2⟩ => ?_
  subst ex
  obtain rfl : u = Value.ref a := rx
  exact d_notIn hu I2 g ry fun s3 I3 => ⟨.bl (!ov.isSome), H2, I3, rfl, q2⟩
theorem ps_dput (hu : X.A.units + 1 < cLine) (ho : PE X o td) (hi : PE X i ty) (hv : PE X value tv) (hs : swapsWith value (some (.Subscript o i pos')) pos.line X.env = pure false) :
    PS X (.Assign [.Subscript o i pos'] value pos) (sDPut td ty tv) := by
  intro pins s σ H D I h
  refine wpAny_Assign_Subscript (thn (hv pins s σ H _ I h) fun r s1 ⟨v, H1, I1, rv, q1⟩ => thn (ho pins s1 σ H1 _ I1 q1) fun u s2 ⟨x, H2, I2, rx, q2⟩ => thn (hi pins s2 σ H2 _ I2 q2) fun iv s3 ⟨y, H3, I3, ry, a, H4, ex, g, q3⟩ => ?_) hs
  subst ex
  obtain rfl : u = Value.ref a := rx
  exact d_setItem hu I3 g ry rv fun s4 I4 => ⟨σ, H4, I4, q3⟩
theorem ps_daug {op : Operator} {rd : V → V → Hp → VK → Prop} (hu : X.A.units + 1 < cLine) (ho : PE X o td) (hi : PE X i ty) (hv : PE X value tv) (hop : InOp X op rd)
    (ha : ∀ ov iv new, augStore i ov iv new = (do holding [new, ov, iv] (setItem ov iv new); release [new, ov, iv] []; pure .next)) : PS X (.AugAssign (.Subscript o i tpos) op value pos) (sDAug td ty tv rd) := by
  intro pins s σ H D I h
  refine wpAny_AugAssign_SubscriptAny (thn (ho pins s σ H _ I h) fun u s1 ⟨x, H1, I1, rx, q1⟩ => thn (hi pins s1 σ H1 _ I1 q1) fun iv s2 ⟨y, H2, I2, ry, a, v, ex, g, q2⟩ => ?_) ha
  subst ex
  obtain rfl : u = Value.ref a := rx
  refine d_getItem hu I2 g ry fun w' s3 I3 rw' => thn (hv pins s3 σ H2 _ I3 q2) fun w2 s4 ⟨y2, H3, I4, ry2, q3⟩ => thn (hop pins s4 σ H3 v y2 w' w2 _ I4 rw' ry2 q3) fun w3 s5 ⟨z, H4, I5, rz, H5, g5, q4⟩ => ?_
  exact d_setItem hu I5 g5 ry rz fun s6 I6 => ⟨σ, H5, I6, q4⟩
theorem ps_ddel (ho : PE X o td) (hi : PE X i ty) : PS X (.Delete [.Subscript o i tpos] pos) (sDDel td ty) := by
  intro pins s σ H D I h
  refine wpAny_Delete (wpAny_deleteEach_cons (wpAny_delete_Subscript (thn (ho pins s σ H _ I h) fun u s1 ⟨x, H1, I1, rx, q1⟩ => thn (hi pins s1 σ H1 _ I1 q1) fun iv s2 ⟨y, H2, I2, ry, a, kvs, k, ex, e, ey, l, q2⟩ => ?_)))
  subst ex ey
  obtain rfl : u = Value.ref a := rx
  exact d_delItem I2 e ry l fun s3 I3 => wpAny_deleteEach_nil ⟨σ, _, I3, q2⟩
end


/-! ### displays -/
theorem dk_empty {P : Program} {w : World} {H : Hp} (h : Heap) (hb : sysModules < h.objs.size) : ObjOk P w H (h.push { cls := .type "dict", data := .dict #[] }) h.objs.size (.dK []) :=
  ⟨Nat.zero_le _, beq_eq_false_iff_ne.mpr (Ne.symm (Nat.ne_of_lt hb)), [], .nil, Heap.DictOf.new h⟩
theorem dt_empty {P : Program} {w : World} {H : Hp} (h : Heap) (hb : sysModules < h.objs.size) : ObjOk P w H (h.push { cls := .type "dict", data := .dict #[] }) h.objs.size (.dT []) :=
  ⟨Nat.zero_le _, beq_eq_false_iff_ne.mpr (Ne.symm (Nat.ne_of_lt hb)), [], .nil, _, #[], 0, Heap.get?_push_size _ rfl, ⟨rfl, rfl, rfl⟩, rfl, rfl, List.nodup_nil⟩
/-- {}, to be a dict of the kind that is wanted -/
def tDNewK : TE := fun _ H Q => ∀ p, H p = none → Q (.ref p) (upd H p (.dK []))
def tDNewT : TE := fun _ H Q => ∀ p, H p = none → Q (.ref p) (upd H p (.dT []))
section
variable {X : Cx} {pos : Pos}
theorem pe_dnewK : PE X (.Dict [] [] pos) tDNewK := fun pins s σ H Q I h =>
  wpAny_Dict_empty ⟨.ref s.heap.objs.size, _, I.laid (a := s.heap.objs.size) (o := .dK []) (t' := s.toks) (fun _ _ q => Heap.get?_push_of_some _ q) (Nat.le_refl _) (dk_empty s.heap I.big), rfl, h _ (I.hok.fresh (Nat.le_refl _))⟩
theorem pe_dnewT : PE X (.Dict [] [] pos) tDNewT := fun pins s σ H Q I h =>
  wpAny_Dict_empty ⟨.ref s.heap.objs.size, _, I.laid (a := s.heap.objs.size) (o := .dT []) (t' := s.toks) (fun _ _ q => Heap.get?_push_of_some _ q) (Nat.le_refl _) (dt_empty s.heap I.big), rfl, h _ (I.hok.fresh (Nat.le_refl _))⟩
end

/-- the pairs of a display, from the left -/
def tPairs : List (TE × TE) → St → Hp → (List (V × V) → Hp → Prop) → Prop
  | [], _, H, Q => Q [] H
  | (tk, tv) :: r, σ, H, Q => tk σ H fun x H1 => tv σ H1 fun y H2 => tPairs r σ H2 fun ps H3 => Q ((x, y) :: ps) H3
abbrev VV : List (V × V) → List (Value × Value) → Prop := Paired fun p q => RelV p.1 q.1 ∧ RelV p.2 q.2
def PPs (X : Cx) (pos : Pos) (keys : List (Option Expr)) (values : List Expr) (trs : List (TE × TE)) : Prop :=
  ∀ (pins : List (Addr × Obj)) (s : Shared) (σ : St) (H : Hp) (Q : List (V × V) → Hp → Prop), Inv X pins σ H s → tPairs trs σ H Q →
    wpAny (model X.prog X.w) X.A (evalPairs (pairTrees keys values X.env pos)) (fun vs s' => ∃ ps H', Inv X pins σ H' s' ∧ VV ps vs ∧ Q ps H') X.xe s
theorem pps_nil {X : Cx} {pos : Pos} : PPs X pos [] [] [] := fun pins s σ H Q I h => pairTrees_nil_walk ⟨[], H, I, .nil, h⟩
theorem pps_cons {X : Cx} {pos : Pos} {k v : Expr} {ks : List (Option Expr)} {vs : List Expr} {tk tv : TE} {trs : List (TE × TE)} (hk : PE X k tk) (hv : PE X v tv) (hr : PPs X pos ks vs trs) :
    PPs X pos (some k :: ks) (v :: vs) ((tk, tv) :: trs) := fun pins s σ H Q I h =>
  pairTrees_cons_walk (thn (hk pins s σ H _ I h) fun u s1 ⟨x, H1, I1, rx, q1⟩ => thn (hv pins s1 σ H1 _ I1 q1) fun w2 s2 ⟨y, H2, I2, ry, q2⟩ =>
    thn (hr pins s2 σ H2 _ I2 q2) fun ws s3 ⟨ps, H3, I3, rel, q3⟩ => ⟨(x, y) :: ps, H3, I3, .cons ⟨rx, ry⟩ rel, q3⟩)

def mergeK (kvs more : List (Key × V)) : List (Key × V) := more.foldl (fun acc kv => putK acc kv.1 kv.2) kvs
theorem KV.merge : ∀ {more : List (Key × V)} {rs : List (Key × Value)} {kvs : List (Key × V)} {vs : List (Key × Value)}, KV more rs → KV kvs vs → KV (mergeK kvs more) (merged vs rs) := by
  intro more rs kvs vs r
  unfold KV at r
  induction r generalizing kvs vs with
  | nil => intro q; exact q
  | @cons p q ps qs h t ih =>
    intro r0
    have e : KV (putK kvs p.1 p.2) (stored vs q.1 q.2) := by
      have := r0.put p.1 h.2
      rw [← h.1]; exact this
    exact ih e
theorem length_mergeK : ∀ (more kvs : List (Key × V)), (mergeK kvs more).length ≤ kvs.length + more.length
  | [], kvs => by show kvs.length ≤ kvs.length + 0; omega
  | p :: r, kvs => by
    have h1 := length_mergeK r (putK kvs p.1 p.2)
    have h2 := length_putK kvs p.1 p.2
    show (mergeK (putK kvs p.1 p.2) r).length ≤ _
    rw [List.length_cons]; omega
theorem carries_of {P : Program} {w : World} : ∀ {kvs : List (Key × V)} {ws : List (Value × Value)}, VV (kvs.map fun kv => (kV kv.1, kv.2)) ws → ∃ rs, Carries (mixKind P w) ws rs ∧ KV kvs rs
  | [], _, r => by rw [List.map_nil] at r; cases r; exact ⟨[], True.intro, .nil⟩
  | p :: kvs, _, r => by
    rw [List.map_cons] at r
    cases r with
    | @cons a b as bs h t =>
      obtain ⟨rs, c, q⟩ := carries_of (P := P) (w := w) t
      obtain ⟨b1, b2⟩ := b
      exact ⟨(p.1, b2) :: rs, ⟨kV_is h.1, rfl, c⟩, .cons ⟨rfl, h.2⟩ q⟩
/-- {k: v, ..} with keys ints and texts; the new dict stands empty while the pairs are made -/
def tDisp (trs : List (TE × TE)) : TE := fun σ H Q => ∀ p, H p = none → tPairs trs σ (upd H p (.dK [])) fun ps H2 => H2 p = some (.dK []) ∧ ∃ kvs : List (Key × V), ps = kvs.map (fun kv => (kV kv.1, kv.2)) ∧ kvs.length ≤ 15 ∧ Q (.ref p) (upd H2 p (.dK (mergeK [] kvs)))
theorem pe_disp {X : Cx} {pos : Pos} {keys : List (Option Expr)} {values : List Expr} {trs : List (TE × TE)} (h : PPs X pos keys values trs) (hall : keys.all (·.isSome) = true) (hl : keys.length = values.length) (h0 : keys ≠ [])
    (h15 : keys.length ≤ 15) : PE X (.Dict keys values pos) (tDisp trs) := by
  intro pins s σ H Q I q
  have hn := I.hok.fresh (Nat.le_refl s.heap.objs.size)
  have I1 := I.laid (a := s.heap.objs.size) (o := .dK []) (h' := s.heap.push { cls := .type "dict", data := .dict #[] }) (t' := s.toks) (fun _ _ q => Heap.get?_push_of_some _ q) (Nat.le_refl _) (dk_empty s.heap I.big)
  refine wpAny_Dict_walk (knd := mixKind X.prog X.w) hall hl h0 h15 (thn (h pins _ σ _ _ I1 (q _ hn)) fun ws s2 ⟨ps, H2, I2, rel, e, kvs, ep, lk, q2⟩ => ?_)
  subst ep
  obtain ⟨rs, c, rk⟩ := carries_of (P := X.prog) (w := X.w) rel
  obtain ⟨z, hd, vs0, r0, dd⟩ := dk_of I2.hok e
  cases r0
  refine ⟨rs, c, dd, fun h' dd' hs => ⟨.ref s.heap.objs.size, _, ?_, rfl, q2⟩⟩
  have hz : (mergeK [] kvs).length ≤ sizeLine := by
    have h1 := length_mergeK kvs []
    rw [List.length_nil] at h1
    rw [sizeLine_eq]; omega
  have he : ∃ q, h'.get? s.heap.objs.size = some q := let ⟨q, _, _, hq, _⟩ := dd'; ⟨q, hq⟩
  exact d_write I2 (by rw [e]; exact True.intro) hs he (dk_new hz hd (rk.merge .nil) dd')


/-! ### methods -/
/-- a method call o.m(e) of a built-in, with one argument: what must be seen of the text -/
structure M1 (X : Cx) (o : Expr) (m : Str) (apos : Pos) (e : Expr) (cpos : Pos) : Prop where
  base : attributeBase o m X.env (eval o X.env) = eval o X.env
  few : ((backTo cpos (starEach [e] X.env)).all (fun x => !x.1) && (backToKw cpos (keywordEach [] X.env)).all (fun x => x.1.isSome)
    && decide (([e] : List Expr).length + ([] : List Keyword).length + (if ([] : List Keyword).isEmpty then 0 else 1) < 30)) = true
  line : (apos.endLine == cpos.line) = true
  trees : backTo cpos (starEach [e] X.env) = [(false, eval e X.env)]
structure M2 (X : Cx) (o : Expr) (m : Str) (apos : Pos) (e f : Expr) (cpos : Pos) : Prop where
  base : attributeBase o m X.env (eval o X.env) = eval o X.env
  few : ((backTo cpos (starEach [e, f] X.env)).all (fun x => !x.1) && (backToKw cpos (keywordEach [] X.env)).all (fun x => x.1.isSome)
    && decide (([e, f] : List Expr).length + ([] : List Keyword).length + (if ([] : List Keyword).isEmpty then 0 else 1) < 30)) = true
  line : (apos.endLine == cpos.line) = true
  trees : backTo cpos (starEach [e, f] X.env) = [(false, eval e X.env), (false, eval f X.env)]

/-- a is a dict, whatever its keys -/
def IsD (H : Hp) (a : Addr) : Prop := (∃ kvs, Rd H a (.dK kvs)) ∨ ∃ kvs, Rd H a (.dT kvs)
theorem isD_at {X : Cx} {pins : List (Addr × Obj)} {σ : St} {H : Hp} {s : Shared} {a : Addr} (I : Inv X pins σ H s) (d : IsD H a) :
    s.TypeIs (.ref a) "dict" ∧ (∀ b, Value.ref a = .ref b → ∃ ob, s.heap.get? b = some ob ∧ ob.dict = none) ∧ (a == sysModules) = false := by
  rcases d with ⟨kvs, e⟩ | ⟨kvs, e⟩
  · obtain ⟨_, hd, vs, _, dd⟩ := dk_rd I.hok e
    refine ⟨dd.typeIs, fun b q => ?_, hd⟩
    cases q
    obtain ⟨ob, _, _, h1, h2, _⟩ := dd
    exact ⟨ob, h1, h2.2.1⟩
  · obtain ⟨_, hd, xs, _, dd⟩ := dt_rd I.hok e
    refine ⟨dd.typeIs, fun b q => ?_, hd⟩
    cases q
    obtain ⟨ob, _, _, h1, h2, _⟩ := dd
    exact ⟨ob, h1, h2.2.1⟩

section
variable {X : Cx} {pins : List (Addr × Obj)} {σ : St} {H : Hp} {s : Shared} {a : Addr} {y d : V} {u r : Value} {o : Option V} {A : Around} {E : Value → Shared → Prop}
/-- d.get(y) -/
theorem d_get1 {Q : Value → Shared → Prop} (hu : A.units + 1 < cLine) (I : Inv X pins σ H s) (g : DGet H a y o) (ry : RelV y u) (h : ∀ w' s', Inv X pins σ H s' → RelV (o.getD .non) w' → Q w' s') :
    wpAny (model X.prog X.w) A (call (.builtin "dict.get") [.ref a, u]) Q E s := by
  rcases g with ⟨kvs, k, e, ey, l⟩ | ⟨kvs, k, b, e, ey, eb, l⟩
  · subst ey
    obtain ⟨z, hd, vs, rel, dd⟩ := dk_rd I.hok e
    refine call_meetsIn PySem.F.slot_dict_get dd.typeIs PySem.F.entry_dict_get (PySem.F.args_dict_get_2 _ _) (meets_dict_get (mixKind X.prog X.w) a (kV_is ry) hd) ⟨_, dd.mapOf, h _ _ (I.tok _) ?_⟩
    rw [l]
    exact (rel.val k).getD rfl
  · subst ey
    cases (show u = Value.ref b from ry)
    obtain ⟨z, hd, xs, rel, dd⟩ := dt_rd I.hok e
    refine call_meetsIn PySem.F.slot_dict_get dd.typeIs PySem.F.entry_dict_get (PySem.F.args_dict_get_2 _ _) (meetsH_dict_get (tupleKind (mixKind X.prog X.w)) a b hd) ⟨tupleKind_room_in1 hu, k, xs, key_of I.hok eb, dd, h _ _ (I.tok _) ?_⟩
    rw [l]
    exact (rel.val k).getD rfl
/-- d.get(y, x) -/
theorem d_get2 {Q : Value → Shared → Prop} (hu : A.units + 1 < cLine) (I : Inv X pins σ H s) (g : DGet H a y o) (ry : RelV y u) (rd : RelV d r) (h : ∀ w' s', Inv X pins σ H s' → RelV (o.getD d) w' → Q w' s') :
    wpAny (model X.prog X.w) A (call (.builtin "dict.get") [.ref a, u, r]) Q E s := by
  rcases g with ⟨kvs, k, e, ey, l⟩ | ⟨kvs, k, b, e, ey, eb, l⟩
  · subst ey
    obtain ⟨z, hd, vs, rel, dd⟩ := dk_rd I.hok e
    refine call_meetsIn PySem.F.slot_dict_get dd.typeIs PySem.F.entry_dict_get (PySem.F.args_dict_get_3 _ _ _) (meets_dict_get_default (mixKind X.prog X.w) a (kV_is ry) hd r) ⟨_, dd.mapOf, h _ _ (I.tok _) ?_⟩
    rw [l]
    exact (rel.val k).getD rd
  · subst ey
    cases (show u = Value.ref b from ry)
    obtain ⟨z, hd, xs, rel, dd⟩ := dt_rd I.hok e
    refine call_meetsIn PySem.F.slot_dict_get dd.typeIs PySem.F.entry_dict_get (PySem.F.args_dict_get_3 _ _ _) (meetsH_dict_get_default (tupleKind (mixKind X.prog X.w)) a b hd r) ⟨tupleKind_room_in1 hu, k, xs, key_of I.hok eb, dd, h _ _ (I.tok _) ?_⟩
    rw [l]
    exact (rel.val k).getD rd
end

def tDGet1 (td ty : TE) : TE := fun σ H Q => td σ H fun x H1 => ∃ a, x = .ref a ∧ IsD H1 a ∧ ty σ H1 fun y H2 => ∃ o, DGet H2 a y o ∧ Q (o.getD .non) H2
def tDGet2 (td ty tx : TE) : TE := fun σ H Q => td σ H fun x H1 => ∃ a, x = .ref a ∧ IsD H1 a ∧ ty σ H1 fun y H2 => tx σ H2 fun z H3 => ∃ o, DGet H3 a y o ∧ Q (o.getD z) H3
/-- d.pop(k): there; d.pop(k, x): there or not -/
def tDPop1 (td ty : TE) : TE := fun σ H Q => td σ H fun x H1 => ∃ a, x = .ref a ∧ IsD H1 a ∧ ty σ H1 fun y H2 => ∃ kvs k v, H2 a = some (.dK kvs) ∧ y = kV k ∧ valV kvs k = some v ∧ Q v (upd H2 a (.dK (dropK kvs k)))
def tDPop2 (td ty tx : TE) : TE := fun σ H Q => td σ H fun x H1 => ∃ a, x = .ref a ∧ IsD H1 a ∧ ty σ H1 fun y H2 => tx σ H2 fun z H3 => ∃ kvs k, H3 a = some (.dK kvs) ∧ y = kV k ∧
  (∀ v, valV kvs k = some v → Q v (upd H3 a (.dK (dropK kvs k)))) ∧ (valV kvs k = none → Q z H3)
section
variable {X : Cx} {o e f : Expr} {apos cpos : Pos} {td ty tx : TE}
theorem pe_dget1 (hu : X.A.units + 1 < cLine) (ho : PE X o td) (he : PE X e ty) (m : M1 X o "get" apos e cpos) : PE X (.Call (.Attribute o "get" apos) [e] [] cpos) (tDGet1 td ty) := by
  intro pins s σ H Q I h
  refine wpAny_Call_method m.base m.few m.line PySem.F.plainAttrs_dict PySem.F.slot_dict_get PySem.F.type_dict_get (thn (ho pins s σ H _ I h) fun u s1 ⟨x, H1, I1, rx, a, ex, d, q1⟩ => ?_)
  subst ex
  obtain rfl : u = Value.ref a := rx
  obtain ⟨t1, t2, _⟩ := isD_at I1 d
  refine ⟨t1, t2, ?_⟩
  rw [m.trees]
  refine Calls.callWith_builtin rfl (Calls.evalArgs_plain (Calls.spliced_cons (thn (he pins s1 σ H1 _ I1 q1) fun iv s2 ⟨y, H2, I2, ry, ov, g, q2⟩ => Calls.spliced_nil ?_)))
  exact d_get1 hu I2 g ry fun w' s3 I3 rw' => ⟨_, H2, I3, rw', q2⟩
theorem pe_dget2 (hu : X.A.units + 1 < cLine) (ho : PE X o td) (he : PE X e ty) (hf : PE X f tx) (m : M2 X o "get" apos e f cpos) : PE X (.Call (.Attribute o "get" apos) [e, f] [] cpos) (tDGet2 td ty tx) := by
  intro pins s σ H Q I h
  refine wpAny_Call_method m.base m.few m.line PySem.F.plainAttrs_dict PySem.F.slot_dict_get PySem.F.type_dict_get (thn (ho pins s σ H _ I h) fun u s1 ⟨x, H1, I1, rx, a, ex, d, q1⟩ => ?_)
  subst ex
  obtain rfl : u = Value.ref a := rx
  obtain ⟨t1, t2, _⟩ := isD_at I1 d
  refine ⟨t1, t2, ?_⟩
  rw [m.trees]
  refine Calls.callWith_builtin rfl (Calls.evalArgs_plain (Calls.spliced_cons (thn (he pins s1 σ H1 _ I1 q1) fun iv s2 ⟨y, H2, I2, ry, q2⟩ =>
    Calls.spliced_cons (thn (hf pins s2 σ H2 _ I2 q2) fun fv s3 ⟨z, H3, I3, rz, ov, g, q3⟩ => Calls.spliced_nil ?_))))
  exact d_get2 hu I3 g ry rz fun w' s4 I4 rw' => ⟨_, H3, I4, rw', q3⟩
theorem pe_dpop1 (ho : PE X o td) (he : PE X e ty) (m : M1 X o "pop" apos e cpos) : PE X (.Call (.Attribute o "pop" apos) [e] [] cpos) (tDPop1 td ty) := by
  intro pins s σ H Q I h
  refine wpAny_Call_method m.base m.few m.line PySem.F.plainAttrs_dict PySem.F.slot_dict_pop PySem.F.type_dict_pop (thn (ho pins s σ H _ I h) fun u s1 ⟨x, H1, I1, rx, a, ex, d, q1⟩ => ?_)
  subst ex
  obtain rfl : u = Value.ref a := rx
  obtain ⟨t1, t2, _⟩ := isD_at I1 d
  refine ⟨t1, t2, ?_⟩
  rw [m.trees]
  refine Calls.callWith_builtin rfl (Calls.evalArgs_plain (Calls.spliced_cons (thn (he pins s1 σ H1 _ I1 q1) fun iv s2 ⟨y, H2, I2, ry, kvs, k, v, ea, ey, l, q2⟩ => Calls.spliced_nil ?_)))
  subst ey
  exact d_pop I2 ea ry l (.inl rfl) fun w' s3 I3 rw' => ⟨v, _, I3, rw', q2⟩
theorem pe_dpop2 (ho : PE X o td) (he : PE X e ty) (hf : PE X f tx) (m : M2 X o "pop" apos e f cpos) : PE X (.Call (.Attribute o "pop" apos) [e, f] [] cpos) (tDPop2 td ty tx) := by
  intro pins s σ H Q I h
  refine wpAny_Call_method m.base m.few m.line PySem.F.plainAttrs_dict PySem.F.slot_dict_pop PySem.F.type_dict_pop (thn (ho pins s σ H _ I h) fun u s1 ⟨x, H1, I1, rx, a, ex, d, q1⟩ => ?_)
  subst ex
  obtain rfl : u = Value.ref a := rx
  obtain ⟨t1, t2, _⟩ := isD_at I1 d
  refine ⟨t1, t2, ?_⟩
  rw [m.trees]
  refine Calls.callWith_builtin rfl (Calls.evalArgs_plain (Calls.spliced_cons (thn (he pins s1 σ H1 _ I1 q1) fun iv s2 ⟨y, H2, I2, ry, q2⟩ =>
    Calls.spliced_cons (thn (hf pins s2 σ H2 _ I2 q2) fun fv s3 ⟨z, H3, I3, rz, kvs, k, ea, ey, q3, q4⟩ => Calls.spliced_nil ?_))))
  subst ey
  cases l : valV kvs k with
  | some v => exact d_pop I3 ea ry l (.inr ⟨fv, rfl⟩) fun w' s4 I4 rw' => ⟨v, _, I4, rw', q3 v l⟩
  | none => exact d_popD I3 ea ry l fun s4 I4 => ⟨z, H3, I4, rz, q4 l⟩
end

/-! ### dict(d): a copy -/
section
variable {X : Cx} {pins : List (Addr × Obj)} {σ : St} {H : Hp} {s : Shared} {a : Addr} {kvs : List (Key × V)} {A : Around} {E : Value → Shared → Prop}
theorem d_copyOf {Q : Value → Shared → Prop} (I : Inv X pins σ H s) (e : Rd H a (.dK kvs)) (h : ∀ p s', H p = none → Inv X pins σ (upd H p (.dK kvs)) s' → Q (.ref p) s') : wpAny (model X.prog X.w) A (call (.type "dict") [.ref a]) Q E s := by
  obtain ⟨z, hd, vs, rel, dd⟩ := dk_rd I.hok e
  refine kt_call_dict hd dd (by rw [← rel.length]; exact z) fun h' dd' hs => ?_
  refine h _ _ (I.hok.fresh (Nat.le_refl _)) (I.laid (a := s.heap.objs.size) (o := .dK kvs) (t' := s.toks) (fun b q hq => ?_) (Nat.le_refl _) (dk_new z (beq_eq_false_iff_ne.mpr (Ne.symm (Nat.ne_of_lt I.big))) rel dd'))
  exact (hs.2 b (Nat.ne_of_lt (Heap.lt_size hq))).trans (Heap.get?_push_of_some _ hq)
end


section
variable {X : Cx} {pins : List (Addr × Obj)} {σ : St} {H : Hp} {s : Shared} {a : Addr} {y : V} {u : Value} {A : Around} {E : Value → Shared → Prop}
/-- d[y], not there: a KeyError -/
theorem d_missing {Q : Value → Shared → Prop} (hu : A.units + 1 < cLine) (hh : A.handled = none) (I : Inv X pins σ H s) (g : DGet H a y none) (ry : RelV y u)
    (h : ∀ h' e t', Heap.NewExc s.heap h' e "KeyError" → E (.ref e) { s with heap := h', toks := t' }) : wpAny (model X.prog X.w) A (getItem (.ref a) u) Q E s := by
  rcases g with ⟨kvs, k, e, ey, l⟩ | ⟨kvs, k, b, e, ey, eb, l⟩
  · subst ey
    obtain ⟨z, hd, vs, rel, dd⟩ := dk_rd I.hok e
    have hn : valueAt vs k = none := RelO.none_of (by rw [l]; exact rel.val k)
    exact wpAny_getItem_missing_of (kV_is ry) hd hh dd.mapOf hn fun h' ex ne => h h' ex _ ne
  · subst ey
    cases (show u = Value.ref b from ry)
    obtain ⟨z, hd, xs, rel, dd⟩ := dt_rd I.hok e
    have hn : (atKey xs k).map (·.2) = none := RelO.none_of (by rw [l]; exact rel.val k)
    exact wpAny_getItem_missing_heap (tupleKind_room_in1 hu) (key_of I.hok eb) hd hh dd (Option.map_eq_none_iff.mp hn) fun h' ex ne => h h' ex _ ne
end
end L2

set_option Elab.async false
set_option linter.all false
set_option maxRecDepth 100000
namespace L2
open PySem PySem.Spec PyProof.Rows
section
variable {X : Cx} {pins : List (Addr × Obj)} {σ : St} {H : Hp} {s : Shared} {a o : Addr} {kvs more : List (Key × V)} {A : Around} {E : Value → Shared → Prop}
theorem d_update {Q : Value → Shared → Prop} (I : Inv X pins σ H s) (e : H a = some (.dK kvs)) (e' : H o = some (.dK more)) (ne : a ≠ o) (hl : kvs.length + more.length ≤ 1000) (h : ∀ s', Inv X pins σ (upd H a (.dK (mergeK kvs more))) s' → Q .none s') :
    wpAny (model X.prog X.w) A (call (.builtin "dict.update") [.ref a, .ref o]) Q E s := by
  obtain ⟨z, hd, vs, rel, dd⟩ := dk_of I.hok e
  obtain ⟨z', hd', vs', rel', dd'⟩ := dk_of I.hok e'
  have h10 : (1000 : Nat) ≤ sizeLine := by decide
  refine call_meetsIn PySem.F.slot_dict_update dd.typeIs PySem.F.entry_dict_update (PySem.F.args_dict_update_2 _ _) (meets_dict_update (mixKind X.prog X.w) a o ne hd')
    ⟨vs, vs', dd, dd', by rw [← rel.length, ← rel'.length]; omega, fun h' d1 d2 hs => h _ ?_⟩
  have he : ∃ q, h'.get? a = some q := let ⟨q, _, _, hq, _⟩ := d1; ⟨q, hq⟩
  have hm := length_mergeK more kvs
  exact d_write I (by rw [e]; exact True.intro) hs he (dk_new (by omega) hd (rel'.merge rel) d1)
end
/-- d.update(e) -/
def tDUpd (td ty : TE) : TE := fun σ H Q => td σ H fun x H1 => ∃ a, x = .ref a ∧ IsD H1 a ∧ ty σ H1 fun y H2 => ∃ o kvs more, y = .ref o ∧ H2 a = some (.dK kvs) ∧ H2 o = some (.dK more) ∧ a ≠ o ∧ kvs.length + more.length ≤ 1000 ∧ Q .non (upd H2 a (.dK (mergeK kvs more)))
theorem pe_dupd {X : Cx} {o e : Expr} {td ty : TE} {apos cpos : Pos} (ho : PE X o td) (he : PE X e ty) (m : M1 X o "update" apos e cpos) : PE X (.Call (.Attribute o "update" apos) [e] [] cpos) (tDUpd td ty) := by
  intro pins s σ H Q I h
  refine wpAny_Call_method m.base m.few m.line PySem.F.plainAttrs_dict PySem.F.slot_dict_update PySem.F.type_dict_update (thn (ho pins s σ H _ I h) fun u s1 ⟨x, H1, I1, rx, a, ex, d, q1⟩ => ?_)
  subst ex
  obtain rfl : u = Value.ref a := rx
  obtain ⟨t1, t2, _⟩ := isD_at I1 d
  refine ⟨t1, t2, ?_⟩
  rw [m.trees]
  refine Calls.callWith_builtin rfl (Calls.evalArgs_plain (Calls.spliced_cons (thn (he pins s1 σ H1 _ I1 q1) fun iv s2 ⟨y, H2, I2, ry, o, kvs, more, ey, e1, e2, ne, hl, q2⟩ => Calls.spliced_nil ?_)))
  subst ey
  cases ry
  exact d_update I2 e1 e2 ne hl fun s3 I3 => ⟨.non, _, I3, rfl, q2⟩
theorem w_dupd {td ty : TE} {σ : St} {H : Hp} {Q : VK} (h : td σ H fun x H1 => ∃ a, x = .ref a ∧ IsD H1 a ∧ ty σ H1 fun y H2 => ∃ o kvs more, y = .ref o ∧ H2 a = some (.dK kvs) ∧ H2 o = some (.dK more) ∧ a ≠ o ∧ kvs.length + more.length ≤ 1000 ∧ Q .non (upd H2 a (.dK (mergeK kvs more)))) : tDUpd td ty σ H Q := h
end L2

set_option Elab.async false
set_option linter.all false
set_option maxRecDepth 100000
namespace K25
open PySem L2 G2
local macro_rules | `(tactic| walk_at "v") => `(tactic| repeat (with_reducible first
  | refine w_seq ?_ | refine w_asg ?_ | refine w_gname ?_ | refine w_op ?_ | refine w_var rfl ?_ | refine w_c ?_ | refine w_rI0 ?_ | refine w_ifs ?_ | refine w_ife ?_ | refine w_test ?_ | refine w_tb ?_ | refine w_bl ?_ | refine w_not ?_ | refine w_ret ?_ | refine w_retN ?_
  | refine w_nil ?_ | refine w_cons ?_ | refine w_lst ?_ | refine w_tup ?_ | refine w_cb ?_ | refine w_call ?_ | refine w_gsub ?_ | refine w_and ?_ | refine w_or ?_ | refine w_next ?_ | refine w_all ?_ | refine w_vals ?_ | refine w_compR ?_ | refine w_compT ?_ | refine w_forR ?_ | refine w_forT ?_ | refine w_forL ?_ | refine w_drop ?_ | refine w_bm ?_ | refine w_compZ ?_ | refine w_compL ?_ | refine w_chain ?_ | refine w_sl ?_ | refine w_nopart ?_ | refine w_part ?_ | refine w_unI ?_ | refine iteT ?_ | refine iteF ?_))
def top (i : Nat) : Stmt := PySem.Challenge.pw_dropsums_k25_whole_pieces_tell_what_is_a.main.body.getD i (.Pass ⟨0, 0, 0, 0⟩)
abbrev sTape : Stmt := top 23
abbrev sDraw : Stmt := top 24
abbrev sNames : Stmt := top 27
abbrev sRule : Stmt := top 28
structure Blt (mg : Str → Option Value) : Prop where
  len : mg "len" = none
  range : mg "range" = none
  tuple : mg "tuple" = none
section
variable {P : Program} {w : World} {K : PySem.W.Frag} {mg : Str → Option Value} {base : Heap}
/-! ### the tape -/
theorem nmTape : Nm ["_law_script"] (defScope sTape) := ⟨by decide +kernel, by decide +kernel⟩
theorem scTape : FnScope ["_law_script"] ["_law_script"] (defScope sTape) := ⟨rfl, rfl, rfl, by decide +kernel, rfl, by decide +kernel, by decide +kernel⟩
def spTape (K : PySem.W.Frag) : Sp := fun vs H Q _ => ∃ (a : Addr) (ns : List Int), vs = [.ref a] ∧ SqL K H a (ns.map V.int) ∧ ∀ p l (ms : List Int) H', ms.length ≤ 63 → Tp H' p l ms → Same H H' → Q (.ref p) H'
theorem cut63 (ns : List Int) : cutV (ns.map V.int) none (some 63) = (ns.take 63).map V.int := by
  unfold cutV HT.sIx
  dsimp only
  rw [if_neg (by decide : ¬ (63 : Int) < 0), List.drop_zero, Nat.sub_zero, List.map_take, List.length_map]
  show List.take (min 63 ns.length) _ = _
  by_cases h : ns.length ≤ 63
  · rw [Nat.min_eq_right h, List.take_of_length_le (by rw [List.length_map]; omega), List.take_of_length_le (by rw [List.length_map]; omega)]
  · rw [Nat.min_eq_left (by omega)]
theorem ok_tape {f : Addr} {fd : FuncData} (F : Fun K "_law_tape" "_law_tape" sTape f fd) : FnOk P w K mg base CX0 1 f fd ["_law_script"] (spTape K) := by
  refine F.ok scTape (fun vs H Q E h => ?_) (fun cdv A outer s H vs Q E hr h => ?_)
  · obtain ⟨a, ns, rfl, _⟩ := h
    rfl
  · obtain ⟨a, ns, rfl, hS, k⟩ := h
    refine' ⟨_, ?hb, ?rd⟩
    case hb =>
      refine' pss_one ?s1
      case' s1 => refine' ps_ret ?p1
      case' p1 => refine' pe_lst ?q1
      case' q1 => refine' pa_c ?u1 ?u2
      case u2 => exact pa_2 pe_int pe_int
      case u1 => exact pe_slice sl_list (pvd nmTape 0) po_none (po_some pe_int)
    case rd =>
      walk_at "v"
      refine ⟨_, rfl, ?_⟩
      refine ⟨a, _, rfl, hS, fun l hl => ?_⟩
      rw [cut63]
      walk_at "v"
      refine ⟨by show 3 ≤ sizeLine; decide, fun p hp => ?_⟩
      have nlp : l ≠ p := by
        intro z
        rw [← z, upd_same] at hp
        cases hp
      refine k p l (ns.take 63) _ (by rw [List.length_take]; omega) ⟨⟨_, _, upd_same⟩, by rw [upd_ne nlp, upd_same], Ne.symm nlp⟩ ((Same.new (Same.refl H) hl).new hp)
abbrev nDraw : List Str := ["_law_tape_here", "_law_many", "_law_cell", "_law_mixed", "_law_found"]
theorem nmDraw : Nm nDraw (defScope sDraw) := ⟨by decide +kernel, by decide +kernel⟩
theorem scDraw : FnScope nDraw ["_law_tape_here", "_law_many"] (defScope sDraw) := ⟨rfl, rfl, rfl, by decide +kernel, rfl, by decide +kernel, by decide +kernel⟩
def spDraw : Sp := fun vs H Q _ => ∃ (p l : Addr) (ns : List Int) (m : Int), vs = [.ref p, .int m] ∧ Tp H p l ns ∧ 0 < m ∧ m < 1000000 ∧ ∀ (r c e : Int), 0 ≤ r → r < m → Q (.int r) (upd H p (.lst [.ref l, .int c, .int e]))
set_option maxHeartbeats 2000000 in
theorem ok_draw {f : Addr} {fd : FuncData} (B : Blt mg) (F : Fun K "_law_draw" "_law_draw" sDraw f fd) : FnOk P w K mg base CX0 1 f fd ["_law_tape_here", "_law_many"] spDraw := by
  refine F.ok scDraw (fun vs H Q E h => ?_) (fun cdv A outer s H vs Q E hr h => ?_)
  · obtain ⟨p, l, ns, m, rfl, _⟩ := h
    rfl
  · obtain ⟨p, l, ns, m, rfl, ⟨⟨c, e, hp⟩, hl, hne⟩, hm, hm2, k⟩ := h
    refine' ⟨_, ?hb, ?rd⟩
    case hb =>
      refine' pss_cons ?s1 ?r1
      case' r1 => refine' pss_cons ?s2 ?r2
      case' r2 => refine' pss_cons ?s3 ?r3
      case' r3 => refine' pss_cons ?s4 ?r4
      case' r4 => refine' pss_one ?s5
      case s1 => exact ps_asg (pe_op op_add (pe_ix ix_d (pvd nmDraw 0) pe_int (fun _ _ => rfl)) pe_int) (pg_sub (pvd nmDraw 0) pe_int set_d)
      case s3 => exact ps_setD nmDraw 4 (pe_op op_mod (pe_ix ix_d (pvd nmDraw 0) pe_int (fun _ _ => rfl)) (pvd nmDraw 1))
      case s4 => exact ps_asg (pe_op op_fdiv (pe_ix ix_d (pvd nmDraw 0) pe_int (fun _ _ => rfl)) (pvd nmDraw 1)) (pg_sub (pvd nmDraw 0) pe_int set_d)
      case s5 => exact ps_ret (pvd nmDraw 4)
      case s2 =>
        refine' ps_if (pt_cmpR op_eq (pe_ix ix_d (pvd nmDraw 0) pe_int (fun _ _ => rfl)) pe_int (nomark _)) ?b2 pss_nil
        case b2 =>
          refine' pss_cons ?t1 ?u1
          case' u1 => refine' pss_cons ?t2 ?u2
          case' u2 => refine' pss_cons ?t3 ?u3
          case' u3 => refine' pss_one ?t4
          case t1 => exact ps_setD nmDraw 2 pe_int
          case t2 =>
            refine' ps_if ?c2 ?d2 pss_nil
            case c2 => exact pt_cmpR op_gt (pe_cB call_len_seq B.len PySem.boot_len (pa_1 (pe_ix ix_d (pvd nmDraw 0) pe_int (fun _ _ => rfl)))) pe_int (nomark _)
            case' d2 => refine' pss_one ?e2
            case' e2 => refine' ps_setD nmDraw 2 ?f2
            case' f2 => refine' pe_ix ix_d (pe_ix ix_d (pvd nmDraw 0) pe_int (fun _ _ => rfl)) ?g2 (fun _ _ => rfl)
            case g2 => exact pe_op op_mod (pe_ix ix_d (pvd nmDraw 0) pe_int (fun _ _ => rfl)) (pe_cB call_len_seq B.len PySem.boot_len (pa_1 (pe_ix ix_d (pvd nmDraw 0) pe_int (fun _ _ => rfl))))
          case t3 =>
            refine' ps_if (pt_cmpR op_lt (pvd nmDraw 2) (pe_op op_pow pe_int pe_int) (nomark _)) ?d3 pss_nil
            case d3 =>
              refine' pss_cons ?v1 ?w1
              case' w1 => refine' pss_cons ?v2 ?w2
              case' w2 => refine' pss_one ?v3
              case v1 => exact ps_setD nmDraw 3 (pe_op op_mod (pe_op op_add (pe_op op_add (pe_op op_mul (pe_op op_mod (pvd nmDraw 2) pe_int) pe_int) (pe_op op_mul (pe_ix ix_d (pvd nmDraw 0) pe_int (fun _ _ => rfl)) pe_int)) pe_int) pe_int)
              case v2 => exact ps_setD nmDraw 3 (pe_op op_mod (pe_op op_mul (pvd nmDraw 3) (pe_op op_add (pvd nmDraw 3) pe_int)) pe_int)
              case v3 => exact ps_ret (pe_op op_mod (pe_op op_mod (pe_op op_mul (pvd nmDraw 3) pe_int) pe_int) (pvd nmDraw 1))
          case t4 => exact ps_asg (pe_op op_sub (pvd nmDraw 2) (pe_op op_pow pe_int pe_int)) (pg_sub (pvd nmDraw 0) pe_int set_d)
    case rd =>
      have hl' : ∀ {o : HO}, upd H p o l = some (.lst (ns.map V.int)) := fun {o} => by rw [upd_ne (Ne.symm hne)]; exact hl
      walk_at "v"
      refine w_ixL hp rfl ?_
      walk_at "v"
      refine w_set hp rfl ?_
      with_reducible refine seq_post (fun σ' H' => ∃ (u2 u3 : Option V) (c' e' : Int), σ' = [some (.ref p), some (.int m), u2, u3, none] ∧ H' = upd H p (.lst [.ref l, .int c', .int e'])) ?_ fun fin => ?_
      · rintro σ' H' ⟨u2, u3, c', e', rfl, rfl⟩
        walk_at "v"
        refine w_ixL upd_same rfl ?_
        walk_at "v"
        refine w_rI hm ?_
        walk_at "v"
        refine w_ixL upd_same rfl ?_
        walk_at "v"
        refine w_rI ⟨hm, by omega⟩ ?_
        walk_at "v"
        refine w_set upd_same rfl ?_
        walk_at "v"
        rw [upd_upd]
        exact k _ _ _ (md hm).1 (md hm).2
      walk_at "v"
      refine w_ixL upd_same rfl ?_
      walk_at "v"
      refine ⟨rfl, ?_⟩
      walk_at "v"
      refine iteD (fun _ => ?_) (fun _ => ?_)
      · refine w_seq ?_
        refine w_asg ?_
        refine w_c ?_
        refine w_gname ?_
        with_reducible refine seq_post (fun σ' H' => ∃ cell : Int, σ' = [some (.ref p), some (.int m), some (.int cell), none, none] ∧ H' = upd H p (.lst [.ref l, .int (c + 1), .int e])) ?_ fun tail => ?_
        · rintro σ' H' ⟨cell, rfl, rfl⟩
          walk_at "v"
          refine w_rI ⟨by decide, by decide, by decide⟩ ?_
          walk_at "v"
          refine iteD (fun _ => ?_) (fun _ => ?_)
          · walk_at "v"
            refine w_rI (by decide) ?_
            walk_at "v"
            refine w_rI (mulR (by decide) (by decide)) ?_
            walk_at "v"
            refine w_ixL upd_same rfl ?_
            walk_at "v"
            refine w_rI (mulR (by decide) (by decide)) ?_
            walk_at "v"
            refine w_rI (by decide) ?_
            generalize hx : (cell % 2147483647 * 48271 + (c + 1) * 7919 + 12345) % 2147483629 = x
            have h1 := md (i := cell % 2147483647 * 48271 + (c + 1) * 7919 + 12345) (j := 2147483629) (by decide)
            rw [hx] at h1
            walk_at "v"
            refine w_rI (mulL (by omega) (by omega)) ?_
            walk_at "v"
            refine w_rI (by decide) ?_
            walk_at "v"
            refine w_rI (mulR (by decide) (by decide)) ?_
            walk_at "v"
            refine w_rI (by decide) ?_
            walk_at "v"
            refine w_rI hm ?_
            exact k _ _ _ (md hm).1 (md hm).2
          · walk_at "v"
            refine w_rI ⟨by decide, by decide, by decide⟩ ?_
            walk_at "v"
            refine w_set upd_same rfl ?_
            exact fin _ _ ⟨_, _, _, _, rfl, upd_upd⟩
        walk_at "v"
        refine w_ixL upd_same rfl ?_
        walk_at "v"
        refine ⟨l, _, rfl, .inl (SqL.of hl'), ?_⟩
        rw [List.length_map]
        walk_at "v"
        refine iteD (fun h0 => ?_) (fun _ => ?_)
        · have h0' : 0 < ns.length := by omega
          walk_at "v"
          refine w_ixL upd_same rfl ?_
          walk_at "v"
          refine w_ixL upd_same rfl ?_
          walk_at "v"
          refine w_ixL upd_same rfl ?_
          walk_at "v"
          refine ⟨l, _, rfl, .inl (SqL.of hl'), ?_⟩
          rw [List.length_map]
          refine w_rI h0 ?_
          obtain ⟨j, hj⟩ : ∃ j : Nat, (c + 1) % (ns.length : Int) = (j : Int) := ofI (md h0).1
          have hjl : j < ns.length := by
            have := (md (i := c + 1) h0).2
            omega
          rw [hj]
          refine w_ixL (v := .int ns[j]) hl' (atI_nat (by simp [hjl])) ?_
          exact tail _ _ ⟨_, rfl, rfl⟩
        · exact tail _ _ ⟨_, rfl, rfl⟩
      · exact fin _ _ ⟨_, _, _, _, rfl, rfl⟩
end
/-- all that was tracked is as it was, but at p -/
def Bp (p : Addr) (H H' : Hp) : Prop := ∀ q o, q ≠ p → H q = some o → H' q = some o
section
variable {p l a : Addr} {H H' H'' : Hp} {o : HO} {ns : List Int}
theorem Bp.refl : Bp p H H := fun _ _ _ e => e
theorem Bp.new (b : Bp p H H') (h : H' a = none) : Bp p H (upd H' a o) := fun q u hq e => by
  have e' := b q u hq e
  rw [upd_ne (ne_of_none e' h)]
  exact e'
theorem Bp.at (b : Bp p H H') : Bp p H (upd H' p o) := fun q u hq e => by
  rw [upd_ne hq]
  exact b q u hq e
theorem Bp.put (b : Bp p H H') (h : H a = none) : Bp p H (upd H' a o) := fun q u hq e => by
  rw [upd_ne (ne_of_none e h)]
  exact b q u hq e
theorem Bp.trans (a : Bp p H H') (b : Bp p H' H'') : Bp p H H'' := fun q o hq e => b q o hq (a q o hq e)
theorem Bp.same (k : Same H H') : Bp p H H' := fun q o _ e => k q o e
theorem Bp.free (b : Bp p H H') (hp : p ≠ a) (h : H' a = none) : H a = none := by
  cases e : H a with
  | none => rfl
  | some o => rw [b a o (Ne.symm hp) e] at h; cases h
theorem Tp.tkb (t : Tp H p l ns) (b : Bp p H H') : TK H H' := by
  obtain ⟨c, e, hp⟩ := t.ex
  exact ⟨fun q xs eq => b q _ (ne_of eq hp (by intro z; cases z)) eq, fun q o u eq => b q _ (ne_of eq hp (by intro z; cases z)) eq⟩
end
def pool12 : List Str := ["a", "ab", "abc", "b", "sort", "rules", "into", "begins", "inx", "outs", "tox", "abcdefgh"]
abbrev nNames : List Str := ["_law_tape_here", "_law_many", "_law_pool", "_law_start", "_law_step"]
theorem nmNames : Nm nNames (defScope sNames) := ⟨by decide +kernel, by decide +kernel⟩
theorem scNames : FnScope nNames ["_law_tape_here", "_law_many"] (defScope sNames) := ⟨rfl, rfl, rfl, by decide +kernel, rfl, by decide +kernel, by decide +kernel⟩

def retTup (s : Stmt) : Scope := match s with
  | .Return (some (.Call _ [.ListComp _ _ sc _] _ _)) _ => sc
  | _ => { kind := .function, names := [], isGenerator := false, isCoroutine := false }
abbrev cNames : Scope := retTup ((defBody sNames).getD 3 (.Pass ⟨0, 0, 0, 0⟩))
theorem bsNames : BScope (defScope sNames) cNames ["_law_k"] ["_law_pool", "_law_start", "_law_step"] [] := { okind := by decide +kernel, kind := by decide +kernel, nocell := by decide +kernel, names := by decide +kernel, fr := by decide +kernel, ff := by decide +kernel, nd := by decide +kernel, vis := by decide +kernel, loc := by decide +kernel, gl := by decide +kernel }

theorem pickZ {xs : List Int} {r : Int} (h0 : 0 ≤ r) (h1 : r < xs.length) : ∃ x, x ∈ xs ∧ atI (xs.map V.int) r = some (.int x) := by
  obtain ⟨j, rfl⟩ := ofI h0
  have hj : j < xs.length := by omega
  exact ⟨xs[j], List.getElem_mem hj, atI_nat (by simp [hj])⟩
theorem pickW {xs : List Str} {r : Int} (h0 : 0 ≤ r) (h1 : r < xs.length) : ∃ x, x ∈ xs ∧ atI (xs.map V.str) r = some (.str x) := by
  obtain ⟨j, rfl⟩ := ofI h0
  have hj : j < xs.length := by omega
  exact ⟨xs[j], List.getElem_mem hj, atI_nat (by simp [hj])⟩
def spNames : Sp := fun vs H Q _ => ∃ (p l : Addr) (ns : List Int) (m : Nat), vs = [.ref p, .int (m : Int)] ∧ Tp H p l ns ∧ m ≤ 8 ∧ ∀ (q : Addr) (nm : List Str) (H' : Hp), nm.length = m → (∀ x ∈ nm, x ∈ pool12) → H' q = some (.tup (nm.map V.str)) → Tp H' p l ns → Bp p H H' → Q (.ref q) H'
section
variable {P : Program} {w : World} {K : PySem.W.Frag} {mg : Str → Option Value} {base : Heap}
set_option maxHeartbeats 4000000 in
theorem ok_Names {f : Addr} {fd : FuncData} (B : Blt mg) (D : Has P w K mg base 1 "_law_draw" ["_law_tape_here", "_law_many"] spDraw) (F : Fun K "_law_names" "_law_names" sNames f fd) : FnOk P w K mg base CX0 2 f fd ["_law_tape_here", "_law_many"] spNames := by
  refine F.ok scNames (fun vs H Q E h => ?_) (fun cdv A outer s H vs Q E hr h => ?_)
  · obtain ⟨p, l, ns, m, rfl, _⟩ := h
    rfl
  · obtain ⟨p, l, ns, m, rfl, T0, hm8, k⟩ := h
    refine' ⟨_, ?hb, ?rd⟩
    case hb =>
      refine' pss_cons ?s1 ?r1
      case' r1 => refine' pss_cons ?s2 ?r2
      case' r2 => refine' pss_cons ?s3 ?r3
      case' r3 => refine' pss_one ?s4
      case s1 =>
        refine' ps_setD nmNames 2 ?p1
        case p1 =>
          refine pe_lstW (vs := pool12.map V.str) ?_
          decide +kernel
      case s2 => exact ps_setD nmNames 3 (pe_f D hr (by decide) (pa_2 (pvd nmNames 0) pe_int))
      case s3 =>
        refine' ps_setD nmNames 4 ?p3
        case' p3 => refine' pe_ix ix_d ?a3 (pe_f D hr (by decide) (pa_2 (pvd nmNames 0) pe_int)) (fun _ _ => rfl)
        case a3 =>
          refine pe_lstW (vs := ([1, 5, 7, 11] : List Int).map V.int) ?_
          decide +kernel
      case s4 =>
        refine' ps_ret ?p4
        case' p4 => refine' pe_cT call_tuple_of B.tuple PyProof.Rows.boot_tuple ?p5
        case' p5 => refine' pa_1 ?p6
        case p6 =>
          refine' pe_comp (ix := [2, 3, 4]) bsNames.toCScope rfl rfl (pi_r1 B.range (pa_1 (pvd nmNames 1))) ?h4 ?h5 ?h6
          case h4 => exact fun _ _ _ _ _ _ => pgb bsNames 0
          case h5 => exact fun _ _ _ _ _ _ => pts_nil
          case h6 => exact fun _ _ _ _ _ _ => pe_ix ix_d (pvb bsNames 1) (pe_op op_mod (pe_op op_add (pvb bsNames 2) (pe_op op_mul (pvb bsNames 3) (pvb bsNames 0))) pe_int) (fun _ _ => rfl)
    case rd =>
      walk_at "v"
      refine ⟨by show 12 ≤ sizeLine; decide, fun a1 ha1 => ?_⟩
      have T1 := T0.new (o := .lst (pool12.map V.str)) ha1
      have np1 := T0.np ha1
      have b1 : Bp p H (upd H a1 (.lst (pool12.map V.str))) := Bp.refl.new ha1
      have e1 : upd H a1 (.lst (pool12.map V.str)) a1 = some (.lst (pool12.map V.str)) := upd_same
      generalize upd H a1 (.lst (pool12.map V.str)) = H1 at T1 b1 e1 ⊢
      walk_at "v"
      refine ⟨p, l, ns, 12, rfl, T1, by decide, by decide, fun st c e s0 s1 => ?_⟩
      have T2 := T1.draw (c := c) (e := e)
      have b2 : Bp p H (upd H1 p (.lst [.ref l, .int c, .int e])) := b1.at
      have e2 : upd H1 p (.lst [.ref l, .int c, .int e]) a1 = some (.lst (pool12.map V.str)) := by rw [upd_ne (Ne.symm np1)]; exact e1
      generalize upd H1 p (.lst [.ref l, .int c, .int e]) = H2 at T2 b2 e2 ⊢
      walk_at "v"
      refine ⟨by show 4 ≤ sizeLine; decide, fun a2 ha2 => ?_⟩
      have T3 := T2.new (o := .lst (([1, 5, 7, 11] : List Int).map V.int)) ha2
      have np2 := T2.np ha2
      have b3 : Bp p H (upd H2 a2 (.lst (([1, 5, 7, 11] : List Int).map V.int))) := b2.new ha2
      have e3 : upd H2 a2 (.lst (([1, 5, 7, 11] : List Int).map V.int)) a1 = some (.lst (pool12.map V.str)) := by rw [upd_ne (ne_of_none e2 ha2)]; exact e2
      have g3 : upd H2 a2 (.lst (([1, 5, 7, 11] : List Int).map V.int)) a2 = some (.lst (([1, 5, 7, 11] : List Int).map V.int)) := upd_same
      generalize upd H2 a2 (.lst (([1, 5, 7, 11] : List Int).map V.int)) = H3 at T3 b3 e3 g3 ⊢
      walk_at "v"
      refine ⟨p, l, ns, 4, rfl, T3, by decide, by decide, fun r c e r0 r1 => ?_⟩
      obtain ⟨sp, hsp, hat⟩ := pickZ (xs := [1, 5, 7, 11]) r0 r1
      refine w_ixL (by rw [upd_ne (Ne.symm np2)]; exact g3) hat ?_
      have T4 := T3.draw (c := c) (e := e)
      have b4 : Bp p H (upd H3 p (.lst [.ref l, .int c, .int e])) := b3.at
      have e4 : upd H3 p (.lst [.ref l, .int c, .int e]) a1 = some (.lst (pool12.map V.str)) := by rw [upd_ne (Ne.symm np1)]; exact e3
      generalize upd H3 p (.lst [.ref l, .int c, .int e]) = H4 at T4 b4 e4 ⊢
      walk_at "v"
      refine ⟨_, rfl, by omega, by omega, fun d hd => ?_⟩
      rw [Int.toNat_natCast]
      refine cgo_range (ρ := [some (.ref a1), some (.int st), some (.int sp)]) (fun i ys H' => ∃ nm : List Str, ys = nm.map V.str ∧ nm.length = i ∧ (∀ x ∈ nm, x ∈ pool12) ∧ Same H4 H') ⟨[], rfl, rfl, (fun x h => by cases h), Same.new (Same.refl H4) hd⟩ ?_ ?_
      · rintro i ys H' hi ⟨nm, rfl, hnl, hnm, K'⟩ hD R S kR _
        have hs4 : 1 ≤ sp ∧ sp ≤ 11 := by
          simp only [List.mem_cons, List.not_mem_nil, or_false] at hsp
          omega
        walk_at "v"
        refine w_rI (mulL (by omega) (by omega)) ?_
        walk_at "v"
        refine w_rI (by decide) ?_
        have q12 := md (i := st + sp * (0 + (i : Int))) (j := 12) (by decide)
        obtain ⟨x, hx, hax⟩ := pickW (xs := pool12) q12.1 (by show _ < (12 : Int); exact q12.2)
        refine w_ixL (K' _ _ e4) hax ?_
        refine kR _ _ hD (by rw [List.length_map]; exact small1000 (by omega)) ⟨nm ++ [x], by rw [List.map_append]; rfl, by simp [hnl], fun y hy => ?_, K'.put hd⟩
        rcases List.mem_append.mp hy with old | new
        · exact hnm y old
        · rw [List.mem_singleton.mp new]
          exact hx
      · rintro ys H5 ⟨nm, rfl, hnl, hnm, K5⟩ hD
        walk_at "v"
        refine ⟨d, _, rfl, .inl ⟨SqL.of hD, fun q hq => ?_⟩⟩
        exact k q nm _ hnl hnm upd_same ((T4.same K5).new hq) ((b4.trans (Bp.same K5)).new hq)
end
abbrev nRule : List Str := ["_law_tape_here", "_law_many", "_law_takes", "_law_k", "_law_gives"]
theorem nmRule : Nm nRule (defScope sRule) := ⟨by decide +kernel, by decide +kernel⟩
theorem scRule : FnScope nRule ["_law_tape_here", "_law_many"] (defScope sRule) := ⟨rfl, rfl, rfl, by decide +kernel, rfl, by decide +kernel, by decide +kernel⟩

/-- a list of m counts -/
def Cn9 (m : Nat) (H : Hp) (a : Addr) : Prop := ∃ xs : List Int, H a = some (.lst (xs.map V.int)) ∧ xs.length = m ∧ ∀ x ∈ xs, 0 ≤ x ∧ x ≤ 9
theorem Cn9.new {m : Nat} {H : Hp} {a b : Addr} {o : HO} (c : Cn9 m H a) (h : a ≠ b) : Cn9 m (upd H b o) a := let ⟨xs, e, r⟩ := c; ⟨xs, by rw [upd_ne h]; exact e, r⟩
theorem Cn9.ne {m : Nat} {H : Hp} {a b : Addr} (c : Cn9 m H a) (h : H b = none) : a ≠ b := let ⟨_, e, _⟩ := c; ne_of_none e h
theorem Cn9.zero {m : Nat} {H : Hp} {a : Addr} (e : H a = some (.lst ((List.replicate m (0 : Int)).map V.int))) : Cn9 m H a := ⟨_, e, List.length_replicate, fun x hx => by rw [List.eq_of_mem_replicate hx]; exact ⟨by decide, by decide⟩⟩
theorem Cn9.set {m j : Nat} {H : Hp} {a : Addr} {xs : List Int} {v : Int} (hl : xs.length = m) (hb : ∀ x ∈ xs, 0 ≤ x ∧ x ≤ 9) (hv : 0 ≤ v ∧ v ≤ 9) : Cn9 m (upd H a (.lst ((xs.map V.int).set j (.int v)))) a := by
  refine ⟨xs.set j v, by rw [upd_same, List.map_set], by rw [List.length_set]; exact hl, fun x hx => ?_⟩
  rcases List.mem_or_eq_of_mem_set hx with h | h
  · exact hb x h
  · rw [h]
    exact hv
theorem ixK {n : Nat} {r : Int} (h0 : 0 ≤ r) (h1 : r < n) : ixN n r = some r.toNat := by
  unfold ixN
  rw [if_pos h0, if_pos h1]
def RuleT (m : Nat) (H : Hp) (r : Addr) : Prop := ∃ (a b : Addr) (ts gs : List Int), H r = some (.tup [.ref a, .ref b]) ∧ H a = some (.tup (ts.map V.int)) ∧ H b = some (.tup (gs.map V.int)) ∧ ts.length = m ∧ gs.length = m ∧ (∀ x ∈ ts, 0 ≤ x ∧ x ≤ 9) ∧ (∀ x ∈ gs, 0 ≤ x ∧ x ≤ 9)
def spRule : Sp := fun vs H Q _ => ∃ (p l : Addr) (ns : List Int) (m : Nat), vs = [.ref p, .int (m : Int)] ∧ Tp H p l ns ∧ 0 < m ∧ m ≤ 8 ∧ ∀ (q : Addr) (H' : Hp), RuleT m H' q → Tp H' p l ns → Bp p H H' → Q (.ref q) H'
section
variable {P : Program} {w : World} {K : PySem.W.Frag} {mg : Str → Option Value} {base : Heap}
set_option maxHeartbeats 4000000 in
theorem ok_Rule {f : Addr} {fd : FuncData} (B : Blt mg) (D : Has P w K mg base 1 "_law_draw" ["_law_tape_here", "_law_many"] spDraw) (F : Fun K "_law_rule" "_law_rule" sRule f fd) : FnOk P w K mg base CX0 2 f fd ["_law_tape_here", "_law_many"] spRule := by
  refine F.ok scRule (fun vs H Q E h => ?_) (fun cdv A outer s H vs Q E hr h => ?_)
  · obtain ⟨p, l, ns, m, rfl, _⟩ := h
    rfl
  · obtain ⟨p, l, ns, m, rfl, T0, hm0, hm8, k⟩ := h
    refine' ⟨_, ?hb, ?rd⟩
    case hb =>
      refine' pss_cons ?s1 ?r1
      case' r1 => refine' pss_cons ?s2 ?r2
      case' r2 => refine' pss_cons ?s3 ?r3
      case' r3 => refine' pss_cons ?s4 ?r4
      case' r4 => refine' pss_cons ?s5 ?r5
      case' r5 => refine' pss_one ?s6
      case s1 => exact ps_setD nmRule 2 (pe_op op_rep (pe_lst (pa_1 pe_int)) (pvd nmRule 1))
      case s3 => exact ps_setD nmRule 4 (pe_op op_rep (pe_lst (pa_1 pe_int)) (pvd nmRule 1))
      case s2 =>
        refine' ps_for PassesOwn.never rfl (pi_r1 B.range (pa_1 (pe_op op_add pe_int (pe_f D hr (by decide) (pa_2 (pvd nmRule 0) pe_int))))) (pgd nmRule 3) ?fb
        case fb =>
          refine' pss_one ?f1
          case' f1 => refine' ps_asg ?f2 (pg_sub (pvd nmRule 2) (pe_f D hr (by decide) (pa_2 (pvd nmRule 0) (pvd nmRule 1))) set_d)
          case' f2 => refine' pe_ix ix_d ?f3 (pe_f D hr (by decide) (pa_2 (pvd nmRule 0) pe_int)) (fun _ _ => rfl)
          case f3 =>
            refine pe_lstW (vs := ([1, 1, 2, 9] : List Int).map V.int) ?_
            decide +kernel
      case s4 =>
        refine' ps_for PassesOwn.never rfl (pi_r1 B.range (pa_1 (pe_f D hr (by decide) (pa_2 (pvd nmRule 0) pe_int)))) (pgd nmRule 3) ?gb
        case gb =>
          refine' pss_one ?g1
          case' g1 => refine' ps_asg ?g2 (pg_sub (pvd nmRule 4) (pe_f D hr (by decide) (pa_2 (pvd nmRule 0) (pvd nmRule 1))) set_d)
          case' g2 => refine' pe_ix ix_d ?g3 (pe_f D hr (by decide) (pa_2 (pvd nmRule 0) pe_int)) (fun _ _ => rfl)
          case g3 =>
            refine pe_lstW (vs := ([1, 1, 2, 9] : List Int).map V.int) ?_
            decide +kernel
      case s5 =>
        refine' ps_if (pt_cmpR (op_eqD hr) (pvd nmRule 4) (pvd nmRule 2) (nomark _)) ?h1 pss_nil
        case' h1 => refine' pss_one ?h2
        case' h2 => refine' ps_asg ?h3 (pg_sub (pvd nmRule 4) pe_int set_d)
        case h3 => exact pe_op op_mod (pe_op op_add (pe_ix ix_d (pvd nmRule 4) pe_int (fun _ _ => rfl)) pe_int) pe_int
      case s6 =>
        refine' ps_ret ?j1
        case' j1 => refine' pe_tup ?j2
        case j2 => exact pa_2 (pe_cT call_tuple_of B.tuple PyProof.Rows.boot_tuple (pa_1 (pvd nmRule 2))) (pe_cT call_tuple_of B.tuple PyProof.Rows.boot_tuple (pa_1 (pvd nmRule 4)))
    case rd =>
      walk_at "v"
      refine ⟨by show 1 ≤ sizeLine; decide, fun z0 hz0 => ?_⟩
      have K1 : Same H (upd H z0 (.lst [.int 0])) := Same.new (Same.refl H) hz0
      have e1 : upd H z0 (.lst [.int 0]) z0 = some (.lst [.int 0]) := upd_same
      generalize upd H z0 (.lst [.int 0]) = H1 at K1 e1 ⊢
      walk_at "v"
      refine ⟨z0, _, _, rfl, rfl, e1, by omega, by omega, by rw [Int.toNat_natCast]; exact Nat.le_of_lt (small1000 (by simp; omega)), fun a ha => ?_⟩
      rw [Int.toNat_natCast, rep_one]
      have T1 := T0.same K1
      have npa := T1.np ha
      have nla := T1.nl ha
      have h0a : H a = none := by
        cases e : H a with
        | none => rfl
        | some o => rw [K1 _ _ e] at ha; cases ha
      have T2 := T1.new (o := .lst ((List.replicate m (0 : Int)).map V.int)) ha
      have b2 : Bp p H (upd H1 a (.lst ((List.replicate m (0 : Int)).map V.int))) := (Bp.same K1).new ha
      have c2 : Cn9 m (upd H1 a (.lst ((List.replicate m (0 : Int)).map V.int))) a := Cn9.zero upd_same
      generalize upd H1 a (.lst ((List.replicate m (0 : Int)).map V.int)) = H2 at T2 b2 c2 ⊢
      walk_at "v"
      refine ⟨p, l, ns, 2, rfl, T2, by decide, by decide, fun r c e r0 r1 => ?_⟩
      have T3 := T2.draw (c := c) (e := e)
      have b3 : Bp p H (upd H2 p (.lst [.ref l, .int c, .int e])) := b2.at
      have c3 := c2.new (o := .lst [.ref l, .int c, .int e]) (Ne.symm npa)
      generalize upd H2 p (.lst [.ref l, .int c, .int e]) = H3 at T3 b3 c3 ⊢
      walk_at "v"
      refine ⟨_, rfl, by omega, by omega, ?_⟩
      refine for_range (fun i σ H' => ∃ (u3 : Option V), σ = [some (.ref p), some (.int (m : Int)), some (.ref a), u3, none] ∧ Tp H' p l ns ∧ Bp p H H' ∧ Cn9 m H' a) ⟨none, rfl, T3, b3, c3⟩ ?_ ?_
      · rintro i σ H' hi ⟨u3, rfl, T, bb, cc⟩
        walk_at "v"
        refine ⟨by show 4 ≤ sizeLine; decide, fun z hz => ?_⟩
        have Tz := T.new (o := .lst (([1, 1, 2, 9] : List Int).map V.int)) hz
        have npz := T.np hz
        have bz : Bp p H (upd H' z (.lst (([1, 1, 2, 9] : List Int).map V.int))) := bb.new hz
        have ez : upd H' z (.lst (([1, 1, 2, 9] : List Int).map V.int)) z = some (.lst (([1, 1, 2, 9] : List Int).map V.int)) := upd_same
        have cz := cc.new (o := .lst (([1, 1, 2, 9] : List Int).map V.int)) (cc.ne hz)
        generalize upd H' z (.lst (([1, 1, 2, 9] : List Int).map V.int)) = Hz at Tz bz ez cz ⊢
        walk_at "v"
        refine ⟨p, l, ns, 4, rfl, Tz, by decide, by decide, fun r c e r0 r1 => ?_⟩
        obtain ⟨v, hv, hat⟩ := pickZ (xs := [1, 1, 2, 9]) r0 r1
        refine w_ixL (by rw [upd_ne (Ne.symm npz)]; exact ez) hat ?_
        have hv9 : 0 ≤ v ∧ v ≤ 9 := by
          simp only [List.mem_cons, List.not_mem_nil, or_false] at hv
          omega
        have Ty := Tz.draw (c := c) (e := e)
        have by' : Bp p H (upd Hz p (.lst [.ref l, .int c, .int e])) := bz.at
        have cy := cz.new (o := .lst [.ref l, .int c, .int e]) (Ne.symm npa)
        generalize upd Hz p (.lst [.ref l, .int c, .int e]) = Hy at Ty by' cy ⊢
        walk_at "v"
        refine ⟨p, l, ns, m, rfl, Ty, by omega, by omega, fun r c e r0 r1 => ?_⟩
        have Tx := Ty.draw (c := c) (e := e)
        have bx : Bp p H (upd Hy p (.lst [.ref l, .int c, .int e])) := by'.at
        have cx := cy.new (o := .lst [.ref l, .int c, .int e]) (Ne.symm npa)
        generalize upd Hy p (.lst [.ref l, .int c, .int e]) = Hx at Tx bx cx ⊢
        obtain ⟨xs, ex, hxl, hxb⟩ := cx
        walk_at "v"
        refine w_set ex (ixK r0 (by rw [List.length_map, hxl]; exact r1)) ?_
        refine ⟨_, rfl, Tx.put npa nla, bx.put h0a, Cn9.set hxl hxb hv9⟩
      · rintro σ H4 ⟨u3, rfl, T4, b4, c4⟩
        walk_at "v"
        refine ⟨by show 1 ≤ sizeLine; decide, fun z1 hz1 => ?_⟩
        have K5 : Same H4 (upd H4 z1 (.lst [.int 0])) := Same.new (Same.refl H4) hz1
        have e5 : upd H4 z1 (.lst [.int 0]) z1 = some (.lst [.int 0]) := upd_same
        have c5 := c4.new (o := .lst [.int 0]) (c4.ne hz1)
        generalize upd H4 z1 (.lst [.int 0]) = H5 at K5 e5 c5 ⊢
        walk_at "v"
        refine ⟨z1, _, _, rfl, rfl, e5, by omega, by omega, by rw [Int.toNat_natCast]; exact Nat.le_of_lt (small1000 (by simp; omega)), fun g hg => ?_⟩
        rw [Int.toNat_natCast, rep_one]
        have noa : a ≠ g := c5.ne hg
        have npo : p ≠ a := npa
        have T5 := T4.same K5
        have npg := T5.np hg
        have nlg := T5.nl hg
        have b5 : Bp p H H5 := b4.trans (Bp.same K5)
        have h0g : H g = none := b5.free npg hg
        have T6 := T5.new (o := .lst ((List.replicate m (0 : Int)).map V.int)) hg
        have b6 : Bp p H (upd H5 g (.lst ((List.replicate m (0 : Int)).map V.int))) := b5.new hg
        have c6 : Cn9 m (upd H5 g (.lst ((List.replicate m (0 : Int)).map V.int))) g := Cn9.zero upd_same
        have o6 := c5.new (o := .lst ((List.replicate m (0 : Int)).map V.int)) noa
        generalize upd H5 g (.lst ((List.replicate m (0 : Int)).map V.int)) = H6 at T6 b6 c6 o6 ⊢
        walk_at "v"
        refine ⟨p, l, ns, 4, rfl, T6, by decide, by decide, fun r c e r0 r1 => ?_⟩
        have T7 := T6.draw (c := c) (e := e)
        have b7 : Bp p H (upd H6 p (.lst [.ref l, .int c, .int e])) := b6.at
        have c7 := c6.new (o := .lst [.ref l, .int c, .int e]) (Ne.symm npg)
        have o7 := o6.new (o := .lst [.ref l, .int c, .int e]) (Ne.symm npa)
        generalize upd H6 p (.lst [.ref l, .int c, .int e]) = H7 at T7 b7 c7 o7 ⊢
        walk_at "v"
        refine ⟨_, rfl, by omega, by omega, ?_⟩
        refine for_range (fun i σ H' => ∃ (u3 : Option V), σ = [some (.ref p), some (.int (m : Int)), some (.ref a), u3, some (.ref g)] ∧ Tp H' p l ns ∧ Bp p H H' ∧ Cn9 m H' g ∧ Cn9 m H' a) ⟨_, rfl, T7, b7, c7, o7⟩ ?_ ?_
        · rintro i σ H' hi ⟨u3, rfl, T, bb, cc, oo⟩
          walk_at "v"
          refine ⟨by show 4 ≤ sizeLine; decide, fun z hz => ?_⟩
          have Tz := T.new (o := .lst (([1, 1, 2, 9] : List Int).map V.int)) hz
          have npz := T.np hz
          have bz : Bp p H (upd H' z (.lst (([1, 1, 2, 9] : List Int).map V.int))) := bb.new hz
          have ez : upd H' z (.lst (([1, 1, 2, 9] : List Int).map V.int)) z = some (.lst (([1, 1, 2, 9] : List Int).map V.int)) := upd_same
          have cz := cc.new (o := .lst (([1, 1, 2, 9] : List Int).map V.int)) (cc.ne hz)
          have oz := oo.new (o := .lst (([1, 1, 2, 9] : List Int).map V.int)) (oo.ne hz)
          generalize upd H' z (.lst (([1, 1, 2, 9] : List Int).map V.int)) = Hz at Tz bz ez cz oz ⊢
          walk_at "v"
          refine ⟨p, l, ns, 4, rfl, Tz, by decide, by decide, fun r c e r0 r1 => ?_⟩
          obtain ⟨v, hv, hat⟩ := pickZ (xs := [1, 1, 2, 9]) r0 r1
          refine w_ixL (by rw [upd_ne (Ne.symm npz)]; exact ez) hat ?_
          have hv9 : 0 ≤ v ∧ v ≤ 9 := by
            simp only [List.mem_cons, List.not_mem_nil, or_false] at hv
            omega
          have Ty := Tz.draw (c := c) (e := e)
          have by' : Bp p H (upd Hz p (.lst [.ref l, .int c, .int e])) := bz.at
          have cy := cz.new (o := .lst [.ref l, .int c, .int e]) (Ne.symm npg)
          have oy := oz.new (o := .lst [.ref l, .int c, .int e]) (Ne.symm npa)
          generalize upd Hz p (.lst [.ref l, .int c, .int e]) = Hy at Ty by' cy oy ⊢
          walk_at "v"
          refine ⟨p, l, ns, m, rfl, Ty, by omega, by omega, fun r c e r0 r1 => ?_⟩
          have Tx := Ty.draw (c := c) (e := e)
          have bx : Bp p H (upd Hy p (.lst [.ref l, .int c, .int e])) := by'.at
          have cx := cy.new (o := .lst [.ref l, .int c, .int e]) (Ne.symm npg)
          have ox := oy.new (o := .lst [.ref l, .int c, .int e]) (Ne.symm npa)
          generalize upd Hy p (.lst [.ref l, .int c, .int e]) = Hx at Tx bx cx ox ⊢
          obtain ⟨xs, ex, hxl, hxb⟩ := cx
          walk_at "v"
          refine w_set ex (ixK r0 (by rw [List.length_map, hxl]; exact r1)) ?_
          refine ⟨_, rfl, Tx.put npg nlg, bx.put h0g, Cn9.set hxl hxb hv9, ox.new noa⟩
        · rintro σ H8 ⟨u3, rfl, T8, b8, ⟨gs, eg, hgl, hgb⟩, ⟨ts, et, htl, htb⟩⟩
          have last : ∀ (gs : List Int) (H9 : Hp), gs.length = m → (∀ x ∈ gs, 0 ≤ x ∧ x ≤ 9) → H9 g = some (.lst (gs.map V.int)) → H9 a = some (.lst (ts.map V.int)) → Tp H9 p l ns → Bp p H H9 → True := fun _ _ _ _ _ _ _ _ => trivial
          with_reducible refine seq_post (fun σ' H' => ∃ (u3 : Option V) (gs : List Int), σ' = [some (.ref p), some (.int (m : Int)), some (.ref a), u3, some (.ref g)] ∧ gs.length = m ∧ (∀ x ∈ gs, 0 ≤ x ∧ x ≤ 9) ∧ H' g = some (.lst (gs.map V.int)) ∧ H' a = some (.lst (ts.map V.int)) ∧ Tp H' p l ns ∧ Bp p H H') ?_ fun rest => ?_
          · rintro σ' H9 ⟨u3, gs, rfl, hgl, hgb, eg, et, T9, b9⟩
            walk_at "v"
            refine ⟨a, _, rfl, .inl ⟨SqL.of et, fun qa hqa => ?_⟩⟩
            have KA : Same H9 (upd H9 qa (.tup (ts.map V.int))) := Same.new (Same.refl H9) hqa
            have eA : upd H9 qa (.tup (ts.map V.int)) qa = some (.tup (ts.map V.int)) := upd_same
            generalize upd H9 qa (.tup (ts.map V.int)) = HA at KA eA ⊢
            walk_at "v"
            refine ⟨g, _, rfl, .inl ⟨SqL.of (KA _ _ eg), fun qb hqb => ?_⟩⟩
            have KB : Same HA (upd HA qb (.tup (gs.map V.int))) := Same.new (Same.refl HA) hqb
            have eB : upd HA qb (.tup (gs.map V.int)) qb = some (.tup (gs.map V.int)) := upd_same
            generalize upd HA qb (.tup (gs.map V.int)) = HB at KB eB ⊢
            walk_at "v"
            refine ⟨by show 2 ≤ sizeLine; decide, fun q hq => ?_⟩
            have KC : Same HB (upd HB q (.tup [.ref qa, .ref qb])) := Same.new (Same.refl HB) hq
            have K9 := (KA.trans KB).trans KC
            exact k q _ ⟨qa, qb, ts, gs, upd_same, KC _ _ (KB _ _ eA), KC _ _ eB, htl, hgl, htb, hgb⟩ (T9.same K9) (b9.trans (Bp.same K9))
          · walk_at "v"
            refine w_eqL eg et ?_
            walk_at "v"
            refine iteD (fun _ => ?_) (fun _ => ?_)
            · have hg0 : 0 < gs.length := by omega
              have hg00 := hgb _ (List.getElem_mem hg0)
              walk_at "v"
              refine w_ixL (v := .int gs[0]) eg (show atI _ ((0 : Nat) : Int) = _ from atI_nat (by simp [hg0])) ?_
              walk_at "v"
              refine w_rI (by decide) ?_
              walk_at "v"
              have q10 := md (i := gs[0] + 1) (j := 10) (by decide)
              refine w_set eg (ixK (by decide) (by rw [List.length_map]; omega)) ?_
              obtain ⟨gs', eg', hgl', hgb'⟩ := Cn9.set (H := H8) (a := g) (j := (0 : Int).toNat) hgl hgb ⟨q10.1, by omega⟩
              exact rest _ _ ⟨_, gs', rfl, hgl', hgb', eg', by rw [upd_ne noa]; exact et, T8.put npg nlg, b8.put h0g⟩
            · exact rest _ _ ⟨_, gs, rfl, hgl, hgb, eg, et, T8, b8⟩
end
end K25

set_option Elab.async false
set_option linter.all false
set_option maxRecDepth 100000
namespace K25
open PySem L2 G2
local macro_rules | `(tactic| walk_at "v") => `(tactic| repeat (with_reducible first
  | refine w_seq ?_ | refine w_asg ?_ | refine w_gname ?_ | refine w_op ?_ | refine w_var rfl ?_ | refine w_c ?_ | refine w_rI0 ?_ | refine w_ifs ?_ | refine w_ife ?_ | refine w_test ?_ | refine w_tb ?_ | refine w_bl ?_ | refine w_not ?_ | refine w_ret ?_ | refine w_retN ?_
  | refine w_nil ?_ | refine w_cons ?_ | refine w_lst ?_ | refine w_tup ?_ | refine w_cb ?_ | refine w_call ?_ | refine w_gsub ?_ | refine w_and ?_ | refine w_or ?_ | refine w_next ?_ | refine w_all ?_ | refine w_vals ?_ | refine w_compR ?_ | refine w_compT ?_ | refine w_forR ?_ | refine w_forT ?_ | refine w_forL ?_ | refine w_drop ?_ | refine w_bm ?_ | refine w_compZ ?_ | refine w_compL ?_ | refine w_chain ?_ | refine w_sl ?_ | refine w_nopart ?_ | refine w_part ?_ | refine w_unI ?_ | refine iteT ?_ | refine iteF ?_))

abbrev sPot : Stmt := top 29
structure Blt2 (mg : Str → Option Value) : Prop extends Blt mg where
  list : mg "list" = none
  min : mg "min" = none
abbrev nPot : List Str := ["_law_tape_here", "_law_most", "_law_rules", "_law_many", "_law_names_here", "_law_some", "_law_left", "_law_inputs", "_law_k", "_law_begin"]
theorem nmPot : Nm nPot (defScope sPot) := ⟨by decide +kernel, by decide +kernel⟩
theorem scPot : FnScope nPot ["_law_tape_here", "_law_most", "_law_rules"] (defScope sPot) := ⟨rfl, rfl, rfl, by decide +kernel, rfl, by decide +kernel, by decide +kernel⟩

def asgTupC (s : Stmt) : Scope := match s with
  | .Assign _ (.Call _ [.ListComp _ _ sc _] _ _) _ => sc
  | _ => { kind := .function, names := [], isGenerator := false, isCoroutine := false }
abbrev cPotA : Scope := asgTupC ((defBody sPot).getD 2 (.Pass ⟨0, 0, 0, 0⟩))
abbrev cPotB : Scope := asgTupC ((defBody sPot).getD 6 (.Pass ⟨0, 0, 0, 0⟩))
theorem bsPotA : BScope (defScope sPot) cPotA ["_law_k"] ["_law_tape_here", "_law_many"] ["_law_rule"] := { okind := by decide +kernel, kind := by decide +kernel, nocell := by decide +kernel, names := by decide +kernel, fr := by decide +kernel, ff := by decide +kernel, nd := by decide +kernel, vis := by decide +kernel, loc := by decide +kernel, gl := by decide +kernel }
theorem bsPotB : BScope (defScope sPot) cPotB ["_law_k"] ["_law_tape_here"] ["_law_draw"] := { okind := by decide +kernel, kind := by decide +kernel, nocell := by decide +kernel, names := by decide +kernel, fr := by decide +kernel, ff := by decide +kernel, nd := by decide +kernel, vis := by decide +kernel, loc := by decide +kernel, gl := by decide +kernel }

structure SS (p l : Addr) (ns : List Int) (H0 H : Hp) : Prop where
  tp : Tp H p l ns
  bt : Bp p H0 H
section
variable {p l a : Addr} {ns : List Int} {H0 H H' : Hp} {o : HO}
theorem SS.draw (r : SS p l ns H0 H) {c e : Int} : SS p l ns H0 (upd H p (.lst [.ref l, .int c, .int e])) := ⟨r.tp.draw, r.bt.at⟩
theorem SS.new (r : SS p l ns H0 H) (h : H a = none) : SS p l ns H0 (upd H a o) := ⟨r.tp.new h, r.bt.new h⟩
theorem SS.put (r : SS p l ns H0 H) (h : H0 a = none) (h1 : p ≠ a) (h2 : l ≠ a) : SS p l ns H0 (upd H a o) := ⟨r.tp.put h1 h2, r.bt.put h⟩
theorem SS.call (r : SS p l ns H0 H) (t : Tp H' p l ns) (b : Bp p H H') : SS p l ns H0 H' := ⟨t, r.bt.trans b⟩
theorem SS.none (r : SS p l ns H0 H) (h : H a = none) : H0 a = none := r.bt.free (r.tp.np h) h
theorem SS.tk (r : SS p l ns H0 H) {c e : Int} : TK H (upd H p (.lst [.ref l, .int c, .int e])) := r.tp.tk
end
theorem RuleT.tk {m : Nat} {H H' : Hp} {r : Addr} (k : TK H H') (R : RuleT m H r) : RuleT m H' r := let ⟨a, b, ts, gs, h1, h2, h3, h4⟩ := R; ⟨a, b, ts, gs, k.t _ _ h1, k.t _ _ h2, k.t _ _ h3, h4⟩
theorem map_eraseB (k : Nat) (xs : List Int) : (xs.map V.int).eraseIdx k = (xs.eraseIdx k).map V.int := map_erase k xs
/-- a pot of the laws by tape -/
structure PotT (H : Hp) (q : Addr) (nm : List Str) (rs : List Addr) (ins beg : List Int) (ans : Int) (m : Nat) : Prop where
  ex : ∃ ps pr pin pb : Addr, H q = some (.tup [.ref ps, .ref pr, .ref pin, .ref pb, .int ans]) ∧ H ps = some (.tup (nm.map V.str)) ∧ H pr = some (.tup (rs.map V.ref)) ∧ H pin = some (.tup (ins.map V.int)) ∧ H pb = some (.tup (beg.map V.int))
  hr : ∀ r ∈ rs, RuleT m H r
  nl : nm.length = m
  np : ∀ x ∈ nm, x ∈ pool12
  r8 : rs.length ≤ 8
  m0 : 0 < m
  m8 : m ≤ 8
  hi : ∀ i ∈ ins, 0 ≤ i ∧ i < (m : Int)
  i3 : ins.length ≤ 3
  bl : beg.length = m
  hb : ∀ b ∈ beg, 0 ≤ b ∧ b ≤ 99
  ha : 0 ≤ ans ∧ ans < (m : Int)
theorem PotT.tk {H H' : Hp} {q : Addr} {nm : List Str} {rs : List Addr} {ins beg : List Int} {ans : Int} {m : Nat} (k : TK H H') (h : PotT H q nm rs ins beg ans m) : PotT H' q nm rs ins beg ans m :=
  let ⟨ps, pr, pin, pb, h1, h2, h3, h4, h5⟩ := h.ex
  ⟨⟨ps, pr, pin, pb, k.t _ _ h1, k.t _ _ h2, k.t _ _ h3, k.t _ _ h4, k.t _ _ h5⟩, fun r hr => (h.hr r hr).tk k, h.nl, h.np, h.r8, h.m0, h.m8, h.hi, h.i3, h.bl, h.hb, h.ha⟩
def spPot : Sp := fun vs H Q _ => ∃ (p l : Addr) (ns : List Int) (mo ru : Nat), vs = [.ref p, .int (mo : Int), .int (ru : Int)] ∧ Tp H p l ns ∧ 0 < mo ∧ mo ≤ 8 ∧ ru ≤ 8 ∧ ∀ (q : Addr) (nm : List Str) (rs : List Addr) (ins beg : List Int) (ans : Int) (m : Nat) (H' : Hp), PotT H' q nm rs ins beg ans m → Tp H' p l ns → Bp p H H' → Q (.ref q) H'
section
variable {P : Program} {w : World} {K : PySem.W.Frag} {mg : Str → Option Value} {base : Heap}
set_option maxHeartbeats 4000000 in
theorem ok_Pot {f : Addr} {fd : FuncData} (B : Blt2 mg) (D : Has P w K mg base 1 "_law_draw" ["_law_tape_here", "_law_many"] spDraw) (N : Has P w K mg base 2 "_law_names" ["_law_tape_here", "_law_many"] spNames) (R : Has P w K mg base 2 "_law_rule" ["_law_tape_here", "_law_many"] spRule) (F : Fun K "_law_pot" "_law_pot" sPot f fd) : FnOk P w K mg base CX0 3 f fd ["_law_tape_here", "_law_most", "_law_rules"] spPot := by
  refine F.ok scPot (fun vs H Q E h => ?_) (fun cdv A outer s H vs Q E hr h => ?_)
  · obtain ⟨p, l, ns, mo, ru, rfl, _⟩ := h
    rfl
  · obtain ⟨p, l, ns, mo, ru, rfl, T0, mo0, mo8, ru8, k⟩ := h
    refine' ⟨_, ?hb, ?rd⟩
    case hb =>
      refine' pss_cons ?s1 ?r1
      case' r1 => refine' pss_cons ?s2 ?r2
      case' r2 => refine' pss_cons ?s3 ?r3
      case' r3 => refine' pss_cons ?s4 ?r4
      case' r4 => refine' pss_cons ?s5 ?r5
      case' r5 => refine' pss_cons ?s6 ?r6
      case' r6 => refine' pss_cons ?s7 ?r7
      case' r7 => refine' pss_one ?s8
      case s1 => exact ps_setD nmPot 3 (pe_op op_add pe_int (pe_f D hr (by decide) (pa_2 (pvd nmPot 0) (pvd nmPot 1))))
      case s2 => exact ps_setD nmPot 4 (pe_f N hr (by decide) (pa_2 (pvd nmPot 0) (pvd nmPot 3)))
      case s3 =>
        refine' ps_setD nmPot 5 ?p3
        case' p3 => refine' pe_cT call_tuple_of B.tuple PyProof.Rows.boot_tuple ?qc3
        case' qc3 => refine' pa_1 ?c3
        case c3 =>
          refine' pe_comp (ix := [0, 3]) bsPotA.toCScope rfl rfl ?h3 ?h4 ?h5 ?h6
          case' h3 => refine' pi_r1 B.range ?pa3
          case' pa3 => refine' pa_1 ?i3
          case' i3 => refine' pe_f D hr (by decide) ?i4
          case i4 => exact pa_2 (pvd nmPot 0) (pe_op op_add (pvd nmPot 2) pe_int)
          case h4 => exact fun _ _ _ _ _ _ => pgb bsPotA 0
          case h5 => exact fun _ _ _ _ _ _ => pts_nil
          case h6 => exact fun _ _ _ _ _ _ => pe_f R hr (by decide) (pa_2 (pvb bsPotA 1) (pvb bsPotA 2)) (bsPotA.g 0)
      case s4 =>
        refine' ps_setD nmPot 6 ?p4
        case' p4 => refine' pe_cT (call_listRng rfl) B.list PyProof.Rows.boot_list ?q4
        case' q4 => refine' pa_1 ?u4
        case u4 => exact pe_cT call_rangeV B.range PyProof.Rows.boot_range (pa_1 (pvd nmPot 3))
      case s5 => exact ps_setD nmPot 7 (pe_lst pa_nil)
      case s6 =>
        refine' ps_for PassesOwn.never rfl ?i6 (pgd nmPot 8) ?b6
        case' i6 => refine' pi_r1 B.range ?pa6
        case' pa6 => refine' pa_1 ?j6
        case' j6 => refine' pe_cB (call_min2 rfl) B.min PyProof.Rows.boot_min ?q6
        case q6 => exact pa_2 (pe_f D hr (by decide) (pa_2 (pvd nmPot 0) pe_int)) (pvd nmPot 3)
        case b6 =>
          refine' pss_one ?b6a
          case' b6a => refine' ps_expr ?b6b
          case' b6b => refine' pe_bm PySem.F.plainAttrs_list PySem.F.slot_list_append PySem.F.type_list_append mt_append (pvd nmPot 7) ?b6c
          case' b6c => refine' pa_1 ?b6d
          case' b6d => refine' pe_bm PySem.F.plainAttrs_list PySem.F.slot_list_pop PySem.F.type_list_pop mt_popAt (pvd nmPot 6) ?b6e
          case' b6e => refine' pa_1 ?b6f
          case' b6f => refine' pe_f D hr (by decide) ?b6g
          case' b6g => refine' pa_2 (pvd nmPot 0) ?b6h
          case b6h => exact pe_cB call_len_seq B.len PySem.boot_len (pa_1 (pvd nmPot 6))
      case s7 =>
        refine' ps_setD nmPot 9 ?p7
        case' p7 => refine' pe_cT call_tuple_of B.tuple PyProof.Rows.boot_tuple ?qc7
        case' qc7 => refine' pa_1 ?c7
        case c7 =>
          refine' pe_comp (ix := [0]) bsPotB.toCScope rfl rfl (pi_r1 B.range (pa_1 (pvd nmPot 3))) ?k4 ?k5 ?k6
          case k4 => exact fun _ _ _ _ _ _ => pgb bsPotB 0
          case k5 => exact fun _ _ _ _ _ _ => pts_nil
          case k6 =>
            intro _ _ _ _ _ _
            refine' pe_ix ix_d ?e7 ?g7 (fun _ _ => rfl)
            case g7 => exact pe_f D hr (by decide) (pa_2 (pvb bsPotB 1) pe_int) (bsPotB.g 0)
            case e7 =>
              refine pe_lstW (vs := ([0, 0, 1, 2, 99] : List Int).map V.int) ?_
              decide +kernel
      case s8 =>
        refine' ps_ret ?z1
        case' z1 => refine' pe_tup ?z2
        case' z2 => refine' pa_c (pvd nmPot 4) ?z3
        case' z3 => refine' pa_c (pvd nmPot 5) ?z4
        case' z4 => refine' pa_c (pe_cT call_tuple_of B.tuple PyProof.Rows.boot_tuple (pa_1 (pvd nmPot 7))) ?z5
        case z5 => exact pa_2 (pvd nmPot 9) (pe_f D hr (by decide) (pa_2 (pvd nmPot 0) (pvd nmPot 3)))
    case rd =>
      walk_at "v"
      refine ⟨p, l, ns, mo, rfl, T0, by omega, by omega, fun r c e r0 r1 => ?_⟩
      have S1 : SS p l ns H (upd H p (.lst [.ref l, .int c, .int e])) := ⟨T0.draw, Bp.refl.at⟩
      generalize upd H p (.lst [.ref l, .int c, .int e]) = H1 at S1 ⊢
      obtain ⟨r', rfl⟩ := ofI r0
      obtain ⟨m, hm⟩ : ∃ m : Nat, (1 + (r' : Int)) = (m : Int) := ⟨1 + r', by omega⟩
      have m0 : 0 < m := by omega
      have m8 : m ≤ 8 := by omega
      walk_at "v"
      rw [hm]
      refine ⟨p, l, ns, m, rfl, S1.tp, m8, fun ps nm H2 hnl hnm e2 T2 b2 => ?_⟩
      have S2 := S1.call T2 b2
      walk_at "v"
      refine ⟨p, l, ns, _, rfl, T2, by omega, by omega, fun r c e r0 r1 => ?_⟩
      have S3 := S2.draw (c := c) (e := e)
      have e3 := (S2.tk (c := c) (e := e)).t _ _ e2
      generalize upd H2 p (.lst [.ref l, .int c, .int e]) = H3 at S3 e3 ⊢
      obtain ⟨rn, rfl⟩ := ofI r0
      have rn8 : rn ≤ 8 := by omega
      refine ⟨_, rfl, by omega, by omega, fun d hd => ?_⟩
      rw [Int.toNat_natCast]
      have npd := S3.tp.np hd
      have nld := S3.tp.nl hd
      have h0d := S3.none hd
      refine G2.rng_gen (ρ := [some (.ref p), some (.int (m : Int))]) (fun H' => SS p l ns H H' ∧ TK H3 H') (fun y H' => ∃ r, y = V.ref r ∧ RuleT m H' r) (by omega) ⟨S3.new hd, TK.new hd⟩ (fun H' ys zs ⟨a1, a2⟩ hD => ⟨a1.put h0d npd nld, a2.trans (TK.lst hD)⟩) (fun y H' ys zs ⟨r, hy, hr⟩ _ hD => ⟨r, hy, hr.tk (TK.lst hD)⟩) (fun i' H' ys hi' ⟨a1, a2⟩ hD R' kR => ?_) (fun ys H4 hyl hys ⟨S4, TK4⟩ hD => ?_)
      · walk_at "v"
        refine ⟨p, l, ns, m, rfl, a1.tp, m0, m8, fun q H'' hq t' b' => ?_⟩
        have tk' := Tp.tkb a1.tp b'
        exact kR _ H'' ⟨q, rfl, hq⟩ ⟨a1.call t' b', a2.trans tk'⟩ (b' _ _ (Ne.symm npd) hD) fun z ⟨r, hz, hr⟩ => ⟨r, hz, hr.tk tk'⟩
      obtain ⟨rs, rfl, hrs⟩ : ∃ rs : List Addr, ys = rs.map V.ref ∧ ∀ r ∈ rs, RuleT m H4 r := by
        clear hyl hD
        induction ys with
        | nil => exact ⟨[], rfl, fun r h => by cases h⟩
        | cons y ys ih =>
          obtain ⟨r, rfl, hr'⟩ := hys y List.mem_cons_self
          obtain ⟨rs, rfl, h⟩ := ih fun z hz => hys z (List.mem_cons_of_mem _ hz)
          exact ⟨r :: rs, rfl, fun x hx => by
            rcases List.mem_cons.mp hx with rfl | hx
            · exact hr'
            · exact h x hx⟩
      rw [List.length_map] at hyl
      have e4 := TK4.t _ _ e3
      walk_at "v"
      refine ⟨d, _, rfl, .inl ⟨SqL.of hD, fun pr hpr => ?_⟩⟩
      have S8 := S4.new (o := .tup (rs.map V.ref)) hpr
      have T8 : TK H4 (upd H4 pr (.tup (rs.map V.ref))) := TK.new hpr
      have ep8 := T8.t _ _ e4
      have hrs8 : ∀ r ∈ rs, RuleT m (upd H4 pr (.tup (rs.map V.ref))) r := fun r h => (hrs r h).tk T8
      have er8 : upd H4 pr (.tup (rs.map V.ref)) pr = some (.tup (rs.map V.ref)) := upd_same
      generalize upd H4 pr (.tup (rs.map V.ref)) = H8 at S8 ep8 er8 hrs8 ⊢
      clear T8 hD hrs hpr hys
      walk_at "v"
      refine ⟨m, rfl, fun rg hrg => ?_⟩
      have S9 := S8.new (o := .rng 0 m) hrg
      have T9 : TK H8 (upd H8 rg (.rng 0 m)) := TK.new hrg
      have erg : upd H8 rg (.rng 0 m) rg = some (.rng 0 m) := upd_same
      generalize upd H8 rg (.rng 0 m) = H9 at S9 T9 erg ⊢
      walk_at "v"
      refine ⟨rg, m, rfl, erg, by omega, fun pl hpl => ?_⟩
      have S10 := S9.new (o := .lst ((List.range m).map fun (i : Nat) => V.int (i : Int))) hpl
      have T10 := T9.trans (TK.new (o := .lst ((List.range m).map fun (i : Nat) => V.int (i : Int))) hpl)
      have n0l := S9.none hpl
      have ppl := S9.tp.np hpl
      have lpl := S9.tp.nl hpl
      have el : upd H9 pl (.lst ((List.range m).map fun (i : Nat) => V.int (i : Int))) pl = some (.lst (((List.range m).map fun (i : Nat) => (i : Int)).map V.int)) := by rw [upd_same, List.map_map]; rfl
      generalize upd H9 pl (.lst ((List.range m).map fun (i : Nat) => V.int (i : Int))) = H10 at S10 T10 el ⊢
      clear S9 T9 erg hpl hrg
      walk_at "v"
      refine ⟨Nat.zero_le _, fun pi hpi => ?_⟩
      have S11 := S10.new (o := .lst []) hpi
      have T11 := T10.trans (TK.new (o := .lst []) hpi)
      have n0i := S10.none hpi
      have ppi := S10.tp.np hpi
      have lpi := S10.tp.nl hpi
      have nli : pl ≠ pi := ne_of_none el hpi
      have el11 : upd H10 pi (.lst []) pl = some (.lst (((List.range m).map fun (i : Nat) => (i : Int)).map V.int)) := by rw [upd_ne nli]; exact el
      have ei11 : upd H10 pi (.lst []) pi = some (.lst (([] : List Int).map V.int)) := upd_same
      generalize upd H10 pi (.lst []) = H11 at S11 T11 el11 ei11 ⊢
      clear S10 T10 el hpi
      walk_at "v"
      refine ⟨p, l, ns, 4, rfl, S11.tp, by decide, by decide, fun r c e r0 r1 => ?_⟩
      have S13 := S11.draw (c := c) (e := e)
      have T13 := T11.trans (S11.tk (c := c) (e := e))
      have el13 : upd H11 p (.lst [.ref l, .int c, .int e]) pl = some (.lst (((List.range m).map fun (i : Nat) => (i : Int)).map V.int)) := by rw [upd_ne (Ne.symm ppl)]; exact el11
      have ei13 : upd H11 p (.lst [.ref l, .int c, .int e]) pi = some (.lst (([] : List Int).map V.int)) := by rw [upd_ne (Ne.symm ppi)]; exact ei11
      generalize upd H11 p (.lst [.ref l, .int c, .int e]) = H13 at S13 T13 el13 ei13 ⊢
      clear S11 T11 el11 ei11
      obtain ⟨c4, rfl⟩ := ofI r0
      walk_at "v"
      refine ⟨_, _, rfl, ?_⟩
      obtain ⟨cn, hcn, cn3, cnm⟩ : ∃ cn : Nat, (if (m : Int) < (c4 : Int) then (m : Int) else (c4 : Int)) = (cn : Int) ∧ cn ≤ 3 ∧ cn ≤ m := by
        by_cases h : (m : Int) < (c4 : Int)
        · exact ⟨m, by rw [if_pos h], by omega, by omega⟩
        · exact ⟨c4, by rw [if_neg h], by omega, by omega⟩
      rw [hcn]
      walk_at "v"
      refine ⟨_, rfl, by omega, by omega, ?_⟩
      rw [Int.toNat_natCast]
      refine for_range (fun i σ H' => ∃ (u : Option V) (lf is : List Int), σ = [some (.ref p), some (.int (mo : Int)), some (.int (ru : Int)), some (.int (m : Int)), some (.ref ps), some (.ref pr), some (.ref pl), some (.ref pi), u, none] ∧ H' pl = some (.lst (lf.map V.int)) ∧ H' pi = some (.lst (is.map V.int)) ∧ lf.length + i = m ∧ is.length = i ∧ (∀ j ∈ lf, 0 ≤ j ∧ j < (m : Int)) ∧ (∀ j ∈ is, 0 ≤ j ∧ j < (m : Int)) ∧ SS p l ns H H' ∧ TK H8 H')
        ⟨none, _, [], rfl, el13, ei13, by simp, rfl, fun j hj => by
          obtain ⟨q, hq, rfl⟩ := List.mem_map.mp hj
          have := List.mem_range.mp hq
          omega, (fun j hj => by cases hj), S13, T13⟩ ?_ ?_
      · rintro i σ H' hi ⟨u, lf, is, rfl, el, ei, hlen1, hlen2, hlf, his, S, T⟩
        walk_at "v"
        refine ⟨.inl ⟨rfl, _, SqL.of ei⟩, ?_⟩
        walk_at "v"
        refine ⟨.inl ⟨rfl, _, SqL.of el⟩, ?_⟩
        walk_at "v"
        refine ⟨pl, _, rfl, .inl (SqL.of el), ?_⟩
        rw [List.length_map]
        refine ⟨p, l, ns, lf.length, rfl, S.tp, by omega, by omega, fun r c e r0 r1 => ?_⟩
        have S' := S.draw (c := c) (e := e)
        have T' := T.trans (S.tk (c := c) (e := e))
        have el' : upd H' p (.lst [.ref l, .int c, .int e]) pl = some (.lst (lf.map V.int)) := by rw [upd_ne (Ne.symm ppl)]; exact el
        have ei' : upd H' p (.lst [.ref l, .int c, .int e]) pi = some (.lst (is.map V.int)) := by rw [upd_ne (Ne.symm ppi)]; exact ei
        generalize upd H' p (.lst [.ref l, .int c, .int e]) = H2 at S' T' el' ei' ⊢
        obtain ⟨j, rfl⟩ := ofI r0
        have hj : j < lf.length := by omega
        have hix : ixN (lf.map V.int).length (j : Int) = some j := by
          rw [List.length_map]
          unfold ixN
          rw [if_pos r0, if_pos r1]
          rfl
        walk_at "v"
        refine ⟨pl, _, _, j, .int lf[j], rfl, rfl, el', by omega, by omega, (ixN_seq hix).1, by simp [hj], ?_⟩
        have S'' := S'.put (o := .lst ((lf.map V.int).eraseIdx j)) n0l ppl lpl
        have T'' := T'.trans (TK.lst (o := .lst ((lf.map V.int).eraseIdx j)) el')
        have el'' : upd H2 pl (.lst ((lf.map V.int).eraseIdx j)) pl = some (.lst ((lf.eraseIdx j).map V.int)) := by rw [upd_same, map_eraseB]
        have ei'' : upd H2 pl (.lst ((lf.map V.int).eraseIdx j)) pi = some (.lst (is.map V.int)) := by rw [upd_ne (Ne.symm nli)]; exact ei'
        generalize upd H2 pl (.lst ((lf.map V.int).eraseIdx j)) = H3' at S'' T'' el'' ei'' ⊢
        walk_at "v"
        refine ⟨pi, _, _, rfl, rfl, ei'', by rw [List.length_map]; exact small1000 (by omega), ?_⟩
        refine ⟨_, lf.eraseIdx j, is ++ [lf[j]], rfl, by rw [upd_ne nli]; exact el'', by rw [upd_same, List.map_append]; rfl, ?_, by simp [hlen2], ?_, ?_, S''.put n0i ppi lpi, T''.trans (TK.lst ei'')⟩
        · rw [List.length_eraseIdx_of_lt hj]
          omega
        · exact fun q hq => hlf q (List.mem_of_mem_eraseIdx hq)
        · intro q hq
          rcases List.mem_append.mp hq with old | new
          · exact his q old
          · rw [List.mem_singleton.mp new]
            exact hlf _ (List.getElem_mem hj)
      · rintro σ H14 ⟨u, lf, is, rfl, el, ei, hlen1, hlen2, hlf, his, S14, T14⟩
        have hi3 : is.length ≤ 3 := by omega
        walk_at "v"
        refine ⟨_, rfl, by omega, by omega, fun db hdb => ?_⟩
        rw [Int.toNat_natCast]
        have pdb := S14.tp.np hdb
        have ldb := S14.tp.nl hdb
        have n0b := S14.none hdb
        have nib : pi ≠ db := ne_of_none ei hdb
        refine cgo_range (ρ := [some (.ref p)]) (fun i ys H' => ∃ bs : List Int, ys = bs.map V.int ∧ bs.length = i ∧ (∀ b ∈ bs, 0 ≤ b ∧ b ≤ 99) ∧ SS p l ns H H' ∧ TK H8 H' ∧ H' pi = some (.lst (is.map V.int)))
          ⟨[], rfl, rfl, (fun b hb => by cases hb), S14.new hdb, T14.trans (TK.new hdb), by rw [upd_ne nib]; exact ei⟩ ?_ ?_
        · rintro i ys H' hi ⟨bs, rfl, hbl, hbs, S, T, ei'⟩ hD R' S' kR _
          walk_at "v"
          refine ⟨by show 5 ≤ sizeLine; decide, fun z hz => ?_⟩
          have Sz := S.new (o := .lst (([0, 0, 1, 2, 99] : List Int).map V.int)) hz
          have Tz := T.trans (TK.new (o := .lst (([0, 0, 1, 2, 99] : List Int).map V.int)) hz)
          have npz := S.tp.np hz
          have ez : upd H' z (.lst (([0, 0, 1, 2, 99] : List Int).map V.int)) z = some (.lst (([0, 0, 1, 2, 99] : List Int).map V.int)) := upd_same
          have dz : upd H' z (.lst (([0, 0, 1, 2, 99] : List Int).map V.int)) db = some (.lst (bs.map V.int)) := by rw [upd_ne (ne_of_none hD hz)]; exact hD
          have iz : upd H' z (.lst (([0, 0, 1, 2, 99] : List Int).map V.int)) pi = some (.lst (is.map V.int)) := by rw [upd_ne (ne_of_none ei' hz)]; exact ei'
          generalize upd H' z (.lst (([0, 0, 1, 2, 99] : List Int).map V.int)) = Hz at Sz Tz ez dz iz ⊢
          walk_at "v"
          refine ⟨p, l, ns, 5, rfl, Sz.tp, by decide, by decide, fun r c e r0 r1 => ?_⟩
          obtain ⟨v, hv, hat⟩ := pickZ (xs := [0, 0, 1, 2, 99]) r0 r1
          refine w_ixL (by rw [upd_ne (Ne.symm npz)]; exact ez) hat ?_
          have hD' : upd Hz p (.lst [.ref l, .int c, .int e]) db = some (.lst (bs.map V.int)) := by rw [upd_ne (Ne.symm pdb)]; exact dz
          have hI' : upd Hz p (.lst [.ref l, .int c, .int e]) pi = some (.lst (is.map V.int)) := by rw [upd_ne (Ne.symm ppi)]; exact iz
          refine kR _ _ hD' (by rw [List.length_map]; exact small1000 (by omega)) ⟨bs ++ [v], by rw [List.map_append]; rfl, by simp [hbl], fun b hb => ?_, (Sz.draw).put n0b pdb ldb, (Tz.trans Sz.tk).trans (TK.lst hD'), by rw [upd_ne nib]; exact hI'⟩
          rcases List.mem_append.mp hb with old | new
          · exact hbs b old
          · rw [List.mem_singleton.mp new]
            simp only [List.mem_cons, List.not_mem_nil, or_false] at hv
            omega
        · rintro ys H15 ⟨bs, rfl, hbl, hbs, S15, T15, ei15⟩ hD
          walk_at "v"
          refine ⟨db, _, rfl, .inl ⟨SqL.of hD, fun pb hpb => ?_⟩⟩
          have S16 := S15.new (o := .tup (bs.map V.int)) hpb
          have T16 := T15.trans (TK.new (o := .tup (bs.map V.int)) hpb)
          have eb : upd H15 pb (.tup (bs.map V.int)) pb = some (.tup (bs.map V.int)) := upd_same
          have ei16 : upd H15 pb (.tup (bs.map V.int)) pi = some (.lst (is.map V.int)) := by rw [upd_ne (ne_of_none ei15 hpb)]; exact ei15
          generalize upd H15 pb (.tup (bs.map V.int)) = H16 at S16 T16 eb ei16 ⊢
          walk_at "v"
          refine ⟨pi, _, rfl, .inl ⟨SqL.of ei16, fun pin hpin => ?_⟩⟩
          have S17 := S16.new (o := .tup (is.map V.int)) hpin
          have T67 : TK H16 (upd H16 pin (.tup (is.map V.int))) := TK.new hpin
          have T17 := T16.trans T67
          have en : upd H16 pin (.tup (is.map V.int)) pin = some (.tup (is.map V.int)) := upd_same
          have eb17 := T67.t _ _ eb
          generalize upd H16 pin (.tup (is.map V.int)) = H17 at S17 T17 en eb17 ⊢
          walk_at "v"
          refine ⟨p, l, ns, m, rfl, S17.tp, by omega, by omega, fun ans c e a0 a1 => ?_⟩
          have S18 := S17.draw (c := c) (e := e)
          have T78 := S17.tk (c := c) (e := e)
          generalize upd H17 p (.lst [.ref l, .int c, .int e]) = H18 at S18 T78 ⊢
          walk_at "v"
          refine ⟨by show 5 ≤ sizeLine; decide, fun q hq => ?_⟩
          have T89 : TK H18 (upd H18 q (.tup [.ref ps, .ref pr, .ref pin, .ref pb, .int ans])) := TK.new hq
          have T19 := (T17.trans T78).trans T89
          have S19 := S18.new (o := .tup [.ref ps, .ref pr, .ref pin, .ref pb, .int ans]) hq
          exact k q nm rs is bs ans m _ ⟨⟨ps, pr, pin, pb, upd_same, T19.t _ _ ep8, T19.t _ _ er8, (T78.trans T89).t _ _ en, (T78.trans T89).t _ _ eb17⟩, fun r hr' => (hrs8 r hr').tk T19, hnl, hnm, by omega, m0, m8, his, hi3, hbl, hbs, a0, a1⟩ S19.tp S19.bt
end
end K25

set_option Elab.async false
set_option linter.all false
set_option maxRecDepth 100000
namespace K25
open PySem L2 G2
local macro_rules | `(tactic| walk_at "v") => `(tactic| repeat (with_reducible first
  | refine w_seq ?_ | refine w_asg ?_ | refine w_gname ?_ | refine w_op ?_ | refine w_var rfl ?_ | refine w_c ?_ | refine w_rI0 ?_ | refine w_ifs ?_ | refine w_ife ?_ | refine w_test ?_ | refine w_tb ?_ | refine w_bl ?_ | refine w_not ?_ | refine w_ret ?_ | refine w_retN ?_
  | refine w_nil ?_ | refine w_cons ?_ | refine w_lst ?_ | refine w_tup ?_ | refine w_cb ?_ | refine w_call ?_ | refine w_gsub ?_ | refine w_and ?_ | refine w_or ?_ | refine w_next ?_ | refine w_all ?_ | refine w_vals ?_ | refine w_compR ?_ | refine w_compT ?_ | refine w_forR ?_ | refine w_forT ?_ | refine w_forL ?_ | refine w_drop ?_ | refine w_bm ?_ | refine w_compZ ?_ | refine w_compL ?_ | refine w_chain ?_ | refine w_sl ?_ | refine w_nopart ?_ | refine w_part ?_ | refine w_unI ?_ | refine iteT ?_ | refine iteF ?_))

abbrev sNum : Stmt := top 7
abbrev sDrp : Stmt := top 8
abbrev sNgt : Stmt := top 9
abbrev sOne : Stmt := top 10
abbrev sAdded : Stmt := top 11
abbrev sOften : Stmt := top 12
abbrev sLess : Stmt := top 13
abbrev sMore : Stmt := top 14
abbrev sBoth : Stmt := top 20
abbrev sLinF : Stmt := top 21
def Kn (mg : Str → Option Value) (x : Str) (i : Int) : Prop := ∃ t, mg x = some (Value.int i t)
theorem pe_k {X : Cx} {x : Str} {i : Int} {pos : Pos} (h : Kn X.mg x i) (hg : Gl X x := by rfl) (hd : (x == ("__debug__" : Str)) = false := by decide) : PE X (.Name x pos) (tC (.int i)) := by
  obtain ⟨t, e⟩ := h
  exact pe_glob hg e ⟨t, rfl⟩ hd

structure Blt3 (mg : Str → Option Value) : Prop extends Blt2 mg where
  int : mg "int" = none
  zip : mg "zip" = none
  sum : mg "sum" = none
  max : mg "max" = none
  soK : Kn mg "SORTS" 0
  inK : Kn mg "INPUTS" 2
  anK : Kn mg "ANSWER" 4
  biK : Kn mg "BY_INPUTS" 0
  bsK : Kn mg "BY_SORTS" 1
  plK : Kn mg "PLUS" 2
  byK : Kn mg "BY" 0
  lpK : Kn mg "LINE_PLUS" 1
/-- the comprehension that a call that is returned is handed -/
def retCallComp (s : Stmt) : Scope := match s with
  | .Return (some (.Call _ [.ListComp _ _ sc _] _ _)) _ => sc
  | _ => { kind := .function, names := [], isGenerator := false, isCoroutine := false }
/-- the comprehension of the i-th item of a returned tuple -/
def tupComp (s : Stmt) (i : Nat) : Scope := match s with
  | .Return (some (.Tuple es _ _)) _ => match es.getD i (.Name "" ⟨0, 0, 0, 0⟩) with
    | .Call _ [.ListComp _ _ sc _] _ _ => sc
    | _ => { kind := .function, names := [], isGenerator := false, isCoroutine := false }
  | _ => { kind := .function, names := [], isGenerator := false, isCoroutine := false }
section
variable {P : Program} {w : World} {K : PySem.W.Frag} {mg : Str → Option Value} {base : Heap}
abbrev nAdded : List Str := ["one", "other"]
theorem nmAdded : Nm nAdded (defScope sAdded) := ⟨by decide +kernel, by decide +kernel⟩
theorem scAdded : FnScope nAdded ["one", "other"] (defScope sAdded) := ⟨rfl, rfl, rfl, by decide +kernel, rfl, by decide +kernel, by decide +kernel⟩

abbrev cAdded (i : Nat) : Scope := tupComp ((defBody sAdded).getD 0 (.Pass ⟨0, 0, 0, 0⟩)) i
theorem bsAdded0 : BScope (defScope sAdded) (cAdded 0) ["a", "b"] [] [] := { okind := by decide +kernel, kind := by decide +kernel, nocell := by decide +kernel, names := by decide +kernel, fr := by decide +kernel, ff := by decide +kernel, nd := by decide +kernel, vis := by decide +kernel, loc := by decide +kernel, gl := by decide +kernel }
theorem bsAdded1 : BScope (defScope sAdded) (cAdded 1) ["a", "b"] [] [] := { okind := by decide +kernel, kind := by decide +kernel, nocell := by decide +kernel, names := by decide +kernel, fr := by decide +kernel, ff := by decide +kernel, nd := by decide +kernel, vis := by decide +kernel, loc := by decide +kernel, gl := by decide +kernel }

def spAdded : Sp := fun vs H Q _ => ∃ (p q : Addr) (f g : Fm), vs = [.ref p, .ref q] ∧ FmAt H p f ∧ FmAt H q g ∧ f.ins.length = g.ins.length ∧ f.sts.length = g.sts.length ∧ f.ins.length ≤ 1000 ∧ f.sts.length ≤ 1000 ∧ ∀ r H', Same H H' → FmAt H' r (addF f g) → Q (.ref r) H'
set_option maxHeartbeats 4000000 in
theorem ok_Added {f : Addr} {fd : FuncData} (B : Blt3 mg) (F : Fun K "added" "added" sAdded f fd) : FnOk P w K mg base CX0 1 f fd ["one", "other"] spAdded := by
  refine F.ok scAdded (fun vs H Q E h => ?_) (fun cdv A outer s H vs Q E hr h => ?_)
  · obtain ⟨p, q, f, g, rfl, _⟩ := h
    rfl
  · obtain ⟨p, q, fm, gm, rfl, ⟨a, b, h1, h2, h3⟩, ⟨a', b', h1', h2', h3'⟩, hl1, hl2, hn1, hn2, k⟩ := h
    refine' ⟨_, ?hb, ?rd⟩
    case hb =>
      refine' pss_one ?s1
      case' s1 => refine' ps_ret ?p1
      case' p1 => refine' pe_tup ?q1
      case' q1 => refine' pa_c ?x1 ?y1
      case' y1 => refine' pa_2 ?x2 ?x3
      case x3 => exact pe_op op_add (pe_ix ix_d (pvd nmAdded 0) (pe_k B.plK) (fun _ _ => rfl)) (pe_ix ix_d (pvd nmAdded 1) (pe_k B.plK) (fun _ _ => rfl))
      case' x1 => refine' pe_cT call_tuple_of B.tuple PyProof.Rows.boot_tuple ?x1a
      case' x1a => refine' pa_1 ?x1b
      case x1b =>
        refine' pe_comp (ix := []) bsAdded0.toCScope rfl rfl ?h3 ?h4 ?h5 ?h6
        case h3 =>
          refine' pi_zp B.zip ?h3a
          case h3a => exact pa_2 (pe_ix ix_d (pvd nmAdded 0) (pe_k B.biK) (fun _ _ => rfl)) (pe_ix ix_d (pvd nmAdded 1) (pe_k B.biK) (fun _ _ => rfl))
        case h4 =>
          intro _ _ _ _ _ _
          refine' pgb_tup (n := 2) rfl ?za1
          case' za1 => refine' pgs_cons ?za2 ?za3
          case za2 => exact pgb bsAdded0 0
          case' za3 => refine' pgs_cons ?za4 pgs_nil
          case za4 => exact pgb bsAdded0 1
        case h5 => exact fun _ _ _ _ _ _ => pts_nil
        case h6 => exact fun _ _ _ _ _ _ => pe_op op_add (pvb bsAdded0 0) (pvb bsAdded0 1)
      case' x2 => refine' pe_cT call_tuple_of B.tuple PyProof.Rows.boot_tuple ?x2a
      case' x2a => refine' pa_1 ?x2b
      case x2b =>
        refine' pe_comp (ix := []) bsAdded1.toCScope rfl rfl ?i3 ?i4 ?i5 ?i6
        case i3 =>
          refine' pi_zp B.zip ?i3a
          case i3a => exact pa_2 (pe_ix ix_d (pvd nmAdded 0) (pe_k B.bsK) (fun _ _ => rfl)) (pe_ix ix_d (pvd nmAdded 1) (pe_k B.bsK) (fun _ _ => rfl))
        case i4 =>
          intro _ _ _ _ _ _
          refine' pgb_tup (n := 2) rfl ?zb1
          case' zb1 => refine' pgs_cons ?zb2 ?zb3
          case zb2 => exact pgb bsAdded1 0
          case' zb3 => refine' pgs_cons ?zb4 pgs_nil
          case zb4 => exact pgb bsAdded1 1
        case i5 => exact fun _ _ _ _ _ _ => pts_nil
        case i6 => exact fun _ _ _ _ _ _ => pe_op op_add (pvb bsAdded1 0) (pvb bsAdded1 1)
    case rd =>
      walk_at "v"
      refine w_ixT h1 rfl ?_
      walk_at "v"
      refine w_ixT h1' rfl ?_
      walk_at "v"
      refine ⟨a, a', rfl, ⟨_, SqT.of h2⟩, ⟨_, SqT.of h2'⟩, fun D hD => ?_⟩
      refine zip_map (ρ := []) (fun x y => x + y) h2 h2' hl1 hn1 (fun i x y H' _ _ _ R kR => ?_) (fun H1 K1 hD1 => ?_) hD
      · walk_at "v"
        exact kR _ (Same.refl _)
      walk_at "v"
      refine ⟨D, _, rfl, .inl ⟨SqL.of hD1, fun t1 ht1 => ?_⟩⟩
      have K2 := K1.new (o := .tup ((List.zipWith (fun x y => x + y) fm.ins gm.ins).map V.int)) ht1
      have e2 : upd H1 t1 (.tup ((List.zipWith (fun x y => x + y) fm.ins gm.ins).map V.int)) t1 = some (.tup ((List.zipWith (fun x y => x + y) fm.ins gm.ins).map V.int)) := upd_same
      generalize upd H1 t1 (.tup ((List.zipWith (fun x y => x + y) fm.ins gm.ins).map V.int)) = H2 at K2 e2 ⊢
      walk_at "v"
      refine w_ixT (K2 _ _ h1) rfl ?_
      walk_at "v"
      refine w_ixT (K2 _ _ h1') rfl ?_
      walk_at "v"
      refine ⟨b, b', rfl, ⟨_, SqT.of (K2 _ _ h3)⟩, ⟨_, SqT.of (K2 _ _ h3')⟩, fun D2 hD2 => ?_⟩
      refine zip_map (ρ := []) (fun x y => x + y) (K2 _ _ h3) (K2 _ _ h3') hl2 hn2 (fun i x y H' _ _ _ R kR => ?_) (fun H3 K3 hD3 => ?_) hD2
      · walk_at "v"
        exact kR _ (Same.refl _)
      walk_at "v"
      refine ⟨D2, _, rfl, .inl ⟨SqL.of hD3, fun t2 ht2 => ?_⟩⟩
      have K4 := K3.new (o := .tup ((List.zipWith (fun x y => x + y) fm.sts gm.sts).map V.int)) ht2
      have e4 : upd H3 t2 (.tup ((List.zipWith (fun x y => x + y) fm.sts gm.sts).map V.int)) t2 = some (.tup ((List.zipWith (fun x y => x + y) fm.sts gm.sts).map V.int)) := upd_same
      generalize upd H3 t2 (.tup ((List.zipWith (fun x y => x + y) fm.sts gm.sts).map V.int)) = H4 at K4 e4 ⊢
      have KA := K2.trans K4
      walk_at "v"
      refine w_ixT (KA _ _ h1) rfl ?_
      walk_at "v"
      refine w_ixT (KA _ _ h1') rfl ?_
      walk_at "v"
      refine ⟨by show 3 ≤ sizeLine; decide, fun r hr => ?_⟩
      refine k r _ (KA.new hr) ⟨t1, t2, upd_same, ?_, ?_⟩
      · rw [upd_ne (ne_of_none (K4 _ _ e2) hr)]
        exact K4 _ _ e2
      · rw [upd_ne (ne_of_none e4 hr)]
        exact e4
abbrev nOften : List Str := ["form", "times"]
theorem nmOften : Nm nOften (defScope sOften) := ⟨by decide +kernel, by decide +kernel⟩
theorem scOften : FnScope nOften ["form", "times"] (defScope sOften) := ⟨rfl, rfl, rfl, by decide +kernel, rfl, by decide +kernel, by decide +kernel⟩

abbrev cOften (i : Nat) : Scope := tupComp ((defBody sOften).getD 0 (.Pass ⟨0, 0, 0, 0⟩)) i
theorem bsOften0 : BScope (defScope sOften) (cOften 0) ["number"] ["times"] [] := { okind := by decide +kernel, kind := by decide +kernel, nocell := by decide +kernel, names := by decide +kernel, fr := by decide +kernel, ff := by decide +kernel, nd := by decide +kernel, vis := by decide +kernel, loc := by decide +kernel, gl := by decide +kernel }
theorem bsOften1 : BScope (defScope sOften) (cOften 1) ["number"] ["times"] [] := { okind := by decide +kernel, kind := by decide +kernel, nocell := by decide +kernel, names := by decide +kernel, fr := by decide +kernel, ff := by decide +kernel, nd := by decide +kernel, vis := by decide +kernel, loc := by decide +kernel, gl := by decide +kernel }

def spOften : Sp := fun vs H Q _ => ∃ (p : Addr) (f : Fm) (t : Int), vs = [.ref p, .int t] ∧ FmAt H p f ∧ f.ins.length ≤ 1000 ∧ f.sts.length ≤ 1000 ∧ (∀ x ∈ f.ins, IntMulOk t x) ∧ (∀ x ∈ f.sts, IntMulOk t x) ∧ IntMulOk t f.plus ∧ ∀ r H', Same H H' → FmAt H' r (oftF t f) → Q (.ref r) H'
set_option maxHeartbeats 4000000 in
theorem ok_Often {f : Addr} {fd : FuncData} (B : Blt3 mg) (F : Fun K "so_often" "so_often" sOften f fd) : FnOk P w K mg base CX0 1 f fd ["form", "times"] spOften := by
  refine F.ok scOften (fun vs H Q E h => ?_) (fun cdv A outer s H vs Q E hr h => ?_)
  · obtain ⟨p, f, t, rfl, _⟩ := h
    rfl
  · obtain ⟨p, fm, t, rfl, ⟨a, b, h1, h2, h3⟩, hn1, hn2, m1, m2, m3, k⟩ := h
    refine' ⟨_, ?hb, ?rd⟩
    case hb =>
      refine' pss_one ?s1
      case' s1 => refine' ps_ret ?p1
      case' p1 => refine' pe_tup ?q1
      case' q1 => refine' pa_c ?x1 ?y1
      case' y1 => refine' pa_2 ?x2 ?x3
      case x3 => exact pe_op op_mulB (pvd nmOften 1) (pe_ix ix_d (pvd nmOften 0) (pe_k B.plK) (fun _ _ => rfl))
      case' x1 => refine' pe_cT call_tuple_of B.tuple PyProof.Rows.boot_tuple ?x1a
      case' x1a => refine' pa_1 ?x1b
      case x1b =>
        refine' pe_comp (ix := [1]) bsOften0.toCScope rfl rfl ?h3 ?h4 ?h5 ?h6
        case h3 =>
          refine' pi_tup ?h3a
          case h3a => exact pe_ix ix_d (pvd nmOften 0) (pe_k B.biK) (fun _ _ => rfl)
        case h4 => exact fun _ _ _ _ _ _ => pgb bsOften0 0
        case h5 => exact fun _ _ _ _ _ _ => pts_nil
        case h6 => exact fun _ _ _ _ _ _ => pe_op op_mulB (pvb bsOften0 1) (pvb bsOften0 0)
      case' x2 => refine' pe_cT call_tuple_of B.tuple PyProof.Rows.boot_tuple ?x2a
      case' x2a => refine' pa_1 ?x2b
      case x2b =>
        refine' pe_comp (ix := [1]) bsOften1.toCScope rfl rfl ?i3 ?i4 ?i5 ?i6
        case i3 =>
          refine' pi_tup ?i3a
          case i3a => exact pe_ix ix_d (pvd nmOften 0) (pe_k B.bsK) (fun _ _ => rfl)
        case i4 => exact fun _ _ _ _ _ _ => pgb bsOften1 0
        case i5 => exact fun _ _ _ _ _ _ => pts_nil
        case i6 => exact fun _ _ _ _ _ _ => pe_op op_mulB (pvb bsOften1 1) (pvb bsOften1 0)
    case rd =>
      walk_at "v"
      refine w_ixT h1 rfl ?_
      refine ⟨a, rfl, ⟨_, SqT.of h2⟩, fun D hD => ?_⟩
      refine tup_map (ρ := [some (.int t)]) (fun x => t * x) h2 hn1 (fun i x H' hx _ R kR => ?_) (fun H1 K1 hD1 => ?_) hD
      · walk_at "v"
        refine w_rI (m1 x (List.mem_of_getElem? hx)) ?_
        exact kR _ (Same.refl _)
      walk_at "v"
      refine ⟨D, _, rfl, .inl ⟨SqL.of hD1, fun t1 ht1 => ?_⟩⟩
      have K2 := K1.new (o := .tup ((fm.ins.map fun x => t * x).map V.int)) ht1
      have e2 : upd H1 t1 (.tup ((fm.ins.map fun x => t * x).map V.int)) t1 = some (.tup ((fm.ins.map fun x => t * x).map V.int)) := upd_same
      generalize upd H1 t1 (.tup ((fm.ins.map fun x => t * x).map V.int)) = H2 at K2 e2 ⊢
      walk_at "v"
      refine w_ixT (K2 _ _ h1) rfl ?_
      refine ⟨b, rfl, ⟨_, SqT.of (K2 _ _ h3)⟩, fun D2 hD2 => ?_⟩
      refine tup_map (ρ := [some (.int t)]) (fun x => t * x) (K2 _ _ h3) hn2 (fun i x H' hx _ R kR => ?_) (fun H3 K3 hD3 => ?_) hD2
      · walk_at "v"
        refine w_rI (m2 x (List.mem_of_getElem? hx)) ?_
        exact kR _ (Same.refl _)
      walk_at "v"
      refine ⟨D2, _, rfl, .inl ⟨SqL.of hD3, fun t2 ht2 => ?_⟩⟩
      have K4 := K3.new (o := .tup ((fm.sts.map fun x => t * x).map V.int)) ht2
      have e4 : upd H3 t2 (.tup ((fm.sts.map fun x => t * x).map V.int)) t2 = some (.tup ((fm.sts.map fun x => t * x).map V.int)) := upd_same
      generalize upd H3 t2 (.tup ((fm.sts.map fun x => t * x).map V.int)) = H4 at K4 e4 ⊢
      have KA := K2.trans K4
      walk_at "v"
      refine w_ixT (KA _ _ h1) rfl ?_
      refine w_rI m3 ?_
      walk_at "v"
      refine ⟨by show 3 ≤ sizeLine; decide, fun r hr => ?_⟩
      refine k r _ (KA.new hr) ⟨t1, t2, upd_same, ?_, ?_⟩
      · rw [upd_ne (ne_of_none (K4 _ _ e2) hr)]
        exact K4 _ _ e2
      · rw [upd_ne (ne_of_none e4 hr)]
        exact e4
abbrev nMore : List Str := ["form", "number"]
theorem nmMore : Nm nMore (defScope sMore) := ⟨by decide +kernel, by decide +kernel⟩
theorem scMore : FnScope nMore ["form", "number"] (defScope sMore) := ⟨rfl, rfl, rfl, by decide +kernel, rfl, by decide +kernel, by decide +kernel⟩

def spMore : Sp := fun vs H Q _ => ∃ (p : Addr) (f : Fm) (t : Int), vs = [.ref p, .int t] ∧ FmAt H p f ∧ ∀ r H', Same H H' → FmAt H' r (moreF t f) → Q (.ref r) H'
set_option maxHeartbeats 4000000 in
theorem ok_More {f : Addr} {fd : FuncData} (B : Blt3 mg) (F : Fun K "and_more" "and_more" sMore f fd) : FnOk P w K mg base CX0 1 f fd ["form", "number"] spMore := by
  refine F.ok scMore (fun vs H Q E h => ?_) (fun cdv A outer s H vs Q E hr h => ?_)
  · obtain ⟨p, f, t, rfl, _⟩ := h
    rfl
  · obtain ⟨p, fm, t, rfl, ⟨a, b, h1, h2, h3⟩, k⟩ := h
    refine' ⟨_, ?hb, ?rd⟩
    case hb =>
      refine' pss_one ?s1
      case' s1 => refine' ps_ret ?p1
      case' p1 => refine' pe_tup ?q1
      case' q1 => refine' pa_c (pe_ix ix_d (pvd nmMore 0) (pe_k B.biK) (fun _ _ => rfl)) ?y1
      case' y1 => refine' pa_2 (pe_ix ix_d (pvd nmMore 0) (pe_k B.bsK) (fun _ _ => rfl)) ?x3
      case x3 => exact pe_op op_add (pe_ix ix_d (pvd nmMore 0) (pe_k B.plK) (fun _ _ => rfl)) (pvd nmMore 1)
    case rd =>
      walk_at "v"
      refine w_ixT h1 rfl ?_
      walk_at "v"
      refine w_ixT h1 rfl ?_
      walk_at "v"
      refine w_ixT h1 rfl ?_
      walk_at "v"
      refine ⟨by show 3 ≤ sizeLine; decide, fun r hr => ?_⟩
      have K2 := Same.new (o := .tup [.ref a, .ref b, .int (fm.plus + t)]) (Same.refl H) hr
      exact k r _ K2 ⟨a, b, upd_same, K2 _ _ h2, K2 _ _ h3⟩
end
structure _root_.G2.Ln where
  bys : List Int
  plus : Int
def _root_.G2.Ln.ok (m : Nat) (a : Ln) : Prop := a.bys.length = m ∧ (∀ x ∈ a.bys, -99 ≤ x ∧ x ≤ 99) ∧ -99 ≤ a.plus ∧ a.plus ≤ 99
def _root_.G2.LnAt (H : Hp) (q : Addr) (a : Ln) : Prop := ∃ b, H q = some (.tup [.ref b, .int a.plus]) ∧ H b = some (.tup (a.bys.map V.int))
def _root_.G2.lnV (a : Ln) (am : List Int) : Int := dot a.bys am + a.plus
theorem _root_.G2.LnAt.tk {H H' : Hp} {q : Addr} {a : Ln} (k : TK H H') : LnAt H q a → LnAt H' q a
  | ⟨b, h1, h2⟩ => ⟨b, k.t _ _ h1, k.t _ _ h2⟩
theorem _root_.G2.Ln.ok.mul {m : Nat} {a : Ln} (h : a.ok m) (am : List Int) : MulOk a.bys am := fun i x y e _ => by
  obtain ⟨h1, h2⟩ := h.2.1 x (List.mem_of_getElem? e)
  exact mulL (by omega) (by omega)
inductive _root_.G2.Ak where
  | sum (a : Ln)
  | part (a : Ln) (m : Int)
  | two (w : Str) (a b : Ln)
def _root_.G2.AkAt (H : Hp) (q : Addr) : Ak → Prop
  | .sum a => ∃ l, H q = some (.tup [.str "sum", .ref l]) ∧ LnAt H l a
  | .part a m => ∃ l, H q = some (.tup [.str "part", .ref l, .int m]) ∧ LnAt H l a
  | .two w a b => ∃ l r, H q = some (.tup [.str w, .ref l, .ref r]) ∧ LnAt H l a ∧ LnAt H r b
def _root_.G2.four (w : Str) : Prop := w = "least" ∨ w = "most" ∨ w = "more" ∨ w = "same"
def _root_.G2.Ak.ok (m : Nat) : Ak → Prop
  | .sum a => a.ok m
  | .part a k => a.ok m ∧ 2 ≤ k ∧ k ≤ 9
  | .two w a b => four w ∧ a.ok m ∧ b.ok m
def _root_.G2.akV (am : List Int) : Ak → Int
  | .sum a => lnV a am
  | .part a m => lnV a am / m
  | .two w a b => if w = "least" then (if lnV b am < lnV a am then lnV b am else lnV a am) else if w = "most" then (if lnV b am > lnV a am then lnV b am else lnV a am) else
      if w = "more" then (if lnV b am < lnV a am then 1 else 0) else (if lnV a am = lnV b am then 1 else 0)
theorem _root_.G2.AkAt.tk {H H' : Hp} {q : Addr} (k : TK H H') : ∀ {A : Ak}, AkAt H q A → AkAt H' q A
  | .sum a, ⟨l, h1, h2⟩ => ⟨l, k.t _ _ h1, h2.tk k⟩
  | .part a m, ⟨l, h1, h2⟩ => ⟨l, k.t _ _ h1, h2.tk k⟩
  | .two w a b, ⟨l, r, h1, h2, h3⟩ => ⟨l, r, k.t _ _ h1, h2.tk k, h3.tk k⟩
def oneH (n : Nat) (i : Int) : List Int := (List.range n).map fun (j : Nat) => if (j : Int) = i then (1 : Int) else 0
def amtF (n m : Nat) (i : Int) : Fm := ⟨oneH n i, List.replicate m 0, 0⟩
def drpF (n m : Nat) (i : Int) : Fm := ⟨List.replicate n 0, oneH m i, 0⟩
/-- what is read of a pot -/
structure Pt (H : Hp) (q : Addr) (ins beg : List Int) (m : Nat) : Prop where
  ex : ∃ (ps pr pin pb : Addr) (a : V) (xs : List V), H q = some (.tup [.ref ps, .ref pr, .ref pin, .ref pb, a]) ∧ H ps = some (.tup xs) ∧ xs.length = m ∧ H pin = some (.tup (ins.map V.int)) ∧ H pb = some (.tup (beg.map V.int))
  m8 : m ≤ 8
  i3 : ins.length ≤ 3
  hi : ∀ i ∈ ins, 0 ≤ i ∧ i < (m : Int)
  bl : beg.length = m
  hb : ∀ b ∈ beg, 0 ≤ b ∧ b ≤ 99
theorem Pt.tk {H H' : Hp} {q : Addr} {ins beg : List Int} {m : Nat} (k : TK H H') (h : Pt H q ins beg m) : Pt H' q ins beg m :=
  let ⟨ps, pr, pin, pb, a, xs, h1, h2, h3, h4, h5⟩ := h.ex
  ⟨⟨ps, pr, pin, pb, a, xs, k.t _ _ h1, k.t _ _ h2, h3, k.t _ _ h4, k.t _ _ h5⟩, h.m8, h.i3, h.hi, h.bl, h.hb⟩
theorem Pt.same {H H' : Hp} {q : Addr} {ins beg : List Int} {m : Nat} (k : Same H H') (h : Pt H q ins beg m) : Pt H' q ins beg m := h.tk (TK.same k)
theorem PotT.pt {H : Hp} {q : Addr} {nm : List Str} {rs : List Addr} {ins beg : List Int} {ans : Int} {m : Nat} (h : PotT H q nm rs ins beg ans m) : Pt H q ins beg m :=
  let ⟨ps, pr, pin, pb, h1, h2, h3, h4, h5⟩ := h.ex
  ⟨⟨ps, pr, pin, pb, _, _, h1, h2, by rw [List.length_map]; exact h.nl, h4, h5⟩, h.m8, h.i3, h.hi, h.bl, h.hb⟩
theorem rep0 : ∀ xs : List V, (xs.map fun _ => (0 : Int)) = List.replicate xs.length 0
  | [] => rfl
  | x :: xs => by rw [List.map_cons, rep0 xs, List.length_cons, List.replicate_succ]
def spNgt : Sp := fun vs H Q _ => ∃ (p : Addr) (xs : List V), vs = [.ref p] ∧ H p = some (.tup xs) ∧ xs.length ≤ 1000 ∧ ∀ q H', Same H H' → H' q = some (.tup ((List.replicate xs.length (0 : Int)).map V.int)) → Q (.ref q) H'
def spOne : Sp := fun vs H Q _ => ∃ (p : Addr) (xs : List V) (i : Int), vs = [.ref p, .int i] ∧ H p = some (.tup xs) ∧ xs.length ≤ 1000 ∧ ∀ q H', Same H H' → H' q = some (.tup ((oneH xs.length i).map V.int)) → Q (.ref q) H'
def spFm (g : Nat → Nat → Int → Fm) : Sp := fun vs H Q _ => ∃ (p : Addr) (ins beg : List Int) (m : Nat) (i : Int), vs = [.ref p, .int i] ∧ Pt H p ins beg m ∧ ∀ r H', Same H H' → FmAt H' r (g ins.length m i) → Q (.ref r) H'
abbrev nNgt : List Str := ["things"]
theorem nmNgt : Nm nNgt (defScope sNgt) := ⟨by decide +kernel, by decide +kernel⟩
theorem scNgt : FnScope nNgt ["things"] (defScope sNgt) := ⟨rfl, rfl, rfl, by decide +kernel, rfl, by decide +kernel, by decide +kernel⟩
abbrev nOne : List Str := ["things", "place"]
theorem nmOne : Nm nOne (defScope sOne) := ⟨by decide +kernel, by decide +kernel⟩
theorem scOne : FnScope nOne ["things", "place"] (defScope sOne) := ⟨rfl, rfl, rfl, by decide +kernel, rfl, by decide +kernel, by decide +kernel⟩
abbrev nDrp : List Str := ["pot", "sort"]
theorem nmDrp : Nm nDrp (defScope sDrp) := ⟨by decide +kernel, by decide +kernel⟩
theorem scDrp : FnScope nDrp ["pot", "sort"] (defScope sDrp) := ⟨rfl, rfl, rfl, by decide +kernel, rfl, by decide +kernel, by decide +kernel⟩

abbrev cNgt : Scope := retCallComp ((defBody sNgt).getD 0 (.Pass ⟨0, 0, 0, 0⟩))
abbrev cOne : Scope := retCallComp ((defBody sOne).getD 0 (.Pass ⟨0, 0, 0, 0⟩))
theorem bsNgt : BScope (defScope sNgt) cNgt ["thing"] [] [] := { okind := by decide +kernel, kind := by decide +kernel, nocell := by decide +kernel, names := by decide +kernel, fr := by decide +kernel, ff := by decide +kernel, nd := by decide +kernel, vis := by decide +kernel, loc := by decide +kernel, gl := by decide +kernel }
theorem bsOne : BScope (defScope sOne) cOne ["number"] ["place"] [] := { okind := by decide +kernel, kind := by decide +kernel, nocell := by decide +kernel, names := by decide +kernel, fr := by decide +kernel, ff := by decide +kernel, nd := by decide +kernel, vis := by decide +kernel, loc := by decide +kernel, gl := by decide +kernel }
section
variable {P : Program} {w : World} {K : PySem.W.Frag} {mg : Str → Option Value} {base : Heap}
set_option maxHeartbeats 4000000 in
theorem ok_Ngt {f : Addr} {fd : FuncData} (B : Blt3 mg) (F : Fun K "noughts" "noughts" sNgt f fd) : FnOk P w K mg base CX0 1 f fd ["things"] spNgt := by
  refine F.ok scNgt (fun vs H Q E h => ?_) (fun cdv A outer s H vs Q E hr h => ?_)
  · obtain ⟨p, xs, rfl, _⟩ := h
    rfl
  · obtain ⟨p, xs, rfl, hp, hn, k⟩ := h
    refine' ⟨_, ?hb, ?rd⟩
    case hb =>
      refine' pss_one ?s1
      case' s1 => refine' ps_ret ?p1
      case' p1 => refine' pe_cT call_tuple_of B.tuple PyProof.Rows.boot_tuple ?q1
      case' q1 => refine' pa_1 ?u1
      case u1 =>
        refine' pe_comp (ix := []) bsNgt.toCScope rfl rfl (pi_tup (pvd nmNgt 0)) ?h4 ?h5 ?h6
        case h4 => exact fun _ _ _ _ _ _ => pgb bsNgt 0
        case h5 => exact fun _ _ _ _ _ _ => pts_nil
        case h6 => exact fun _ _ _ _ _ _ => pe_int
    case rd =>
      walk_at "v"
      refine ⟨p, rfl, ⟨_, SqT.of hp⟩, fun D hD => ?_⟩
      refine tup_mapA (ρ := []) (fun _ => 0) hp hn (fun i x H' hx K' R kR => ?_) (fun H1 K1 e1 => ?_) hD
      · walk_at "v"
        exact kR _ (Same.refl _)
      rw [rep0] at e1
      walk_at "v"
      refine ⟨D, _, rfl, .inl ⟨SqL.of e1, fun q hq => ?_⟩⟩
      exact k q _ (K1.new hq) upd_same
set_option maxHeartbeats 4000000 in
theorem ok_One {f : Addr} {fd : FuncData} (B : Blt3 mg) (F : Fun K "one_at" "one_at" sOne f fd) : FnOk P w K mg base CX0 1 f fd ["things", "place"] spOne := by
  refine F.ok scOne (fun vs H Q E h => ?_) (fun cdv A outer s H vs Q E hr h => ?_)
  · obtain ⟨p, xs, i, rfl, _⟩ := h
    rfl
  · obtain ⟨p, xs, i, rfl, hp, hn, k⟩ := h
    refine' ⟨_, ?hb, ?rd⟩
    case hb =>
      refine' pss_one ?s1
      case' s1 => refine' ps_ret ?p1
      case' p1 => refine' pe_cT call_tuple_of B.tuple PyProof.Rows.boot_tuple ?q1
      case' q1 => refine' pa_1 ?u1
      case u1 =>
        refine' pe_comp (ix := [1]) bsOne.toCScope rfl rfl ?h3 ?h4 ?h5 ?h6
        case h3 => exact pi_r1 B.range (pa_1 (pe_cB call_lnT B.len PySem.boot_len (pa_1 (pvd nmOne 0))))
        case h4 => exact fun _ _ _ _ _ _ => pgb bsOne 0
        case h5 => exact fun _ _ _ _ _ _ => pts_nil
        case h6 => exact fun _ _ _ _ _ _ => pe_ifExp (pt_cmpR op_eq (pvb bsOne 0) (pvb bsOne 1) (nomark _)) pe_int pe_int
    case rd =>
      walk_at "v"
      refine ⟨p, _, rfl, hp, ?_⟩
      refine ⟨_, rfl, by omega, by omega, fun D hD => ?_⟩
      rw [Int.toNat_natCast]
      refine rng_map (ρ := [some (.int i)]) (fun j => if (j : Int) = i then (1 : Int) else 0) hn (fun j H' hj K' R kR => ?_) (fun H1 K1 e1 => ?_) hD
      · have kR' := kR _ (Same.refl _)
        walk_at "v"
        refine ⟨rfl, ?_⟩
        walk_at "v"
        refine iteD (fun h => ?_) (fun h => ?_)
        · rw [if_pos (V.int.inj h)] at kR'
          walk_at "v"
          exact kR'
        · rw [if_neg fun z => h (congrArg V.int z)] at kR'
          walk_at "v"
          exact kR'
      walk_at "v"
      refine ⟨D, _, rfl, .inl ⟨SqL.of e1, fun q hq => ?_⟩⟩
      exact k q _ (K1.new hq) upd_same
set_option maxHeartbeats 4000000 in
theorem ok_Drp {f : Addr} {fd : FuncData} (B : Blt3 mg) (fO : Has P w K mg base 1 "one_at" ["things", "place"] spOne) (fN : Has P w K mg base 1 "noughts" ["things"] spNgt) (F : Fun K "form_of_drops" "form_of_drops" sDrp f fd) : FnOk P w K mg base CX0 2 f fd ["pot", "sort"] (spFm drpF) := by
  refine F.ok scDrp (fun vs H Q E h => ?_) (fun cdv A outer s H vs Q E hr h => ?_)
  · obtain ⟨p, ins, beg, m, i, rfl, _⟩ := h
    rfl
  · obtain ⟨p, ins, beg, m, i, rfl, hp, k⟩ := h
    refine' ⟨_, ?hb, ?rd⟩
    case hb =>
      refine' pss_one ?s1
      case' s1 => refine' ps_ret ?p1
      case' p1 => refine' pe_tup ?q1
      case' q1 => refine' pa_c ?x1 ?y1
      case x1 => exact pe_f fN hr (by decide) (pa_1 (pe_ix ix_d (pvd nmDrp 0) (pe_k B.inK) (fun _ _ => rfl)))
      case' y1 => refine' pa_2 ?x2 pe_int
      case x2 => exact pe_f fO hr (by decide) (pa_2 (pe_ix ix_d (pvd nmDrp 0) (pe_k B.soK) (fun _ _ => rfl)) (pvd nmDrp 1))
    case rd =>
      obtain ⟨ps, pr, pin, pb, a, xs, h1, h2, h3, h4, h5⟩ := hp.ex
      have m8 := hp.m8
      have i3 := hp.i3
      walk_at "v"
      refine w_ixT h1 rfl ?_
      walk_at "v"
      refine ⟨pin, _, rfl, h4, by rw [List.length_map]; omega, fun q1 H1 K1 e1 => ?_⟩
      rw [List.length_map] at e1
      walk_at "v"
      refine w_ixT (K1 _ _ h1) rfl ?_
      walk_at "v"
      refine ⟨ps, _, i, rfl, K1 _ _ h2, by omega, fun q2 H2 K2 e2 => ?_⟩
      rw [h3] at e2
      walk_at "v"
      refine ⟨by show 3 ≤ sizeLine; decide, fun r hr => ?_⟩
      refine k r _ ((K1.trans K2).new hr) ⟨q1, q2, upd_same, ?_, ?_⟩
      · rw [upd_ne (ne_of_none (K2 _ _ e1) hr)]
        exact K2 _ _ e1
      · rw [upd_ne (ne_of_none e2 hr)]
        exact e2
end
/-! ### forms by how often they have the lines, the answer and one -/
structure Sh where
  x : Int
  y : Int
  z : Int
  p : Int
def shF (n m : Nat) (ans : Int) (a b : Ln) (s : Sh) : Fm := ⟨(List.range n).map fun (k : Nat) => s.x * a.bys.getD k 0 + s.y * b.bys.getD k 0, (List.range m).map fun (k : Nat) => s.z * (if (k : Int) = ans then (1 : Int) else 0), s.x * a.plus + s.y * b.plus + s.p⟩
def numF (n m : Nat) (i : Int) : Fm := ⟨List.replicate n 0, List.replicate m 0, i⟩
def linF (m : Nat) (a : Ln) : Fm := ⟨a.bys, List.replicate m 0, a.plus⟩
def lessF (f g : Fm) : Fm := addF f (oftF (-1) g)
section
variable {n m : Nat} {ans : Int} {a b : Ln}
theorem zero_map (n : Nat) (g : Nat → Int) (h : ∀ k, g k = 0) : List.replicate n 0 = (List.range n).map g := by
  refine List.ext_getElem (by simp) fun i h1 h2 => ?_
  simp [h]
theorem num_sh (i : Int) : numF n m i = shF n m ans a b ⟨0, 0, 0, i⟩ := by
  unfold numF shF
  congr 1
  · exact zero_map n _ fun k => by simp
  · exact zero_map m _ fun k => by simp
  · simp
theorem drp_sh : drpF n m ans = shF n m ans a b ⟨0, 0, 1, 0⟩ := by
  unfold drpF shF oneH
  congr 1
  · exact zero_map n _ fun k => by simp
  · refine List.map_congr_left fun k _ => ?_
    simp
  · simp
theorem bys_map {c : Ln} (h : c.bys.length = n) : c.bys = (List.range n).map fun (k : Nat) => c.bys.getD k 0 := by
  refine List.ext_getElem (by simp [h]) fun i h1 h2 => ?_
  simp [List.getD_eq_getElem?_getD, h1]
theorem lin_sh1 (h : a.ok n) : linF m a = shF n m ans a b ⟨1, 0, 0, 0⟩ := by
  unfold linF shF
  congr 1
  · refine (bys_map h.1).trans (List.map_congr_left fun k _ => ?_)
    simp
  · exact zero_map m _ fun k => by simp
  · simp
theorem lin_sh2 (h : b.ok n) : linF m b = shF n m ans a b ⟨0, 1, 0, 0⟩ := by
  unfold linF shF
  congr 1
  · refine (bys_map h.1).trans (List.map_congr_left fun k _ => ?_)
    simp
  · exact zero_map m _ fun k => by simp
  · simp
theorem less1 {x y x' y' A B : Int} : x * A + y * B + -1 * (x' * A + y' * B) = (x - x') * A + (y - y') * B := by
  rw [Int.sub_mul, Int.sub_mul]
  omega
theorem sh_less (s t : Sh) : lessF (shF n m ans a b s) (shF n m ans a b t) = shF n m ans a b ⟨s.x - t.x, s.y - t.y, s.z - t.z, s.p - t.p⟩ := by
  unfold lessF addF oftF shF
  congr 1
  · rw [List.map_map, List.zipWith_map, List.zipWith_self]
    exact List.map_congr_left fun k _ => less1
  · dsimp only
    rw [List.map_map, List.zipWith_map, List.zipWith_self]
    refine List.map_congr_left fun k _ => ?_
    show s.z * _ + -1 * (t.z * _) = (s.z - t.z) * _
    rw [Int.sub_mul]
    omega
  · show s.x * a.plus + s.y * b.plus + s.p + -1 * (t.x * a.plus + t.y * b.plus + t.p) = (s.x - t.x) * a.plus + (s.y - t.y) * b.plus + (s.p - t.p)
    rw [← less1]
    omega
theorem sh_oft (c : Int) (s : Sh) : oftF c (shF n m ans a b s) = shF n m ans a b ⟨c * s.x, c * s.y, c * s.z, c * s.p⟩ := by
  unfold oftF shF
  congr 1
  · rw [List.map_map]
    refine List.map_congr_left fun k _ => ?_
    show c * (s.x * _ + s.y * _) = _
    rw [Int.mul_add, Int.mul_assoc, Int.mul_assoc]
  · rw [List.map_map]
    refine List.map_congr_left fun k _ => ?_
    show c * (s.z * _) = _
    rw [Int.mul_assoc]
  · show c * (s.x * a.plus + s.y * b.plus + s.p) = _
    rw [Int.mul_add, Int.mul_add, Int.mul_assoc, Int.mul_assoc]
theorem sh_more (c : Int) (s : Sh) : moreF c (shF n m ans a b s) = shF n m ans a b ⟨s.x, s.y, s.z, s.p + c⟩ := by
  unfold moreF shF
  congr 1
  show s.x * a.plus + s.y * b.plus + s.p + c = _
  rw [Int.add_assoc]
/-- a small shape -/
def Sh.sm (s : Sh) : Prop := (-20 ≤ s.x ∧ s.x ≤ 20) ∧ (-20 ≤ s.y ∧ s.y ≤ 20) ∧ (-20 ≤ s.z ∧ s.z ≤ 20) ∧ -20 ≤ s.p ∧ s.p ≤ 20
theorem getD_bd {xs : List Int} (h : ∀ x ∈ xs, -99 ≤ x ∧ x ≤ 99) (k : Nat) : -99 ≤ xs.getD k 0 ∧ xs.getD k 0 ≤ 99 := by
  rw [List.getD_eq_getElem?_getD]
  by_cases hi : k < xs.length
  · rw [List.getElem?_eq_getElem hi]
    exact h _ (List.getElem_mem hi)
  · rw [List.getElem?_eq_none (by omega)]
    exact ⟨by decide, by decide⟩
theorem mul_sm {x y : Int} (hx : -20 ≤ x ∧ x ≤ 20) (hy : -99 ≤ y ∧ y ≤ 99) : -1980 ≤ x * y ∧ x * y ≤ 1980 := by
  have h : (x * y).natAbs ≤ 20 * 99 := by
    rw [Int.natAbs_mul]
    exact Nat.mul_le_mul (by omega) (by omega)
  omega
theorem sh_ok {s : Sh} (hs : s.sm) (ha : a.ok n) (hb : b.ok n) : FmOk n m (10 ^ 50) (shF n m ans a b s) := by
  obtain ⟨h1, h2, h3, h4⟩ := hs
  refine ⟨by simp [shF], by simp [shF], fun x hx => ?_, fun x hx => ?_, ?_⟩
  · obtain ⟨k, _, rfl⟩ := List.mem_map.mp hx
    have e1 := mul_sm h1 (getD_bd ha.2.1 k)
    have e2 := mul_sm h2 (getD_bd hb.2.1 k)
    show -10 ^ 50 ≤ s.x * a.bys.getD k 0 + s.y * b.bys.getD k 0 ∧ s.x * a.bys.getD k 0 + s.y * b.bys.getD k 0 ≤ 10 ^ 50
    omega
  · obtain ⟨k, _, rfl⟩ := List.mem_map.mp hx
    have e1 := mul_sm h3 (y := if (k : Int) = ans then (1 : Int) else 0) (by split <;> exact ⟨by decide, by decide⟩)
    show -10 ^ 50 ≤ s.z * (if (k : Int) = ans then (1 : Int) else 0) ∧ s.z * (if (k : Int) = ans then (1 : Int) else 0) ≤ 10 ^ 50
    omega
  · have e1 := mul_sm h1 ha.2.2
    have e2 := mul_sm h2 hb.2.2
    show -10 ^ 50 ≤ s.x * a.plus + s.y * b.plus + s.p ∧ s.x * a.plus + s.y * b.plus + s.p ≤ 10 ^ 50
    omega
end
theorem fm_mul {n m : Nat} {f : Fm} {c : Int} (h : FmOk n m (10 ^ 50) f) (hc : -99 ≤ c ∧ c ≤ 99) : (∀ x ∈ f.ins, IntMulOk c x) ∧ (∀ x ∈ f.sts, IntMulOk c x) ∧ IntMulOk c f.plus := by
  have b1 : Bg c := Bg.of (B := 99) (by decide +kernel) hc
  exact ⟨fun x hx => mulB b1 (Bg.of (by decide +kernel) (h.bi x hx)), fun x hx => mulB b1 (Bg.of (by decide +kernel) (h.bs x hx)), mulB b1 (Bg.of (by decide +kernel) h.bp)⟩
/-- a form, with its kind -/
def FO (H : Hp) (n m : Nat) (q : Addr) (f : Fm) : Prop := FmAt H q f ∧ FmOk n m (10 ^ 50) f
theorem FO.same {H H' : Hp} {n m : Nat} {q : Addr} {f : Fm} (k : Same H H') (h : FO H n m q f) : FO H' n m q f := ⟨h.1.same k, h.2⟩
def spLess : Sp := fun vs H Q _ => ∃ (p q : Addr) (f g : Fm) (n m : Nat), vs = [.ref p, .ref q] ∧ FO H n m p f ∧ FO H n m q g ∧ n ≤ 10 ∧ m ≤ 10 ∧ ∀ r H', Same H H' → FmAt H' r (lessF f g) → Q (.ref r) H'
def spBoth : Sp := fun vs H Q _ => ∃ (p q : Addr) (f g : Fm) (n m : Nat), vs = [.ref p, .ref q] ∧ FO H n m p f ∧ FO H n m q g ∧ n ≤ 10 ∧ m ≤ 10 ∧ ∀ r u v H', Same H H' → H' r = some (.tup [.ref u, .ref v]) → FmAt H' u (lessF f g) → FmAt H' v (lessF g f) → Q (.ref r) H'
def spLinF : Sp := fun vs H Q _ => ∃ (p q : Addr) (ins beg : List Int) (m : Nat) (a : Ln), vs = [.ref p, .ref q] ∧ Pt H p ins beg m ∧ LnAt H q a ∧ ∀ r H', Same H H' → FmAt H' r (linF m a) → Q (.ref r) H'
abbrev nLess : List Str := ["one", "other"]
theorem nmLess : Nm nLess (defScope sLess) := ⟨by decide +kernel, by decide +kernel⟩
theorem scLess : FnScope nLess ["one", "other"] (defScope sLess) := ⟨rfl, rfl, rfl, by decide +kernel, rfl, by decide +kernel, by decide +kernel⟩
abbrev nBoth : List Str := ["one", "other"]
theorem nmBoth : Nm nBoth (defScope sBoth) := ⟨by decide +kernel, by decide +kernel⟩
theorem scBoth : FnScope nBoth ["one", "other"] (defScope sBoth) := ⟨rfl, rfl, rfl, by decide +kernel, rfl, by decide +kernel, by decide +kernel⟩
abbrev nNum : List Str := ["pot", "number"]
theorem nmNum : Nm nNum (defScope sNum) := ⟨by decide +kernel, by decide +kernel⟩
theorem scNum : FnScope nNum ["pot", "number"] (defScope sNum) := ⟨rfl, rfl, rfl, by decide +kernel, rfl, by decide +kernel, by decide +kernel⟩
abbrev nLinF : List Str := ["pot", "line"]
theorem nmLinF : Nm nLinF (defScope sLinF) := ⟨by decide +kernel, by decide +kernel⟩
theorem scLinF : FnScope nLinF ["pot", "line"] (defScope sLinF) := ⟨rfl, rfl, rfl, by decide +kernel, rfl, by decide +kernel, by decide +kernel⟩
section
variable {P : Program} {w : World} {K : PySem.W.Frag} {mg : Str → Option Value} {base : Heap}
set_option maxHeartbeats 4000000 in
theorem ok_Less {f : Addr} {fd : FuncData} (fA : Has P w K mg base 1 "added" ["one", "other"] spAdded) (fO : Has P w K mg base 1 "so_often" ["form", "times"] spOften) (F : Fun K "less" "less" sLess f fd) : FnOk P w K mg base CX0 2 f fd ["one", "other"] spLess := by
  refine F.ok scLess (fun vs H Q E h => ?_) (fun cdv A outer s H vs Q E hr h => ?_)
  · obtain ⟨p, q, f, g, n, m, rfl, _⟩ := h
    rfl
  · obtain ⟨p, q, f, g, n, m, rfl, hp, hq, n10, m10, k⟩ := h
    refine' ⟨_, ?hb, ?rd⟩
    case hb =>
      refine' pss_one ?s1
      case' s1 => refine' ps_ret ?p1
      case' p1 => refine' pe_f fA hr (by decide) ?p2
      case' p2 => refine' pa_2 (pvd nmLess 0) ?p3
      case p3 => exact pe_f fO hr (by decide) (pa_2 (pvd nmLess 1) (pe_un un_neg pe_int))
    case rd =>
      have l1 := hp.2.li
      have l2 := hp.2.ls
      have l3 := hq.2.li
      have l4 := hq.2.ls
      have fok := fm_mul hq.2 (c := -1) ⟨by decide, by decide⟩
      walk_at "v"
      refine ⟨_, rfl, ?_⟩
      refine ⟨q, g, -1, rfl, hq.1, by omega, by omega, fok.1, fok.2.1, fok.2.2, fun r1 H1 K1 h1 => ?_⟩
      walk_at "v"
      refine ⟨p, r1, f, oftF (-1) g, rfl, hp.1.same K1, h1, ?_, ?_, by omega, by omega, fun r H2 K2 h2 => k r H2 (K1.trans K2) h2⟩
      · show f.ins.length = (g.ins.map _).length
        rw [List.length_map]
        omega
      · show f.sts.length = (g.sts.map _).length
        rw [List.length_map]
        omega
set_option maxHeartbeats 4000000 in
theorem ok_Both {f : Addr} {fd : FuncData} (fL : Has P w K mg base 2 "less" ["one", "other"] spLess) (F : Fun K "both_ways" "both_ways" sBoth f fd) : FnOk P w K mg base CX0 3 f fd ["one", "other"] spBoth := by
  refine F.ok scBoth (fun vs H Q E h => ?_) (fun cdv A outer s H vs Q E hr h => ?_)
  · obtain ⟨p, q, f, g, n, m, rfl, _⟩ := h
    rfl
  · obtain ⟨p, q, f, g, n, m, rfl, hp, hq, n10, m10, k⟩ := h
    refine' ⟨_, ?hb, ?rd⟩
    case hb =>
      refine' pss_one ?s1
      case' s1 => refine' ps_ret ?p1
      case' p1 => refine' pe_tup ?p2
      case p2 => exact pa_2 (pe_f fL hr (by decide) (pa_2 (pvd nmBoth 0) (pvd nmBoth 1))) (pe_f fL hr (by decide) (pa_2 (pvd nmBoth 1) (pvd nmBoth 0)))
    case rd =>
      walk_at "v"
      refine ⟨p, q, f, g, n, m, rfl, hp, hq, n10, m10, fun r1 H1 K1 h1 => ?_⟩
      walk_at "v"
      refine ⟨q, p, g, f, n, m, rfl, hq.same K1, hp.same K1, n10, m10, fun r2 H2 K2 h2 => ?_⟩
      walk_at "v"
      refine ⟨by show 2 ≤ sizeLine; decide, fun r hr => ?_⟩
      have K3 : Same H2 (upd H2 r (.tup [.ref r1, .ref r2])) := Same.new (Same.refl H2) hr
      exact k r r1 r2 _ ((K1.trans K2).trans K3) upd_same (h1.same (K2.trans K3)) (h2.same K3)
set_option maxHeartbeats 4000000 in
theorem ok_Num {f : Addr} {fd : FuncData} (B : Blt3 mg) (fN : Has P w K mg base 1 "noughts" ["things"] spNgt) (F : Fun K "form_of_number" "form_of_number" sNum f fd) : FnOk P w K mg base CX0 2 f fd ["pot", "number"] (spFm numF) := by
  refine F.ok scNum (fun vs H Q E h => ?_) (fun cdv A outer s H vs Q E hr h => ?_)
  · obtain ⟨p, ins, beg, m, i, rfl, _⟩ := h
    rfl
  · obtain ⟨p, ins, beg, m, i, rfl, hp, k⟩ := h
    refine' ⟨_, ?hb, ?rd⟩
    case hb =>
      refine' pss_one ?s1
      case' s1 => refine' ps_ret ?p1
      case' p1 => refine' pe_tup ?q1
      case' q1 => refine' pa_c ?x1 ?y1
      case x1 => exact pe_f fN hr (by decide) (pa_1 (pe_ix ix_d (pvd nmNum 0) (pe_k B.inK) (fun _ _ => rfl)))
      case' y1 => refine' pa_2 ?x2 (pvd nmNum 1)
      case x2 => exact pe_f fN hr (by decide) (pa_1 (pe_ix ix_d (pvd nmNum 0) (pe_k B.soK) (fun _ _ => rfl)))
    case rd =>
      obtain ⟨ps, pr, pin, pb, a, xs, h1, h2, h3, h4, h5⟩ := hp.ex
      have m8 := hp.m8
      have i3 := hp.i3
      walk_at "v"
      refine w_ixT h1 rfl ?_
      walk_at "v"
      refine ⟨pin, _, rfl, h4, by rw [List.length_map]; omega, fun q1 H1 K1 e1 => ?_⟩
      rw [List.length_map] at e1
      walk_at "v"
      refine w_ixT (K1 _ _ h1) rfl ?_
      walk_at "v"
      refine ⟨ps, _, rfl, K1 _ _ h2, by omega, fun q2 H2 K2 e2 => ?_⟩
      rw [h3] at e2
      walk_at "v"
      refine ⟨by show 3 ≤ sizeLine; decide, fun r hr => ?_⟩
      have K3 : Same H2 (upd H2 r (.tup [.ref q1, .ref q2, .int i])) := Same.new (Same.refl H2) hr
      exact k r _ ((K1.trans K2).trans K3) ⟨q1, q2, upd_same, K3 _ _ (K2 _ _ e1), K3 _ _ e2⟩
set_option maxHeartbeats 4000000 in
theorem ok_LinF {f : Addr} {fd : FuncData} (B : Blt3 mg) (fN : Has P w K mg base 1 "noughts" ["things"] spNgt) (F : Fun K "form_of_line" "form_of_line" sLinF f fd) : FnOk P w K mg base CX0 2 f fd ["pot", "line"] spLinF := by
  refine F.ok scLinF (fun vs H Q E h => ?_) (fun cdv A outer s H vs Q E hr h => ?_)
  · obtain ⟨p, q, ins, beg, m, a, rfl, _⟩ := h
    rfl
  · obtain ⟨p, q, ins, beg, m, a, rfl, hp, ⟨b, hq, hb⟩, k⟩ := h
    refine' ⟨_, ?hb, ?rd⟩
    case hb =>
      refine' pss_one ?s1
      case' s1 => refine' ps_ret ?p1
      case' p1 => refine' pe_tup ?q1
      case' q1 => refine' pa_c (pe_ix ix_d (pvd nmLinF 1) (pe_k B.byK) (fun _ _ => rfl)) ?y1
      case' y1 => refine' pa_2 ?x2 (pe_ix ix_d (pvd nmLinF 1) (pe_k B.lpK) (fun _ _ => rfl))
      case x2 => exact pe_f fN hr (by decide) (pa_1 (pe_ix ix_d (pvd nmLinF 0) (pe_k B.soK) (fun _ _ => rfl)))
    case rd =>
      obtain ⟨ps, pr, pin, pb, av, xs, h1, h2, h3, h4, h5⟩ := hp.ex
      have m8 := hp.m8
      walk_at "v"
      refine w_ixT hq rfl ?_
      walk_at "v"
      refine w_ixT h1 rfl ?_
      walk_at "v"
      refine ⟨ps, _, rfl, h2, by omega, fun q2 H2 K2 e2 => ?_⟩
      rw [h3] at e2
      walk_at "v"
      refine w_ixT (K2 _ _ hq) rfl ?_
      walk_at "v"
      refine ⟨by show 3 ≤ sizeLine; decide, fun r hr => ?_⟩
      have K3 : Same H2 (upd H2 r (.tup [.ref b, .ref q2, .int a.plus])) := Same.new (Same.refl H2) hr
      exact k r _ (K2.trans K3) ⟨b, q2, upd_same, K3 _ _ (K2 _ _ hb), K3 _ _ e2⟩
end
end K25

set_option Elab.async false
set_option linter.all false
set_option maxRecDepth 100000
namespace K25
open PySem L2 G2
local macro_rules | `(tactic| walk_at "v") => `(tactic| repeat (with_reducible first
  | refine w_seq ?_ | refine w_asg ?_ | refine w_gname ?_ | refine w_op ?_ | refine w_var rfl ?_ | refine w_c ?_ | refine w_rI0 ?_ | refine w_ifs ?_ | refine w_ife ?_ | refine w_test ?_ | refine w_tb ?_ | refine w_bl ?_ | refine w_not ?_ | refine w_ret ?_ | refine w_retN ?_
  | refine w_nil ?_ | refine w_cons ?_ | refine w_lst ?_ | refine w_tup ?_ | refine w_cb ?_ | refine w_call ?_ | refine w_gsub ?_ | refine w_and ?_ | refine w_or ?_ | refine w_next ?_ | refine w_all ?_ | refine w_vals ?_ | refine w_compR ?_ | refine w_compT ?_ | refine w_forR ?_ | refine w_forT ?_ | refine w_forL ?_ | refine w_drop ?_ | refine w_bm ?_ | refine w_compZ ?_ | refine w_compL ?_ | refine w_chain ?_ | refine w_sl ?_ | refine w_nopart ?_ | refine w_part ?_ | refine w_unI ?_ | refine iteT ?_ | refine iteF ?_))

abbrev sPof : Stmt := top 18
abbrev sTwo : Stmt := top 19

def firstS : List Sh := [⟨-1, 0, 1, 0⟩, ⟨1, 0, -1, 0⟩]
def secndS : List Sh := [⟨0, -1, 1, 0⟩, ⟨0, 1, -1, 0⟩]
def yesS : List Sh := [⟨0, 0, 1, -1⟩, ⟨0, 0, -1, 1⟩]
def noS : List Sh := [⟨0, 0, 1, 0⟩, ⟨0, 0, -1, 0⟩]
def overS : Sh := ⟨1, -1, 0, 0⟩
def underS : Sh := ⟨-1, 1, 0, 0⟩
def shapes2 (w : Str) : List (List Sh) := if w = "least" then [firstS ++ [underS], secndS ++ [overS]] else if w = "most" then [firstS ++ [overS], secndS ++ [underS]] else if w = "more" then [yesS ++ [⟨1, -1, 0, -1⟩], noS ++ [underS]] else [yesS ++ [overS, underS], noS ++ [⟨1, -1, 0, -1⟩], noS ++ [⟨-1, 1, 0, -1⟩]]
def shapes : Ak → List (List Sh)
  | .sum _ => [firstS]
  | .part _ c => [[⟨1, 0, -c, 0⟩, ⟨-1, 0, c, c - 1⟩]]
  | .two w _ _ => shapes2 w
def lnA : Ak → Ln
  | .sum a => a
  | .part a _ => a
  | .two _ a _ => a
def lnB (n : Nat) : Ak → Ln
  | .sum _ => ⟨List.replicate n 0, 0⟩
  | .part _ _ => ⟨List.replicate n 0, 0⟩
  | .two _ _ b => b
def pcs (n m : Nat) (ans : Int) (A : Ak) : List (List Fm) := (shapes A).map fun l => l.map (shF n m ans (lnA A) (lnB n A))
theorem zero_ok (n : Nat) : (⟨List.replicate n 0, 0⟩ : Ln).ok n := ⟨List.length_replicate, fun x hx => by rw [List.eq_of_mem_replicate hx]; exact ⟨by decide, by decide⟩, by show -99 ≤ (0 : Int); decide, by show (0 : Int) ≤ 99; decide⟩
theorem smC {c : Int} (h2 : 2 ≤ c) (h9 : c ≤ 9) : Sh.sm ⟨0, 0, c, 0⟩ := ⟨⟨by show -20 ≤ (0 : Int); decide, by show (0 : Int) ≤ 20; decide⟩, ⟨by show -20 ≤ (0 : Int); decide, by show (0 : Int) ≤ 20; decide⟩, ⟨by show -20 ≤ c; omega, by show c ≤ 20; omega⟩, by show -20 ≤ (0 : Int); decide, by show (0 : Int) ≤ 20; decide⟩
/-- tuples of forms -/
def Pcs (H : Hp) : List Addr → List (List Fm) → Prop
  | [], [] => True
  | r :: rs, fs :: fss => (∃ qs : List Addr, H r = some (.tup (qs.map V.ref)) ∧ Fms H qs fs) ∧ Pcs H rs fss
  | _, _ => False
def PcsAt (H : Hp) (q : Addr) (fss : List (List Fm)) : Prop := ∃ rs : List Addr, H q = some (.tup (rs.map V.ref)) ∧ Pcs H rs fss
theorem iteTk {p X Y : Prop} [Decidable p] (h : p) (k : X) : if decide p = true then X else Y := iteD (fun _ => k) fun z => absurd h z
theorem iteFk {p X Y : Prop} [Decidable p] (h : ¬ p) (k : Y) : if decide p = true then X else Y := iteD (fun z => absurd z h) fun _ => k
/-- what is read of a pot, the answer too -/
structure PtA (H : Hp) (q : Addr) (ins beg : List Int) (m : Nat) (ans : Int) : Prop extends Pt H q ins beg m where
  an : ∃ ps pr pin pb : Addr, H q = some (.tup [.ref ps, .ref pr, .ref pin, .ref pb, .int ans])
theorem PotT.pa {H : Hp} {q : Addr} {nm : List Str} {rs : List Addr} {ins beg : List Int} {ans : Int} {m : Nat} (h : PotT H q nm rs ins beg ans m) : PtA H q ins beg m ans :=
  let ⟨ps, pr, pin, pb, h1, _⟩ := h.ex
  ⟨h.pt, ps, pr, pin, pb, h1⟩
def spTwo : Sp := fun vs H Q _ => ∃ (p : Addr) (w : Str) (dq oq tq : Addr) (ins beg : List Int) (m : Nat) (ans : Int) (a b : Ln), vs = [.ref p, .str w, .ref dq, .ref oq, .ref tq] ∧ Pt H p ins beg m ∧ four w ∧ a.ok ins.length ∧ b.ok ins.length ∧ FmAt H dq (shF ins.length m ans a b ⟨0, 0, 1, 0⟩) ∧ FmAt H oq (shF ins.length m ans a b ⟨1, 0, 0, 0⟩) ∧ FmAt H tq (shF ins.length m ans a b ⟨0, 1, 0, 0⟩) ∧
  ∀ r H', Same H H' → PcsAt H' r ((shapes2 w).map fun l => l.map (shF ins.length m ans a b)) → Q (.ref r) H'
def spPof : Sp := fun vs H Q _ => ∃ (p q : Addr) (ins beg : List Int) (m : Nat) (ans : Int) (A : Ak), vs = [.ref p, .ref q] ∧ PtA H p ins beg m ans ∧ AkAt H q A ∧ A.ok ins.length ∧ ∀ r H', Same H H' → PcsAt H' r (pcs ins.length m ans A) → Q (.ref r) H'
abbrev nTwo : List Str := ["pot", "word", "drops", "one", "other", "yes", "no", "above", "below"]
theorem nmTwo : Nm nTwo (defScope sTwo) := ⟨by decide +kernel, by decide +kernel⟩
theorem scTwo : FnScope nTwo ["pot", "word", "drops", "one", "other"] (defScope sTwo) := ⟨rfl, rfl, rfl, by decide +kernel, rfl, by decide +kernel, by decide +kernel⟩
abbrev nPof : List Str := ["pot", "ask", "drops", "one", "parts"]
theorem nmPof : Nm nPof (defScope sPof) := ⟨by decide +kernel, by decide +kernel⟩
theorem scPof : FnScope nPof ["pot", "ask"] (defScope sPof) := ⟨rfl, rfl, rfl, by decide +kernel, rfl, by decide +kernel, by decide +kernel⟩
section
variable {P : Program} {w : World} {K : PySem.W.Frag} {mg : Str → Option Value} {base : Heap}
set_option maxHeartbeats 4000000 in
theorem ok_Two {f : Addr} {fd : FuncData} (fB : Has P w K mg base 3 "both_ways" ["one", "other"] spBoth) (fL : Has P w K mg base 2 "less" ["one", "other"] spLess) (fM : Has P w K mg base 1 "and_more" ["form", "number"] spMore) (fN : Has P w K mg base 2 "form_of_number" ["pot", "number"] (spFm numF)) (F : Fun K "pieces_of_two" "pieces_of_two" sTwo f fd) : FnOk P w K mg base CX0 4 f fd ["pot", "word", "drops", "one", "other"] spTwo := by
  refine F.ok scTwo (fun vs H Q E h => ?_) (fun cdv A outer s H vs Q E hr h => ?_)
  · obtain ⟨p, w, dq, oq, tq, ins, beg, m, ans, a, b, rfl, _⟩ := h
    rfl
  · obtain ⟨p, w, dq, oq, tq, ins, beg, m, ans, a, b, rfl, hp, hw4, ha, hb, hd, ho, ht, k⟩ := h
    refine' ⟨_, ?hb, ?rd⟩
    case hb =>
      refine' pss_cons ?s1 ?r1
      case' r1 => refine' pss_cons ?s2 ?r2
      case' r2 => refine' pss_cons ?s3 ?r3
      case' r3 => refine' pss_cons ?s4 ?r4
      case' r4 => refine' pss_cons ?s5 ?r5
      case' r5 => refine' pss_cons ?s6 ?r6
      case' r6 => refine' pss_cons ?s7 ?r7
      case' r7 => refine' pss_one ?s8
      case s1 =>
        refine' ps_if (pt_cmpR op_eq (pvd nmTwo 1) pe_str (nomark _)) ?b1 pss_nil
        case' b1 => refine' pss_one ?b2
        case' b2 => refine' ps_ret ?b3
        case' b3 => refine' pe_tup ?b4
        case b4 => exact pa_2 (pe_op op_catG (pe_f fB hr (by decide) (pa_2 (pvd nmTwo 2) (pvd nmTwo 3))) (pe_tup (pa_1 (pe_f fL hr (by decide) (pa_2 (pvd nmTwo 4) (pvd nmTwo 3)))))) (pe_op op_catG (pe_f fB hr (by decide) (pa_2 (pvd nmTwo 2) (pvd nmTwo 4))) (pe_tup (pa_1 (pe_f fL hr (by decide) (pa_2 (pvd nmTwo 3) (pvd nmTwo 4))))))
      case s2 =>
        refine' ps_if (pt_cmpR op_eq (pvd nmTwo 1) pe_str (nomark _)) ?c1 pss_nil
        case' c1 => refine' pss_one ?c2
        case' c2 => refine' ps_ret ?c3
        case' c3 => refine' pe_tup ?c4
        case c4 => exact pa_2 (pe_op op_catG (pe_f fB hr (by decide) (pa_2 (pvd nmTwo 2) (pvd nmTwo 3))) (pe_tup (pa_1 (pe_f fL hr (by decide) (pa_2 (pvd nmTwo 3) (pvd nmTwo 4)))))) (pe_op op_catG (pe_f fB hr (by decide) (pa_2 (pvd nmTwo 2) (pvd nmTwo 4))) (pe_tup (pa_1 (pe_f fL hr (by decide) (pa_2 (pvd nmTwo 4) (pvd nmTwo 3))))))
      case s3 => exact ps_setD nmTwo 5 (pe_f fB hr (by decide) (pa_2 (pvd nmTwo 2) (pe_f fN hr (by decide) (pa_2 (pvd nmTwo 0) pe_int))))
      case s4 => exact ps_setD nmTwo 6 (pe_f fB hr (by decide) (pa_2 (pvd nmTwo 2) (pe_f fN hr (by decide) (pa_2 (pvd nmTwo 0) pe_int))))
      case s5 => exact ps_setD nmTwo 7 (pe_f fM hr (by decide) (pa_2 (pe_f fL hr (by decide) (pa_2 (pvd nmTwo 3) (pvd nmTwo 4))) (pe_un un_neg pe_int)))
      case s6 =>
        refine' ps_if (pt_cmpR op_eq (pvd nmTwo 1) pe_str (nomark _)) ?d1 pss_nil
        case' d1 => refine' pss_one ?d2
        case' d2 => refine' ps_ret ?d3
        case' d3 => refine' pe_tup ?d4
        case d4 => exact pa_2 (pe_op op_catG (pvd nmTwo 5) (pe_tup (pa_1 (pvd nmTwo 7)))) (pe_op op_catG (pvd nmTwo 6) (pe_tup (pa_1 (pe_f fL hr (by decide) (pa_2 (pvd nmTwo 4) (pvd nmTwo 3))))))
      case s7 => exact ps_setD nmTwo 8 (pe_f fM hr (by decide) (pa_2 (pe_f fL hr (by decide) (pa_2 (pvd nmTwo 4) (pvd nmTwo 3))) (pe_un un_neg pe_int)))
      case s8 =>
        refine' ps_ret ?e1
        case' e1 => refine' pe_tup ?e2
        case' e2 => refine' pa_c (pe_op op_catG (pvd nmTwo 5) (pe_f fB hr (by decide) (pa_2 (pvd nmTwo 3) (pvd nmTwo 4)))) ?e3
        case e3 => exact pa_2 (pe_op op_catG (pvd nmTwo 6) (pe_tup (pa_1 (pvd nmTwo 7)))) (pe_op op_catG (pvd nmTwo 6) (pe_tup (pa_1 (pvd nmTwo 8))))
    case rd =>
      have m8 := hp.m8
      have i3 := hp.i3
      walk_at "v"
      refine ⟨rfl, ?_⟩
      walk_at "v"
      refine iteD (fun hw => ?_) (fun h1 => ?_)
      · injection hw with hw
        subst hw
        walk_at "v"
        refine ⟨dq, oq, shF ins.length m ans a b ⟨0, 0, 1, 0⟩, shF ins.length m ans a b ⟨1, 0, 0, 0⟩, ins.length, m, rfl, ⟨hd, sh_ok (s := ⟨0, 0, 1, 0⟩) (by exact ⟨⟨by decide, by decide⟩, ⟨by decide, by decide⟩, ⟨by decide, by decide⟩, by decide, by decide⟩) ha hb⟩, ⟨ho, sh_ok (s := ⟨1, 0, 0, 0⟩) (by exact ⟨⟨by decide, by decide⟩, ⟨by decide, by decide⟩, ⟨by decide, by decide⟩, by decide, by decide⟩) ha hb⟩, by omega, by omega, fun r1 r1u r1v H1 K1 er1 hr1u hr1v => ?_⟩
        replace hd := hd.same K1
        replace ho := ho.same K1
        replace ht := ht.same K1
        replace hp := hp.same K1
        have KT := K1
        rw [sh_less] at hr1u
        replace hr1u : FmAt H1 r1u (shF ins.length m ans a b ⟨-1, 0, 1, 0⟩) := hr1u
        rw [sh_less] at hr1v
        replace hr1v : FmAt H1 r1v (shF ins.length m ans a b ⟨1, 0, -1, 0⟩) := hr1v
        walk_at "v"
        refine ⟨tq, oq, shF ins.length m ans a b ⟨0, 1, 0, 0⟩, shF ins.length m ans a b ⟨1, 0, 0, 0⟩, ins.length, m, rfl, ⟨ht, sh_ok (s := ⟨0, 1, 0, 0⟩) (by exact ⟨⟨by decide, by decide⟩, ⟨by decide, by decide⟩, ⟨by decide, by decide⟩, by decide, by decide⟩) ha hb⟩, ⟨ho, sh_ok (s := ⟨1, 0, 0, 0⟩) (by exact ⟨⟨by decide, by decide⟩, ⟨by decide, by decide⟩, ⟨by decide, by decide⟩, by decide, by decide⟩) ha hb⟩, by omega, by omega, fun f1 H2 K2 hf1 => ?_⟩
        replace hd := hd.same K2
        replace ho := ho.same K2
        replace ht := ht.same K2
        replace hp := hp.same K2
        replace hr1u := hr1u.same K2
        replace hr1v := hr1v.same K2
        replace er1 := K2 _ _ er1
        replace KT := KT.trans K2
        rw [sh_less] at hf1
        replace hf1 : FmAt H2 f1 (shF ins.length m ans a b ⟨-1, 1, 0, 0⟩) := hf1
        walk_at "v"
        refine ⟨by show 1 ≤ sizeLine; decide, fun z1 hz1 => ?_⟩
        have K3 : Same H2 (upd H2 z1 (.tup [.ref f1])) := Same.new (Same.refl _) hz1
        have ez1 : upd H2 z1 (.tup [.ref f1]) z1 = some (.tup [.ref f1]) := upd_same
        generalize upd H2 z1 (.tup [.ref f1]) = H3 at K3 ez1 ⊢
        replace hd := hd.same K3
        replace ho := ho.same K3
        replace ht := ht.same K3
        replace hp := hp.same K3
        replace hr1u := hr1u.same K3
        replace hr1v := hr1v.same K3
        replace er1 := K3 _ _ er1
        replace hf1 := hf1.same K3
        replace KT := KT.trans K3
        walk_at "v"
        refine ⟨r1, z1, _, _, rfl, rfl, er1, ez1, by simp, fun p1 H4 K4 ep1 => ?_⟩
        replace hd := hd.same K4
        replace ho := ho.same K4
        replace ht := ht.same K4
        replace hp := hp.same K4
        replace hr1u := hr1u.same K4
        replace hr1v := hr1v.same K4
        replace er1 := K4 _ _ er1
        replace hf1 := hf1.same K4
        replace ez1 := K4 _ _ ez1
        replace KT := KT.trans K4
        replace ep1 : H4 p1 = some (.tup [.ref r1u, .ref r1v, .ref f1]) := ep1
        walk_at "v"
        refine ⟨dq, tq, shF ins.length m ans a b ⟨0, 0, 1, 0⟩, shF ins.length m ans a b ⟨0, 1, 0, 0⟩, ins.length, m, rfl, ⟨hd, sh_ok (s := ⟨0, 0, 1, 0⟩) (by exact ⟨⟨by decide, by decide⟩, ⟨by decide, by decide⟩, ⟨by decide, by decide⟩, by decide, by decide⟩) ha hb⟩, ⟨ht, sh_ok (s := ⟨0, 1, 0, 0⟩) (by exact ⟨⟨by decide, by decide⟩, ⟨by decide, by decide⟩, ⟨by decide, by decide⟩, by decide, by decide⟩) ha hb⟩, by omega, by omega, fun r2 r2u r2v H5 K5 er2 hr2u hr2v => ?_⟩
        replace hd := hd.same K5
        replace ho := ho.same K5
        replace ht := ht.same K5
        replace hp := hp.same K5
        replace hr1u := hr1u.same K5
        replace hr1v := hr1v.same K5
        replace er1 := K5 _ _ er1
        replace hf1 := hf1.same K5
        replace ez1 := K5 _ _ ez1
        replace ep1 := K5 _ _ ep1
        replace KT := KT.trans K5
        rw [sh_less] at hr2u
        replace hr2u : FmAt H5 r2u (shF ins.length m ans a b ⟨0, -1, 1, 0⟩) := hr2u
        rw [sh_less] at hr2v
        replace hr2v : FmAt H5 r2v (shF ins.length m ans a b ⟨0, 1, -1, 0⟩) := hr2v
        walk_at "v"
        refine ⟨oq, tq, shF ins.length m ans a b ⟨1, 0, 0, 0⟩, shF ins.length m ans a b ⟨0, 1, 0, 0⟩, ins.length, m, rfl, ⟨ho, sh_ok (s := ⟨1, 0, 0, 0⟩) (by exact ⟨⟨by decide, by decide⟩, ⟨by decide, by decide⟩, ⟨by decide, by decide⟩, by decide, by decide⟩) ha hb⟩, ⟨ht, sh_ok (s := ⟨0, 1, 0, 0⟩) (by exact ⟨⟨by decide, by decide⟩, ⟨by decide, by decide⟩, ⟨by decide, by decide⟩, by decide, by decide⟩) ha hb⟩, by omega, by omega, fun f2 H6 K6 hf2 => ?_⟩
        replace hd := hd.same K6
        replace ho := ho.same K6
        replace ht := ht.same K6
        replace hp := hp.same K6
        replace hr1u := hr1u.same K6
        replace hr1v := hr1v.same K6
        replace er1 := K6 _ _ er1
        replace hf1 := hf1.same K6
        replace ez1 := K6 _ _ ez1
        replace ep1 := K6 _ _ ep1
        replace hr2u := hr2u.same K6
        replace hr2v := hr2v.same K6
        replace er2 := K6 _ _ er2
        replace KT := KT.trans K6
        rw [sh_less] at hf2
        replace hf2 : FmAt H6 f2 (shF ins.length m ans a b ⟨1, -1, 0, 0⟩) := hf2
        walk_at "v"
        refine ⟨by show 1 ≤ sizeLine; decide, fun z2 hz2 => ?_⟩
        have K7 : Same H6 (upd H6 z2 (.tup [.ref f2])) := Same.new (Same.refl _) hz2
        have ez2 : upd H6 z2 (.tup [.ref f2]) z2 = some (.tup [.ref f2]) := upd_same
        generalize upd H6 z2 (.tup [.ref f2]) = H7 at K7 ez2 ⊢
        replace hd := hd.same K7
        replace ho := ho.same K7
        replace ht := ht.same K7
        replace hp := hp.same K7
        replace hr1u := hr1u.same K7
        replace hr1v := hr1v.same K7
        replace er1 := K7 _ _ er1
        replace hf1 := hf1.same K7
        replace ez1 := K7 _ _ ez1
        replace ep1 := K7 _ _ ep1
        replace hr2u := hr2u.same K7
        replace hr2v := hr2v.same K7
        replace er2 := K7 _ _ er2
        replace hf2 := hf2.same K7
        replace KT := KT.trans K7
        walk_at "v"
        refine ⟨r2, z2, _, _, rfl, rfl, er2, ez2, by simp, fun p2 H8 K8 ep2 => ?_⟩
        replace hd := hd.same K8
        replace ho := ho.same K8
        replace ht := ht.same K8
        replace hp := hp.same K8
        replace hr1u := hr1u.same K8
        replace hr1v := hr1v.same K8
        replace er1 := K8 _ _ er1
        replace hf1 := hf1.same K8
        replace ez1 := K8 _ _ ez1
        replace ep1 := K8 _ _ ep1
        replace hr2u := hr2u.same K8
        replace hr2v := hr2v.same K8
        replace er2 := K8 _ _ er2
        replace hf2 := hf2.same K8
        replace ez2 := K8 _ _ ez2
        replace KT := KT.trans K8
        replace ep2 : H8 p2 = some (.tup [.ref r2u, .ref r2v, .ref f2]) := ep2
        walk_at "v"
        refine ⟨by show 2 ≤ sizeLine; decide, fun rr hrr => ?_⟩
        have K9 : Same H8 (upd H8 rr (.tup [.ref p1, .ref p2])) := Same.new (Same.refl _) hrr
        have err : upd H8 rr (.tup [.ref p1, .ref p2]) rr = some (.tup [.ref p1, .ref p2]) := upd_same
        generalize upd H8 rr (.tup [.ref p1, .ref p2]) = H9 at K9 err ⊢
        replace hd := hd.same K9
        replace ho := ho.same K9
        replace ht := ht.same K9
        replace hp := hp.same K9
        replace hr1u := hr1u.same K9
        replace hr1v := hr1v.same K9
        replace er1 := K9 _ _ er1
        replace hf1 := hf1.same K9
        replace ez1 := K9 _ _ ez1
        replace ep1 := K9 _ _ ep1
        replace hr2u := hr2u.same K9
        replace hr2v := hr2v.same K9
        replace er2 := K9 _ _ er2
        replace hf2 := hf2.same K9
        replace ez2 := K9 _ _ ez2
        replace ep2 := K9 _ _ ep2
        replace KT := KT.trans K9
        exact k rr _ KT ⟨[p1, p2], err, ⟨⟨[r1u, r1v, f1], ep1, ⟨hr1u, hr1v, hf1, trivial⟩⟩, ⟨⟨[r2u, r2v, f2], ep2, ⟨hr2u, hr2v, hf2, trivial⟩⟩, trivial⟩⟩⟩
      walk_at "v"
      refine ⟨rfl, ?_⟩
      walk_at "v"
      refine iteD (fun hw => ?_) (fun h2 => ?_)
      · injection hw with hw
        subst hw
        walk_at "v"
        refine ⟨dq, oq, shF ins.length m ans a b ⟨0, 0, 1, 0⟩, shF ins.length m ans a b ⟨1, 0, 0, 0⟩, ins.length, m, rfl, ⟨hd, sh_ok (s := ⟨0, 0, 1, 0⟩) (by exact ⟨⟨by decide, by decide⟩, ⟨by decide, by decide⟩, ⟨by decide, by decide⟩, by decide, by decide⟩) ha hb⟩, ⟨ho, sh_ok (s := ⟨1, 0, 0, 0⟩) (by exact ⟨⟨by decide, by decide⟩, ⟨by decide, by decide⟩, ⟨by decide, by decide⟩, by decide, by decide⟩) ha hb⟩, by omega, by omega, fun r1 r1u r1v H1 K1 er1 hr1u hr1v => ?_⟩
        replace hd := hd.same K1
        replace ho := ho.same K1
        replace ht := ht.same K1
        replace hp := hp.same K1
        have KT := K1
        rw [sh_less] at hr1u
        replace hr1u : FmAt H1 r1u (shF ins.length m ans a b ⟨-1, 0, 1, 0⟩) := hr1u
        rw [sh_less] at hr1v
        replace hr1v : FmAt H1 r1v (shF ins.length m ans a b ⟨1, 0, -1, 0⟩) := hr1v
        walk_at "v"
        refine ⟨oq, tq, shF ins.length m ans a b ⟨1, 0, 0, 0⟩, shF ins.length m ans a b ⟨0, 1, 0, 0⟩, ins.length, m, rfl, ⟨ho, sh_ok (s := ⟨1, 0, 0, 0⟩) (by exact ⟨⟨by decide, by decide⟩, ⟨by decide, by decide⟩, ⟨by decide, by decide⟩, by decide, by decide⟩) ha hb⟩, ⟨ht, sh_ok (s := ⟨0, 1, 0, 0⟩) (by exact ⟨⟨by decide, by decide⟩, ⟨by decide, by decide⟩, ⟨by decide, by decide⟩, by decide, by decide⟩) ha hb⟩, by omega, by omega, fun f1 H2 K2 hf1 => ?_⟩
        replace hd := hd.same K2
        replace ho := ho.same K2
        replace ht := ht.same K2
        replace hp := hp.same K2
        replace hr1u := hr1u.same K2
        replace hr1v := hr1v.same K2
        replace er1 := K2 _ _ er1
        replace KT := KT.trans K2
        rw [sh_less] at hf1
        replace hf1 : FmAt H2 f1 (shF ins.length m ans a b ⟨1, -1, 0, 0⟩) := hf1
        walk_at "v"
        refine ⟨by show 1 ≤ sizeLine; decide, fun z1 hz1 => ?_⟩
        have K3 : Same H2 (upd H2 z1 (.tup [.ref f1])) := Same.new (Same.refl _) hz1
        have ez1 : upd H2 z1 (.tup [.ref f1]) z1 = some (.tup [.ref f1]) := upd_same
        generalize upd H2 z1 (.tup [.ref f1]) = H3 at K3 ez1 ⊢
        replace hd := hd.same K3
        replace ho := ho.same K3
        replace ht := ht.same K3
        replace hp := hp.same K3
        replace hr1u := hr1u.same K3
        replace hr1v := hr1v.same K3
        replace er1 := K3 _ _ er1
        replace hf1 := hf1.same K3
        replace KT := KT.trans K3
        walk_at "v"
        refine ⟨r1, z1, _, _, rfl, rfl, er1, ez1, by simp, fun p1 H4 K4 ep1 => ?_⟩
        replace hd := hd.same K4
        replace ho := ho.same K4
        replace ht := ht.same K4
        replace hp := hp.same K4
        replace hr1u := hr1u.same K4
        replace hr1v := hr1v.same K4
        replace er1 := K4 _ _ er1
        replace hf1 := hf1.same K4
        replace ez1 := K4 _ _ ez1
        replace KT := KT.trans K4
        replace ep1 : H4 p1 = some (.tup [.ref r1u, .ref r1v, .ref f1]) := ep1
        walk_at "v"
        refine ⟨dq, tq, shF ins.length m ans a b ⟨0, 0, 1, 0⟩, shF ins.length m ans a b ⟨0, 1, 0, 0⟩, ins.length, m, rfl, ⟨hd, sh_ok (s := ⟨0, 0, 1, 0⟩) (by exact ⟨⟨by decide, by decide⟩, ⟨by decide, by decide⟩, ⟨by decide, by decide⟩, by decide, by decide⟩) ha hb⟩, ⟨ht, sh_ok (s := ⟨0, 1, 0, 0⟩) (by exact ⟨⟨by decide, by decide⟩, ⟨by decide, by decide⟩, ⟨by decide, by decide⟩, by decide, by decide⟩) ha hb⟩, by omega, by omega, fun r2 r2u r2v H5 K5 er2 hr2u hr2v => ?_⟩
        replace hd := hd.same K5
        replace ho := ho.same K5
        replace ht := ht.same K5
        replace hp := hp.same K5
        replace hr1u := hr1u.same K5
        replace hr1v := hr1v.same K5
        replace er1 := K5 _ _ er1
        replace hf1 := hf1.same K5
        replace ez1 := K5 _ _ ez1
        replace ep1 := K5 _ _ ep1
        replace KT := KT.trans K5
        rw [sh_less] at hr2u
        replace hr2u : FmAt H5 r2u (shF ins.length m ans a b ⟨0, -1, 1, 0⟩) := hr2u
        rw [sh_less] at hr2v
        replace hr2v : FmAt H5 r2v (shF ins.length m ans a b ⟨0, 1, -1, 0⟩) := hr2v
        walk_at "v"
        refine ⟨tq, oq, shF ins.length m ans a b ⟨0, 1, 0, 0⟩, shF ins.length m ans a b ⟨1, 0, 0, 0⟩, ins.length, m, rfl, ⟨ht, sh_ok (s := ⟨0, 1, 0, 0⟩) (by exact ⟨⟨by decide, by decide⟩, ⟨by decide, by decide⟩, ⟨by decide, by decide⟩, by decide, by decide⟩) ha hb⟩, ⟨ho, sh_ok (s := ⟨1, 0, 0, 0⟩) (by exact ⟨⟨by decide, by decide⟩, ⟨by decide, by decide⟩, ⟨by decide, by decide⟩, by decide, by decide⟩) ha hb⟩, by omega, by omega, fun f2 H6 K6 hf2 => ?_⟩
        replace hd := hd.same K6
        replace ho := ho.same K6
        replace ht := ht.same K6
        replace hp := hp.same K6
        replace hr1u := hr1u.same K6
        replace hr1v := hr1v.same K6
        replace er1 := K6 _ _ er1
        replace hf1 := hf1.same K6
        replace ez1 := K6 _ _ ez1
        replace ep1 := K6 _ _ ep1
        replace hr2u := hr2u.same K6
        replace hr2v := hr2v.same K6
        replace er2 := K6 _ _ er2
        replace KT := KT.trans K6
        rw [sh_less] at hf2
        replace hf2 : FmAt H6 f2 (shF ins.length m ans a b ⟨-1, 1, 0, 0⟩) := hf2
        walk_at "v"
        refine ⟨by show 1 ≤ sizeLine; decide, fun z2 hz2 => ?_⟩
        have K7 : Same H6 (upd H6 z2 (.tup [.ref f2])) := Same.new (Same.refl _) hz2
        have ez2 : upd H6 z2 (.tup [.ref f2]) z2 = some (.tup [.ref f2]) := upd_same
        generalize upd H6 z2 (.tup [.ref f2]) = H7 at K7 ez2 ⊢
        replace hd := hd.same K7
        replace ho := ho.same K7
        replace ht := ht.same K7
        replace hp := hp.same K7
        replace hr1u := hr1u.same K7
        replace hr1v := hr1v.same K7
        replace er1 := K7 _ _ er1
        replace hf1 := hf1.same K7
        replace ez1 := K7 _ _ ez1
        replace ep1 := K7 _ _ ep1
        replace hr2u := hr2u.same K7
        replace hr2v := hr2v.same K7
        replace er2 := K7 _ _ er2
        replace hf2 := hf2.same K7
        replace KT := KT.trans K7
        walk_at "v"
        refine ⟨r2, z2, _, _, rfl, rfl, er2, ez2, by simp, fun p2 H8 K8 ep2 => ?_⟩
        replace hd := hd.same K8
        replace ho := ho.same K8
        replace ht := ht.same K8
        replace hp := hp.same K8
        replace hr1u := hr1u.same K8
        replace hr1v := hr1v.same K8
        replace er1 := K8 _ _ er1
        replace hf1 := hf1.same K8
        replace ez1 := K8 _ _ ez1
        replace ep1 := K8 _ _ ep1
        replace hr2u := hr2u.same K8
        replace hr2v := hr2v.same K8
        replace er2 := K8 _ _ er2
        replace hf2 := hf2.same K8
        replace ez2 := K8 _ _ ez2
        replace KT := KT.trans K8
        replace ep2 : H8 p2 = some (.tup [.ref r2u, .ref r2v, .ref f2]) := ep2
        walk_at "v"
        refine ⟨by show 2 ≤ sizeLine; decide, fun rr hrr => ?_⟩
        have K9 : Same H8 (upd H8 rr (.tup [.ref p1, .ref p2])) := Same.new (Same.refl _) hrr
        have err : upd H8 rr (.tup [.ref p1, .ref p2]) rr = some (.tup [.ref p1, .ref p2]) := upd_same
        generalize upd H8 rr (.tup [.ref p1, .ref p2]) = H9 at K9 err ⊢
        replace hd := hd.same K9
        replace ho := ho.same K9
        replace ht := ht.same K9
        replace hp := hp.same K9
        replace hr1u := hr1u.same K9
        replace hr1v := hr1v.same K9
        replace er1 := K9 _ _ er1
        replace hf1 := hf1.same K9
        replace ez1 := K9 _ _ ez1
        replace ep1 := K9 _ _ ep1
        replace hr2u := hr2u.same K9
        replace hr2v := hr2v.same K9
        replace er2 := K9 _ _ er2
        replace hf2 := hf2.same K9
        replace ez2 := K9 _ _ ez2
        replace ep2 := K9 _ _ ep2
        replace KT := KT.trans K9
        exact k rr _ KT ⟨[p1, p2], err, ⟨⟨[r1u, r1v, f1], ep1, ⟨hr1u, hr1v, hf1, trivial⟩⟩, ⟨⟨[r2u, r2v, f2], ep2, ⟨hr2u, hr2v, hf2, trivial⟩⟩, trivial⟩⟩⟩
      walk_at "v"
      refine ⟨p, ins, beg, m, 1, rfl, hp, fun n1 H1 K1 hn1 => ?_⟩
      replace hd := hd.same K1
      replace ho := ho.same K1
      replace ht := ht.same K1
      replace hp := hp.same K1
      have KT := K1
      rw [num_sh (ans := ans) (a := a) (b := b)] at hn1
      walk_at "v"
      refine ⟨dq, n1, shF ins.length m ans a b ⟨0, 0, 1, 0⟩, shF ins.length m ans a b ⟨0, 0, 0, 1⟩, ins.length, m, rfl, ⟨hd, sh_ok (s := ⟨0, 0, 1, 0⟩) (by exact ⟨⟨by decide, by decide⟩, ⟨by decide, by decide⟩, ⟨by decide, by decide⟩, by decide, by decide⟩) ha hb⟩, ⟨hn1, sh_ok (s := ⟨0, 0, 0, 1⟩) (by exact ⟨⟨by decide, by decide⟩, ⟨by decide, by decide⟩, ⟨by decide, by decide⟩, by decide, by decide⟩) ha hb⟩, by omega, by omega, fun ry ryu ryv H2 K2 ery hryu hryv => ?_⟩
      replace hd := hd.same K2
      replace ho := ho.same K2
      replace ht := ht.same K2
      replace hp := hp.same K2
      replace hn1 := hn1.same K2
      replace KT := KT.trans K2
      rw [sh_less] at hryu
      replace hryu : FmAt H2 ryu (shF ins.length m ans a b ⟨0, 0, 1, -1⟩) := hryu
      rw [sh_less] at hryv
      replace hryv : FmAt H2 ryv (shF ins.length m ans a b ⟨0, 0, -1, 1⟩) := hryv
      walk_at "v"
      refine ⟨p, ins, beg, m, 0, rfl, hp, fun n0 H3 K3 hn0 => ?_⟩
      replace hd := hd.same K3
      replace ho := ho.same K3
      replace ht := ht.same K3
      replace hp := hp.same K3
      replace hn1 := hn1.same K3
      replace hryu := hryu.same K3
      replace hryv := hryv.same K3
      replace ery := K3 _ _ ery
      replace KT := KT.trans K3
      rw [num_sh (ans := ans) (a := a) (b := b)] at hn0
      walk_at "v"
      refine ⟨dq, n0, shF ins.length m ans a b ⟨0, 0, 1, 0⟩, shF ins.length m ans a b ⟨0, 0, 0, 0⟩, ins.length, m, rfl, ⟨hd, sh_ok (s := ⟨0, 0, 1, 0⟩) (by exact ⟨⟨by decide, by decide⟩, ⟨by decide, by decide⟩, ⟨by decide, by decide⟩, by decide, by decide⟩) ha hb⟩, ⟨hn0, sh_ok (s := ⟨0, 0, 0, 0⟩) (by exact ⟨⟨by decide, by decide⟩, ⟨by decide, by decide⟩, ⟨by decide, by decide⟩, by decide, by decide⟩) ha hb⟩, by omega, by omega, fun rn rnu rnv H4 K4 ern hrnu hrnv => ?_⟩
      replace hd := hd.same K4
      replace ho := ho.same K4
      replace ht := ht.same K4
      replace hp := hp.same K4
      replace hn1 := hn1.same K4
      replace hryu := hryu.same K4
      replace hryv := hryv.same K4
      replace ery := K4 _ _ ery
      replace hn0 := hn0.same K4
      replace KT := KT.trans K4
      rw [sh_less] at hrnu
      replace hrnu : FmAt H4 rnu (shF ins.length m ans a b ⟨0, 0, 1, 0⟩) := hrnu
      rw [sh_less] at hrnv
      replace hrnv : FmAt H4 rnv (shF ins.length m ans a b ⟨0, 0, -1, 0⟩) := hrnv
      walk_at "v"
      refine ⟨oq, tq, shF ins.length m ans a b ⟨1, 0, 0, 0⟩, shF ins.length m ans a b ⟨0, 1, 0, 0⟩, ins.length, m, rfl, ⟨ho, sh_ok (s := ⟨1, 0, 0, 0⟩) (by exact ⟨⟨by decide, by decide⟩, ⟨by decide, by decide⟩, ⟨by decide, by decide⟩, by decide, by decide⟩) ha hb⟩, ⟨ht, sh_ok (s := ⟨0, 1, 0, 0⟩) (by exact ⟨⟨by decide, by decide⟩, ⟨by decide, by decide⟩, ⟨by decide, by decide⟩, by decide, by decide⟩) ha hb⟩, by omega, by omega, fun g1 H5 K5 hg1 => ?_⟩
      replace hd := hd.same K5
      replace ho := ho.same K5
      replace ht := ht.same K5
      replace hp := hp.same K5
      replace hn1 := hn1.same K5
      replace hryu := hryu.same K5
      replace hryv := hryv.same K5
      replace ery := K5 _ _ ery
      replace hn0 := hn0.same K5
      replace hrnu := hrnu.same K5
      replace hrnv := hrnv.same K5
      replace ern := K5 _ _ ern
      replace KT := KT.trans K5
      rw [sh_less] at hg1
      replace hg1 : FmAt H5 g1 (shF ins.length m ans a b ⟨1, -1, 0, 0⟩) := hg1
      walk_at "v"
      refine ⟨_, rfl, ?_⟩
      refine ⟨g1, shF ins.length m ans a b ⟨1, -1, 0, 0⟩, -1, rfl, hg1, fun ab H6 K6 hab => ?_⟩
      replace hd := hd.same K6
      replace ho := ho.same K6
      replace ht := ht.same K6
      replace hp := hp.same K6
      replace hn1 := hn1.same K6
      replace hryu := hryu.same K6
      replace hryv := hryv.same K6
      replace ery := K6 _ _ ery
      replace hn0 := hn0.same K6
      replace hrnu := hrnu.same K6
      replace hrnv := hrnv.same K6
      replace ern := K6 _ _ ern
      replace hg1 := hg1.same K6
      replace KT := KT.trans K6
      rw [sh_more] at hab
      replace hab : FmAt H6 ab (shF ins.length m ans a b ⟨1, -1, 0, -1⟩) := hab
      walk_at "v"
      refine ⟨rfl, ?_⟩
      walk_at "v"
      refine iteD (fun hw => ?_) (fun h3 => ?_)
      · injection hw with hw
        subst hw
        walk_at "v"
        refine ⟨by show 1 ≤ sizeLine; decide, fun z1 hz1 => ?_⟩
        have K7 : Same H6 (upd H6 z1 (.tup [.ref ab])) := Same.new (Same.refl _) hz1
        have ez1 : upd H6 z1 (.tup [.ref ab]) z1 = some (.tup [.ref ab]) := upd_same
        generalize upd H6 z1 (.tup [.ref ab]) = H7 at K7 ez1 ⊢
        replace hd := hd.same K7
        replace ho := ho.same K7
        replace ht := ht.same K7
        replace hp := hp.same K7
        replace hn1 := hn1.same K7
        replace hryu := hryu.same K7
        replace hryv := hryv.same K7
        replace ery := K7 _ _ ery
        replace hn0 := hn0.same K7
        replace hrnu := hrnu.same K7
        replace hrnv := hrnv.same K7
        replace ern := K7 _ _ ern
        replace hg1 := hg1.same K7
        replace hab := hab.same K7
        replace KT := KT.trans K7
        walk_at "v"
        refine ⟨ry, z1, _, _, rfl, rfl, ery, ez1, by simp, fun p1 H8 K8 ep1 => ?_⟩
        replace hd := hd.same K8
        replace ho := ho.same K8
        replace ht := ht.same K8
        replace hp := hp.same K8
        replace hn1 := hn1.same K8
        replace hryu := hryu.same K8
        replace hryv := hryv.same K8
        replace ery := K8 _ _ ery
        replace hn0 := hn0.same K8
        replace hrnu := hrnu.same K8
        replace hrnv := hrnv.same K8
        replace ern := K8 _ _ ern
        replace hg1 := hg1.same K8
        replace hab := hab.same K8
        replace ez1 := K8 _ _ ez1
        replace KT := KT.trans K8
        replace ep1 : H8 p1 = some (.tup [.ref ryu, .ref ryv, .ref ab]) := ep1
        walk_at "v"
        refine ⟨tq, oq, shF ins.length m ans a b ⟨0, 1, 0, 0⟩, shF ins.length m ans a b ⟨1, 0, 0, 0⟩, ins.length, m, rfl, ⟨ht, sh_ok (s := ⟨0, 1, 0, 0⟩) (by exact ⟨⟨by decide, by decide⟩, ⟨by decide, by decide⟩, ⟨by decide, by decide⟩, by decide, by decide⟩) ha hb⟩, ⟨ho, sh_ok (s := ⟨1, 0, 0, 0⟩) (by exact ⟨⟨by decide, by decide⟩, ⟨by decide, by decide⟩, ⟨by decide, by decide⟩, by decide, by decide⟩) ha hb⟩, by omega, by omega, fun f2 H9 K9 hf2 => ?_⟩
        replace hd := hd.same K9
        replace ho := ho.same K9
        replace ht := ht.same K9
        replace hp := hp.same K9
        replace hn1 := hn1.same K9
        replace hryu := hryu.same K9
        replace hryv := hryv.same K9
        replace ery := K9 _ _ ery
        replace hn0 := hn0.same K9
        replace hrnu := hrnu.same K9
        replace hrnv := hrnv.same K9
        replace ern := K9 _ _ ern
        replace hg1 := hg1.same K9
        replace hab := hab.same K9
        replace ez1 := K9 _ _ ez1
        replace ep1 := K9 _ _ ep1
        replace KT := KT.trans K9
        rw [sh_less] at hf2
        replace hf2 : FmAt H9 f2 (shF ins.length m ans a b ⟨-1, 1, 0, 0⟩) := hf2
        walk_at "v"
        refine ⟨by show 1 ≤ sizeLine; decide, fun z2 hz2 => ?_⟩
        have K10 : Same H9 (upd H9 z2 (.tup [.ref f2])) := Same.new (Same.refl _) hz2
        have ez2 : upd H9 z2 (.tup [.ref f2]) z2 = some (.tup [.ref f2]) := upd_same
        generalize upd H9 z2 (.tup [.ref f2]) = H10 at K10 ez2 ⊢
        replace hd := hd.same K10
        replace ho := ho.same K10
        replace ht := ht.same K10
        replace hp := hp.same K10
        replace hn1 := hn1.same K10
        replace hryu := hryu.same K10
        replace hryv := hryv.same K10
        replace ery := K10 _ _ ery
        replace hn0 := hn0.same K10
        replace hrnu := hrnu.same K10
        replace hrnv := hrnv.same K10
        replace ern := K10 _ _ ern
        replace hg1 := hg1.same K10
        replace hab := hab.same K10
        replace ez1 := K10 _ _ ez1
        replace ep1 := K10 _ _ ep1
        replace hf2 := hf2.same K10
        replace KT := KT.trans K10
        walk_at "v"
        refine ⟨rn, z2, _, _, rfl, rfl, ern, ez2, by simp, fun p2 H11 K11 ep2 => ?_⟩
        replace hd := hd.same K11
        replace ho := ho.same K11
        replace ht := ht.same K11
        replace hp := hp.same K11
        replace hn1 := hn1.same K11
        replace hryu := hryu.same K11
        replace hryv := hryv.same K11
        replace ery := K11 _ _ ery
        replace hn0 := hn0.same K11
        replace hrnu := hrnu.same K11
        replace hrnv := hrnv.same K11
        replace ern := K11 _ _ ern
        replace hg1 := hg1.same K11
        replace hab := hab.same K11
        replace ez1 := K11 _ _ ez1
        replace ep1 := K11 _ _ ep1
        replace hf2 := hf2.same K11
        replace ez2 := K11 _ _ ez2
        replace KT := KT.trans K11
        replace ep2 : H11 p2 = some (.tup [.ref rnu, .ref rnv, .ref f2]) := ep2
        walk_at "v"
        refine ⟨by show 2 ≤ sizeLine; decide, fun rr hrr => ?_⟩
        have K12 : Same H11 (upd H11 rr (.tup [.ref p1, .ref p2])) := Same.new (Same.refl _) hrr
        have err : upd H11 rr (.tup [.ref p1, .ref p2]) rr = some (.tup [.ref p1, .ref p2]) := upd_same
        generalize upd H11 rr (.tup [.ref p1, .ref p2]) = H12 at K12 err ⊢
        replace hd := hd.same K12
        replace ho := ho.same K12
        replace ht := ht.same K12
        replace hp := hp.same K12
        replace hn1 := hn1.same K12
        replace hryu := hryu.same K12
        replace hryv := hryv.same K12
        replace ery := K12 _ _ ery
        replace hn0 := hn0.same K12
        replace hrnu := hrnu.same K12
        replace hrnv := hrnv.same K12
        replace ern := K12 _ _ ern
        replace hg1 := hg1.same K12
        replace hab := hab.same K12
        replace ez1 := K12 _ _ ez1
        replace ep1 := K12 _ _ ep1
        replace hf2 := hf2.same K12
        replace ez2 := K12 _ _ ez2
        replace ep2 := K12 _ _ ep2
        replace KT := KT.trans K12
        exact k rr _ KT ⟨[p1, p2], err, ⟨⟨[ryu, ryv, ab], ep1, ⟨hryu, hryv, hab, trivial⟩⟩, ⟨⟨[rnu, rnv, f2], ep2, ⟨hrnu, hrnv, hf2, trivial⟩⟩, trivial⟩⟩⟩
      · have hws : w = "same" := by
          rcases hw4 with h | h | h | h
          · exact absurd (congrArg V.str h) h1
          · exact absurd (congrArg V.str h) h2
          · exact absurd (congrArg V.str h) h3
          · exact h
        subst hws
        walk_at "v"
        refine ⟨tq, oq, shF ins.length m ans a b ⟨0, 1, 0, 0⟩, shF ins.length m ans a b ⟨1, 0, 0, 0⟩, ins.length, m, rfl, ⟨ht, sh_ok (s := ⟨0, 1, 0, 0⟩) (by exact ⟨⟨by decide, by decide⟩, ⟨by decide, by decide⟩, ⟨by decide, by decide⟩, by decide, by decide⟩) ha hb⟩, ⟨ho, sh_ok (s := ⟨1, 0, 0, 0⟩) (by exact ⟨⟨by decide, by decide⟩, ⟨by decide, by decide⟩, ⟨by decide, by decide⟩, by decide, by decide⟩) ha hb⟩, by omega, by omega, fun g2 H7 K7 hg2 => ?_⟩
        replace hd := hd.same K7
        replace ho := ho.same K7
        replace ht := ht.same K7
        replace hp := hp.same K7
        replace hn1 := hn1.same K7
        replace hryu := hryu.same K7
        replace hryv := hryv.same K7
        replace ery := K7 _ _ ery
        replace hn0 := hn0.same K7
        replace hrnu := hrnu.same K7
        replace hrnv := hrnv.same K7
        replace ern := K7 _ _ ern
        replace hg1 := hg1.same K7
        replace hab := hab.same K7
        replace KT := KT.trans K7
        rw [sh_less] at hg2
        replace hg2 : FmAt H7 g2 (shF ins.length m ans a b ⟨-1, 1, 0, 0⟩) := hg2
        walk_at "v"
        refine ⟨_, rfl, ?_⟩
        refine ⟨g2, shF ins.length m ans a b ⟨-1, 1, 0, 0⟩, -1, rfl, hg2, fun be H8 K8 hbe => ?_⟩
        replace hd := hd.same K8
        replace ho := ho.same K8
        replace ht := ht.same K8
        replace hp := hp.same K8
        replace hn1 := hn1.same K8
        replace hryu := hryu.same K8
        replace hryv := hryv.same K8
        replace ery := K8 _ _ ery
        replace hn0 := hn0.same K8
        replace hrnu := hrnu.same K8
        replace hrnv := hrnv.same K8
        replace ern := K8 _ _ ern
        replace hg1 := hg1.same K8
        replace hab := hab.same K8
        replace hg2 := hg2.same K8
        replace KT := KT.trans K8
        rw [sh_more] at hbe
        replace hbe : FmAt H8 be (shF ins.length m ans a b ⟨-1, 1, 0, -1⟩) := hbe
        walk_at "v"
        refine ⟨oq, tq, shF ins.length m ans a b ⟨1, 0, 0, 0⟩, shF ins.length m ans a b ⟨0, 1, 0, 0⟩, ins.length, m, rfl, ⟨ho, sh_ok (s := ⟨1, 0, 0, 0⟩) (by exact ⟨⟨by decide, by decide⟩, ⟨by decide, by decide⟩, ⟨by decide, by decide⟩, by decide, by decide⟩) ha hb⟩, ⟨ht, sh_ok (s := ⟨0, 1, 0, 0⟩) (by exact ⟨⟨by decide, by decide⟩, ⟨by decide, by decide⟩, ⟨by decide, by decide⟩, by decide, by decide⟩) ha hb⟩, by omega, by omega, fun rb rbu rbv H9 K9 erb hrbu hrbv => ?_⟩
        replace hd := hd.same K9
        replace ho := ho.same K9
        replace ht := ht.same K9
        replace hp := hp.same K9
        replace hn1 := hn1.same K9
        replace hryu := hryu.same K9
        replace hryv := hryv.same K9
        replace ery := K9 _ _ ery
        replace hn0 := hn0.same K9
        replace hrnu := hrnu.same K9
        replace hrnv := hrnv.same K9
        replace ern := K9 _ _ ern
        replace hg1 := hg1.same K9
        replace hab := hab.same K9
        replace hg2 := hg2.same K9
        replace hbe := hbe.same K9
        replace KT := KT.trans K9
        rw [sh_less] at hrbu
        replace hrbu : FmAt H9 rbu (shF ins.length m ans a b ⟨1, -1, 0, 0⟩) := hrbu
        rw [sh_less] at hrbv
        replace hrbv : FmAt H9 rbv (shF ins.length m ans a b ⟨-1, 1, 0, 0⟩) := hrbv
        walk_at "v"
        refine ⟨ry, rb, _, _, rfl, rfl, ery, erb, by simp, fun p1 H10 K10 ep1 => ?_⟩
        replace hd := hd.same K10
        replace ho := ho.same K10
        replace ht := ht.same K10
        replace hp := hp.same K10
        replace hn1 := hn1.same K10
        replace hryu := hryu.same K10
        replace hryv := hryv.same K10
        replace ery := K10 _ _ ery
        replace hn0 := hn0.same K10
        replace hrnu := hrnu.same K10
        replace hrnv := hrnv.same K10
        replace ern := K10 _ _ ern
        replace hg1 := hg1.same K10
        replace hab := hab.same K10
        replace hg2 := hg2.same K10
        replace hbe := hbe.same K10
        replace hrbu := hrbu.same K10
        replace hrbv := hrbv.same K10
        replace erb := K10 _ _ erb
        replace KT := KT.trans K10
        replace ep1 : H10 p1 = some (.tup [.ref ryu, .ref ryv, .ref rbu, .ref rbv]) := ep1
        walk_at "v"
        refine ⟨by show 1 ≤ sizeLine; decide, fun z1 hz1 => ?_⟩
        have K11 : Same H10 (upd H10 z1 (.tup [.ref ab])) := Same.new (Same.refl _) hz1
        have ez1 : upd H10 z1 (.tup [.ref ab]) z1 = some (.tup [.ref ab]) := upd_same
        generalize upd H10 z1 (.tup [.ref ab]) = H11 at K11 ez1 ⊢
        replace hd := hd.same K11
        replace ho := ho.same K11
        replace ht := ht.same K11
        replace hp := hp.same K11
        replace hn1 := hn1.same K11
        replace hryu := hryu.same K11
        replace hryv := hryv.same K11
        replace ery := K11 _ _ ery
        replace hn0 := hn0.same K11
        replace hrnu := hrnu.same K11
        replace hrnv := hrnv.same K11
        replace ern := K11 _ _ ern
        replace hg1 := hg1.same K11
        replace hab := hab.same K11
        replace hg2 := hg2.same K11
        replace hbe := hbe.same K11
        replace hrbu := hrbu.same K11
        replace hrbv := hrbv.same K11
        replace erb := K11 _ _ erb
        replace ep1 := K11 _ _ ep1
        replace KT := KT.trans K11
        walk_at "v"
        refine ⟨rn, z1, _, _, rfl, rfl, ern, ez1, by simp, fun p2 H12 K12 ep2 => ?_⟩
        replace hd := hd.same K12
        replace ho := ho.same K12
        replace ht := ht.same K12
        replace hp := hp.same K12
        replace hn1 := hn1.same K12
        replace hryu := hryu.same K12
        replace hryv := hryv.same K12
        replace ery := K12 _ _ ery
        replace hn0 := hn0.same K12
        replace hrnu := hrnu.same K12
        replace hrnv := hrnv.same K12
        replace ern := K12 _ _ ern
        replace hg1 := hg1.same K12
        replace hab := hab.same K12
        replace hg2 := hg2.same K12
        replace hbe := hbe.same K12
        replace hrbu := hrbu.same K12
        replace hrbv := hrbv.same K12
        replace erb := K12 _ _ erb
        replace ep1 := K12 _ _ ep1
        replace ez1 := K12 _ _ ez1
        replace KT := KT.trans K12
        replace ep2 : H12 p2 = some (.tup [.ref rnu, .ref rnv, .ref ab]) := ep2
        walk_at "v"
        refine ⟨by show 1 ≤ sizeLine; decide, fun z2 hz2 => ?_⟩
        have K13 : Same H12 (upd H12 z2 (.tup [.ref be])) := Same.new (Same.refl _) hz2
        have ez2 : upd H12 z2 (.tup [.ref be]) z2 = some (.tup [.ref be]) := upd_same
        generalize upd H12 z2 (.tup [.ref be]) = H13 at K13 ez2 ⊢
        replace hd := hd.same K13
        replace ho := ho.same K13
        replace ht := ht.same K13
        replace hp := hp.same K13
        replace hn1 := hn1.same K13
        replace hryu := hryu.same K13
        replace hryv := hryv.same K13
        replace ery := K13 _ _ ery
        replace hn0 := hn0.same K13
        replace hrnu := hrnu.same K13
        replace hrnv := hrnv.same K13
        replace ern := K13 _ _ ern
        replace hg1 := hg1.same K13
        replace hab := hab.same K13
        replace hg2 := hg2.same K13
        replace hbe := hbe.same K13
        replace hrbu := hrbu.same K13
        replace hrbv := hrbv.same K13
        replace erb := K13 _ _ erb
        replace ep1 := K13 _ _ ep1
        replace ez1 := K13 _ _ ez1
        replace ep2 := K13 _ _ ep2
        replace KT := KT.trans K13
        walk_at "v"
        refine ⟨rn, z2, _, _, rfl, rfl, ern, ez2, by simp, fun p3 H14 K14 ep3 => ?_⟩
        replace hd := hd.same K14
        replace ho := ho.same K14
        replace ht := ht.same K14
        replace hp := hp.same K14
        replace hn1 := hn1.same K14
        replace hryu := hryu.same K14
        replace hryv := hryv.same K14
        replace ery := K14 _ _ ery
        replace hn0 := hn0.same K14
        replace hrnu := hrnu.same K14
        replace hrnv := hrnv.same K14
        replace ern := K14 _ _ ern
        replace hg1 := hg1.same K14
        replace hab := hab.same K14
        replace hg2 := hg2.same K14
        replace hbe := hbe.same K14
        replace hrbu := hrbu.same K14
        replace hrbv := hrbv.same K14
        replace erb := K14 _ _ erb
        replace ep1 := K14 _ _ ep1
        replace ez1 := K14 _ _ ez1
        replace ep2 := K14 _ _ ep2
        replace ez2 := K14 _ _ ez2
        replace KT := KT.trans K14
        replace ep3 : H14 p3 = some (.tup [.ref rnu, .ref rnv, .ref be]) := ep3
        walk_at "v"
        refine ⟨by show 3 ≤ sizeLine; decide, fun rr hrr => ?_⟩
        have K15 : Same H14 (upd H14 rr (.tup [.ref p1, .ref p2, .ref p3])) := Same.new (Same.refl _) hrr
        have err : upd H14 rr (.tup [.ref p1, .ref p2, .ref p3]) rr = some (.tup [.ref p1, .ref p2, .ref p3]) := upd_same
        generalize upd H14 rr (.tup [.ref p1, .ref p2, .ref p3]) = H15 at K15 err ⊢
        replace hd := hd.same K15
        replace ho := ho.same K15
        replace ht := ht.same K15
        replace hp := hp.same K15
        replace hn1 := hn1.same K15
        replace hryu := hryu.same K15
        replace hryv := hryv.same K15
        replace ery := K15 _ _ ery
        replace hn0 := hn0.same K15
        replace hrnu := hrnu.same K15
        replace hrnv := hrnv.same K15
        replace ern := K15 _ _ ern
        replace hg1 := hg1.same K15
        replace hab := hab.same K15
        replace hg2 := hg2.same K15
        replace hbe := hbe.same K15
        replace hrbu := hrbu.same K15
        replace hrbv := hrbv.same K15
        replace erb := K15 _ _ erb
        replace ep1 := K15 _ _ ep1
        replace ez1 := K15 _ _ ez1
        replace ep2 := K15 _ _ ep2
        replace ez2 := K15 _ _ ez2
        replace ep3 := K15 _ _ ep3
        replace KT := KT.trans K15
        exact k rr _ KT ⟨[p1, p2, p3], err, ⟨⟨[ryu, ryv, rbu, rbv], ep1, ⟨hryu, hryv, hrbu, hrbv, trivial⟩⟩, ⟨⟨[rnu, rnv, ab], ep2, ⟨hrnu, hrnv, hab, trivial⟩⟩, ⟨⟨[rnu, rnv, be], ep3, ⟨hrnu, hrnv, hbe, trivial⟩⟩, trivial⟩⟩⟩⟩
set_option maxHeartbeats 4000000 in
theorem ok_Pof {f : Addr} {fd : FuncData} (B : Blt3 mg) (fB : Has P w K mg base 3 "both_ways" ["one", "other"] spBoth) (fL : Has P w K mg base 2 "less" ["one", "other"] spLess) (fM : Has P w K mg base 1 "and_more" ["form", "number"] spMore) (fD : Has P w K mg base 2 "form_of_drops" ["pot", "sort"] (spFm drpF)) (fI : Has P w K mg base 2 "form_of_line" ["pot", "line"] spLinF) (fO : Has P w K mg base 1 "so_often" ["form", "times"] spOften) (fT : Has P w K mg base 4 "pieces_of_two" ["pot", "word", "drops", "one", "other"] spTwo) (F : Fun K "pieces_of" "pieces_of" sPof f fd) : FnOk P w K mg base CX0 5 f fd ["pot", "ask"] spPof := by
  refine F.ok scPof (fun vs H Q E h => ?_) (fun cdv A outer s H vs Q E hr h => ?_)
  · obtain ⟨p, q, ins, beg, m, ans, A, rfl, _⟩ := h
    rfl
  · obtain ⟨p, q, ins, beg, m, ans, A, rfl, hpA, hq, hok, k⟩ := h
    refine' ⟨_, ?hb, ?rd⟩
    case hb =>
      refine' pss_cons ?s1 ?r1
      case' r1 => refine' pss_cons ?s2 ?r2
      case' r2 => refine' pss_cons ?s3 ?r3
      case' r3 => refine' pss_cons ?s4 ?r4
      case' r4 => refine' pss_one ?s5
      case s1 => exact ps_setD nmPof 2 (pe_f fD hr (by decide) (pa_2 (pvd nmPof 0) (pe_ix ix_d (pvd nmPof 0) (pe_k B.anK) (fun _ _ => rfl))))
      case s2 => exact ps_setD nmPof 3 (pe_f fI hr (by decide) (pa_2 (pvd nmPof 0) (pe_ix ix_d (pvd nmPof 1) pe_int (fun _ _ => rfl))))
      case s3 =>
        refine' ps_if (pt_cmpR op_eq (pe_ix ix_d (pvd nmPof 1) pe_int (fun _ _ => rfl)) pe_str (nomark _)) ?b1 pss_nil
        case' b1 => refine' pss_one ?b2
        case b2 => exact ps_ret (pe_tup (pa_1 (pe_f fB hr (by decide) (pa_2 (pvd nmPof 2) (pvd nmPof 3)))))
      case s4 =>
        refine' ps_if (pt_cmpR op_eq (pe_ix ix_d (pvd nmPof 1) pe_int (fun _ _ => rfl)) pe_str (nomark _)) ?c1 pss_nil
        case' c1 => refine' pss_cons ?c2 ?c3
        case c2 => exact ps_setD nmPof 4 (pe_f fO hr (by decide) (pa_2 (pvd nmPof 2) (pe_ix ix_d (pvd nmPof 1) pe_int (fun _ _ => rfl))))
        case' c3 => refine' pss_one ?c4
        case' c4 => refine' ps_ret ?c5
        case' c5 => refine' pe_tup ?c6
        case' c6 => refine' pa_1 ?c7
        case' c7 => refine' pe_tup ?c8
        case' c8 => refine' pa_2 (pe_f fL hr (by decide) (pa_2 (pvd nmPof 3) (pvd nmPof 4))) ?c9
        case c9 => exact pe_f fM hr (by decide) (pa_2 (pe_f fL hr (by decide) (pa_2 (pvd nmPof 4) (pvd nmPof 3))) (pe_op op_sub (pe_ix ix_d (pvd nmPof 1) pe_int (fun _ _ => rfl)) pe_int))
      case s5 =>
        refine' ps_ret ?d1
        case' d1 => refine' pe_f fT hr (by decide) ?d2
        case' d2 => refine' pa_c (pvd nmPof 0) ?d3
        case' d3 => refine' pa_c (pe_ix ix_d (pvd nmPof 1) pe_int (fun _ _ => rfl)) ?d4
        case' d4 => refine' pa_c (pvd nmPof 2) ?d5
        case' d5 => refine' pa_2 (pvd nmPof 3) ?d6
        case d6 => exact pe_f fI hr (by decide) (pa_2 (pvd nmPof 0) (pe_ix ix_d (pvd nmPof 1) pe_int (fun _ _ => rfl)))
    case rd =>
      have hp := hpA.toPt
      obtain ⟨ps, pr, pin, pb, hpa⟩ := hpA.an
      have m8 := hp.m8
      have i3 := hp.i3
      cases A with
      | sum a =>
        obtain ⟨l, h1, h2⟩ := hq
        have ha : a.ok ins.length := hok
        have hb := zero_ok ins.length
        generalize hbb : (⟨List.replicate ins.length 0, 0⟩ : Ln) = b at hb
        replace k : ∀ r H', Same H H' → PcsAt H' r ((shapes (.sum a)).map fun l => l.map (shF ins.length m ans a b)) → Q (.ref r) H' := by rw [← hbb]; exact k
        walk_at "v"
        refine w_ixT hpa rfl ?_
        walk_at "v"
        refine ⟨p, ins, beg, m, ans, rfl, hp, fun dq H1 K1 hd => ?_⟩
        replace hp := hp.same K1
        replace hpa := K1 _ _ hpa
        replace h1 := K1 _ _ h1
        replace h2 := h2.tk (TK.same K1)
        have KT := K1
        rw [drp_sh (a := a) (b := b)] at hd
        walk_at "v"
        refine w_ixT h1 rfl ?_
        walk_at "v"
        refine ⟨p, l, ins, beg, m, a, rfl, hp, h2, fun oq H2 K2 ho => ?_⟩
        replace hp := hp.same K2
        replace hpa := K2 _ _ hpa
        replace h1 := K2 _ _ h1
        replace h2 := h2.tk (TK.same K2)
        replace hd := hd.same K2
        replace KT := KT.trans K2
        rw [lin_sh1 (ans := ans) (b := b) ha] at ho
        walk_at "v"
        refine w_ixT h1 rfl ?_
        walk_at "v"
        refine ⟨rfl, ?_⟩
        walk_at "v"
        refine iteTk rfl ?_
        walk_at "v"
        refine ⟨dq, oq, shF ins.length m ans a b ⟨0, 0, 1, 0⟩, shF ins.length m ans a b ⟨1, 0, 0, 0⟩, ins.length, m, rfl, ⟨hd, sh_ok (s := ⟨0, 0, 1, 0⟩) (by exact ⟨⟨by decide, by decide⟩, ⟨by decide, by decide⟩, ⟨by decide, by decide⟩, by decide, by decide⟩) ha hb⟩, ⟨ho, sh_ok (s := ⟨1, 0, 0, 0⟩) (by exact ⟨⟨by decide, by decide⟩, ⟨by decide, by decide⟩, ⟨by decide, by decide⟩, by decide, by decide⟩) ha hb⟩, by omega, by omega, fun r1 r1u r1v H3 K3 er1 hr1u hr1v => ?_⟩
        replace hp := hp.same K3
        replace hpa := K3 _ _ hpa
        replace h1 := K3 _ _ h1
        replace h2 := h2.tk (TK.same K3)
        replace hd := hd.same K3
        replace ho := ho.same K3
        replace KT := KT.trans K3
        rw [sh_less] at hr1u
        replace hr1u : FmAt H3 r1u (shF ins.length m ans a b ⟨-1, 0, 1, 0⟩) := hr1u
        rw [sh_less] at hr1v
        replace hr1v : FmAt H3 r1v (shF ins.length m ans a b ⟨1, 0, -1, 0⟩) := hr1v
        walk_at "v"
        refine ⟨by show 1 ≤ sizeLine; decide, fun rr hrr => ?_⟩
        have K4 : Same H3 (upd H3 rr (.tup [.ref r1])) := Same.new (Same.refl _) hrr
        have err : upd H3 rr (.tup [.ref r1]) rr = some (.tup [.ref r1]) := upd_same
        generalize upd H3 rr (.tup [.ref r1]) = H4 at K4 err ⊢
        replace hp := hp.same K4
        replace hpa := K4 _ _ hpa
        replace h1 := K4 _ _ h1
        replace h2 := h2.tk (TK.same K4)
        replace hd := hd.same K4
        replace ho := ho.same K4
        replace hr1u := hr1u.same K4
        replace hr1v := hr1v.same K4
        replace er1 := K4 _ _ er1
        replace KT := KT.trans K4
        exact k rr _ KT ⟨[r1], err, ⟨⟨[r1u, r1v], er1, ⟨hr1u, hr1v, trivial⟩⟩, trivial⟩⟩
      | part a c =>
        obtain ⟨l, h1, h2⟩ := hq
        obtain ⟨ha, c2, c9⟩ := hok
        have hb := zero_ok ins.length
        generalize hbb : (⟨List.replicate ins.length 0, 0⟩ : Ln) = b at hb
        replace k : ∀ r H', Same H H' → PcsAt H' r ((shapes (.part a c)).map fun l => l.map (shF ins.length m ans a b)) → Q (.ref r) H' := by rw [← hbb]; exact k
        walk_at "v"
        refine w_ixT hpa rfl ?_
        walk_at "v"
        refine ⟨p, ins, beg, m, ans, rfl, hp, fun dq H1 K1 hd => ?_⟩
        replace hp := hp.same K1
        replace hpa := K1 _ _ hpa
        replace h1 := K1 _ _ h1
        replace h2 := h2.tk (TK.same K1)
        have KT := K1
        rw [drp_sh (a := a) (b := b)] at hd
        walk_at "v"
        refine w_ixT h1 rfl ?_
        walk_at "v"
        refine ⟨p, l, ins, beg, m, a, rfl, hp, h2, fun oq H2 K2 ho => ?_⟩
        replace hp := hp.same K2
        replace hpa := K2 _ _ hpa
        replace h1 := K2 _ _ h1
        replace h2 := h2.tk (TK.same K2)
        replace hd := hd.same K2
        replace KT := KT.trans K2
        rw [lin_sh1 (ans := ans) (b := b) ha] at ho
        walk_at "v"
        refine w_ixT h1 rfl ?_
        walk_at "v"
        refine ⟨rfl, ?_⟩
        walk_at "v"
        refine iteFk (by decide) ?_
        walk_at "v"
        refine w_ixT h1 rfl ?_
        walk_at "v"
        refine ⟨rfl, ?_⟩
        walk_at "v"
        refine iteTk rfl ?_
        walk_at "v"
        refine w_ixT h1 rfl ?_
        walk_at "v"
        have fok := fm_mul (c := c) (sh_ok (ans := ans) (m := m) (s := ⟨0, 0, 1, 0⟩) (by exact ⟨⟨by decide, by decide⟩, ⟨by decide, by decide⟩, ⟨by decide, by decide⟩, by decide, by decide⟩) ha hb) ⟨by omega, by omega⟩
        refine ⟨dq, shF ins.length m ans a b ⟨0, 0, 1, 0⟩, c, rfl, hd, by simp [shF]; omega, by simp [shF]; omega, fok.1, fok.2.1, fok.2.2, fun pq H3 K3 hpq => ?_⟩
        replace hp := hp.same K3
        replace hpa := K3 _ _ hpa
        replace h1 := K3 _ _ h1
        replace h2 := h2.tk (TK.same K3)
        replace hd := hd.same K3
        replace ho := ho.same K3
        replace KT := KT.trans K3
        rw [sh_oft, Int.mul_zero, Int.mul_one] at hpq
        walk_at "v"
        refine ⟨oq, pq, shF ins.length m ans a b ⟨1, 0, 0, 0⟩, shF ins.length m ans a b ⟨0, 0, c, 0⟩, ins.length, m, rfl, ⟨ho, sh_ok (s := ⟨1, 0, 0, 0⟩) (by exact ⟨⟨by decide, by decide⟩, ⟨by decide, by decide⟩, ⟨by decide, by decide⟩, by decide, by decide⟩) ha hb⟩, ⟨hpq, sh_ok (s := ⟨0, 0, c, 0⟩) (by exact smC c2 c9) ha hb⟩, by omega, by omega, fun f1 H5 K5 hf1 => ?_⟩
        replace hp := hp.same K5
        replace hpa := K5 _ _ hpa
        replace h1 := K5 _ _ h1
        replace h2 := h2.tk (TK.same K5)
        replace hd := hd.same K5
        replace ho := ho.same K5
        replace hpq := hpq.same K5
        replace KT := KT.trans K5
        rw [sh_less] at hf1
        replace hf1 : FmAt H5 f1 (shF ins.length m ans a b ⟨1, 0, -c, 0⟩) := by have z := hf1; rw [show (0 : Int) - c = -c by omega] at z; exact z
        walk_at "v"
        refine ⟨pq, oq, shF ins.length m ans a b ⟨0, 0, c, 0⟩, shF ins.length m ans a b ⟨1, 0, 0, 0⟩, ins.length, m, rfl, ⟨hpq, sh_ok (s := ⟨0, 0, c, 0⟩) (by exact smC c2 c9) ha hb⟩, ⟨ho, sh_ok (s := ⟨1, 0, 0, 0⟩) (by exact ⟨⟨by decide, by decide⟩, ⟨by decide, by decide⟩, ⟨by decide, by decide⟩, by decide, by decide⟩) ha hb⟩, by omega, by omega, fun f2 H6 K6 hf2 => ?_⟩
        replace hp := hp.same K6
        replace hpa := K6 _ _ hpa
        replace h1 := K6 _ _ h1
        replace h2 := h2.tk (TK.same K6)
        replace hd := hd.same K6
        replace ho := ho.same K6
        replace hpq := hpq.same K6
        replace hf1 := hf1.same K6
        replace KT := KT.trans K6
        rw [sh_less] at hf2
        replace hf2 : FmAt H6 f2 (shF ins.length m ans a b ⟨-1, 0, c, 0⟩) := by have z := hf2; rw [show c - (0 : Int) = c by omega] at z; exact z
        walk_at "v"
        refine w_ixT h1 rfl ?_
        walk_at "v"
        refine ⟨f2, shF ins.length m ans a b ⟨-1, 0, c, 0⟩, c - 1, rfl, hf2, fun f3 H7 K7 hf3 => ?_⟩
        replace hp := hp.same K7
        replace hpa := K7 _ _ hpa
        replace h1 := K7 _ _ h1
        replace h2 := h2.tk (TK.same K7)
        replace hd := hd.same K7
        replace ho := ho.same K7
        replace hpq := hpq.same K7
        replace hf1 := hf1.same K7
        replace hf2 := hf2.same K7
        replace KT := KT.trans K7
        rw [sh_more, Int.zero_add] at hf3
        walk_at "v"
        refine ⟨by show 2 ≤ sizeLine; decide, fun r1 hr1 => ?_⟩
        have K8 : Same H7 (upd H7 r1 (.tup [.ref f1, .ref f3])) := Same.new (Same.refl _) hr1
        have er1 : upd H7 r1 (.tup [.ref f1, .ref f3]) r1 = some (.tup [.ref f1, .ref f3]) := upd_same
        generalize upd H7 r1 (.tup [.ref f1, .ref f3]) = H8 at K8 er1 ⊢
        replace hp := hp.same K8
        replace hpa := K8 _ _ hpa
        replace h1 := K8 _ _ h1
        replace h2 := h2.tk (TK.same K8)
        replace hd := hd.same K8
        replace ho := ho.same K8
        replace hpq := hpq.same K8
        replace hf1 := hf1.same K8
        replace hf2 := hf2.same K8
        replace hf3 := hf3.same K8
        replace KT := KT.trans K8
        walk_at "v"
        refine ⟨by show 1 ≤ sizeLine; decide, fun rr hrr => ?_⟩
        have K9 : Same H8 (upd H8 rr (.tup [.ref r1])) := Same.new (Same.refl _) hrr
        have err : upd H8 rr (.tup [.ref r1]) rr = some (.tup [.ref r1]) := upd_same
        generalize upd H8 rr (.tup [.ref r1]) = H9 at K9 err ⊢
        replace hp := hp.same K9
        replace hpa := K9 _ _ hpa
        replace h1 := K9 _ _ h1
        replace h2 := h2.tk (TK.same K9)
        replace hd := hd.same K9
        replace ho := ho.same K9
        replace hpq := hpq.same K9
        replace hf1 := hf1.same K9
        replace hf2 := hf2.same K9
        replace hf3 := hf3.same K9
        replace er1 := K9 _ _ er1
        replace KT := KT.trans K9
        exact k rr _ KT ⟨[r1], err, ⟨⟨[f1, f3], er1, ⟨hf1, hf3, trivial⟩⟩, trivial⟩⟩
      | two w2 a b =>
        obtain ⟨l, lr, h1, h2, h3⟩ := hq
        obtain ⟨hw4, ha, hb⟩ := hok
        walk_at "v"
        refine w_ixT hpa rfl ?_
        walk_at "v"
        refine ⟨p, ins, beg, m, ans, rfl, hp, fun dq H1 K1 hd => ?_⟩
        replace hp := hp.same K1
        replace hpa := K1 _ _ hpa
        replace h1 := K1 _ _ h1
        replace h2 := h2.tk (TK.same K1)
        replace h3 := h3.tk (TK.same K1)
        have KT := K1
        rw [drp_sh (a := a) (b := b)] at hd
        walk_at "v"
        refine w_ixT h1 rfl ?_
        walk_at "v"
        refine ⟨p, l, ins, beg, m, a, rfl, hp, h2, fun oq H2 K2 ho => ?_⟩
        replace hp := hp.same K2
        replace hpa := K2 _ _ hpa
        replace h1 := K2 _ _ h1
        replace h2 := h2.tk (TK.same K2)
        replace h3 := h3.tk (TK.same K2)
        replace hd := hd.same K2
        replace KT := KT.trans K2
        rw [lin_sh1 (ans := ans) (b := b) ha] at ho
        walk_at "v"
        refine w_ixT h1 rfl ?_
        walk_at "v"
        refine ⟨rfl, ?_⟩
        walk_at "v"
        refine iteFk (by rcases hw4 with h | h | h | h <;> subst h <;> decide) ?_
        walk_at "v"
        refine w_ixT h1 rfl ?_
        walk_at "v"
        refine ⟨rfl, ?_⟩
        walk_at "v"
        refine iteFk (by rcases hw4 with h | h | h | h <;> subst h <;> decide) ?_
        walk_at "v"
        refine w_ixT h1 rfl ?_
        walk_at "v"
        refine w_ixT h1 rfl ?_
        walk_at "v"
        refine ⟨p, lr, ins, beg, m, b, rfl, hp, h3, fun tq H3 K3 ht => ?_⟩
        replace hp := hp.same K3
        replace hpa := K3 _ _ hpa
        replace h1 := K3 _ _ h1
        replace h2 := h2.tk (TK.same K3)
        replace h3 := h3.tk (TK.same K3)
        replace hd := hd.same K3
        replace ho := ho.same K3
        replace KT := KT.trans K3
        rw [lin_sh2 (ans := ans) (a := a) hb] at ht
        walk_at "v"
        exact ⟨p, w2, dq, oq, tq, ins, beg, m, ans, a, b, rfl, hp, hw4, ha, hb, hd, ho, ht, fun r H' K' h => k r H' (KT.trans K') h⟩
end
end K25

set_option Elab.async false
set_option linter.all false
set_option maxRecDepth 100000
namespace K25
open PySem L2 G2
local macro_rules | `(tactic| walk_at "v") => `(tactic| repeat (with_reducible first
  | refine w_seq ?_ | refine w_asg ?_ | refine w_gname ?_ | refine w_op ?_ | refine w_var rfl ?_ | refine w_c ?_ | refine w_rI0 ?_ | refine w_ifs ?_ | refine w_ife ?_ | refine w_test ?_ | refine w_tb ?_ | refine w_bl ?_ | refine w_not ?_ | refine w_ret ?_ | refine w_retN ?_
  | refine w_nil ?_ | refine w_cons ?_ | refine w_lst ?_ | refine w_tup ?_ | refine w_cb ?_ | refine w_call ?_ | refine w_gsub ?_ | refine w_and ?_ | refine w_or ?_ | refine w_next ?_ | refine w_all ?_ | refine w_vals ?_ | refine w_compR ?_ | refine w_compT ?_ | refine w_forR ?_ | refine w_forT ?_ | refine w_forL ?_ | refine w_drop ?_ | refine w_bm ?_ | refine w_compZ ?_ | refine w_compL ?_ | refine w_chain ?_ | refine w_sl ?_ | refine w_nopart ?_ | refine w_part ?_ | refine w_unI ?_ | refine iteT ?_ | refine iteF ?_))

abbrev sLine : Stmt := top 25
abbrev sAsk : Stmt := top 26
theorem pickL {xs : List Int} {r : Int} (h0 : 0 ≤ r) (h1 : r < xs.length) : ∃ x, x ∈ xs ∧ atI (xs.map V.int) r = some (.int x) := by
  obtain ⟨j, rfl⟩ := ofI h0
  have hj : j < xs.length := by omega
  exact ⟨xs[j], List.getElem_mem hj, atI_nat (by simp [hj])⟩
theorem pickS {xs : List Str} {r : Int} (h0 : 0 ≤ r) (h1 : r < xs.length) : ∃ x, x ∈ xs ∧ atI (xs.map V.str) r = some (.str x) := by
  obtain ⟨j, rfl⟩ := ofI h0
  have hj : j < xs.length := by omega
  exact ⟨xs[j], List.getElem_mem hj, atI_nat (by simp [hj])⟩
def some10 : List Int := [0, 1, 1, 2, -1, 3, -2, 10, 99, -99]
theorem some10_ok : ∀ x ∈ some10, -99 ≤ x ∧ x ≤ 99 := by decide
/-- the comprehension that the first item of a returned pair is handed -/
def pairComp (s : Stmt) : Scope := match s with
  | .Return (some (.Tuple (.Call _ [.ListComp _ _ sc _] _ _ :: _) _ _)) _ => sc
  | _ => { kind := .function, names := [], isGenerator := false, isCoroutine := false }
abbrev nLine : List Str := ["_law_tape_here", "_law_many", "_law_some"]
theorem nmLine : Nm nLine (defScope sLine) := ⟨by decide +kernel, by decide +kernel⟩
theorem scLine : FnScope nLine ["_law_tape_here", "_law_many"] (defScope sLine) := ⟨rfl, rfl, rfl, by decide +kernel, rfl, by decide +kernel, by decide +kernel⟩

abbrev cLine : Scope := pairComp ((defBody sLine).getD 1 (.Pass ⟨0, 0, 0, 0⟩))
theorem bsLine : BScope (defScope sLine) cLine ["_law_k"] ["_law_some", "_law_tape_here"] ["_law_draw"] := { okind := by decide +kernel, kind := by decide +kernel, nocell := by decide +kernel, names := by decide +kernel, fr := by decide +kernel, ff := by decide +kernel, nd := by decide +kernel, vis := by decide +kernel, loc := by decide +kernel, gl := by decide +kernel }
def spLine : Sp := fun vs H Q _ => ∃ (p l : Addr) (ns : List Int) (m : Nat), vs = [.ref p, .int m] ∧ Tp H p l ns ∧ m ≤ 3 ∧ ∀ (q : Addr) (a : Ln) (H' : Hp), a.ok m → LnAt H' q a → Tp H' p l ns → TK H H' → Q (.ref q) H'
section
variable {P : Program} {w : World} {K : PySem.W.Frag} {mg : Str → Option Value} {base : Heap}
set_option maxHeartbeats 2000000 in
theorem ok_line {f : Addr} {fd : FuncData} (B : Blt mg) (D : Has P w K mg base 1 "_law_draw" ["_law_tape_here", "_law_many"] spDraw) (F : Fun K "_law_line" "_law_line" sLine f fd) : FnOk P w K mg base CX0 2 f fd ["_law_tape_here", "_law_many"] spLine := by
  refine F.ok scLine (fun vs H Q E h => ?_) (fun cdv A outer s H vs Q E hr h => ?_)
  · obtain ⟨p, l, ns, m, rfl, _⟩ := h
    rfl
  · obtain ⟨p, l, ns, m, rfl, T0, hm3, k⟩ := h
    refine' ⟨_, ?hb, ?rd⟩
    case hb =>
      refine' pss_cons ?s1 ?r1
      case' r1 => refine' pss_one ?s2
      case s1 =>
        refine' ps_setD nmLine 2 ?p1
        case p1 =>
          refine pe_lstW (vs := some10.map V.int) ?_
          decide +kernel
      case s2 =>
        refine' ps_ret ?p2
        case' p2 => refine' pe_tup ?q2
        case' q2 => refine' pa_2 ?x2 ?y2
        case y2 =>
          refine' pe_ix ix_d (pvd nmLine 2) ?y3 (fun _ _ => rfl)
          case y3 => exact pe_f D hr (by decide) (pa_2 (pvd nmLine 0) pe_int)
        case' x2 => refine' pe_cT call_tuple_of B.tuple PyProof.Rows.boot_tuple ?x3
        case' x3 => refine' pa_1 ?x4
        case x4 =>
          refine' pe_comp (ix := [2, 0]) bsLine.toCScope rfl rfl ?h3 ?h4 ?h5 ?h6
          case h3 => exact pi_r1 B.range (pa_1 (pvd nmLine 1))
          case h4 => exact fun _ _ _ _ _ _ => pgb bsLine 0
          case h5 => exact fun _ _ _ _ _ _ => pts_nil
          case h6 =>
            intro _ _ _ _ _ _
            refine' pe_ix ix_d (pvb bsLine 1) ?g6 (fun _ _ => rfl)
            case g6 => exact pe_f D hr (by decide) (pa_2 (pvb bsLine 2) pe_int) (bsLine.g 0)
    case rd =>
      walk_at "v"
      refine ⟨by show 10 ≤ sizeLine; decide, fun a1 ha1 => ?_⟩
      have T1 := T0.new (o := .lst (some10.map V.int)) ha1
      have np1 := T0.np ha1
      have e1 : upd H a1 (.lst (some10.map V.int)) a1 = some (.lst (some10.map V.int)) := upd_same
      have TK1 : TK H (upd H a1 (.lst (some10.map V.int))) := TK.new ha1
      generalize upd H a1 (.lst (some10.map V.int)) = H1 at T1 e1 TK1 ⊢
      walk_at "v"
      refine ⟨m, rfl, by omega, by omega, fun db hdb => ?_⟩
      rw [Int.toNat_natCast]
      have npd := T1.np hdb
      have nld := T1.nl hdb
      have nad : a1 ≠ db := ne_of_none e1 hdb
      refine cgo_range (ρ := [some (.ref a1), some (.ref p)]) (fun i ys H' => ∃ bs : List Int, ys = bs.map V.int ∧ bs.length = i ∧ (∀ x ∈ bs, -99 ≤ x ∧ x ≤ 99) ∧ Tp H' p l ns ∧ TK H H' ∧ H' a1 = some (.lst (some10.map V.int)))
        ⟨[], rfl, rfl, (fun x h => by cases h), T1.new hdb, TK1.trans (TK.new hdb), by rw [upd_ne nad]; exact e1⟩ ?_ ?_
      · rintro i ys H' hi ⟨bs, rfl, hbl, hbs, T, TKi, ea⟩ hD R S kR _
        walk_at "v"
        refine ⟨p, l, ns, 10, rfl, T, by decide, by decide, fun r c e r0 r1 => ?_⟩
        obtain ⟨x, hx, hat⟩ := pickL (xs := some10) r0 r1
        refine w_ixL (by rw [upd_ne (Ne.symm np1)]; exact ea) hat ?_
        have hD' : upd H' p (.lst [.ref l, .int c, .int e]) db = some (.lst (bs.map V.int)) := by rw [upd_ne (Ne.symm npd)]; exact hD
        refine kR _ _ hD' (by rw [List.length_map]; exact small1000 (by omega)) ⟨bs ++ [x], by rw [List.map_append]; rfl, by simp [hbl], fun b hb => ?_, T.draw.put npd nld, (TKi.trans T.tk).trans (TK.lst hD'), by rw [upd_ne nad, upd_ne (Ne.symm np1)]; exact ea⟩
        rcases List.mem_append.mp hb with old | new
        · exact hbs b old
        · rw [List.mem_singleton.mp new]
          exact some10_ok x hx
      · rintro ys H' ⟨bs, rfl, hbl, hbs, T, TKi, ea⟩ hD
        walk_at "v"
        refine ⟨db, _, rfl, .inl ⟨SqL.of hD, fun b hb => ?_⟩⟩
        have T2 := T.new (o := .tup (bs.map V.int)) hb
        have TK2 := TKi.trans (TK.new (o := .tup (bs.map V.int)) hb)
        have ea2 : upd H' b (.tup (bs.map V.int)) a1 = some (.lst (some10.map V.int)) := by rw [upd_ne (ne_of_none ea hb)]; exact ea
        have eb : upd H' b (.tup (bs.map V.int)) b = some (.tup (bs.map V.int)) := upd_same
        generalize upd H' b (.tup (bs.map V.int)) = H2 at T2 TK2 ea2 eb ⊢
        walk_at "v"
        refine ⟨p, l, ns, 10, rfl, T2, by decide, by decide, fun r c e r0 r1 => ?_⟩
        obtain ⟨x, hx, hat⟩ := pickL (xs := some10) r0 r1
        refine w_ixL (by rw [upd_ne (Ne.symm np1)]; exact ea2) hat ?_
        have T3 := T2.draw (c := c) (e := e)
        have TK3 : TK H2 (upd H2 p (.lst [.ref l, .int c, .int e])) := T2.tk
        generalize upd H2 p (.lst [.ref l, .int c, .int e]) = H3 at T3 TK3 ⊢
        walk_at "v"
        refine ⟨by show 2 ≤ sizeLine; decide, fun q hq => ?_⟩
        have TK4 : TK H3 (upd H3 q (.tup [.ref b, .int x])) := TK.new hq
        exact k q ⟨bs, x⟩ _ ⟨hbl, hbs, some10_ok x hx⟩ ⟨b, upd_same, (TK3.trans TK4).t _ _ eb⟩ (T3.new hq) ((TK2.trans TK3).trans TK4)
abbrev nAsk : List Str := ["_law_tape_here", "_law_many", "_law_word", "_law_line_here"]
theorem nmAsk : Nm nAsk (defScope sAsk) := ⟨by decide +kernel, by decide +kernel⟩
theorem scAsk : FnScope nAsk ["_law_tape_here", "_law_many"] (defScope sAsk) := ⟨rfl, rfl, rfl, by decide +kernel, rfl, by decide +kernel, by decide +kernel⟩

def words6 : List Str := ["sum", "part", "least", "most", "more", "same"]
def spAsk : Sp := fun vs H Q _ => ∃ (p l : Addr) (ns : List Int) (m : Nat), vs = [.ref p, .int m] ∧ Tp H p l ns ∧ m ≤ 3 ∧ ∀ (q : Addr) (A : Ak) (H' : Hp), A.ok m → AkAt H' q A → Tp H' p l ns → TK H H' → Q (.ref q) H'
set_option maxHeartbeats 2000000 in
theorem ok_ask {f : Addr} {fd : FuncData} (B : Blt mg) (D : Has P w K mg base 1 "_law_draw" ["_law_tape_here", "_law_many"] spDraw) (L : Has P w K mg base 2 "_law_line" ["_law_tape_here", "_law_many"] spLine) (F : Fun K "_law_ask" "_law_ask" sAsk f fd) : FnOk P w K mg base CX0 3 f fd ["_law_tape_here", "_law_many"] spAsk := by
  refine F.ok scAsk (fun vs H Q E h => ?_) (fun cdv A outer s H vs Q E hr h => ?_)
  · obtain ⟨p, l, ns, m, rfl, _⟩ := h
    rfl
  · obtain ⟨p, l, ns, m, rfl, T0, hm3, k⟩ := h
    refine' ⟨_, ?hb, ?rd⟩
    case hb =>
      refine' pss_cons ?s1 ?r1
      case' r1 => refine' pss_cons ?s2 ?r2
      case' r2 => refine' pss_cons ?s3 ?r3
      case' r3 => refine' pss_cons ?s4 ?r4
      case' r4 => refine' pss_one ?s5
      case s1 =>
        refine' ps_setD nmAsk 2 ?p1
        case' p1 => refine' pe_ix ix_d ?l1 ?d1 (fun _ _ => rfl)
        case d1 => exact pe_f D hr (by decide) (pa_2 (pvd nmAsk 0) pe_int)
        case l1 =>
          refine pe_lstW (vs := words6.map V.str) ?_
          decide +kernel
      case s2 => exact ps_setD nmAsk 3 (pe_f L hr (by decide) (pa_2 (pvd nmAsk 0) (pvd nmAsk 1)))
      case s3 => exact ps_if (pt_cmpR op_eq (pvd nmAsk 2) pe_str (nomark _)) (pss_one (ps_ret (pe_tup (pa_2 (pvd nmAsk 2) (pvd nmAsk 3))))) pss_nil
      case s4 =>
        refine' ps_if (pt_cmpR op_eq (pvd nmAsk 2) pe_str (nomark _)) ?b4 pss_nil
        case' b4 => refine' pss_one ?c4
        case' c4 => refine' ps_ret ?d4
        case' d4 => refine' pe_tup ?e4
        case' e4 => refine' pa_c (pvd nmAsk 2) ?f4
        case' f4 => refine' pa_2 (pvd nmAsk 3) ?g4
        case' g4 => refine' pe_op op_add pe_int ?h4
        case h4 => exact pe_f D hr (by decide) (pa_2 (pvd nmAsk 0) pe_int)
      case s5 =>
        refine' ps_ret ?d5
        case' d5 => refine' pe_tup ?e5
        case' e5 => refine' pa_c (pvd nmAsk 2) ?f5
        case' f5 => refine' pa_2 (pvd nmAsk 3) ?g5
        case g5 => exact pe_f L hr (by decide) (pa_2 (pvd nmAsk 0) (pvd nmAsk 1))
    case rd =>
      walk_at "v"
      refine ⟨by show 6 ≤ sizeLine; decide, fun a1 ha1 => ?_⟩
      have T1 := T0.new (o := .lst (words6.map V.str)) ha1
      have np1 := T0.np ha1
      have TK1 : TK H (upd H a1 (.lst (words6.map V.str))) := TK.new ha1
      walk_at "v"
      refine ⟨p, l, ns, 6, rfl, T1, by decide, by decide, fun r c e r0 r1 => ?_⟩
      obtain ⟨wd, hw, hat⟩ := pickS (xs := words6) r0 r1
      refine w_ixL (by rw [upd_ne (Ne.symm np1), upd_same]) hat ?_
      have T2 := T1.draw (c := c) (e := e)
      have TK2 := TK1.trans (T1.tk (o := .lst [.ref l, .int c, .int e]))
      generalize upd (upd H a1 (.lst (words6.map V.str))) p (.lst [.ref l, .int c, .int e]) = H2 at T2 TK2 ⊢
      clear T1 TK1 np1 ha1
      walk_at "v"
      refine ⟨p, l, ns, m, rfl, T2, hm3, fun q a H3 hok hq T3 TK3 => ?_⟩
      walk_at "v"
      refine ⟨rfl, ?_⟩
      walk_at "v"
      refine iteD (fun e => ?_) (fun e1 => ?_)
      · injection e with e
        subst e
        walk_at "v"
        refine ⟨by show 2 ≤ sizeLine; decide, fun z hz => ?_⟩
        have TK4 : TK H3 (upd H3 z (.tup [.str "sum", .ref q])) := TK.new hz
        exact k z (.sum a) _ hok ⟨q, upd_same, hq.tk TK4⟩ (T3.new hz) ((TK2.trans TK3).trans TK4)
      walk_at "v"
      refine ⟨rfl, ?_⟩
      walk_at "v"
      refine iteD (fun e => ?_) (fun e2 => ?_)
      · injection e with e
        subst e
        walk_at "v"
        refine ⟨p, l, ns, 8, rfl, T3, by decide, by decide, fun r c e r0 r1 => ?_⟩
        have T4 := T3.draw (c := c) (e := e)
        have TK4 := (TK2.trans TK3).trans (T3.tk (o := .lst [.ref l, .int c, .int e]))
        have hq4 := hq.tk (T3.tk (o := .lst [.ref l, .int c, .int e]))
        generalize upd H3 p (.lst [.ref l, .int c, .int e]) = H4 at T4 TK4 hq4 ⊢
        walk_at "v"
        refine ⟨by show 3 ≤ sizeLine; decide, fun z hz => ?_⟩
        have TK5 : TK H4 (upd H4 z (.tup [.str "part", .ref q, .int (2 + r)])) := TK.new hz
        exact k z (.part a (2 + r)) _ ⟨hok, by omega, by omega⟩ ⟨q, upd_same, hq4.tk TK5⟩ (T4.new hz) (TK4.trans TK5)
      walk_at "v"
      refine ⟨p, l, ns, m, rfl, T3, hm3, fun q' a' H4 hok' hq' T4 TK4 => ?_⟩
      walk_at "v"
      refine ⟨by show 3 ≤ sizeLine; decide, fun z hz => ?_⟩
      have TK5 : TK H4 (upd H4 z (.tup [.str wd, .ref q, .ref q'])) := TK.new hz
      refine k z (.two wd a a') _ ⟨?_, hok, hok'⟩ ⟨q, q', upd_same, hq.tk (TK4.trans TK5), hq'.tk TK5⟩ (T4.new hz) (((TK2.trans TK3).trans TK4).trans TK5)
      simp only [words6, List.mem_cons, List.not_mem_nil, or_false] at hw
      rcases hw with h | h | h | h | h | h
      · exact absurd (congrArg V.str h) e1
      · exact absurd (congrArg V.str h) e2
      · exact .inl h
      · exact .inr (.inl h)
      · exact .inr (.inr (.inl h))
      · exact .inr (.inr (.inr h))
end
end K25

set_option Elab.async false
set_option linter.all false
set_option maxRecDepth 100000
namespace K25
open PySem L2 G2
local macro_rules | `(tactic| walk_at "v") => `(tactic| repeat (with_reducible first
  | refine w_seq ?_ | refine w_asg ?_ | refine w_gname ?_ | refine w_op ?_ | refine w_var rfl ?_ | refine w_c ?_ | refine w_rI0 ?_ | refine w_ifs ?_ | refine w_ife ?_ | refine w_test ?_ | refine w_tb ?_ | refine w_bl ?_ | refine w_not ?_ | refine w_ret ?_ | refine w_retN ?_
  | refine w_nil ?_ | refine w_cons ?_ | refine w_lst ?_ | refine w_tup ?_ | refine w_cb ?_ | refine w_call ?_ | refine w_gsub ?_ | refine w_and ?_ | refine w_or ?_ | refine w_next ?_ | refine w_all ?_ | refine w_vals ?_ | refine w_compR ?_ | refine w_compT ?_ | refine w_forR ?_ | refine w_forT ?_ | refine w_forL ?_ | refine w_drop ?_ | refine w_bm ?_ | refine w_compZ ?_ | refine w_compL ?_ | refine w_chain ?_ | refine w_sl ?_ | refine w_nopart ?_ | refine w_part ?_ | refine w_unI ?_ | refine iteT ?_ | refine iteF ?_))

abbrev sAt : Stmt := top 30
abbrev sCo : Stmt := top 31
abbrev sAs : Stmt := top 32
abbrev sHo : Stmt := top 33
abbrev sNe : Stmt := top 34
abbrev nAt : List Str := ["_law_form", "_law_amounts", "_law_stand", "_law_found", "_law_k"]
theorem nmAt : Nm nAt (defScope sAt) := ⟨by decide +kernel, by decide +kernel⟩
theorem scAt : FnScope nAt ["_law_form", "_law_amounts", "_law_stand"] (defScope sAt) := ⟨rfl, rfl, rfl, by decide +kernel, rfl, by decide +kernel, by decide +kernel⟩
abbrev nCo : List Str := ["_law_line_here", "_law_amounts"]
theorem nmCo : Nm nCo (defScope sCo) := ⟨by decide +kernel, by decide +kernel⟩
theorem scCo : FnScope nCo ["_law_line_here", "_law_amounts"] (defScope sCo) := ⟨rfl, rfl, rfl, by decide +kernel, rfl, by decide +kernel, by decide +kernel⟩
abbrev nAs : List Str := ["_law_ask_here", "_law_amounts", "_law_first", "_law_second", "_law_some"]
theorem nmAs : Nm nAs (defScope sAs) := ⟨by decide +kernel, by decide +kernel⟩
theorem scAs : FnScope nAs ["_law_ask_here", "_law_amounts"] (defScope sAs) := ⟨rfl, rfl, rfl, by decide +kernel, rfl, by decide +kernel, by decide +kernel⟩
abbrev nHo : List Str := ["_law_pieces", "_law_amounts", "_law_stand", "_law_piece"]
theorem nmHo : Nm nHo (defScope sHo) := ⟨by decide +kernel, by decide +kernel⟩
theorem scHo : FnScope nHo ["_law_pieces", "_law_amounts", "_law_stand"] (defScope sHo) := ⟨rfl, rfl, rfl, by decide +kernel, rfl, by decide +kernel, by decide +kernel⟩
abbrev nNe : List Str := ["_law_tape_here", "_law_ask_here", "_law_plus"]
theorem nmNe : Nm nNe (defScope sNe) := ⟨by decide +kernel, by decide +kernel⟩
theorem scNe : FnScope nNe ["_law_tape_here", "_law_ask_here"] (defScope sNe) := ⟨rfl, rfl, rfl, by decide +kernel, rfl, by decide +kernel, by decide +kernel⟩

def noSc : Scope := { kind := .function, names := [], isGenerator := false, isCoroutine := false }
def retBin (s : Stmt) : Scope := match s with
  | .Return (some (.BinOp _ _ (.Call _ [.ListComp _ _ sc _] _ _) _)) _ => sc
  | _ => noSc
def forBody (s : Stmt) : List Stmt := match s with
  | .For _ _ b _ _ => b
  | _ => []
def ifCmp (s : Stmt) : Scope := match s with
  | .If (.Compare (.ListComp _ _ sc _) _ _ _) _ _ _ => sc
  | _ => noSc
abbrev cCo : Scope := retBin ((defBody sCo).getD 0 (.Pass ⟨0, 0, 0, 0⟩))
abbrev cHo : Scope := ifCmp ((forBody ((defBody sHo).getD 0 (.Pass ⟨0, 0, 0, 0⟩))).getD 0 (.Pass ⟨0, 0, 0, 0⟩))
theorem bsCo : BScope (defScope sCo) cCo ["_law_k"] ["_law_amounts", "_law_line_here"] [] := { okind := by decide +kernel, kind := by decide +kernel, nocell := by decide +kernel, names := by decide +kernel, fr := by decide +kernel, ff := by decide +kernel, nd := by decide +kernel, vis := by decide +kernel, loc := by decide +kernel, gl := by decide +kernel }
theorem bsHo : BScope (defScope sHo) cHo ["_law_form"] ["_law_amounts", "_law_stand"] ["_law_at"] := { okind := by decide +kernel, kind := by decide +kernel, nocell := by decide +kernel, names := by decide +kernel, fr := by decide +kernel, ff := by decide +kernel, nd := by decide +kernel, vis := by decide +kernel, loc := by decide +kernel, gl := by decide +kernel }

theorem iteTb {b : Bool} {X Y : Prop} (h : b = true) (k : X) : if b = true then X else Y := by rw [h]; exact iteT k
theorem iteFb {b : Bool} {X Y : Prop} (h : b = false) (k : Y) : if b = true then X else Y := by rw [h]; exact iteF k
abbrev kS (x : Str) : Key := Sum.inr x
theorem w_disp {trs : List (TE × TE)} {σ : St} {H : Hp} {Q : VK} (h : ∀ p, H p = none → tPairs trs σ (upd H p (.dK [])) fun ps H2 => H2 p = some (.dK []) ∧ ∃ kvs : List (Key × V), ps = kvs.map (fun kv => (kV kv.1, kv.2)) ∧ kvs.length ≤ 15 ∧ Q (.ref p) (upd H2 p (.dK (mergeK [] kvs)))) : tDisp trs σ H Q := h
theorem w_pairs {tk tv : TE} {r : List (TE × TE)} {σ : St} {H : Hp} {Q : List (V × V) → Hp → Prop} (h : tk σ H fun x H1 => tv σ H1 fun y H2 => tPairs r σ H2 fun ps H3 => Q ((x, y) :: ps) H3) : tPairs ((tk, tv) :: r) σ H Q := h
theorem w_pairs0 {σ : St} {H : Hp} {Q : List (V × V) → Hp → Prop} (h : Q [] H) : tPairs [] σ H Q := h
theorem w_dget {td ty : TE} {σ : St} {H : Hp} {Q : VK} (h : td σ H fun x H1 => ty σ H1 fun y H2 => ∃ a v, x = .ref a ∧ DGet H2 a y (some v) ∧ Q v H2) : tDGet td ty σ H Q := h
theorem mergeA {v1 v2 : V} : mergeK [] ([(kS "least", v1), (kS "most", v2)] : List (Key × V)) = ([(kS "least", v1), (kS "most", v2)] : List (Key × V)) := by rfl
theorem mergeB {v1 v2 : V} : mergeK [] ([(kS "more", v1), (kS "same", v2)] : List (Key × V)) = ([(kS "more", v1), (kS "same", v2)] : List (Key × V)) := by rfl
theorem mergeC {v1 v2 v3 v4 : V} : mergeK ([(kS "least", v1), (kS "most", v2)] : List (Key × V)) ([(kS "more", v3), (kS "same", v4)] : List (Key × V)) = ([(kS "least", v1), (kS "most", v2), (kS "more", v3), (kS "same", v4)] : List (Key × V)) := by rfl
theorem dotG {xs ys : List Int} (h : xs.length = ys.length) : ((List.range ys.length).map fun (j : Nat) => xs.getD j 0 * ys.getD j 0).sum = dot xs ys := by
  rw [← dot_zip]
  congr 1
  refine List.ext_getElem (by simp [h]) fun i h1 h2 => ?_
  have hi : i < xs.length := by
    have : i < ys.length := by simpa using h1
    omega
  have hi' : i < ys.length := by omega
  simp [List.getD_eq_getElem?_getD, hi, hi']
theorem gd_at {c : List Int} {k : Nat} (hk : k < c.length) : atI (c.map V.int) (k : Int) = some (.int (c.getD k 0)) := atI_nat (by simp [List.getD_eq_getElem?_getD, hk])
def spAt : Sp := fun vs H Q _ => ∃ (q a b : Addr) (f : Fm) (am st : List Int) (n m : Nat), vs = [.ref q, .ref a, .ref b] ∧ FmAt H q f ∧ FmOk n m 4000 f ∧ H a = some (.tup (am.map V.int)) ∧ am.length = n ∧ H b = some (.tup (st.map V.int)) ∧ st.length = m ∧ n ≤ 10 ∧ m ≤ 10 ∧ Q (.int (fmV f am st)) H
def spCo : Sp := fun vs H Q _ => ∃ (q b : Addr) (a : Ln) (am : List Int) (n : Nat), vs = [.ref q, .ref b] ∧ LnAt H q a ∧ a.ok n ∧ n ≤ 3 ∧ H b = some (.tup (am.map V.int)) ∧ am.length = n ∧ ∀ H', Same H H' → Q (.int (lnV a am)) H'
def spAs : Sp := fun vs H Q _ => ∃ (q b : Addr) (A : Ak) (am : List Int) (n : Nat), vs = [.ref q, .ref b] ∧ AkAt H q A ∧ A.ok n ∧ n ≤ 3 ∧ H b = some (.tup (am.map V.int)) ∧ am.length = n ∧ ∀ H', Same H H' → Q (.int (akV am A)) H'
def neg (am st : List Int) (f : Fm) : Bool := decide (fmV f am st < 0)
def holdP (am st : List Int) (fss : List (List Fm)) : Bool := fss.any fun fs => (fs.filter (neg am st)).isEmpty
def spHo : Sp := fun vs H Q _ => ∃ (r a b : Addr) (fss : List (List Fm)) (am st : List Int) (n m : Nat), vs = [.ref r, .ref a, .ref b] ∧ PcsAt H r fss ∧ (∀ fs ∈ fss, fs.length ≤ 10 ∧ ∀ f ∈ fs, FmOk n m 4000 f) ∧ fss.length ≤ 10 ∧ H a = some (.tup (am.map V.int)) ∧ am.length = n ∧ H b = some (.tup (st.map V.int)) ∧ st.length = m ∧ n ≤ 10 ∧ m ≤ 10 ∧ ∀ H', Same H H' → Q (.bl (holdP am st fss)) H'
def spNe : Sp := fun vs H Q _ => ∃ (p l : Addr) (ns : List Int) (q : Addr) (A : Ak) (n : Nat), vs = [.ref p, .ref q] ∧ Tp H p l ns ∧ AkAt H q A ∧ A.ok n ∧ ∀ (q' : Addr) (A' : Ak) (H' : Hp), A'.ok n → AkAt H' q' A' → Tp H' p l ns → TK H H' → Q (.ref q') H'
section
variable {P : Program} {w : World} {K : PySem.W.Frag} {mg : Str → Option Value} {base : Heap}
set_option maxHeartbeats 4000000 in
theorem ok_At {f : Addr} {fd : FuncData} (B : Blt3 mg) (F : Fun K "_law_at" "_law_at" sAt f fd) : FnOk P w K mg base CX0 1 f fd ["_law_form", "_law_amounts", "_law_stand"] spAt := by
  refine F.ok scAt (fun vs H Q E h => ?_) (fun cdv A outer s H vs Q E hr h => ?_)
  · obtain ⟨q, a, b, f, am, st, n, m, rfl, _⟩ := h
    rfl
  · obtain ⟨q, a, b, f, am, st, n, m, rfl, ⟨fi, fs, h1, h2, h3⟩, hok, ha, han, hb, hbm, n10, m10, k⟩ := h
    refine' ⟨_, ?hb, ?rd⟩
    case hb =>
      refine' pss_cons ?s1 ?r1
      case' r1 => refine' pss_cons ?s2 ?r2
      case' r2 => refine' pss_cons ?s3 ?r3
      case' r3 => refine' pss_one ?s4
      case s1 => exact ps_setD nmAt 3 (pe_ix ix_d (pvd nmAt 0) pe_int (fun _ _ => rfl))
      case s2 =>
        refine' ps_for PassesOwn.never rfl (pi_r1 B.range (pa_1 (pe_cB call_lnT B.len PySem.boot_len (pa_1 (pvd nmAt 1))))) (pgd nmAt 4) ?x1
        case x1 =>
          refine' pss_one ?x2
          case' x2 => refine' ps_setD nmAt 3 ?x3
          case' x3 => refine' pe_op op_add (pvd nmAt 3) ?x4
          case x4 => exact pe_op op_mul (pe_ix ix_d (pe_ix ix_d (pvd nmAt 0) pe_int (fun _ _ => rfl)) (pvd nmAt 4) (fun _ _ => rfl)) (pe_ix ix_d (pvd nmAt 1) (pvd nmAt 4) (fun _ _ => rfl))
      case s3 =>
        refine' ps_for PassesOwn.never rfl (pi_r1 B.range (pa_1 (pe_cB call_lnT B.len PySem.boot_len (pa_1 (pvd nmAt 2))))) (pgd nmAt 4) ?y1
        case y1 =>
          refine' pss_one ?y2
          case' y2 => refine' ps_setD nmAt 3 ?y3
          case' y3 => refine' pe_op op_add (pvd nmAt 3) ?y4
          case y4 => exact pe_op op_mul (pe_ix ix_d (pe_ix ix_d (pvd nmAt 0) pe_int (fun _ _ => rfl)) (pvd nmAt 4) (fun _ _ => rfl)) (pe_ix ix_d (pvd nmAt 2) (pvd nmAt 4) (fun _ _ => rfl))
      case s4 => exact ps_ret (pvd nmAt 3)
    case rd =>
      have li := hok.li
      have ls := hok.ls
      walk_at "v"
      refine w_ixT h1 rfl ?_
      walk_at "v"
      refine ⟨a, _, rfl, ha, ?_⟩
      rw [List.length_map]
      refine ⟨_, rfl, by omega, by omega, ?_⟩
      rw [Int.toNat_natCast]
      refine for_range (fun i σ H' => ∃ (u4 : Option V) (fo : Int), σ = [some (.ref q), some (.ref a), some (.ref b), some (.int fo), u4] ∧ H = H' ∧ fo + dot (f.ins.drop i) (am.drop i) = f.plus + dot f.ins am) ⟨_, f.plus, rfl, rfl, by simp⟩ ?_ ?_
      · rintro i σ H' hi ⟨u4, fo, rfl, rfl, hfo⟩
        have hi1 : i < f.ins.length := by omega
        rw [Int.zero_add]
        walk_at "v"
        refine w_ixT h1 rfl ?_
        walk_at "v"
        refine w_ixT (v := .int f.ins[i]) h2 (atI_nat (by simp [hi1])) ?_
        walk_at "v"
        refine w_ixT (v := .int am[i]) ha (atI_nat (by simp [hi])) ?_
        have bd := hok.bi _ (List.getElem_mem hi1)
        refine w_rI (mulL (by omega) (by omega)) ?_
        walk_at "v"
        refine ⟨_, _, rfl, rfl, ?_⟩
        rw [← hfo, List.drop_eq_getElem_cons hi1, List.drop_eq_getElem_cons hi]
        show _ = fo + (f.ins[i] * am[i] + dot (f.ins.drop (i + 1)) (am.drop (i + 1)))
        rw [Int.add_assoc]
      · rintro σ H' ⟨u4, fo, rfl, rfl, hfo⟩
        rw [show am.length = f.ins.length by omega, List.drop_length, dot_nil, Int.add_zero] at hfo
        walk_at "v"
        refine ⟨b, _, rfl, hb, ?_⟩
        rw [List.length_map]
        refine ⟨_, rfl, by omega, by omega, ?_⟩
        rw [Int.toNat_natCast]
        refine for_range (fun i σ H' => ∃ (u4 : Option V) (fo' : Int), σ = [some (.ref q), some (.ref a), some (.ref b), some (.int fo'), u4] ∧ H = H' ∧ fo' + dot (f.sts.drop i) (st.drop i) = fo + dot f.sts st) ⟨_, fo, rfl, rfl, by simp⟩ ?_ ?_
        · rintro i σ H' hi ⟨u4, fo', rfl, rfl, hfo'⟩
          have hi1 : i < f.sts.length := by omega
          rw [Int.zero_add]
          walk_at "v"
          refine w_ixT h1 rfl ?_
          walk_at "v"
          refine w_ixT (v := .int f.sts[i]) h3 (atI_nat (by simp [hi1])) ?_
          walk_at "v"
          refine w_ixT (v := .int st[i]) hb (atI_nat (by simp [hi])) ?_
          have bd := hok.bs _ (List.getElem_mem hi1)
          refine w_rI (mulL (by omega) (by omega)) ?_
          walk_at "v"
          refine ⟨_, _, rfl, rfl, ?_⟩
          rw [← hfo', List.drop_eq_getElem_cons hi1, List.drop_eq_getElem_cons hi]
          show _ = fo' + (f.sts[i] * st[i] + dot (f.sts.drop (i + 1)) (st.drop (i + 1)))
          rw [Int.add_assoc]
        · rintro σ H' ⟨u4, fo', rfl, rfl, hfo'⟩
          rw [show st.length = f.sts.length by omega, List.drop_length, dot_nil, Int.add_zero] at hfo'
          walk_at "v"
          have e : fo' = fmV f am st := by
            unfold fmV
            omega
          rw [e]
          exact k
set_option maxHeartbeats 4000000 in
theorem ok_Co {f : Addr} {fd : FuncData} (B : Blt3 mg) (F : Fun K "_law_comes_to" "_law_comes_to" sCo f fd) : FnOk P w K mg base CX0 1 f fd ["_law_line_here", "_law_amounts"] spCo := by
  refine F.ok scCo (fun vs H Q E h => ?_) (fun cdv A outer s H vs Q E hr h => ?_)
  · obtain ⟨q, b, a, am, n, rfl, _⟩ := h
    rfl
  · obtain ⟨q, b, a, am, n, rfl, ⟨lb, h1, h2⟩, hok, n3, hb, hbn, k⟩ := h
    refine' ⟨_, ?hb, ?rd⟩
    case hb =>
      refine' pss_one ?s1
      case' s1 => refine' ps_ret ?p1
      case' p1 => refine' pe_op op_add (pe_ix ix_d (pvd nmCo 0) pe_int (fun _ _ => rfl)) ?p2
      case' p2 => refine' pe_cB (call_sum rfl) B.sum PyProof.Rows.boot_sum ?p3
      case' p3 => refine' pa_1 ?p4
      case p4 =>
        refine' pe_comp (ix := [1, 0]) bsCo.toCScope rfl rfl (pi_r1 B.range (pa_1 (pe_cB call_lnT B.len PySem.boot_len (pa_1 (pvd nmCo 1))))) ?h4 ?h5 ?h6
        case h4 => exact fun _ _ _ _ _ _ => pgb bsCo 0
        case h5 => exact fun _ _ _ _ _ _ => pts_nil
        case h6 => exact fun _ _ _ _ _ _ => pe_op op_mul (pe_ix ix_d (pe_ix ix_d (pvb bsCo 2) pe_int (fun _ _ => rfl)) (pvb bsCo 0) (fun _ _ => rfl)) (pe_ix ix_d (pvb bsCo 1) (pvb bsCo 0) (fun _ _ => rfl))
    case rd =>
      have hl := hok.1
      walk_at "v"
      refine w_ixT h1 rfl ?_
      walk_at "v"
      refine ⟨b, _, rfl, hb, ?_⟩
      rw [List.length_map]
      refine ⟨_, rfl, by omega, by omega, fun D hD => ?_⟩
      rw [Int.toNat_natCast]
      refine rng_map (ρ := [some (.ref b), some (.ref q)]) (fun j => a.bys.getD j 0 * am.getD j 0) (by omega) (fun j H' hj K' R kR => ?_) (fun H1 K1 e1 => ?_) hD
      · walk_at "v"
        refine w_ixT (K' _ _ h1) rfl ?_
        walk_at "v"
        refine w_ixT (K' _ _ h2) (gd_at (by omega)) ?_
        walk_at "v"
        refine w_ixT (K' _ _ hb) (gd_at hj) ?_
        have := getD_bd hok.2.1 j
        refine w_rI (mulL (by omega) (by omega)) ?_
        exact kR _ (Same.refl _)
      walk_at "v"
      refine ⟨D, _, rfl, e1, ?_⟩
      rw [dotG (by omega)]
      walk_at "v"
      have := k _ K1
      unfold lnV at this
      rw [Int.add_comm] at this
      exact this
set_option maxHeartbeats 4000000 in
theorem ok_As {f : Addr} {fd : FuncData} (B : Blt3 mg) (fC : Has P w K mg base 1 "_law_comes_to" ["_law_line_here", "_law_amounts"] spCo) (F : Fun K "_law_asked" "_law_asked" sAs f fd) : FnOk P w K mg base CX0 2 f fd ["_law_ask_here", "_law_amounts"] spAs := by
  refine F.ok scAs (fun vs H Q E h => ?_) (fun cdv A outer s H vs Q E hr h => ?_)
  · obtain ⟨q, b, A, am, n, rfl, _⟩ := h
    rfl
  · obtain ⟨q, b, A, am, n, rfl, hq, hok, n3, hb, hbn, k⟩ := h
    refine' ⟨_, ?hb, ?rd⟩
    case hb =>
      have hu := hu_of hr
      refine' pss_cons ?s1 ?r1
      case' r1 => refine' pss_cons ?s2 ?r2
      case' r2 => refine' pss_cons ?s3 ?r3
      case' r3 => refine' pss_cons ?s4 ?r4
      case' r4 => refine' pss_cons ?s5 ?r5
      case' r5 => refine' pss_cons ?s6 ?r6
      case' r6 => refine' pss_one ?s7
      case s1 => exact ps_setD nmAs 2 (pe_f fC hr (by decide) (pa_2 (pe_ix ix_d (pvd nmAs 0) pe_int (fun _ _ => rfl)) (pvd nmAs 1)))
      case s2 => exact ps_if (pt_cmpR op_eq (pe_ix ix_d (pvd nmAs 0) pe_int (fun _ _ => rfl)) pe_str (nomark _)) (pss_one (ps_ret (pvd nmAs 2))) pss_nil
      case s3 =>
        refine' ps_if (pt_cmpR op_eq (pe_ix ix_d (pvd nmAs 0) pe_int (fun _ _ => rfl)) pe_str (nomark _)) ?c1 pss_nil
        case' c1 => refine' pss_one ?c2
        case' c2 => refine' ps_ret ?c3
        case c3 => exact pe_op op_fdiv (pe_op op_sub (pvd nmAs 2) (pe_op op_mod (pvd nmAs 2) (pe_ix ix_d (pvd nmAs 0) pe_int (fun _ _ => rfl)))) (pe_ix ix_d (pvd nmAs 0) pe_int (fun _ _ => rfl))
      case s4 => exact ps_setD nmAs 3 (pe_f fC hr (by decide) (pa_2 (pe_ix ix_d (pvd nmAs 0) pe_int (fun _ _ => rfl)) (pvd nmAs 1)))
      case s5 =>
        refine' ps_setD nmAs 4 ?d1
        case' d1 => refine' pe_disp ?d2 rfl rfl (by simp) (by decide)
        case' d2 => refine' pps_cons pe_str (pe_cB (call_min2 rfl) B.min PyProof.Rows.boot_min (pa_2 (pvd nmAs 2) (pvd nmAs 3))) ?d3
        case d3 => exact pps_cons pe_str (pe_cB (call_max2 rfl) B.max PyProof.Rows.boot_max (pa_2 (pvd nmAs 2) (pvd nmAs 3))) pps_nil
      case s6 =>
        refine' ps_expr ?e1
        case' e1 => refine' pe_dupd (pvd nmAs 4) ?e2 ⟨rfl, rfl, rfl, rfl⟩
        case' e2 => refine' pe_disp ?e3 rfl rfl (by simp) (by decide)
        case' e3 => refine' pps_cons pe_str (pe_cT call_int1 B.int PyProof.Rows.boot_int (pa_1 (pe_cmpR op_gt (pvd nmAs 2) (pvd nmAs 3) (nomark _)))) ?e4
        case e4 => exact pps_cons pe_str (pe_cT call_int1 B.int PyProof.Rows.boot_int (pa_1 (pe_cmpR op_eq (pvd nmAs 2) (pvd nmAs 3) (nomark _)))) pps_nil
      case s7 => exact ps_ret (pe_dget hu (pvd nmAs 4) (pe_ix ix_d (pvd nmAs 0) pe_int (fun _ _ => rfl)) (fun _ _ => rfl))
    case rd =>
      cases A with
      | sum a =>
        obtain ⟨l, h1, h2⟩ := hq
        walk_at "v"
        refine w_ixT h1 rfl ?_
        walk_at "v"
        refine ⟨l, b, a, am, n, rfl, h2, hok, n3, hb, hbn, fun H1 K1 => ?_⟩
        walk_at "v"
        refine w_ixT (K1 _ _ h1) rfl ?_
        refine ⟨rfl, ?_⟩
        walk_at "v"
        refine iteTk rfl ?_
        walk_at "v"
        exact k _ K1
      | part a c =>
        obtain ⟨l, h1, h2⟩ := hq
        obtain ⟨hok, c2, c9⟩ := hok
        walk_at "v"
        refine w_ixT h1 rfl ?_
        walk_at "v"
        refine ⟨l, b, a, am, n, rfl, h2, hok, n3, hb, hbn, fun H1 K1 => ?_⟩
        walk_at "v"
        refine w_ixT (K1 _ _ h1) rfl ?_
        refine ⟨rfl, ?_⟩
        walk_at "v"
        refine iteFk (by decide) ?_
        walk_at "v"
        refine w_ixT (K1 _ _ h1) rfl ?_
        refine ⟨rfl, ?_⟩
        walk_at "v"
        refine iteTk rfl ?_
        walk_at "v"
        refine w_ixT (K1 _ _ h1) rfl ?_
        refine w_rI (show (0 : Int) < c by omega) ?_
        walk_at "v"
        refine w_ixT (K1 _ _ h1) rfl ?_
        refine w_rI ⟨by omega, by omega⟩ ?_
        have e : (lnV a am - lnV a am % c) / c = lnV a am / c := by
          have h0 : lnV a am - lnV a am % c = c * (lnV a am / c) := by
            have := Int.mul_ediv_add_emod (lnV a am) c
            omega
          rw [h0, Int.mul_ediv_cancel_left _ (by omega)]
        rw [e]
        exact k _ K1
      | two w2 a b2 =>
        obtain ⟨l, r, h1, h2, h3⟩ := hq
        obtain ⟨h4, ha, hb2⟩ := hok
        walk_at "v"
        refine w_ixT h1 rfl ?_
        walk_at "v"
        refine ⟨l, b, a, am, n, rfl, h2, ha, n3, hb, hbn, fun H1 K1 => ?_⟩
        walk_at "v"
        refine w_ixT (K1 _ _ h1) rfl ?_
        refine ⟨rfl, ?_⟩
        walk_at "v"
        refine iteFk (by rcases h4 with h | h | h | h <;> subst h <;> decide) ?_
        walk_at "v"
        refine w_ixT (K1 _ _ h1) rfl ?_
        refine ⟨rfl, ?_⟩
        walk_at "v"
        refine iteFk (by rcases h4 with h | h | h | h <;> subst h <;> decide) ?_
        walk_at "v"
        refine w_ixT (K1 _ _ h1) rfl ?_
        walk_at "v"
        refine ⟨r, b, b2, am, n, rfl, h3.tk (TK.same K1), hb2, n3, K1 _ _ hb, hbn, fun H2 K2' => ?_⟩
        have K2 := K1.trans K2'
        clear K2' K1
        generalize hX : lnV a am = X1
        generalize hY : lnV b2 am = X2
        walk_at "v"
        refine w_disp fun d hd => ?_
        have hd0 : H d = none := Same.none K2 hd
        have K3 : Same H2 (upd H2 d (.dK [])) := Same.new (Same.refl _) hd
        have ed : upd H2 d (.dK []) d = some (.dK []) := upd_same
        generalize upd H2 d (.dK []) = H3 at K3 ed ⊢
        refine w_pairs ?_
        walk_at "v"
        refine ⟨_, _, rfl, ?_⟩
        refine w_pairs ?_
        walk_at "v"
        refine ⟨_, _, rfl, ?_⟩
        refine w_pairs0 ?_
        refine ⟨ed, ([(kS "least", V.int (if X2 < X1 then X2 else X1)), (kS "most", V.int (if X2 > X1 then X2 else X1))] : List (Key × V)), rfl, by show 2 ≤ 15; decide, ?_⟩
        rw [mergeA]
        have K4 : Same H (upd H3 d (.dK ([(kS "least", V.int (if X2 < X1 then X2 else X1)), (kS "most", V.int (if X2 > X1 then X2 else X1))] : List (Key × V)))) := (K2.trans K3).put hd0
        have e4 : upd H3 d (.dK ([(kS "least", V.int (if X2 < X1 then X2 else X1)), (kS "most", V.int (if X2 > X1 then X2 else X1))] : List (Key × V))) d = some (.dK ([(kS "least", V.int (if X2 < X1 then X2 else X1)), (kS "most", V.int (if X2 > X1 then X2 else X1))] : List (Key × V))) := upd_same
        generalize upd H3 d (.dK ([(kS "least", V.int (if X2 < X1 then X2 else X1)), (kS "most", V.int (if X2 > X1 then X2 else X1))] : List (Key × V))) = H4 at K4 e4 ⊢
        walk_at "v"
        refine w_dupd ?_
        walk_at "v"
        refine ⟨d, rfl, .inl ⟨_, .inl e4⟩, ?_⟩
        refine w_disp fun d2 hd2 => ?_
        have hd20 : H d2 = none := Same.none K4 hd2
        have ndd : d ≠ d2 := ne_of_none e4 hd2
        have K5 : Same H (upd H4 d2 (.dK [])) := K4.new hd2
        have e5 : upd H4 d2 (.dK []) d2 = some (.dK []) := upd_same
        have f5 : upd H4 d2 (.dK []) d = some (.dK ([(kS "least", V.int (if X2 < X1 then X2 else X1)), (kS "most", V.int (if X2 > X1 then X2 else X1))] : List (Key × V))) := by rw [upd_ne ndd]; exact e4
        generalize upd H4 d2 (.dK []) = H5 at K5 e5 f5 ⊢
        refine w_pairs ?_
        walk_at "v"
        refine .inr ⟨_, rfl, ?_⟩
        refine w_pairs ?_
        walk_at "v"
        refine ⟨rfl, ?_⟩
        refine .inr ⟨_, rfl, ?_⟩
        refine w_pairs0 ?_
        refine ⟨e5, ([(kS "more", V.int (if decide (X1 > X2) = true then 1 else 0)), (kS "same", V.int (if decide (V.int X1 = V.int X2) = true then 1 else 0))] : List (Key × V)), rfl, by show 2 ≤ 15; decide, ?_⟩
        rw [mergeB]
        refine ⟨d2, _, _, rfl, by rw [upd_ne ndd]; exact f5, upd_same, ndd, by show 2 + 2 ≤ 1000; decide, ?_⟩
        rw [mergeC]
        have K6 := (K5.put (o := .dK ([(kS "more", V.int (if decide (X1 > X2) = true then 1 else 0)), (kS "same", V.int (if decide (V.int X1 = V.int X2) = true then 1 else 0))] : List (Key × V))) hd20).put (o := .dK ([(kS "least", V.int (if X2 < X1 then X2 else X1)), (kS "most", V.int (if X2 > X1 then X2 else X1)), (kS "more", V.int (if decide (X1 > X2) = true then 1 else 0)), (kS "same", V.int (if decide (V.int X1 = V.int X2) = true then 1 else 0))] : List (Key × V))) hd0
        walk_at "v"
        refine w_dget ?_
        walk_at "v"
        refine w_ixT (K6 _ _ h1) rfl ?_
        have kk := k _ K6
        subst hX hY
        rcases h4 with h | h | h | h <;> subst h
        · exact ⟨d, _, rfl, .inl ⟨_, kS "least", .inl upd_same, rfl, by rfl⟩, kk⟩
        · exact ⟨d, _, rfl, .inl ⟨_, kS "most", .inl upd_same, rfl, by rfl⟩, kk⟩
        · refine ⟨d, _, rfl, .inl ⟨_, kS "more", .inl upd_same, rfl, by rfl⟩, ?_⟩
          have e : (if decide (lnV a am > lnV b2 am) = true then (1 : Int) else 0) = akV am (.two "more" a b2) := by
            show _ = if lnV b2 am < lnV a am then (1 : Int) else 0
            by_cases hh : lnV b2 am < lnV a am
            · rw [if_pos hh, if_pos (decide_eq_true hh)]
            · rw [if_neg hh, if_neg (by simpa using hh)]
          rw [← e] at kk
          exact kk
        · refine ⟨d, _, rfl, .inl ⟨_, kS "same", .inl upd_same, rfl, by rfl⟩, ?_⟩
          have e : (if decide (V.int (lnV a am) = V.int (lnV b2 am)) = true then (1 : Int) else 0) = akV am (.two "same" a b2) := by
            show _ = if lnV a am = lnV b2 am then (1 : Int) else 0
            by_cases hh : lnV a am = lnV b2 am
            · rw [if_pos hh, if_pos (decide_eq_true (congrArg V.int hh))]
            · rw [if_neg hh, if_neg (by simpa using hh)]
          rw [← e] at kk
          exact kk
end
end K25

set_option Elab.async false
set_option linter.all false
set_option maxRecDepth 100000
namespace K25
open PySem L2 G2
local macro_rules | `(tactic| walk_at "v") => `(tactic| repeat (with_reducible first
  | refine w_seq ?_ | refine w_asg ?_ | refine w_gname ?_ | refine w_op ?_ | refine w_var rfl ?_ | refine w_c ?_ | refine w_rI0 ?_ | refine w_ifs ?_ | refine w_ife ?_ | refine w_test ?_ | refine w_tb ?_ | refine w_bl ?_ | refine w_not ?_ | refine w_ret ?_ | refine w_retN ?_
  | refine w_nil ?_ | refine w_cons ?_ | refine w_lst ?_ | refine w_tup ?_ | refine w_cb ?_ | refine w_call ?_ | refine w_gsub ?_ | refine w_and ?_ | refine w_or ?_ | refine w_next ?_ | refine w_all ?_ | refine w_vals ?_ | refine w_compR ?_ | refine w_compT ?_ | refine w_forR ?_ | refine w_forT ?_ | refine w_forL ?_ | refine w_drop ?_ | refine w_bm ?_ | refine w_compZ ?_ | refine w_compL ?_ | refine w_chain ?_ | refine w_sl ?_ | refine w_nopart ?_ | refine w_part ?_ | refine w_unI ?_ | refine iteT ?_ | refine iteF ?_))
theorem PtA.same {H H' : Hp} {q : Addr} {ins beg : List Int} {m : Nat} {ans : Int} (k : Same H H') (h : PtA H q ins beg m ans) : PtA H' q ins beg m ans := ⟨h.toPt.same k, let ⟨a, b, c, d, e⟩ := h.an; ⟨a, b, c, d, k _ _ e⟩⟩
theorem Pcs.tk {H H' : Hp} (k : TK H H') : ∀ {rs : List Addr} {fss : List (List Fm)}, Pcs H rs fss → Pcs H' rs fss
  | [], [], _ => trivial
  | q :: qs, f :: fs, ⟨⟨us, e, h⟩, h2⟩ => ⟨⟨us, k.t _ _ e, h.tk k⟩, Pcs.tk k h2⟩
  | [], _ :: _, h => h.elim
  | _ :: _, [], h => h.elim
theorem PcsAt.tk {H H' : Hp} (k : TK H H') {q : Addr} {fss : List (List Fm)} : PcsAt H q fss → PcsAt H' q fss
  | ⟨rs, e, h⟩ => ⟨rs, k.t _ _ e, h.tk k⟩
theorem Pcs.len {H : Hp} : ∀ {rs : List Addr} {fss : List (List Fm)}, Pcs H rs fss → rs.length = fss.length
  | [], [], _ => rfl
  | q :: qs, f :: fs, h => by rw [List.length_cons, List.length_cons, Pcs.len h.2]
  | [], _ :: _, h => h.elim
  | _ :: _, [], h => h.elim
theorem Sh.sm.of {s : Sh} (h : decide ((-20 ≤ s.x ∧ s.x ≤ 20) ∧ (-20 ≤ s.y ∧ s.y ≤ 20) ∧ (-20 ≤ s.z ∧ s.z ≤ 20) ∧ -20 ≤ s.p ∧ s.p ≤ 20) = true) : s.sm := by
  have z := of_decide_eq_true h
  exact z
theorem shapes_sm {A : Ak} {n : Nat} (h : A.ok n) : ∀ l ∈ shapes A, ∀ s ∈ l, s.sm := by
  cases A with
  | sum a =>
    intro l hl s hs
    simp only [shapes, firstS, List.mem_cons, List.not_mem_nil, or_false] at hl
    subst hl
    simp only [List.mem_cons, List.not_mem_nil, or_false] at hs
    rcases hs with rfl | rfl <;> exact Sh.sm.of (by decide)
  | part a c =>
    obtain ⟨_, c2, c9⟩ := h
    intro l hl s hs
    simp only [shapes, List.mem_cons, List.not_mem_nil, or_false] at hl
    subst hl
    simp only [List.mem_cons, List.not_mem_nil, or_false] at hs
    rcases hs with rfl | rfl
    · refine ⟨⟨?_, ?_⟩, ⟨?_, ?_⟩, ⟨?_, ?_⟩, ?_, ?_⟩ <;> dsimp only <;> omega
    · refine ⟨⟨?_, ?_⟩, ⟨?_, ?_⟩, ⟨?_, ?_⟩, ?_, ?_⟩ <;> dsimp only <;> omega
  | two w a b =>
    have go : ∀ ls : List (List Sh), (ls.all fun l => l.all fun s => decide ((-20 ≤ s.x ∧ s.x ≤ 20) ∧ (-20 ≤ s.y ∧ s.y ≤ 20) ∧ (-20 ≤ s.z ∧ s.z ≤ 20) ∧ -20 ≤ s.p ∧ s.p ≤ 20)) = true → ∀ l ∈ ls, ∀ s ∈ l, s.sm := fun ls hh l hl s hs => Sh.sm.of (List.all_eq_true.mp (List.all_eq_true.mp hh l hl) s hs)
    rcases h.1 with h | h | h | h <;> subst h
    · exact go [firstS ++ [underS], secndS ++ [overS]] (by decide)
    · exact go [firstS ++ [overS], secndS ++ [underS]] (by decide)
    · exact go [yesS ++ [⟨1, -1, 0, -1⟩], noS ++ [underS]] (by decide)
    · exact go [yesS ++ [overS, underS], noS ++ [⟨1, -1, 0, -1⟩], noS ++ [⟨-1, 1, 0, -1⟩]] (by decide)
theorem lnA_ok {A : Ak} {n : Nat} (h : A.ok n) : (lnA A).ok n := by
  cases A with
  | sum a => exact h
  | part a c => exact h.1
  | two w a b => exact h.2.1
theorem lnB_ok {A : Ak} {n : Nat} (h : A.ok n) : (lnB n A).ok n := by
  cases A with
  | sum a => exact zero_ok n
  | part a c => exact zero_ok n
  | two w a b => exact h.2.2

theorem Pcs.at {H : Hp} : ∀ {rs : List Addr} {fss : List (List Fm)}, Pcs H rs fss → ∀ (i : Nat) (r : Addr), rs[i]? = some r → ∃ fs, fss[i]? = some fs ∧ ∃ qs : List Addr, H r = some (.tup (qs.map V.ref)) ∧ Fms H qs fs
  | [], [], _, i, q, e => by simp at e
  | q :: qs, f :: fs, h, 0, q', e => by
    simp at e
    subst e
    exact ⟨f, rfl, h.1⟩
  | q :: qs, f :: fs, h, i + 1, q', e => by
    obtain ⟨c, h1, h2⟩ := Pcs.at h.2 i q' (by simpa using e)
    exact ⟨c, by simpa using h1, h2⟩
  | [], _ :: _, h, _, _, _ => h.elim
  | _ :: _, [], h, _, _, _ => h.elim
theorem fms_at {H : Hp} : ∀ {qs : List Addr} {fs : List Fm}, Fms H qs fs → ∀ (i : Nat) (q : Addr), qs[i]? = some q → ∃ f, fs[i]? = some f ∧ FmAt H q f
  | [], [], _, i, q, e => by simp at e
  | q :: qs, f :: fs, h, 0, q', e => by
    simp at e
    subst e
    exact ⟨f, rfl, h.1⟩
  | q :: qs, f :: fs, h, i + 1, q', e => by
    obtain ⟨c, h1, h2⟩ := fms_at h.2 i q' (by simpa using e)
    exact ⟨c, by simpa using h1, h2⟩
  | [], _ :: _, h, _, _, _ => h.elim
  | _ :: _, [], h, _, _, _ => h.elim
theorem lay_fm (f : Fm) : (fmD f).canLay0 = true := by simp [fmD, PyData.canLay0, PyData.canLayAll0, layAll_ints]
theorem lay_fms : ∀ fs : List Fm, PyData.canLayAll0 (fs.map fmD) = true
  | [] => rfl
  | f :: fs => by simp [PyData.canLayAll0, lay_fm f, lay_fms fs]
theorem dep_fm (f : Fm) : (fmD f).depth ≤ 2 := by simp [fmD, PyData.depth, PyData.depthAll, depth_ints]
theorem dep_fms : ∀ fs : List Fm, PyData.depthAll (fs.map fmD) ≤ 2
  | [] => Nat.zero_le _
  | f :: fs => by
    have h1 := dep_fm f
    have h2 := dep_fms fs
    simp only [List.map_cons, PyData.depthAll]
    omega
theorem eqv_nilF : ∀ fs : List Fm, PyData.eqv (.list (fs.map fmD)) (.list []) = fs.isEmpty
  | [] => by simp [PyData.eqv, PyData.eqvAll]
  | f :: fs => by simp [PyData.eqv, PyData.eqvAll]
theorem sh_ok4 {n m : Nat} {ans : Int} {a b : Ln} {s : Sh} (hs : s.sm) (ha : a.ok n) (hb : b.ok n) : FmOk n m 4000 (shF n m ans a b s) := by
  obtain ⟨h1, h2, h3, h4⟩ := hs
  refine ⟨by simp [shF], by simp [shF], fun x hx => ?_, fun x hx => ?_, ?_⟩
  · obtain ⟨k, _, rfl⟩ := List.mem_map.mp hx
    have e1 := mul_sm h1 (getD_bd ha.2.1 k)
    have e2 := mul_sm h2 (getD_bd hb.2.1 k)
    show -4000 ≤ s.x * a.bys.getD k 0 + s.y * b.bys.getD k 0 ∧ s.x * a.bys.getD k 0 + s.y * b.bys.getD k 0 ≤ 4000
    omega
  · obtain ⟨k, _, rfl⟩ := List.mem_map.mp hx
    have e1 := mul_sm h3 (y := if (k : Int) = ans then (1 : Int) else 0) (by split <;> exact ⟨by decide, by decide⟩)
    show -4000 ≤ s.z * (if (k : Int) = ans then (1 : Int) else 0) ∧ s.z * (if (k : Int) = ans then (1 : Int) else 0) ≤ 4000
    omega
  · have e1 := mul_sm h1 ha.2.2
    have e2 := mul_sm h2 hb.2.2
    show -4000 ≤ s.x * a.plus + s.y * b.plus + s.p ∧ s.x * a.plus + s.y * b.plus + s.p ≤ 4000
    omega
section
variable {P : Program} {w : World} {K : PySem.W.Frag} {mg : Str → Option Value} {base : Heap}
set_option maxHeartbeats 4000000 in
theorem ok_Ho {f : Addr} {fd : FuncData} (fA : Has P w K mg base 1 "_law_at" ["_law_form", "_law_amounts", "_law_stand"] spAt) (F : Fun K "_law_some_hold" "_law_some_hold" sHo f fd) : FnOk P w K mg base CX0 2 f fd ["_law_pieces", "_law_amounts", "_law_stand"] spHo := by
  refine F.ok scHo (fun vs H Q E h => ?_) (fun cdv A outer s H vs Q E hr h => ?_)
  · obtain ⟨r, a, b, fss, am, st, n, m, rfl, _⟩ := h
    rfl
  · obtain ⟨r, a, b, fss, am, st, n, m, rfl, ⟨rs, er, hP⟩, hF, hf10, ha, han, hb, hbm, n10, m10, k⟩ := h
    refine' ⟨_, ?hb, ?rd⟩
    case hb =>
      refine' pss_cons ?s1 ?r1
      case' r1 => refine' pss_one ?s2
      case s2 => exact ps_ret pe_bl
      case s1 =>
        refine' ps_for PassesOwn.never rfl (pi_tup (pvd nmHo 0)) (pgd nmHo 3) ?b1
        case b1 =>
          refine' pss_one ?b2
          case' b2 => refine' ps_if ?b3 (pss_one (ps_ret pe_bl)) pss_nil
          case' b3 => refine' pt_cmpR (op_eqD hr) ?b4 (pe_lst pa_nil) (nomark _)
          case b4 =>
            refine' pe_comp (ix := [1, 2]) bsHo.toCScope rfl rfl (pi_tup (pvd nmHo 3)) ?h4 ?h5 ?h6
            case h4 => exact fun _ _ _ _ _ _ => pgb bsHo 0
            case h5 =>
              intro _ _ _ _ _ _
              refine' pts_one ?h7
              case' h7 => refine' pt_cmpR op_lt ?h8 pe_int (nomark _)
              case h8 => exact pe_f fA hr (by decide) (pa_c (pvb bsHo 0) (pa_2 (pvb bsHo 1) (pvb bsHo 2))) (bsHo.g 0)
            case h6 => exact fun _ _ _ _ _ _ => pvb bsHo 0
    case rd =>
      have hrl := hP.len
      walk_at "v"
      refine ⟨r, rfl, ⟨_, SqT.of er⟩, ?_⟩
      refine for_tup (xs := rs.map V.ref) (fun i σ H' => ∃ (u3 : Option V), σ = [some (.ref r), some (.ref a), some (.ref b), u3] ∧ holdP am st (fss.take i) = false ∧ Same H H') ⟨none, rfl, by simp [holdP], Same.refl _⟩ (fun i σ H' _ ⟨_, _, _, k'⟩ => SqT.of (k' _ _ er)) ?_ ?_
      · rintro i x σ H1 hx ⟨u3, rfl, hh, K1⟩
        have hi : i < rs.length := by
          have := (List.getElem?_eq_some_iff.mp hx).1
          simpa using this
        have ex : x = .ref rs[i] := by
          rw [List.getElem?_map, List.getElem?_eq_getElem hi] at hx
          exact (Option.some.inj hx).symm
        subst ex
        obtain ⟨fs, hfs, qs, eq, hq⟩ := hP.at i rs[i] (by simp [hi])
        obtain ⟨l10, fok⟩ := hF fs (List.mem_of_getElem? hfs)
        have hql := hq.len
        walk_at "v"
        refine ⟨rs[i], rfl, ⟨_, SqT.of (K1 _ _ eq)⟩, fun D hD => ?_⟩
        refine cgo_tup (xs := qs.map V.ref) (ρ := [some (.ref a), some (.ref b)]) (fun j zs H' => ∃ us : List Addr, zs = us.map V.ref ∧ Fms H' us ((fs.take j).filter (neg am st)) ∧ Same H1 H') ⟨[], rfl, by simp [Fms], Same.new (Same.refl _) hD⟩ (fun j zs H' _ ⟨_, _, _, k'⟩ => SqT.of (k' _ _ (K1 _ _ eq))) ?_ ?_
        · rintro j y zs H' hy ⟨us, rfl, hu, K'⟩ hDz R S kR kS
          have hj : j < qs.length := by
            have := (List.getElem?_eq_some_iff.mp hy).1
            simpa using this
          have ey : y = .ref qs[j] := by
            rw [List.getElem?_map, List.getElem?_eq_getElem hj] at hy
            exact (Option.some.inj hy).symm
          subst ey
          obtain ⟨f, hf, hfq⟩ := fms_at hq j qs[j] (by simp [hj])
          have KH := K1.trans K'
          have htk : fs.take (j + 1) = fs.take j ++ [f] := by
            rw [List.take_add_one, hf]
            rfl
          walk_at "v"
          refine ⟨qs[j], a, b, f, am, st, n, m, rfl, hfq.same KH, fok f (List.mem_of_getElem? hf), KH _ _ ha, han, KH _ _ hb, hbm, n10, m10, ?_⟩
          walk_at "v"
          show if neg am st f = true then _ else _
          cases hn : neg am st f with
          | true =>
            refine iteT ?_
            walk_at "v"
            have T2 : TK H' (upd H' D (.lst (us.map V.ref ++ [.ref qs[j]]))) := TK.lst hDz
            have hul := hu.len
            have hle := List.length_filter_le (neg am st) (fs.take j)
            rw [List.length_take] at hle
            refine kR _ _ hDz (by rw [List.length_map]; exact small1000 (by omega)) ⟨us ++ [qs[j]], by rw [List.map_append]; rfl, ?_, K'.put hD⟩
            rw [htk, List.filter_append]
            have e1 : [f].filter (neg am st) = [f] := by simp [hn]
            rw [e1]
            exact Fms.app (Fms.one ((hfq.same KH).tk T2)) (hu.tk T2)
          | false =>
            refine iteF ?_
            refine kS _ hDz ⟨us, rfl, ?_, K'⟩
            rw [htk, List.filter_append]
            have e1 : [f].filter (neg am st) = [] := by simp [hn]
            rw [e1, List.append_nil]
            exact hu
        · rintro zs H2 ⟨us, rfl, hu, K2⟩ hDz
          rw [List.length_map, hql, List.take_length] at hu
          walk_at "v"
          refine ⟨Nat.zero_le _, fun z hz => ?_⟩
          have K3 : Same H2 (upd H2 z (.lst [])) := Same.new (Same.refl _) hz
          have e3 : upd H2 z (.lst []) z = some (.lst []) := upd_same
          generalize upd H2 z (.lst []) = H3 at K3 e3 ⊢
          have d2 := dep_fms (fs.filter (neg am st))
          refine ⟨_, _, .lst (K3 _ _ hDz) (hu.tk (TK.same K3)).rd, .lst e3 .nil, lay_fms _, rfl, by show PyData.depthAll _ + 1 ≤ 60; omega, ?_⟩
          rw [eqv_nilF]
          have KA := (K1.trans K2).trans K3
          walk_at "v"
          have htake : fss.take (i + 1) = fss.take i ++ [fs] := by
            rw [List.take_add_one, hfs]
            rfl
          have hstep : holdP am st (fss.take (i + 1)) = (fs.filter (neg am st)).isEmpty := by
            unfold holdP at hh ⊢
            rw [htake, List.any_append, hh]
            simp
          cases he : (fs.filter (neg am st)).isEmpty with
          | true =>
            refine iteT ?_
            walk_at "v"
            have hall : holdP am st fss = true := by
              rw [he] at hstep
              unfold holdP at hstep ⊢
              rw [← List.take_append_drop (i + 1) fss, List.any_append, hstep]
              rfl
            have := k _ KA
            rw [hall] at this
            exact this
          | false =>
            refine iteF ?_
            walk_at "v"
            exact ⟨_, rfl, by rw [hstep, he], KA⟩
      · rintro σ H1 ⟨u3, rfl, hh, K1⟩
        rw [List.length_map, hrl, List.take_length] at hh
        walk_at "v"
        have := k _ K1
        rw [hh] at this
        exact this
set_option maxHeartbeats 4000000 in
theorem ok_Ne {f : Addr} {fd : FuncData} (B : Blt3 mg) (D : Has P w K mg base 1 "_law_draw" ["_law_tape_here", "_law_many"] spDraw) (F : Fun K "_law_near" "_law_near" sNe f fd) : FnOk P w K mg base CX0 2 f fd ["_law_tape_here", "_law_ask_here"] spNe := by
  refine F.ok scNe (fun vs H Q E h => ?_) (fun cdv A outer s H vs Q E hr h => ?_)
  · obtain ⟨p, l, ns, q, A, n, rfl, _⟩ := h
    rfl
  · obtain ⟨p, l, ns, q, A, n, rfl, T0, hq, hok, k⟩ := h
    refine' ⟨_, ?hb, ?rd⟩
    case hb =>
      refine' pss_cons ?s1 ?r1
      case' r1 => refine' pss_cons ?s2 ?r2
      case' r2 => refine' pss_one ?s3
      case s1 =>
        refine' ps_if ?c1 (pss_one (ps_ret (pvd nmNe 1))) pss_nil
        case' c1 => refine' PW.pt ?c2
        case' c2 => refine' pw_or ?c3 ?c4
        case' c3 => refine' pt_cmpR op_in_seq (pe_ix ix_d (pvd nmNe 1) pe_int (fun _ _ => rfl)) ?c5 (by with_unfolding_all rfl)
        case c5 =>
          refine pe_tupW (vs := [.str "sum", .str "part"]) ?_
          decide +kernel
        case' c4 => refine' pw_or1 ?c6
        case c6 => exact pt_cmpR op_eq (pe_f D hr (by decide) (pa_2 (pvd nmNe 0) pe_int)) pe_int (nomark _)
      case s2 =>
        refine' ps_setD nmNe 2 ?d1
        case' d1 => refine' pe_cB (call_max2 rfl) B.max PyProof.Rows.boot_max ?d2
        case' d2 => refine' pa_2 (pe_un un_neg pe_int) ?d3
        case' d3 => refine' pe_cB (call_min2 rfl) B.min PyProof.Rows.boot_min ?d4
        case' d4 => refine' pa_2 pe_int ?d5
        case' d5 => refine' pe_op op_sub ?d6 pe_int
        case' d6 => refine' pe_op op_add (pe_ix ix_d (pe_ix ix_d (pvd nmNe 1) pe_int (fun _ _ => rfl)) pe_int (fun _ _ => rfl)) ?d7
        case d7 => exact pe_f D hr (by decide) (pa_2 (pvd nmNe 0) pe_int)
      case s3 =>
        refine' ps_ret ?e1
        case' e1 => refine' pe_tup ?e2
        case' e2 => refine' pa_c (pe_ix ix_d (pvd nmNe 1) pe_int (fun _ _ => rfl)) ?e3
        case' e3 => refine' pa_2 (pe_ix ix_d (pvd nmNe 1) pe_int (fun _ _ => rfl)) ?e4
        case' e4 => refine' pe_tup ?e5
        case e5 => exact pa_2 (pe_ix ix_d (pe_ix ix_d (pvd nmNe 1) pe_int (fun _ _ => rfl)) pe_int (fun _ _ => rfl)) (pvd nmNe 2)
    case rd =>
      cases A with
      | sum a =>
        obtain ⟨lq, h1, h2⟩ := hq
        walk_at "v"
        refine w_ixT h1 rfl ?_
        walk_at "v"
        refine ⟨by show 2 ≤ sizeLine; decide, fun z hz => ?_⟩
        have T1 := T0.new (o := .tup [.str "sum", .str "part"]) hz
        have TK1 : TK H (upd H z (.tup [.str "sum", .str "part"])) := TK.new hz
        have ez : upd H z (.tup [.str "sum", .str "part"]) z = some (.tup [.str "sum", .str "part"]) := upd_same
        generalize upd H z (.tup [.str "sum", .str "part"]) = H1 at T1 TK1 ez ⊢
        refine ⟨z, _, rfl, .inr (SqT.of ez), rfl, rfl, ?_⟩
        walk_at "v"
        refine iteTb (by decide) ?_
        walk_at "v"
        exact k q _ _ hok ⟨lq, TK1.t _ _ h1, h2.tk TK1⟩ T1 TK1
      | part a c =>
        obtain ⟨lq, h1, h2⟩ := hq
        walk_at "v"
        refine w_ixT h1 rfl ?_
        walk_at "v"
        refine ⟨by show 2 ≤ sizeLine; decide, fun z hz => ?_⟩
        have T1 := T0.new (o := .tup [.str "sum", .str "part"]) hz
        have TK1 : TK H (upd H z (.tup [.str "sum", .str "part"])) := TK.new hz
        have ez : upd H z (.tup [.str "sum", .str "part"]) z = some (.tup [.str "sum", .str "part"]) := upd_same
        generalize upd H z (.tup [.str "sum", .str "part"]) = H1 at T1 TK1 ez ⊢
        refine ⟨z, _, rfl, .inr (SqT.of ez), rfl, rfl, ?_⟩
        walk_at "v"
        refine iteTb (by decide) ?_
        walk_at "v"
        exact k q _ _ hok ⟨lq, TK1.t _ _ h1, h2.tk TK1⟩ T1 TK1
      | two w2 a b =>
        obtain ⟨lq, lr, h1, h2, h3⟩ := hq
        walk_at "v"
        refine w_ixT h1 rfl ?_
        walk_at "v"
        refine ⟨by show 2 ≤ sizeLine; decide, fun z hz => ?_⟩
        have T1 := T0.new (o := .tup [.str "sum", .str "part"]) hz
        have TK1 : TK H (upd H z (.tup [.str "sum", .str "part"])) := TK.new hz
        have ez : upd H z (.tup [.str "sum", .str "part"]) z = some (.tup [.str "sum", .str "part"]) := upd_same
        generalize upd H z (.tup [.str "sum", .str "part"]) = H1 at T1 TK1 ez ⊢
        refine ⟨z, _, rfl, .inr (SqT.of ez), rfl, rfl, ?_⟩
        walk_at "v"
        refine iteFb (by rcases hok.1 with h | h | h | h <;> subst h <;> decide) ?_
        walk_at "v"
        refine ⟨p, l, ns, 2, rfl, T1, by decide, by decide, fun r c e r0 r1 => ?_⟩
        have T2 := T1.draw (c := c) (e := e)
        have TK2 := TK1.trans (T1.tk (o := .lst [.ref l, .int c, .int e]))
        generalize upd H1 p (.lst [.ref l, .int c, .int e]) = H2 at T2 TK2 ⊢
        refine ⟨rfl, ?_⟩
        walk_at "v"
        refine iteD (fun _ => ?_) (fun _ => ?_)
        · walk_at "v"
          exact k q (.two w2 a b) _ hok ⟨lq, lr, TK2.t _ _ h1, h2.tk TK2, h3.tk TK2⟩ T2 TK2
        · obtain ⟨lb, g1, g2⟩ := h2
          walk_at "v"
          refine ⟨_, rfl, ?_⟩
          walk_at "v"
          refine w_ixT (TK2.t _ _ h1) rfl ?_
          walk_at "v"
          refine w_ixT (TK2.t _ _ g1) rfl ?_
          walk_at "v"
          refine ⟨p, l, ns, 3, rfl, T2, by decide, by decide, fun r c e r0 r1 => ?_⟩
          have T3 := T2.draw (c := c) (e := e)
          have TK3 := TK2.trans (T2.tk (o := .lst [.ref l, .int c, .int e]))
          generalize upd H2 p (.lst [.ref l, .int c, .int e]) = H3 at T3 TK3 ⊢
          walk_at "v"
          refine ⟨_, _, rfl, ?_⟩
          refine ⟨_, _, rfl, ?_⟩
          obtain ⟨pl, hpl, pl1, pl2⟩ : ∃ pl : Int, (if (if a.plus + r - 1 < 99 then a.plus + r - 1 else 99) > -99 then (if a.plus + r - 1 < 99 then a.plus + r - 1 else 99) else -99) = pl ∧ -99 ≤ pl ∧ pl ≤ 99 := ⟨_, rfl, by split <;> (try split) <;> omega, by split <;> (try split) <;> omega⟩
          rw [hpl]
          walk_at "v"
          refine w_ixT (TK3.t _ _ h1) rfl ?_
          walk_at "v"
          refine w_ixT (TK3.t _ _ h1) rfl ?_
          walk_at "v"
          refine w_ixT (TK3.t _ _ h1) rfl ?_
          walk_at "v"
          refine w_ixT (TK3.t _ _ g1) rfl ?_
          walk_at "v"
          refine ⟨by show 2 ≤ sizeLine; decide, fun y hy => ?_⟩
          have T4 := T3.new (o := .tup [.ref lb, .int pl]) hy
          have TK4 := TK3.trans (TK.new (o := .tup [.ref lb, .int pl]) hy)
          have ey : upd H3 y (.tup [.ref lb, .int pl]) y = some (.tup [.ref lb, .int pl]) := upd_same
          generalize upd H3 y (.tup [.ref lb, .int pl]) = H4 at T4 TK4 ey ⊢
          walk_at "v"
          refine ⟨by show 3 ≤ sizeLine; decide, fun x hx => ?_⟩
          have TK5 : TK H4 (upd H4 x (.tup [.str w2, .ref lq, .ref y])) := TK.new hx
          have TK6 := TK4.trans TK5
          exact k x (.two w2 a ⟨a.bys, pl⟩) _ ⟨hok.1, hok.2.1, hok.2.1.1, hok.2.1.2.1, pl1, pl2⟩ ⟨lq, y, upd_same, ⟨lb, TK6.t _ _ g1, TK6.t _ _ g2⟩, ⟨lb, TK5.t _ _ ey, TK6.t _ _ g2⟩⟩ (T4.new hx) TK6
end
end K25

set_option Elab.async false
set_option linter.all false
set_option maxRecDepth 100000
namespace K25
open PySem L2 G2
local macro_rules | `(tactic| walk_at "v") => `(tactic| repeat (with_reducible first
  | refine w_seq ?_ | refine w_asg ?_ | refine w_gname ?_ | refine w_op ?_ | refine w_var rfl ?_ | refine w_c ?_ | refine w_rI0 ?_ | refine w_ifs ?_ | refine w_ife ?_ | refine w_test ?_ | refine w_tb ?_ | refine w_bl ?_ | refine w_not ?_ | refine w_ret ?_ | refine w_retN ?_
  | refine w_nil ?_ | refine w_cons ?_ | refine w_lst ?_ | refine w_tup ?_ | refine w_cb ?_ | refine w_call ?_ | refine w_gsub ?_ | refine w_and ?_ | refine w_or ?_ | refine w_next ?_ | refine w_all ?_ | refine w_vals ?_ | refine w_compR ?_ | refine w_compT ?_ | refine w_forR ?_ | refine w_forT ?_ | refine w_forL ?_ | refine w_drop ?_ | refine w_bm ?_ | refine w_compZ ?_ | refine w_compL ?_ | refine w_chain ?_ | refine w_sl ?_ | refine w_nopart ?_ | refine w_part ?_ | refine w_unI ?_ | refine iteT ?_ | refine iteF ?_))

abbrev sLaw : Stmt := top 35
theorem shapes_len {A : Ak} {n : Nat} (h : A.ok n) : (shapes A).length ≤ 3 ∧ ∀ l ∈ shapes A, l.length ≤ 4 := by
  cases A with
  | sum a =>
    refine ⟨Nat.le_of_ble_eq_true rfl, fun l hl => ?_⟩
    simp only [shapes, List.mem_cons, List.not_mem_nil, or_false] at hl
    subst hl
    decide
  | part a c =>
    refine ⟨Nat.le_of_ble_eq_true rfl, fun l hl => ?_⟩
    simp only [shapes, List.mem_cons, List.not_mem_nil, or_false] at hl
    subst hl
    exact Nat.le_of_ble_eq_true rfl
  | two w a b =>
    have go : ∀ ls : List (List Sh), (ls.all fun l => decide (l.length ≤ 4)) = true → ∀ l ∈ ls, l.length ≤ 4 := fun ls hh l hl => of_decide_eq_true (List.all_eq_true.mp hh l hl)
    rcases h.1 with h | h | h | h <;> subst h
    · exact ⟨by show (shapes2 _).length ≤ 3; decide, go (shapes2 "least") (by decide)⟩
    · exact ⟨by show (shapes2 _).length ≤ 3; decide, go (shapes2 "most") (by decide)⟩
    · exact ⟨by show (shapes2 _).length ≤ 3; decide, go (shapes2 "more") (by decide)⟩
    · exact ⟨by show (shapes2 _).length ≤ 3; decide, go (shapes2 "same") (by decide)⟩

/-! ### what the pieces come to -/
theorem dot_comb (x y : Int) : ∀ as bs am : List Int, as.length = am.length → bs.length = am.length → dot (List.zipWith (fun u v => x * u + y * v) as bs) am = x * dot as am + y * dot bs am
  | [], [], [], _, _ => by simp [dot]
  | a :: as, b :: bs, m :: am, h1, h2 => by
    have ih := dot_comb x y as bs am (by simpa using h1) (by simpa using h2)
    show (x * a + y * b) * m + dot (List.zipWith (fun u v => x * u + y * v) as bs) am = x * (a * m + dot as am) + y * (b * m + dot bs am)
    rw [ih, Int.add_mul, Int.mul_add, Int.mul_add, Int.mul_assoc, Int.mul_assoc]
    omega
  | [], _ :: _, [], _, h => absurd h (by simp)
  | _ :: _, _, [], h, _ => absurd h (by simp)
  | [], _, _ :: _, h, _ => absurd h (by simp)
  | _ :: _, [], _ :: _, _, h => absurd h (by simp)
theorem comb_map {n : Nat} (x y : Int) {as bs : List Int} (h1 : as.length = n) (h2 : bs.length = n) : ((List.range n).map fun (k : Nat) => x * as.getD k 0 + y * bs.getD k 0) = List.zipWith (fun u v => x * u + y * v) as bs := by
  refine List.ext_getElem (by simp [h1, h2]) fun i h3 h4 => ?_
  have hi : i < n := by simpa using h3
  have hi1 : i < as.length := by omega
  have hi2 : i < bs.length := by omega
  simp [List.getD_eq_getElem?_getD, hi1, hi2]
theorem dot_zero : ∀ xs ys : List Int, (∀ x ∈ xs, x = 0) → dot xs ys = 0
  | [], ys, _ => dot_nil
  | x :: xs, [], _ => by simp [dot]
  | x :: xs, y :: ys, h => by
    show x * y + dot xs ys = 0
    rw [dot_zero xs ys fun z hz => h z (List.mem_cons_of_mem _ hz), h x List.mem_cons_self]
    simp
theorem dot_unit (z : Int) : ∀ (st : List Int) (j : Nat), j < st.length → dot ((List.range st.length).map fun (k : Nat) => z * (if k = j then (1 : Int) else 0)) st = z * st.getD j 0
  | [], j, h => absurd h (by simp)
  | s :: st, 0, _ => by
    rw [List.length_cons, List.range_succ_eq_map, List.map_cons, List.map_map]
    show z * (if 0 = 0 then (1 : Int) else 0) * s + dot _ st = z * s
    rw [dot_zero _ _ fun x hx => by obtain ⟨k, _, rfl⟩ := List.mem_map.mp hx; simp]
    simp
  | s :: st, j + 1, h => by
    have ih := dot_unit z st j (by simpa using h)
    rw [List.length_cons, List.range_succ_eq_map, List.map_cons, List.map_map]
    show z * (if 0 = j + 1 then (1 : Int) else 0) * s + dot _ st = _
    have e : ((List.range st.length).map ((fun (k : Nat) => z * (if k = j + 1 then (1 : Int) else 0)) ∘ Nat.succ)) = (List.range st.length).map fun (k : Nat) => z * (if k = j then (1 : Int) else 0) := by
      refine List.map_congr_left fun k _ => ?_
      simp
    rw [e, ih]
    simp
theorem sh_val {n m : Nat} {ans : Int} {a b : Ln} {s : Sh} {am st : List Int} (ha : a.ok n) (hb : b.ok n) (hn : am.length = n) (hm : st.length = m) (h0 : 0 ≤ ans) (h1 : ans < (m : Int)) : fmV (shF n m ans a b s) am st = s.x * lnV a am + s.y * lnV b am + s.z * st.getD ans.toNat 0 + s.p := by
  unfold fmV shF
  dsimp only
  rw [comb_map _ _ ha.1 hb.1, dot_comb _ _ _ _ _ (by rw [ha.1, hn]) (by rw [hb.1, hn])]
  have e : ((List.range m).map fun (k : Nat) => s.z * (if (k : Int) = ans then (1 : Int) else 0)) = (List.range st.length).map fun (k : Nat) => s.z * (if k = ans.toNat then (1 : Int) else 0) := by
    rw [hm]
    refine List.map_congr_left fun k _ => ?_
    by_cases h : (k : Int) = ans
    · rw [if_pos h, if_pos (by omega)]
    · rw [if_neg h, if_neg (by omega)]
  rw [e, dot_unit _ _ _ (by omega)]
  unfold lnV
  rw [Int.mul_add, Int.mul_add]
  omega
theorem fil_all {α : Type} (f : α → Bool) : ∀ xs : List α, (xs.filter f).isEmpty = xs.all fun x => !f x
  | [] => rfl
  | x :: xs => by
    rw [List.filter_cons, List.all_cons]
    cases h : f x with
    | true => simp
    | false => simpa using fil_all f xs
theorem all_map2 {α β : Type} (g : α → β) (f : β → Bool) : ∀ xs : List α, (xs.map g).all f = xs.all fun x => f (g x)
  | [] => rfl
  | x :: xs => by simp [all_map2 g f xs]
theorem hold_shapes {n m : Nat} {ans : Int} {A : Ak} {am st : List Int} (ha : A.ok n) (hn : am.length = n) (hm : st.length = m) (h0 : 0 ≤ ans) (h1 : ans < (m : Int)) :
    holdP am st (pcs n m ans A) = (shapes A).any fun l => l.all fun s => !decide (s.x * lnV (lnA A) am + s.y * lnV (lnB n A) am + s.z * st.getD ans.toNat 0 + s.p < 0) := by
  unfold holdP pcs
  rw [List.any_map]
  congr 1
  funext l
  show ((l.map (shF n m ans (lnA A) (lnB n A))).filter (neg am st)).isEmpty = _
  rw [fil_all, all_map2]
  congr 1
  funext s
  unfold neg
  rw [sh_val (lnA_ok ha) (lnB_ok ha) hn hm h0 h1]
theorem hold_is {n m : Nat} {ans : Int} {A : Ak} {am st : List Int} (ha : A.ok n) (hn : am.length = n) (hm : st.length = m) (h0 : 0 ≤ ans) (h1 : ans < (m : Int)) (hv : 0 ≤ st.getD ans.toNat 0) :
    holdP am st (pcs n m ans A) = decide (st.getD ans.toNat 0 = akV am A) := by
  rw [hold_shapes ha hn hm h0 h1]
  generalize st.getD ans.toNat 0 = v at hv
  rw [Bool.eq_iff_iff, decide_eq_true_iff]
  cases A with
  | sum a =>
    show ([firstS].any _ = true) ↔ v = lnV a am
    generalize lnV (lnB n (Ak.sum a)) am = L2
    show ([firstS].any fun l => l.all fun s => !decide (s.x * lnV a am + s.y * L2 + s.z * v + s.p < 0)) = true ↔ _
    generalize lnV a am = L1
    simp only [firstS, List.any_cons, List.any_nil, List.all_cons, List.all_nil, Bool.or_false, Bool.and_true, Bool.and_eq_true, Bool.not_eq_true', decide_eq_false_iff_not]
    omega
  | part a c =>
    obtain ⟨_, c2, c9⟩ := ha
    show ([[(⟨1, 0, -c, 0⟩ : Sh), ⟨-1, 0, c, c - 1⟩]].any _ = true) ↔ v = lnV a am / c
    generalize lnV (lnB n (Ak.part a c)) am = L2
    show ([[(⟨1, 0, -c, 0⟩ : Sh), ⟨-1, 0, c, c - 1⟩]].any fun l => l.all fun s => !decide (s.x * lnV a am + s.y * L2 + s.z * v + s.p < 0)) = true ↔ _
    generalize lnV a am = L1
    simp only [List.any_cons, List.any_nil, List.all_cons, List.all_nil, Bool.or_false, Bool.and_true, Bool.and_eq_true, Bool.not_eq_true', decide_eq_false_iff_not]
    have hc : c = 2 ∨ c = 3 ∨ c = 4 ∨ c = 5 ∨ c = 6 ∨ c = 7 ∨ c = 8 ∨ c = 9 := by omega
    rcases hc with rfl | rfl | rfl | rfl | rfl | rfl | rfl | rfl <;> omega
  | two w a b =>
    obtain ⟨h4, _, _⟩ := ha
    show ((shapes2 w).any fun l => l.all fun s => !decide (s.x * lnV a am + s.y * lnV b am + s.z * v + s.p < 0)) = true ↔ v = akV am (.two w a b)
    rcases h4 with h | h | h | h <;> subst h
    · show ([firstS ++ [underS], secndS ++ [overS]].any _) = true ↔ v = if lnV b am < lnV a am then lnV b am else lnV a am
      generalize lnV a am = L1
      generalize lnV b am = L2
      simp only [firstS, secndS, underS, overS, List.cons_append, List.nil_append, List.any_cons, List.any_nil, List.all_cons, List.all_nil, Bool.or_false, Bool.and_true, Bool.and_eq_true, Bool.or_eq_true, Bool.not_eq_true', decide_eq_false_iff_not]
      split <;> omega
    · show ([firstS ++ [overS], secndS ++ [underS]].any _) = true ↔ v = if lnV b am > lnV a am then lnV b am else lnV a am
      generalize lnV a am = L1
      generalize lnV b am = L2
      simp only [firstS, secndS, underS, overS, List.cons_append, List.nil_append, List.any_cons, List.any_nil, List.all_cons, List.all_nil, Bool.or_false, Bool.and_true, Bool.and_eq_true, Bool.or_eq_true, Bool.not_eq_true', decide_eq_false_iff_not]
      split <;> omega
    · show ([yesS ++ [⟨1, -1, 0, -1⟩], noS ++ [underS]].any _) = true ↔ v = if lnV b am < lnV a am then (1 : Int) else 0
      generalize lnV a am = L1
      generalize lnV b am = L2
      simp only [yesS, noS, underS, overS, List.cons_append, List.nil_append, List.any_cons, List.any_nil, List.all_cons, List.all_nil, Bool.or_false, Bool.and_true, Bool.and_eq_true, Bool.or_eq_true, Bool.not_eq_true', decide_eq_false_iff_not]
      split <;> omega
    · show ([yesS ++ [overS, underS], noS ++ [⟨1, -1, 0, -1⟩], noS ++ [⟨-1, 1, 0, -1⟩]].any _) = true ↔ v = if lnV a am = lnV b am then (1 : Int) else 0
      generalize lnV a am = L1
      generalize lnV b am = L2
      simp only [yesS, noS, underS, overS, List.cons_append, List.nil_append, List.any_cons, List.any_nil, List.all_cons, List.all_nil, Bool.or_false, Bool.and_true, Bool.and_eq_true, Bool.or_eq_true, Bool.not_eq_true', decide_eq_false_iff_not]
      split <;> omega
abbrev nLaw : List Str := ["_law_script", "_law_tape_here", "_law_k", "_law_pot_here", "_law_ask_here", "_law_pieces", "_law_j", "_law_amounts", "_law_due", "_law_drops", "_law_answer", "_law_stand"]
theorem nmLaw : Nm nLaw (defScope sLaw) := ⟨by decide +kernel, by decide +kernel⟩
theorem scLaw : FnScope nLaw ["_law_script"] (defScope sLaw) := ⟨rfl, rfl, rfl, by decide +kernel, rfl, by decide +kernel, by decide +kernel⟩

def asgComp (s : Stmt) : Scope := match s with
  | .Assign _ (.ListComp _ _ sc _) _ => sc
  | _ => noSc
abbrev bLaw : List Stmt := forBody ((defBody sLaw).getD 1 (.Pass ⟨0, 0, 0, 0⟩))
abbrev bIn : List Stmt := forBody (bLaw.getD 3 (.Pass ⟨0, 0, 0, 0⟩))
abbrev cLa : Scope := asgTupC (bIn.getD 0 (.Pass ⟨0, 0, 0, 0⟩))
abbrev cLb : Scope := asgComp (bIn.getD 2 (.Pass ⟨0, 0, 0, 0⟩))
theorem locLaw : (defScope sLaw).names.lookup ("_law_drops" : Str) = some .local := by decide +kernel
theorem bsLa : BScope (defScope sLaw) cLa ["_law_one"] ["_law_tape_here"] ["_law_draw"] := { okind := by decide +kernel, kind := by decide +kernel, nocell := by decide +kernel, names := by decide +kernel, fr := by decide +kernel, ff := by decide +kernel, nd := by decide +kernel, vis := by decide +kernel, loc := by decide +kernel, gl := by decide +kernel }
theorem bsLb : BScope (defScope sLaw) cLb ["_law_one"] ["_law_tape_here"] ["_law_draw"] := { okind := by decide +kernel, kind := by decide +kernel, nocell := by decide +kernel, names := by decide +kernel, fr := by decide +kernel, ff := by decide +kernel, nd := by decide +kernel, vis := by decide +kernel, loc := by decide +kernel, gl := by decide +kernel }

def spLaw (K : PySem.W.Frag) : Sp := fun vs H Q _ => ∃ (a : Addr) (ns : List Int), vs = [.ref a] ∧ SqF K H a (ns.map V.int) ∧ ns.length ≤ 63 ∧ ∀ H', Q (.bl true) H'
section
variable {P : Program} {w : World} {K : PySem.W.Frag} {mg : Str → Option Value} {base : Heap}
set_option maxHeartbeats 4000000 in
theorem ok_Law {f : Addr} {fd : FuncData} (B : Blt3 mg) (fT : Has P w K mg base 1 "_law_tape" ["_law_script"] (spTape K)) (D : Has P w K mg base 1 "_law_draw" ["_law_tape_here", "_law_many"] spDraw) (fP : Has P w K mg base 3 "_law_pot" ["_law_tape_here", "_law_most", "_law_rules"] spPot) (fA : Has P w K mg base 3 "_law_ask" ["_law_tape_here", "_law_many"] spAsk)
    (fN : Has P w K mg base 2 "_law_near" ["_law_tape_here", "_law_ask_here"] spNe) (fF : Has P w K mg base 5 "pieces_of" ["pot", "ask"] spPof) (fQ : Has P w K mg base 2 "_law_asked" ["_law_ask_here", "_law_amounts"] spAs) (fH : Has P w K mg base 2 "_law_some_hold" ["_law_pieces", "_law_amounts", "_law_stand"] spHo) (F : Fun K "law" "law" sLaw f fd) : FnOk P w K mg base CX0 6 f fd ["_law_script"] (spLaw K) := by
  refine F.ok scLaw (fun vs H Q E h => ?_) (fun cdv A outer s H vs Q E hr h => ?_)
  · obtain ⟨a, ns, rfl, _⟩ := h
    rfl
  · obtain ⟨a, ns, rfl, hS, hl, k⟩ := h
    refine' ⟨_, ?hb, ?rd⟩
    case hb =>
      refine' pss_cons ?s1 ?r1
      case' r1 => refine' pss_cons ?s2 ?r2
      case' r2 => refine' pss_one ?s3
      case s1 => exact ps_setD nmLaw 1 (pe_f fT hr (by decide) (pa_1 (pvd nmLaw 0)))
      case s3 => exact ps_ret pe_bl
      case s2 =>
        refine' ps_for PassesOwn.never rfl (pi_r1 B.range (pa_1 pe_int)) (pgd nmLaw 2) ?b1
        case b1 =>
          refine' pss_cons ?t1 ?v1
          case' v1 => refine' pss_cons ?t2 ?v2
          case' v2 => refine' pss_cons ?t3 ?v3
          case' v3 => refine' pss_one ?t4
          case t1 => exact ps_setD nmLaw 3 (pe_f fP hr (by decide) (pa_c (pvd nmLaw 1) (pa_2 pe_int pe_int)))
          case t2 =>
            refine' ps_setD nmLaw 4 ?c1
            case' c1 => refine' pe_f fN hr (by decide) ?c2
            case' c2 => refine' pa_2 (pvd nmLaw 1) ?c3
            case' c3 => refine' pe_f fA hr (by decide) ?c4
            case c4 => exact pa_2 (pvd nmLaw 1) (pe_cB call_lnT B.len PySem.boot_len (pa_1 (pe_ix ix_d (pvd nmLaw 3) pe_int (fun _ _ => rfl))))
          case t3 => exact ps_setD nmLaw 5 (pe_f fF hr (by decide) (pa_2 (pvd nmLaw 3) (pvd nmLaw 4)))
          case t4 =>
            refine' ps_for PassesOwn.never rfl (pi_r1 B.range (pa_1 pe_int)) (pgd nmLaw 6) ?b2
            case b2 =>
              refine' pss_cons ?w1 ?x1
              case' x1 => refine' pss_cons ?w2 ?x2
              case' x2 => refine' pss_cons ?w3 ?x3
              case' x3 => refine' pss_one ?w4
              case w1 =>
                refine' ps_setD nmLaw 7 ?d1
                case' d1 => refine' pe_cT call_tuple_of B.tuple PyProof.Rows.boot_tuple ?d2
                case' d2 => refine' pa_1 ?d3
                case d3 =>
                  refine' pe_comp (ix := [1]) bsLa.toCScope rfl rfl (pi_tup (pe_ix ix_d (pvd nmLaw 3) pe_int (fun _ _ => rfl))) ?h4 ?h5 ?h6
                  case h4 => exact fun _ _ _ _ _ _ => pgb bsLa 0
                  case h5 => exact fun _ _ _ _ _ _ => pts_nil
                  case h6 =>
                    intro _ _ _ _ _ _
                    refine' pe_ix ix_d ?e1 ?e2 (fun _ _ => rfl)
                    case e2 => exact pe_f D hr (by decide) (pa_2 (pvb bsLa 1) pe_int) (bsLa.g 0)
                    case' e1 => refine' pe_lst ?e3
                    case' e3 => refine' pa_c pe_int ?e4
                    case' e4 => refine' pa_c pe_int ?e5
                    case' e5 => refine' pa_c pe_int ?e6
                    case' e6 => refine' pa_c pe_int ?e7
                    case e7 => exact pa_2 pe_int (pe_op op_pow pe_int pe_int)
              case w2 => exact ps_setD nmLaw 8 (pe_f fQ hr (by decide) (pa_2 (pvd nmLaw 4) (pvd nmLaw 7)))
              case w3 =>
                refine' ps_setC (i := 9) (ix := [1]) nmLaw.nd rfl locLaw bsLb.toCScope rfl rfl (pi_tup (pe_ix ix_d (pvd nmLaw 3) pe_int (fun _ _ => rfl))) ?i4 ?i5 ?i6
                case i4 => exact fun _ _ _ _ _ _ => pgb bsLb 0
                case i5 => exact fun _ _ _ _ _ _ => pts_nil
                case i6 =>
                  intro _ _ _ _ _ _
                  refine' pe_ix ix_d ?f1 ?f2 (fun _ _ => rfl)
                  case f2 => exact pe_f D hr (by decide) (pa_2 (pvb bsLb 1) pe_int) (bsLb.g 0)
                  case' f1 => refine' pe_lst ?f3
                  case' f3 => refine' pa_c pe_int ?f4
                  case' f4 => refine' pa_c pe_int ?f5
                  case' f5 => refine' pa_c pe_int ?f6
                  case f6 => exact pa_2 pe_int (pe_op op_pow pe_int pe_int)
              case w4 =>
                refine' ps_for PassesOwn.never rfl ?j1 (pgd nmLaw 10) ?j2
                case' j1 => refine' pi_list ?j3
                case' j3 => refine' pe_lst ?j4
                case' j4 => refine' pa_c (pvd nmLaw 8) ?j5
                case' j5 => refine' pa_c (pe_op op_add (pvd nmLaw 8) pe_int) ?j6
                case' j6 => refine' pa_c (pe_op op_sub (pvd nmLaw 8) pe_int) ?j7
                case j7 => exact pa_c pe_int (pa_2 pe_int pe_int)
                case' j2 => refine' pss_one ?j8
                case' j8 => refine' ps_if (pt_cmpR op_ge (pvd nmLaw 10) pe_int (nomark _)) ?j9 pss_nil
                case' j9 => refine' pss_cons ?k1 ?k2
                case k1 => exact ps_asg (pvd nmLaw 10) (pg_sub (pvd nmLaw 9) (pe_ix ix_d (pvd nmLaw 3) pe_int (fun _ _ => rfl)) set_d)
                case' k2 => refine' pss_cons ?k3 ?k4
                case k3 => exact ps_setD nmLaw 11 (pe_cT call_tuple_of B.tuple PyProof.Rows.boot_tuple (pa_1 (pvd nmLaw 9)))
                case' k4 => refine' pss_one ?k5
                case' k5 => refine' ps_if ?k6 (pss_one (ps_ret pe_bl)) pss_nil
                case' k6 => refine' pt_cmpR op_ne ?k7 ?k8 (nomark _)
                case k7 => exact pe_f fH hr (by decide) (pa_c (pvd nmLaw 5) (pa_2 (pvd nmLaw 7) (pvd nmLaw 11)))
                case k8 => exact pe_cmpR op_eq (pvd nmLaw 10) (pvd nmLaw 8) (nomark _)
    case rd =>
      walk_at "v"
      refine ⟨a, ns, rfl, hS.sq, fun p l ms H1 _ T1 _ => ?_⟩
      walk_at "v"
      refine ⟨6, rfl, by decide, by decide, ?_⟩
      refine for_range (n := 6) (fun i σ H' => ∃ (u2 u3 u4 u5 u6 u7 u8 u9 u10 u11 : Option V), σ = [some (.ref a), some (.ref p), u2, u3, u4, u5, u6, u7, u8, u9, u10, u11] ∧ Tp H' p l ms) ⟨none, none, none, none, none, none, none, none, none, none, rfl, T1⟩ ?_ ?_
      · rintro i σ H2 hi ⟨u2, u3, u4, u5, u6, u7, u8, u9, u10, u11, rfl, T2⟩
        rw [Int.zero_add]
        walk_at "v"
        refine ⟨p, l, ms, 8, 2, rfl, T2, by decide, by decide, by decide, fun q nm rs ins beg ans m H3 P3 T3 _ => ?_⟩
        have m8 := P3.m8
        have i3 := P3.i3
        have hans := P3.ha
        obtain ⟨ps, pr, pin, pb, h1, h2, h3, h4, h5⟩ := id P3.ex
        walk_at "v"
        refine w_ixT h1 rfl ?_
        refine ⟨pin, _, rfl, h4, ?_⟩
        rw [List.length_map]
        refine ⟨p, l, ms, ins.length, rfl, T3, i3, fun ak0 A0 H4 hok0 hak0 T4 TK4 => ?_⟩
        walk_at "v"
        refine ⟨p, l, ms, ak0, A0, ins.length, rfl, T4, hak0, hok0, fun ak A H5' hok hak T5' TK5' => ?_⟩
        have P5' := (P3.tk TK4).tk TK5'
        walk_at "v"
        refine ⟨q, ak, ins, beg, m, ans, A, rfl, P5'.pa, hak, hok, fun pr0 H5 K5 hpc => ?_⟩
        have P5 := P5'.tk (TK.same K5)
        have T5 := T5'.same K5
        have hak5 := hak.tk (TK.same K5)
        clear P5' T5' hak TK5' T4 TK4 hak0 h1 h2 h3 h4 h5 T3 P3 K5
        obtain ⟨ps, pr, pin, pb, h1, h2, h3, h4, h5⟩ := id P5.ex
        have pok : ∀ fs ∈ pcs ins.length m ans A, fs.length ≤ 10 ∧ ∀ f ∈ fs, FmOk ins.length m 4000 f := fun fs hfs => by
          obtain ⟨sl, hsl, rfl⟩ := List.mem_map.mp hfs
          refine ⟨by rw [List.length_map]; have := (shapes_len hok).2 sl hsl; omega, fun f hf => ?_⟩
          obtain ⟨s, hs, rfl⟩ := List.mem_map.mp hf
          exact sh_ok4 (shapes_sm hok sl hsl s hs) (lnA_ok hok) (lnB_ok hok)
        have plen : (pcs ins.length m ans A).length ≤ 10 := by
          unfold pcs
          rw [List.length_map]
          have := (shapes_len hok).1
          omega
        walk_at "v"
        refine ⟨3, rfl, by decide, by decide, ?_⟩
        refine for_range (n := 3) (fun j σ H' => ∃ (u6 u7 u8 u9 u10 u11 : Option V), σ = [some (.ref a), some (.ref p), some (.int (i : Int)), some (.ref q), some (.ref ak), some (.ref pr0), u6, u7, u8, u9, u10, u11] ∧ Tp H' p l ms ∧ TK H5 H') ⟨_, _, _, _, _, _, rfl, T5, TK.refl⟩ ?_ ?_
        · rintro j σ H6 hj ⟨u6, u7, u8, u9, u10, u11, rfl, T6, TK6⟩
          rw [Int.zero_add]
          walk_at "v"
          refine w_ixT (TK6.t _ _ h1) rfl ?_
          refine ⟨pin, rfl, ⟨_, SqT.of (TK6.t _ _ h4)⟩, fun da hD => ?_⟩
          have npD := T6.np hD
          have nlD := T6.nl hD
          refine cgo_tup (xs := ins.map V.int) (ρ := [some (.ref p)]) (fun i zs H' => ∃ bs : List Int, zs = bs.map V.int ∧ bs.length = i ∧ Tp H' p l ms ∧ TK H6 H') ⟨[], rfl, rfl, T6.new hD, TK.new hD⟩ (fun i zs H' _ ⟨_, _, _, _, tk⟩ => SqT.of (tk.t _ _ (TK6.t _ _ h4))) ?_ ?_
          · rintro i' x zs H' hx ⟨bs, rfl, hbl, T, TKi⟩ hDz R S kR _
            have hi' : i' < ins.length := by
              have := (List.getElem?_eq_some_iff.mp hx).1
              simpa [P5.nl] using this
            walk_at "v"
            refine w_rI ⟨by decide, by decide, by decide⟩ ?_
            walk_at "v"
            refine ⟨by show 6 ≤ sizeLine; decide, fun z hz => ?_⟩
            have np := T.np hz
            have Tz := T.new (o := .lst [.int 0, .int 1, .int 2, .int 3, .int 7, .int (10 ^ (12 : Int).toNat)]) hz
            have TKz : TK H' (upd H' z (.lst [.int 0, .int 1, .int 2, .int 3, .int 7, .int (10 ^ (12 : Int).toNat)])) := TK.new hz
            have ez : upd H' z (.lst [.int 0, .int 1, .int 2, .int 3, .int 7, .int (10 ^ (12 : Int).toNat)]) z = some (.lst (([0, 1, 2, 3, 7, 10 ^ (12 : Int).toNat] : List Int).map V.int)) := upd_same
            have dz : upd H' z (.lst [.int 0, .int 1, .int 2, .int 3, .int 7, .int (10 ^ (12 : Int).toNat)]) da = some (.lst (bs.map V.int)) := by rw [upd_ne (ne_of_none hDz hz)]; exact hDz
            generalize upd H' z (.lst [.int 0, .int 1, .int 2, .int 3, .int 7, .int (10 ^ (12 : Int).toNat)]) = G at Tz TKz ez dz ⊢
            walk_at "v"
            refine ⟨p, l, ms, 6, rfl, Tz, by decide, by decide, fun r c e r0 r1 => ?_⟩
            obtain ⟨y, hy, hat⟩ := pickZ (xs := [0, 1, 2, 3, 7, 10 ^ (12 : Int).toNat]) r0 r1
            refine w_ixL (by rw [upd_ne (Ne.symm np)]; exact ez) hat ?_
            have hD' : upd G p (.lst [.ref l, .int c, .int e]) da = some (.lst (bs.map V.int)) := by rw [upd_ne (Ne.symm npD)]; exact dz
            exact kR _ _ hD' (by rw [List.length_map]; exact small1000 (by omega)) ⟨bs ++ [y], by rw [List.map_append]; rfl, by simp [hbl], (Tz.draw).put npD nlD, ((TKi.trans TKz).trans Tz.tk).trans (TK.lst hD')⟩
          rintro zs H7 ⟨am, rfl, haml, T7, TK7⟩ hDz
          rw [List.length_map] at haml
          walk_at "v"
          refine ⟨da, _, rfl, .inl ⟨SqL.of hDz, fun al hal => ?_⟩⟩
          have T8 := T7.new (o := .tup (am.map V.int)) hal
          have TK8 := (TK6.trans TK7).trans (TK.new (o := .tup (am.map V.int)) hal)
          have e8 : upd H7 al (.tup (am.map V.int)) al = some (.tup (am.map V.int)) := upd_same
          generalize upd H7 al (.tup (am.map V.int)) = H8 at T8 TK8 e8 ⊢
          clear hDz T7 TK7 TK6 T6 npD nlD hD
          walk_at "v"
          refine ⟨ak, al, A, am, ins.length, rfl, hak5.tk TK8, hok, i3, e8, haml, fun H9 K9 => ?_⟩
          have T9 := T8.same K9
          have TK9 := TK8.trans (TK.same K9)
          have e9 := K9 _ _ e8
          generalize hdue : akV am A = due
          walk_at "v"
          refine w_ixT (TK9.t _ _ h1) rfl ?_
          refine ⟨ps, rfl, ⟨_, SqT.of (TK9.t _ _ h2)⟩, fun dl hD => ?_⟩
          have npD := T9.np hD
          have nlD := T9.nl hD
          refine cgo_tup (xs := nm.map V.str) (ρ := [some (.ref p)]) (fun i zs H' => ∃ bs : List Int, zs = bs.map V.int ∧ bs.length = i ∧ Tp H' p l ms ∧ TK H9 H') ⟨[], rfl, rfl, T9.new hD, TK.new hD⟩ (fun i zs H' _ ⟨_, _, _, _, tk⟩ => SqT.of (tk.t _ _ (TK9.t _ _ h2))) ?_ ?_
          · rintro i' x zs H' hx ⟨bs, rfl, hbl, T, TKi⟩ hDz R S kR _
            have hi' : i' < m := by
              have := (List.getElem?_eq_some_iff.mp hx).1
              simpa [P5.nl] using this
            walk_at "v"
            refine w_rI ⟨by decide, by decide, by decide⟩ ?_
            walk_at "v"
            refine ⟨by show 5 ≤ sizeLine; decide, fun z hz => ?_⟩
            have np := T.np hz
            have Tz := T.new (o := .lst [.int 0, .int 1, .int 2, .int 50, .int (10 ^ (12 : Int).toNat)]) hz
            have TKz : TK H' (upd H' z (.lst [.int 0, .int 1, .int 2, .int 50, .int (10 ^ (12 : Int).toNat)])) := TK.new hz
            have ez : upd H' z (.lst [.int 0, .int 1, .int 2, .int 50, .int (10 ^ (12 : Int).toNat)]) z = some (.lst (([0, 1, 2, 50, 10 ^ (12 : Int).toNat] : List Int).map V.int)) := upd_same
            have dz : upd H' z (.lst [.int 0, .int 1, .int 2, .int 50, .int (10 ^ (12 : Int).toNat)]) dl = some (.lst (bs.map V.int)) := by rw [upd_ne (ne_of_none hDz hz)]; exact hDz
            generalize upd H' z (.lst [.int 0, .int 1, .int 2, .int 50, .int (10 ^ (12 : Int).toNat)]) = G at Tz TKz ez dz ⊢
            walk_at "v"
            refine ⟨p, l, ms, 5, rfl, Tz, by decide, by decide, fun r c e r0 r1 => ?_⟩
            obtain ⟨y, hy, hat⟩ := pickZ (xs := [0, 1, 2, 50, 10 ^ (12 : Int).toNat]) r0 r1
            refine w_ixL (by rw [upd_ne (Ne.symm np)]; exact ez) hat ?_
            have hD' : upd G p (.lst [.ref l, .int c, .int e]) dl = some (.lst (bs.map V.int)) := by rw [upd_ne (Ne.symm npD)]; exact dz
            exact kR _ _ hD' (by rw [List.length_map]; exact small1000 (by omega)) ⟨bs ++ [y], by rw [List.map_append]; rfl, by simp [hbl], (Tz.draw).put npD nlD, ((TKi.trans TKz).trans Tz.tk).trans (TK.lst hD')⟩
          rintro zs HA ⟨ds, rfl, hdsl, TA, TKA⟩ hdl
          rw [List.length_map, P5.nl] at hdsl
          have TKA' := TK9.trans TKA
          have eA := TKA.t _ _ e9
          walk_at "v"
          refine ⟨by show 6 ≤ sizeLine; decide, fun la hla => ?_⟩
          have TB := TA.new (o := .lst [.int due, .int (due + 1), .int (due - 1), .int 0, .int 1, .int 2]) hla
          have TKB := TKA'.trans (TK.new (o := .lst [.int due, .int (due + 1), .int (due - 1), .int 0, .int 1, .int 2]) hla)
          have eB : upd HA la (.lst [.int due, .int (due + 1), .int (due - 1), .int 0, .int 1, .int 2]) al = some (.tup (am.map V.int)) := by rw [upd_ne (ne_of_none eA hla)]; exact eA
          have fB : upd HA la (.lst [.int due, .int (due + 1), .int (due - 1), .int 0, .int 1, .int 2]) la = some (.lst [.int due, .int (due + 1), .int (due - 1), .int 0, .int 1, .int 2]) := upd_same
          have ndl : dl ≠ la := ne_of_none hdl hla
          have gB : upd HA la (.lst [.int due, .int (due + 1), .int (due - 1), .int 0, .int 1, .int 2]) dl = some (.lst (ds.map V.int)) := by rw [upd_ne ndl]; exact hdl
          generalize upd HA la (.lst [.int due, .int (due + 1), .int (due - 1), .int 0, .int 1, .int 2]) = HB at TB TKB eB fB gB ⊢
          walk_at "v"
          refine ⟨la, rfl, ⟨_, SqL.of fB⟩, ?_⟩
          refine for_list (xs := [.int due, .int (due + 1), .int (due - 1), .int 0, .int 1, .int 2]) (fun t σ H' => ∃ (u10 u11 : Option V) (ds : List Int), σ = [some (.ref a), some (.ref p), some (.int (i : Int)), some (.ref q), some (.ref ak), some (.ref pr0), some (.int (j : Int)), some (.ref al), some (.int due), some (.ref dl), u10, u11] ∧ ds.length = m ∧ H' la = some (.lst [.int due, .int (due + 1), .int (due - 1), .int 0, .int 1, .int 2]) ∧ H' dl = some (.lst (ds.map V.int)) ∧ H' al = some (.tup (am.map V.int)) ∧ Tp H' p l ms ∧ TK H5 H') ⟨_, _, ds, rfl, hdsl, fB, gB, eB, TB, TKB⟩ (fun t σ H' _ ⟨_, _, _, _, _, k', _⟩ => SqL.of k') ?_ ?_
          · rintro t x σ HC hx ⟨u10, u11, ds, rfl, hdsl, fC, gC, eC, TC, TKC⟩
            obtain ⟨v, rfl⟩ : ∃ v, x = V.int v := by
              have := List.mem_of_getElem? hx
              simp only [List.mem_cons, List.not_mem_nil, or_false] at this
              rcases this with rfl | rfl | rfl | rfl | rfl | rfl <;> exact ⟨_, rfl⟩
            walk_at "v"
            refine iteD (fun hv => ?_) (fun _ => ?_)
            · walk_at "v"
              refine w_ixT (TKC.t _ _ h1) rfl ?_
              obtain ⟨jn, hjn⟩ := ofI hans.1
              have hjm : jn < ds.length := by omega
              refine w_set gC (ixK hans.1 (by rw [List.length_map, hdsl]; exact hans.2)) ?_
              have hst : (ds.map V.int).set ans.toNat (.int v) = (ds.set ans.toNat v).map V.int := by rw [List.map_set]
              rw [hst]
              have npd' := T9.np hD
              have nld' := T9.nl hD
              have TD := TC.put (o := .lst ((ds.set ans.toNat v).map V.int)) npd' nld'
              have TKD := TKC.trans (TK.lst (o := .lst ((ds.set ans.toNat v).map V.int)) gC)
              have fD : upd HC dl (.lst ((ds.set ans.toNat v).map V.int)) la = some (.lst [.int due, .int (due + 1), .int (due - 1), .int 0, .int 1, .int 2]) := by rw [upd_ne (Ne.symm ndl)]; exact fC
              have gD : upd HC dl (.lst ((ds.set ans.toNat v).map V.int)) dl = some (.lst ((ds.set ans.toNat v).map V.int)) := upd_same
              have eD : upd HC dl (.lst ((ds.set ans.toNat v).map V.int)) al = some (.tup (am.map V.int)) := by rw [upd_ne (ne_of eC gC (by intro z; cases z))]; exact eC
              generalize upd HC dl (.lst ((ds.set ans.toNat v).map V.int)) = HD at TD TKD fD gD eD ⊢
              walk_at "v"
              refine ⟨dl, _, rfl, .inl ⟨SqL.of gD, fun sq hsq => ?_⟩⟩
              have KE : Same HD (upd HD sq (.tup ((ds.set ans.toNat v).map V.int))) := Same.new (Same.refl _) hsq
              have eE : upd HD sq (.tup ((ds.set ans.toNat v).map V.int)) sq = some (.tup ((ds.set ans.toNat v).map V.int)) := upd_same
              generalize upd HD sq (.tup ((ds.set ans.toNat v).map V.int)) = HE at KE eE ⊢
              walk_at "v"
              refine ⟨pr0, al, sq, _, am, ds.set ans.toNat v, ins.length, m, rfl, hpc.tk (TKD.trans (TK.same KE)), pok, plen, KE _ _ eD, haml, eE, by rw [List.length_set]; exact hdsl, by omega, by omega, fun HF KF => ?_⟩
              have hgv : (ds.set ans.toNat v).getD ans.toNat 0 = v := by
                have : ans.toNat < ds.length := by omega
                simp [List.getD_eq_getElem?_getD, this]
              have hh := hold_is (am := am) (st := ds.set ans.toNat v) (m := m) (ans := ans) hok haml (by rw [List.length_set]; exact hdsl) hans.1 hans.2 (by rw [hgv]; exact hv)
              rw [hgv, hdue] at hh
              rw [hh]
              walk_at "v"
              refine ⟨rfl, ?_⟩
              refine ⟨rfl, ?_⟩
              walk_at "v"
              refine iteNS (by simp) ?_
              have KG := KE.trans KF
              exact ⟨_, _, _, rfl, by rw [List.length_set]; exact hdsl, KG _ _ fD, KG _ _ gD, KG _ _ eD, TD.same KG, TKD.trans (TK.same KG)⟩
            · exact ⟨_, _, ds, rfl, hdsl, fC, gC, eC, TC, TKC⟩
          · rintro σ HC ⟨u10, u11, ds, rfl, hdsl, fC, gC, eC, TC, TKC⟩
            exact ⟨_, _, _, _, _, _, rfl, TC, TKC⟩
        · rintro σ H6 ⟨u6, u7, u8, u9, u10, u11, rfl, T6, TK6⟩
          exact ⟨_, _, _, _, _, _, _, _, _, _, rfl, T6⟩
      · rintro σ H2 ⟨u2, u3, u4, u5, u6, u7, u8, u9, u10, u11, rfl, T2⟩
        walk_at "v"
        exact k _
end
end K25

set_option Elab.async false
set_option linter.all false
set_option maxRecDepth 100000
namespace K25
open PySem L2 G2
theorem all_mk {l : PySem.W.OpenLaw} {w : World} {K : PySem.W.Frag} {h : Heap} {mg : Str → Option Value} {fa f1 f2 f3 f4 f5 f6 f7 f8 f9 f10 f11 f12 f13 f14 f15 f16 f17 f18 f19 f20 f21 f22 f23 f24 f25 : Addr} (X : K.In h) (G : h.Ns mainGlobals mg) (hfa : mg "law" = some (.ref fa))
    {od1 an1 od2 an2 od3 an3 od4 an4 od5 an5 od6 an6 od7 an7 od8 an8 od9 an9 od10 an10 od11 an11 od12 an12 od13 an13 od14 an14 od15 an15 od16 an16 od17 an17 od18 an18 od19 an19 od20 an20 od21 an21 od22 an22 od23 an23 od24 an24 od25 an25 : Option Addr} {sl1 sl2 sl3 sl4 sl5 sl6 sl7 sl8 sl9 sl10 sl11 sl12 sl13 sl14 sl15 sl16 sl17 sl18 sl19 sl20 sl21 sl22 sl23 sl24 sl25 : Array (Option Value)} {oc1 kV1 dc1 pm1 cd1 ct1 oc2 kV2 dc2 pm2 cd2 ct2 oc3 kV3 dc3 pm3 cd3 ct3 oc4 kV4 dc4 pm4 cd4 ct4 oc5 kV5 dc5 pm5 cd5 ct5 oc6 kV6 dc6 pm6 cd6 ct6 oc7 kV7 dc7 pm7 cd7 ct7 oc8 kV8 dc8 pm8 cd8 ct8 oc9 kV9 dc9 pm9 cd9 ct9 oc10 kV10 dc10 pm10 cd10 ct10 oc11 kV11 dc11 pm11 cd11 ct11 oc12 kV12 dc12 pm12 cd12 ct12 oc13 kV13 dc13 pm13 cd13 ct13 oc14 kV14 dc14 pm14 cd14 ct14 oc15 kV15 dc15 pm15 cd15 ct15 oc16 kV16 dc16 pm16 cd16 ct16 oc17 kV17 dc17 pm17 cd17 ct17 oc18 kV18 dc18 pm18 cd18 ct18 oc19 kV19 dc19 pm19 cd19 ct19 oc20 kV20 dc20 pm20 cd20 ct20 oc21 kV21 dc21 pm21 cd21 ct21 oc22 kV22 dc22 pm22 cd22 ct22 oc23 kV23 dc23 pm23 cd23 ct23 oc24 kV24 dc24 pm24 cd24 ct24 oc25 kV25 dc25 pm25 cd25 ct25 : Value} {t1 t2 t3 t4 t5 t6 t7 t8 : Tok}
    (a1 : PySem.W.nsIn K mainGlobals "added" = some (some (.ref f1))) (l1 : K.lookup f1 = some ⟨oc1, od1, .func (PySem.W.fnOf "added" "added" (defArgs sAdded) (defBody sAdded) (defScope sAdded) .none kV1 dc1 pm1 an1 cd1 ct1), sl1⟩) (c1 : PySem.W.codeIn K cd1 "added" = true) (k1 : PySem.W.keepIn K (.ref f1) = true)
    (a2 : PySem.W.nsIn K mainGlobals "so_often" = some (some (.ref f2))) (l2 : K.lookup f2 = some ⟨oc2, od2, .func (PySem.W.fnOf "so_often" "so_often" (defArgs sOften) (defBody sOften) (defScope sOften) .none kV2 dc2 pm2 an2 cd2 ct2), sl2⟩) (c2 : PySem.W.codeIn K cd2 "so_often" = true) (k2 : PySem.W.keepIn K (.ref f2) = true)
    (a3 : PySem.W.nsIn K mainGlobals "and_more" = some (some (.ref f3))) (l3 : K.lookup f3 = some ⟨oc3, od3, .func (PySem.W.fnOf "and_more" "and_more" (defArgs sMore) (defBody sMore) (defScope sMore) .none kV3 dc3 pm3 an3 cd3 ct3), sl3⟩) (c3 : PySem.W.codeIn K cd3 "and_more" = true) (k3 : PySem.W.keepIn K (.ref f3) = true)
    (a4 : PySem.W.nsIn K mainGlobals "noughts" = some (some (.ref f4))) (l4 : K.lookup f4 = some ⟨oc4, od4, .func (PySem.W.fnOf "noughts" "noughts" (defArgs sNgt) (defBody sNgt) (defScope sNgt) .none kV4 dc4 pm4 an4 cd4 ct4), sl4⟩) (c4 : PySem.W.codeIn K cd4 "noughts" = true) (k4 : PySem.W.keepIn K (.ref f4) = true)
    (a5 : PySem.W.nsIn K mainGlobals "one_at" = some (some (.ref f5))) (l5 : K.lookup f5 = some ⟨oc5, od5, .func (PySem.W.fnOf "one_at" "one_at" (defArgs sOne) (defBody sOne) (defScope sOne) .none kV5 dc5 pm5 an5 cd5 ct5), sl5⟩) (c5 : PySem.W.codeIn K cd5 "one_at" = true) (k5 : PySem.W.keepIn K (.ref f5) = true)
    (a6 : PySem.W.nsIn K mainGlobals "form_of_drops" = some (some (.ref f6))) (l6 : K.lookup f6 = some ⟨oc6, od6, .func (PySem.W.fnOf "form_of_drops" "form_of_drops" (defArgs sDrp) (defBody sDrp) (defScope sDrp) .none kV6 dc6 pm6 an6 cd6 ct6), sl6⟩) (c6 : PySem.W.codeIn K cd6 "form_of_drops" = true) (k6 : PySem.W.keepIn K (.ref f6) = true)
    (a7 : PySem.W.nsIn K mainGlobals "form_of_number" = some (some (.ref f7))) (l7 : K.lookup f7 = some ⟨oc7, od7, .func (PySem.W.fnOf "form_of_number" "form_of_number" (defArgs sNum) (defBody sNum) (defScope sNum) .none kV7 dc7 pm7 an7 cd7 ct7), sl7⟩) (c7 : PySem.W.codeIn K cd7 "form_of_number" = true) (k7 : PySem.W.keepIn K (.ref f7) = true)
    (a8 : PySem.W.nsIn K mainGlobals "form_of_line" = some (some (.ref f8))) (l8 : K.lookup f8 = some ⟨oc8, od8, .func (PySem.W.fnOf "form_of_line" "form_of_line" (defArgs sLinF) (defBody sLinF) (defScope sLinF) .none kV8 dc8 pm8 an8 cd8 ct8), sl8⟩) (c8 : PySem.W.codeIn K cd8 "form_of_line" = true) (k8 : PySem.W.keepIn K (.ref f8) = true)
    (a9 : PySem.W.nsIn K mainGlobals "less" = some (some (.ref f9))) (l9 : K.lookup f9 = some ⟨oc9, od9, .func (PySem.W.fnOf "less" "less" (defArgs sLess) (defBody sLess) (defScope sLess) .none kV9 dc9 pm9 an9 cd9 ct9), sl9⟩) (c9 : PySem.W.codeIn K cd9 "less" = true) (k9 : PySem.W.keepIn K (.ref f9) = true)
    (a10 : PySem.W.nsIn K mainGlobals "both_ways" = some (some (.ref f10))) (l10 : K.lookup f10 = some ⟨oc10, od10, .func (PySem.W.fnOf "both_ways" "both_ways" (defArgs sBoth) (defBody sBoth) (defScope sBoth) .none kV10 dc10 pm10 an10 cd10 ct10), sl10⟩) (c10 : PySem.W.codeIn K cd10 "both_ways" = true) (k10 : PySem.W.keepIn K (.ref f10) = true)
    (a11 : PySem.W.nsIn K mainGlobals "pieces_of_two" = some (some (.ref f11))) (l11 : K.lookup f11 = some ⟨oc11, od11, .func (PySem.W.fnOf "pieces_of_two" "pieces_of_two" (defArgs sTwo) (defBody sTwo) (defScope sTwo) .none kV11 dc11 pm11 an11 cd11 ct11), sl11⟩) (c11 : PySem.W.codeIn K cd11 "pieces_of_two" = true) (k11 : PySem.W.keepIn K (.ref f11) = true)
    (a12 : PySem.W.nsIn K mainGlobals "pieces_of" = some (some (.ref f12))) (l12 : K.lookup f12 = some ⟨oc12, od12, .func (PySem.W.fnOf "pieces_of" "pieces_of" (defArgs sPof) (defBody sPof) (defScope sPof) .none kV12 dc12 pm12 an12 cd12 ct12), sl12⟩) (c12 : PySem.W.codeIn K cd12 "pieces_of" = true) (k12 : PySem.W.keepIn K (.ref f12) = true)
    (a13 : PySem.W.nsIn K mainGlobals "_law_tape" = some (some (.ref f13))) (l13 : K.lookup f13 = some ⟨oc13, od13, .func (PySem.W.fnOf "_law_tape" "_law_tape" (defArgs sTape) (defBody sTape) (defScope sTape) .none kV13 dc13 pm13 an13 cd13 ct13), sl13⟩) (c13 : PySem.W.codeIn K cd13 "_law_tape" = true) (k13 : PySem.W.keepIn K (.ref f13) = true)
    (a14 : PySem.W.nsIn K mainGlobals "_law_draw" = some (some (.ref f14))) (l14 : K.lookup f14 = some ⟨oc14, od14, .func (PySem.W.fnOf "_law_draw" "_law_draw" (defArgs sDraw) (defBody sDraw) (defScope sDraw) .none kV14 dc14 pm14 an14 cd14 ct14), sl14⟩) (c14 : PySem.W.codeIn K cd14 "_law_draw" = true) (k14 : PySem.W.keepIn K (.ref f14) = true)
    (a15 : PySem.W.nsIn K mainGlobals "_law_names" = some (some (.ref f15))) (l15 : K.lookup f15 = some ⟨oc15, od15, .func (PySem.W.fnOf "_law_names" "_law_names" (defArgs sNames) (defBody sNames) (defScope sNames) .none kV15 dc15 pm15 an15 cd15 ct15), sl15⟩) (c15 : PySem.W.codeIn K cd15 "_law_names" = true) (k15 : PySem.W.keepIn K (.ref f15) = true)
    (a16 : PySem.W.nsIn K mainGlobals "_law_rule" = some (some (.ref f16))) (l16 : K.lookup f16 = some ⟨oc16, od16, .func (PySem.W.fnOf "_law_rule" "_law_rule" (defArgs sRule) (defBody sRule) (defScope sRule) .none kV16 dc16 pm16 an16 cd16 ct16), sl16⟩) (c16 : PySem.W.codeIn K cd16 "_law_rule" = true) (k16 : PySem.W.keepIn K (.ref f16) = true)
    (a17 : PySem.W.nsIn K mainGlobals "_law_pot" = some (some (.ref f17))) (l17 : K.lookup f17 = some ⟨oc17, od17, .func (PySem.W.fnOf "_law_pot" "_law_pot" (defArgs sPot) (defBody sPot) (defScope sPot) .none kV17 dc17 pm17 an17 cd17 ct17), sl17⟩) (c17 : PySem.W.codeIn K cd17 "_law_pot" = true) (k17 : PySem.W.keepIn K (.ref f17) = true)
    (a18 : PySem.W.nsIn K mainGlobals "_law_line" = some (some (.ref f18))) (l18 : K.lookup f18 = some ⟨oc18, od18, .func (PySem.W.fnOf "_law_line" "_law_line" (defArgs sLine) (defBody sLine) (defScope sLine) .none kV18 dc18 pm18 an18 cd18 ct18), sl18⟩) (c18 : PySem.W.codeIn K cd18 "_law_line" = true) (k18 : PySem.W.keepIn K (.ref f18) = true)
    (a19 : PySem.W.nsIn K mainGlobals "_law_ask" = some (some (.ref f19))) (l19 : K.lookup f19 = some ⟨oc19, od19, .func (PySem.W.fnOf "_law_ask" "_law_ask" (defArgs sAsk) (defBody sAsk) (defScope sAsk) .none kV19 dc19 pm19 an19 cd19 ct19), sl19⟩) (c19 : PySem.W.codeIn K cd19 "_law_ask" = true) (k19 : PySem.W.keepIn K (.ref f19) = true)
    (a20 : PySem.W.nsIn K mainGlobals "_law_at" = some (some (.ref f20))) (l20 : K.lookup f20 = some ⟨oc20, od20, .func (PySem.W.fnOf "_law_at" "_law_at" (defArgs sAt) (defBody sAt) (defScope sAt) .none kV20 dc20 pm20 an20 cd20 ct20), sl20⟩) (c20 : PySem.W.codeIn K cd20 "_law_at" = true) (k20 : PySem.W.keepIn K (.ref f20) = true)
    (a21 : PySem.W.nsIn K mainGlobals "_law_comes_to" = some (some (.ref f21))) (l21 : K.lookup f21 = some ⟨oc21, od21, .func (PySem.W.fnOf "_law_comes_to" "_law_comes_to" (defArgs sCo) (defBody sCo) (defScope sCo) .none kV21 dc21 pm21 an21 cd21 ct21), sl21⟩) (c21 : PySem.W.codeIn K cd21 "_law_comes_to" = true) (k21 : PySem.W.keepIn K (.ref f21) = true)
    (a22 : PySem.W.nsIn K mainGlobals "_law_asked" = some (some (.ref f22))) (l22 : K.lookup f22 = some ⟨oc22, od22, .func (PySem.W.fnOf "_law_asked" "_law_asked" (defArgs sAs) (defBody sAs) (defScope sAs) .none kV22 dc22 pm22 an22 cd22 ct22), sl22⟩) (c22 : PySem.W.codeIn K cd22 "_law_asked" = true) (k22 : PySem.W.keepIn K (.ref f22) = true)
    (a23 : PySem.W.nsIn K mainGlobals "_law_some_hold" = some (some (.ref f23))) (l23 : K.lookup f23 = some ⟨oc23, od23, .func (PySem.W.fnOf "_law_some_hold" "_law_some_hold" (defArgs sHo) (defBody sHo) (defScope sHo) .none kV23 dc23 pm23 an23 cd23 ct23), sl23⟩) (c23 : PySem.W.codeIn K cd23 "_law_some_hold" = true) (k23 : PySem.W.keepIn K (.ref f23) = true)
    (a24 : PySem.W.nsIn K mainGlobals "_law_near" = some (some (.ref f24))) (l24 : K.lookup f24 = some ⟨oc24, od24, .func (PySem.W.fnOf "_law_near" "_law_near" (defArgs sNe) (defBody sNe) (defScope sNe) .none kV24 dc24 pm24 an24 cd24 ct24), sl24⟩) (c24 : PySem.W.codeIn K cd24 "_law_near" = true) (k24 : PySem.W.keepIn K (.ref f24) = true)
    (a25 : PySem.W.nsIn K mainGlobals "law" = some (some (.ref f25))) (l25 : K.lookup f25 = some ⟨oc25, od25, .func (PySem.W.fnOf "law" "law" (defArgs sLaw) (defBody sLaw) (defScope sLaw) .none kV25 dc25 pm25 an25 cd25 ct25), sl25⟩) (c25 : PySem.W.codeIn K cd25 "law" = true) (k25 : PySem.W.keepIn K (.ref f25) = true)
    (z1 : PySem.W.nsIn K mainGlobals "len" = some none) (z2 : PySem.W.nsIn K mainGlobals "range" = some none) (z3 : PySem.W.nsIn K mainGlobals "tuple" = some none) (z4 : PySem.W.nsIn K mainGlobals "list" = some none) (z5 : PySem.W.nsIn K mainGlobals "min" = some none) (z6 : PySem.W.nsIn K mainGlobals "int" = some none) (z7 : PySem.W.nsIn K mainGlobals "zip" = some none) (z8 : PySem.W.nsIn K mainGlobals "sum" = some none) (z9 : PySem.W.nsIn K mainGlobals "max" = some none)
    (g1 : PySem.W.nsIn K mainGlobals "SORTS" = some (some (.int 0 t1))) (g2 : PySem.W.nsIn K mainGlobals "INPUTS" = some (some (.int 2 t2))) (g3 : PySem.W.nsIn K mainGlobals "ANSWER" = some (some (.int 4 t3))) (g4 : PySem.W.nsIn K mainGlobals "BY_INPUTS" = some (some (.int 0 t4))) (g5 : PySem.W.nsIn K mainGlobals "BY_SORTS" = some (some (.int 1 t5))) (g6 : PySem.W.nsIn K mainGlobals "PLUS" = some (some (.int 2 t6))) (g7 : PySem.W.nsIn K mainGlobals "BY" = some (some (.int 0 t7))) (g8 : PySem.W.nsIn K mainGlobals "LINE_PLUS" = some (some (.int 1 t8))) :
    ∃ fd : FuncData, (∀ (s : Shared) (v : Value), BindsTo s fd ⟨[v], []⟩ [("_law_script", v)]) ∧ ∀ base : Heap, K.In base → base.Ns mainGlobals mg → FnOk l.prog w K mg base CX0 6 fa fd ["_law_script"] (spLaw K) := by
  have e := hfa.symm.trans (PySem.W.mg_of X G a25)
  cases e
  have F1 := fun_mk (st := sAdded) l1 c1 k1
  have b1 := F1.binds (ps := ["one", "other"]) fun _ _ _ _ _ _ us hl => match us, hl with | [_, _], _ => rfl
  have m1 := PySem.W.mg_of X G a1
  have F2 := fun_mk (st := sOften) l2 c2 k2
  have b2 := F2.binds (ps := ["form", "times"]) fun _ _ _ _ _ _ us hl => match us, hl with | [_, _], _ => rfl
  have m2 := PySem.W.mg_of X G a2
  have F3 := fun_mk (st := sMore) l3 c3 k3
  have b3 := F3.binds (ps := ["form", "number"]) fun _ _ _ _ _ _ us hl => match us, hl with | [_, _], _ => rfl
  have m3 := PySem.W.mg_of X G a3
  have F4 := fun_mk (st := sNgt) l4 c4 k4
  have b4 := F4.binds (ps := ["things"]) fun _ _ _ _ _ _ us hl => match us, hl with | [_], _ => rfl
  have m4 := PySem.W.mg_of X G a4
  have F5 := fun_mk (st := sOne) l5 c5 k5
  have b5 := F5.binds (ps := ["things", "place"]) fun _ _ _ _ _ _ us hl => match us, hl with | [_, _], _ => rfl
  have m5 := PySem.W.mg_of X G a5
  have F6 := fun_mk (st := sDrp) l6 c6 k6
  have b6 := F6.binds (ps := ["pot", "sort"]) fun _ _ _ _ _ _ us hl => match us, hl with | [_, _], _ => rfl
  have m6 := PySem.W.mg_of X G a6
  have F7 := fun_mk (st := sNum) l7 c7 k7
  have b7 := F7.binds (ps := ["pot", "number"]) fun _ _ _ _ _ _ us hl => match us, hl with | [_, _], _ => rfl
  have m7 := PySem.W.mg_of X G a7
  have F8 := fun_mk (st := sLinF) l8 c8 k8
  have b8 := F8.binds (ps := ["pot", "line"]) fun _ _ _ _ _ _ us hl => match us, hl with | [_, _], _ => rfl
  have m8 := PySem.W.mg_of X G a8
  have F9 := fun_mk (st := sLess) l9 c9 k9
  have b9 := F9.binds (ps := ["one", "other"]) fun _ _ _ _ _ _ us hl => match us, hl with | [_, _], _ => rfl
  have m9 := PySem.W.mg_of X G a9
  have F10 := fun_mk (st := sBoth) l10 c10 k10
  have b10 := F10.binds (ps := ["one", "other"]) fun _ _ _ _ _ _ us hl => match us, hl with | [_, _], _ => rfl
  have m10 := PySem.W.mg_of X G a10
  have F11 := fun_mk (st := sTwo) l11 c11 k11
  have b11 := F11.binds (ps := ["pot", "word", "drops", "one", "other"]) fun _ _ _ _ _ _ us hl => match us, hl with | [_, _, _, _, _], _ => rfl
  have m11 := PySem.W.mg_of X G a11
  have F12 := fun_mk (st := sPof) l12 c12 k12
  have b12 := F12.binds (ps := ["pot", "ask"]) fun _ _ _ _ _ _ us hl => match us, hl with | [_, _], _ => rfl
  have m12 := PySem.W.mg_of X G a12
  have F13 := fun_mk (st := sTape) l13 c13 k13
  have b13 := F13.binds (ps := ["_law_script"]) fun _ _ _ _ _ _ us hl => match us, hl with | [_], _ => rfl
  have m13 := PySem.W.mg_of X G a13
  have F14 := fun_mk (st := sDraw) l14 c14 k14
  have b14 := F14.binds (ps := ["_law_tape_here", "_law_many"]) fun _ _ _ _ _ _ us hl => match us, hl with | [_, _], _ => rfl
  have m14 := PySem.W.mg_of X G a14
  have F15 := fun_mk (st := sNames) l15 c15 k15
  have b15 := F15.binds (ps := ["_law_tape_here", "_law_many"]) fun _ _ _ _ _ _ us hl => match us, hl with | [_, _], _ => rfl
  have m15 := PySem.W.mg_of X G a15
  have F16 := fun_mk (st := sRule) l16 c16 k16
  have b16 := F16.binds (ps := ["_law_tape_here", "_law_many"]) fun _ _ _ _ _ _ us hl => match us, hl with | [_, _], _ => rfl
  have m16 := PySem.W.mg_of X G a16
  have F17 := fun_mk (st := sPot) l17 c17 k17
  have b17 := F17.binds (ps := ["_law_tape_here", "_law_most", "_law_rules"]) fun _ _ _ _ _ _ us hl => match us, hl with | [_, _, _], _ => rfl
  have m17 := PySem.W.mg_of X G a17
  have F18 := fun_mk (st := sLine) l18 c18 k18
  have b18 := F18.binds (ps := ["_law_tape_here", "_law_many"]) fun _ _ _ _ _ _ us hl => match us, hl with | [_, _], _ => rfl
  have m18 := PySem.W.mg_of X G a18
  have F19 := fun_mk (st := sAsk) l19 c19 k19
  have b19 := F19.binds (ps := ["_law_tape_here", "_law_many"]) fun _ _ _ _ _ _ us hl => match us, hl with | [_, _], _ => rfl
  have m19 := PySem.W.mg_of X G a19
  have F20 := fun_mk (st := sAt) l20 c20 k20
  have b20 := F20.binds (ps := ["_law_form", "_law_amounts", "_law_stand"]) fun _ _ _ _ _ _ us hl => match us, hl with | [_, _, _], _ => rfl
  have m20 := PySem.W.mg_of X G a20
  have F21 := fun_mk (st := sCo) l21 c21 k21
  have b21 := F21.binds (ps := ["_law_line_here", "_law_amounts"]) fun _ _ _ _ _ _ us hl => match us, hl with | [_, _], _ => rfl
  have m21 := PySem.W.mg_of X G a21
  have F22 := fun_mk (st := sAs) l22 c22 k22
  have b22 := F22.binds (ps := ["_law_ask_here", "_law_amounts"]) fun _ _ _ _ _ _ us hl => match us, hl with | [_, _], _ => rfl
  have m22 := PySem.W.mg_of X G a22
  have F23 := fun_mk (st := sHo) l23 c23 k23
  have b23 := F23.binds (ps := ["_law_pieces", "_law_amounts", "_law_stand"]) fun _ _ _ _ _ _ us hl => match us, hl with | [_, _, _], _ => rfl
  have m23 := PySem.W.mg_of X G a23
  have F24 := fun_mk (st := sNe) l24 c24 k24
  have b24 := F24.binds (ps := ["_law_tape_here", "_law_ask_here"]) fun _ _ _ _ _ _ us hl => match us, hl with | [_, _], _ => rfl
  have m24 := PySem.W.mg_of X G a24
  have F25 := fun_mk (st := sLaw) l25 c25 k25
  have y1 := PySem.W.mg_none_of X G z1
  have y2 := PySem.W.mg_none_of X G z2
  have y3 := PySem.W.mg_none_of X G z3
  have y4 := PySem.W.mg_none_of X G z4
  have y5 := PySem.W.mg_none_of X G z5
  have y6 := PySem.W.mg_none_of X G z6
  have y7 := PySem.W.mg_none_of X G z7
  have y8 := PySem.W.mg_none_of X G z8
  have y9 := PySem.W.mg_none_of X G z9
  have B : Blt3 mg := ⟨⟨⟨y1, y2, y3⟩, y4, y5⟩, y6, y7, y8, y9, ⟨_, PySem.W.mg_of X G g1⟩, ⟨_, PySem.W.mg_of X G g2⟩, ⟨_, PySem.W.mg_of X G g3⟩, ⟨_, PySem.W.mg_of X G g4⟩, ⟨_, PySem.W.mg_of X G g5⟩, ⟨_, PySem.W.mg_of X G g6⟩, ⟨_, PySem.W.mg_of X G g7⟩, ⟨_, PySem.W.mg_of X G g8⟩⟩
  refine ⟨PySem.W.fnOf "law" "law" (defArgs sLaw) (defBody sLaw) (defScope sLaw) .none kV25 dc25 pm25 an25 cd25 ct25, fun s v => .of_eq rfl, fun base _ _ => ?_⟩
  have H1 : Has l.prog w K mg base 1 "added" ["one", "other"] spAdded := ⟨_, _, ok_Added B F1, m1, k1, b1⟩
  have H2 : Has l.prog w K mg base 1 "so_often" ["form", "times"] spOften := ⟨_, _, ok_Often B F2, m2, k2, b2⟩
  have H3 : Has l.prog w K mg base 1 "and_more" ["form", "number"] spMore := ⟨_, _, ok_More B F3, m3, k3, b3⟩
  have H4 : Has l.prog w K mg base 1 "noughts" ["things"] spNgt := ⟨_, _, ok_Ngt B F4, m4, k4, b4⟩
  have H5 : Has l.prog w K mg base 1 "one_at" ["things", "place"] spOne := ⟨_, _, ok_One B F5, m5, k5, b5⟩
  have H6 : Has l.prog w K mg base 2 "form_of_drops" ["pot", "sort"] (spFm drpF) := ⟨_, _, ok_Drp B H5 H4 F6, m6, k6, b6⟩
  have H7 : Has l.prog w K mg base 2 "form_of_number" ["pot", "number"] (spFm numF) := ⟨_, _, ok_Num B H4 F7, m7, k7, b7⟩
  have H8 : Has l.prog w K mg base 2 "form_of_line" ["pot", "line"] spLinF := ⟨_, _, ok_LinF B H4 F8, m8, k8, b8⟩
  have H9 : Has l.prog w K mg base 2 "less" ["one", "other"] spLess := ⟨_, _, ok_Less H1 H2 F9, m9, k9, b9⟩
  have H10 : Has l.prog w K mg base 3 "both_ways" ["one", "other"] spBoth := ⟨_, _, ok_Both H9 F10, m10, k10, b10⟩
  have H11 : Has l.prog w K mg base 4 "pieces_of_two" ["pot", "word", "drops", "one", "other"] spTwo := ⟨_, _, ok_Two H10 H9 H3 H7 F11, m11, k11, b11⟩
  have H12 : Has l.prog w K mg base 5 "pieces_of" ["pot", "ask"] spPof := ⟨_, _, ok_Pof B H10 H9 H3 H6 H8 H2 H11 F12, m12, k12, b12⟩
  have H13 : Has l.prog w K mg base 1 "_law_tape" ["_law_script"] (spTape K) := ⟨_, _, ok_tape F13, m13, k13, b13⟩
  have H14 : Has l.prog w K mg base 1 "_law_draw" ["_law_tape_here", "_law_many"] spDraw := ⟨_, _, ok_draw B.toBlt F14, m14, k14, b14⟩
  have H15 : Has l.prog w K mg base 2 "_law_names" ["_law_tape_here", "_law_many"] spNames := ⟨_, _, ok_Names B.toBlt H14 F15, m15, k15, b15⟩
  have H16 : Has l.prog w K mg base 2 "_law_rule" ["_law_tape_here", "_law_many"] spRule := ⟨_, _, ok_Rule B.toBlt H14 F16, m16, k16, b16⟩
  have H17 : Has l.prog w K mg base 3 "_law_pot" ["_law_tape_here", "_law_most", "_law_rules"] spPot := ⟨_, _, ok_Pot B.toBlt2 H14 H15 H16 F17, m17, k17, b17⟩
  have H18 : Has l.prog w K mg base 2 "_law_line" ["_law_tape_here", "_law_many"] spLine := ⟨_, _, ok_line B.toBlt H14 F18, m18, k18, b18⟩
  have H19 : Has l.prog w K mg base 3 "_law_ask" ["_law_tape_here", "_law_many"] spAsk := ⟨_, _, ok_ask B.toBlt H14 H18 F19, m19, k19, b19⟩
  have H20 : Has l.prog w K mg base 1 "_law_at" ["_law_form", "_law_amounts", "_law_stand"] spAt := ⟨_, _, ok_At B F20, m20, k20, b20⟩
  have H21 : Has l.prog w K mg base 1 "_law_comes_to" ["_law_line_here", "_law_amounts"] spCo := ⟨_, _, ok_Co B F21, m21, k21, b21⟩
  have H22 : Has l.prog w K mg base 2 "_law_asked" ["_law_ask_here", "_law_amounts"] spAs := ⟨_, _, ok_As B H21 F22, m22, k22, b22⟩
  have H23 : Has l.prog w K mg base 2 "_law_some_hold" ["_law_pieces", "_law_amounts", "_law_stand"] spHo := ⟨_, _, ok_Ho H20 F23, m23, k23, b23⟩
  have H24 : Has l.prog w K mg base 2 "_law_near" ["_law_tape_here", "_law_ask_here"] spNe := ⟨_, _, ok_Ne B H14 F24, m24, k24, b24⟩
  exact ok_Law B H13 H14 H17 H19 H24 H12 H22 H23 F25
theorem walk {l : PySem.W.OpenLaw} {q : Program} {loose : List Str} {XP : (Str → Option Value) → Heap → Prop} {YP : World → Heap → Prop} {d : DefRec} {K : Params → PySem.W.Frag} (hn : l.most = some 63) (hdf : d.params.defaults = [])
    (hY : ∀ (w : World) (h : Heap), YP w h → (K w.params).In h)
    (F : ∀ (w : World) (mg : Str → Option Value) (fa : Addr) (h : Heap), (K w.params).In h → h.Ns mainGlobals mg → mg d.name = some (.ref fa) →
      ∃ fd : FuncData, (∀ (s : Shared) (u : Value), BindsTo s fd ⟨[u], []⟩ [("_law_script", u)]) ∧ ∀ base : Heap, (K w.params).In base → base.Ns mainGlobals mg → FnOk l.prog w (K w.params) mg base CX0 6 fa fd ["_law_script"] (spLaw (K w.params))) :
    PySem.W.WalkO q loose XP YP l.row.toRowW d [] (fun f vs => PySem.call f vs) :=
  L2.walk_of (n := 63) (k := 6) (x := "_law_script") (CX := fun _ => CX0) (sp := fun w => spLaw (K w.params)) hn (by decide) hdf ⟨rfl, by decide, by decide, rfl⟩ hY F (fun _ H a ns hl hO hS => ⟨a, ns, rfl, SqF.of hO hS, hl, fun _ => rfl⟩) fun _ _ _ _ _ z => z
end K25
open PySem PySem.W PyProof.Rows
set_option maxRecDepth 100000 in
set_option maxHeartbeats 0 in
theorem PySem.Challenge.cw_dropsums_k25_whole_pieces_tell_what_is_a_holds : PySem.Challenge.rw_dropsums_k25_whole_pieces_tell_what_is_a.Holds := by
  w_on; o_law; k_head; (case hw => w_witness2)
  k_fill
  refine K25.walk (l := PySem.Challenge.rw_dropsums_k25_whole_pieces_tell_what_is_a) rfl rfl (fun w h Y => PySem.W.kIn_of Y) ?F
  case F =>
    intro w mg fa h KX G hmg
    refine' K25.all_mk KX G hmg ?a1 ?l1 ?c1 ?k1 ?a2 ?l2 ?c2 ?k2 ?a3 ?l3 ?c3 ?k3 ?a4 ?l4 ?c4 ?k4 ?a5 ?l5 ?c5 ?k5 ?a6 ?l6 ?c6 ?k6 ?a7 ?l7 ?c7 ?k7 ?a8 ?l8 ?c8 ?k8 ?a9 ?l9 ?c9 ?k9 ?a10 ?l10 ?c10 ?k10 ?a11 ?l11 ?c11 ?k11 ?a12 ?l12 ?c12 ?k12 ?a13 ?l13 ?c13 ?k13 ?a14 ?l14 ?c14 ?k14 ?a15 ?l15 ?c15 ?k15 ?a16 ?l16 ?c16 ?k16 ?a17 ?l17 ?c17 ?k17 ?a18 ?l18 ?c18 ?k18 ?a19 ?l19 ?c19 ?k19 ?a20 ?l20 ?c20 ?k20 ?a21 ?l21 ?c21 ?k21 ?a22 ?l22 ?c22 ?k22 ?a23 ?l23 ?c23 ?k23 ?a24 ?l24 ?c24 ?k24 ?a25 ?l25 ?c25 ?k25 ?z1 ?z2 ?z3 ?z4 ?z5 ?z6 ?z7 ?z8 ?z9 ?g1 ?g2 ?g3 ?g4 ?g5 ?g6 ?g7 ?g8
    (case a1 => k_is)
    (case l1 => k_is)
    (case c1 => k_is)
    (case k1 => k_is)
    (case a2 => k_is)
    (case l2 => k_is)
    (case c2 => k_is)
    (case k2 => k_is)
    (case a3 => k_is)
    (case l3 => k_is)
    (case c3 => k_is)
    (case k3 => k_is)
    (case a4 => k_is)
    (case l4 => k_is)
    (case c4 => k_is)
    (case k4 => k_is)
    (case a5 => k_is)
    (case l5 => k_is)
    (case c5 => k_is)
    (case k5 => k_is)
    (case a6 => k_is)
    (case l6 => k_is)
    (case c6 => k_is)
    (case k6 => k_is)
    (case a7 => k_is)
    (case l7 => k_is)
    (case c7 => k_is)
    (case k7 => k_is)
    (case a8 => k_is)
    (case l8 => k_is)
    (case c8 => k_is)
    (case k8 => k_is)
    (case a9 => k_is)
    (case l9 => k_is)
    (case c9 => k_is)
    (case k9 => k_is)
    (case a10 => k_is)
    (case l10 => k_is)
    (case c10 => k_is)
    (case k10 => k_is)
    (case a11 => k_is)
    (case l11 => k_is)
    (case c11 => k_is)
    (case k11 => k_is)
    (case a12 => k_is)
    (case l12 => k_is)
    (case c12 => k_is)
    (case k12 => k_is)
    (case a13 => k_is)
    (case l13 => k_is)
    (case c13 => k_is)
    (case k13 => k_is)
    (case a14 => k_is)
    (case l14 => k_is)
    (case c14 => k_is)
    (case k14 => k_is)
    (case a15 => k_is)
    (case l15 => k_is)
    (case c15 => k_is)
    (case k15 => k_is)
    (case a16 => k_is)
    (case l16 => k_is)
    (case c16 => k_is)
    (case k16 => k_is)
    (case a17 => k_is)
    (case l17 => k_is)
    (case c17 => k_is)
    (case k17 => k_is)
    (case a18 => k_is)
    (case l18 => k_is)
    (case c18 => k_is)
    (case k18 => k_is)
    (case a19 => k_is)
    (case l19 => k_is)
    (case c19 => k_is)
    (case k19 => k_is)
    (case a20 => k_is)
    (case l20 => k_is)
    (case c20 => k_is)
    (case k20 => k_is)
    (case a21 => k_is)
    (case l21 => k_is)
    (case c21 => k_is)
    (case k21 => k_is)
    (case a22 => k_is)
    (case l22 => k_is)
    (case c22 => k_is)
    (case k22 => k_is)
    (case a23 => k_is)
    (case l23 => k_is)
    (case c23 => k_is)
    (case k23 => k_is)
    (case a24 => k_is)
    (case l24 => k_is)
    (case c24 => k_is)
    (case k24 => k_is)
    (case a25 => k_is)
    (case l25 => k_is)
    (case c25 => k_is)
    (case k25 => k_is)
    (case z1 => k_is)
    (case z2 => k_is)
    (case z3 => k_is)
    (case z4 => k_is)
    (case z5 => k_is)
    (case z6 => k_is)
    (case z7 => k_is)
    (case z8 => k_is)
    (case z9 => k_is)
    (case g1 => k_is)
    (case g2 => k_is)
    (case g3 => k_is)
    (case g4 => k_is)
    (case g5 => k_is)
    (case g6 => k_is)
    (case g7 => k_is)
    (case g8 => k_is)

